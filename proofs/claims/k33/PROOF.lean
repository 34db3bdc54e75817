import PyProof.Rows.All
import Wide.All
import OpenK.AllK
import Wide.FinOn
import Lean
import PyProof.EqAt
import PyProof.EqKinds
import PyProof.TupleCall
import PyProof.StrWalks
import PyProof.ConsumeWalk
import PyProof.NeKinds
import PySem.Challenge.RW_tellworld_k33_common_verbs_and_rules
set_option Elab.async false
set_option linter.all false
set_option maxRecDepth 100000
/-! THE HAND LAYER, for ints, bools, texts, own classes, LISTS and tuples (index, slices, in, append, pop ..), calls, loops. Paste it whole ahead of your own text; what your proof does not reach may be deleted. -/
namespace L2
open PySem PySem.Spec PyProof.Rows

/-- a key: an int or a str -/
abbrev Key := Sum Int Str
def keyIs : Key → Value → Bool
  | .inl k, v => Value.isInt k v
  | .inr x, v => Value.isStrOf x v
def keyH (w : World) : Key → Int
  | .inl k => hashInt k
  | .inr x => hashStr w x
theorem keyIs_shape : ∀ {k : Key} {v : Value}, keyIs k v = true → (∃ i t, k = Sum.inl i ∧ v = Value.int i t) ∨ (∃ x t, k = Sum.inr x ∧ v = Value.str x t)
  | .inl i, v, h => by
    obtain ⟨t, e⟩ := Value.isInt_shape (k := i) (v := v) h
    exact .inl ⟨i, t, rfl, e⟩
  | .inr x, v, h => by
    obtain ⟨t, e⟩ := Value.isStrOf_shape (x := x) (v := v) h
    exact .inr ⟨x, t, rfl, e⟩
theorem key_ll (a b : Int) : decide ((Sum.inl a : Key) = Sum.inl b) = (a == b) := by
  by_cases e : a = b
  · subst e; simp
  · have h : ¬ (Sum.inl a : Key) = Sum.inl b := fun q => e (Sum.inl.inj q)
    rw [decide_eq_false h]
    exact (beq_eq_false_iff_ne.mpr e).symm
theorem key_rr (a b : Str) : decide ((Sum.inr a : Key) = Sum.inr b) = decide (a = b) := by
  by_cases e : a = b
  · subst e; simp
  · have h : ¬ (Sum.inr a : Key) = Sum.inr b := fun q => e (Sum.inr.inj q)
    rw [decide_eq_false h, decide_eq_false e]
theorem key_lr (a : Int) (b : Str) : decide ((Sum.inl a : Key) = Sum.inr b) = false := decide_eq_false (fun q => nomatch q)
theorem key_rl (a : Str) (b : Int) : decide ((Sum.inr a : Key) = Sum.inl b) = false := decide_eq_false (fun q => nomatch q)

def mixKind (prog : Program) (w : World) : PySem.KeyKind prog w Key where
  is := keyIs
  hash := keyH w
  inj := fun v a b ha hb => by
    rcases keyIs_shape ha with ⟨i, t, rfl, rfl⟩ | ⟨x, t, rfl, rfl⟩
    · rcases keyIs_shape hb with ⟨j, u, rfl, e⟩ | ⟨y, u, rfl, e⟩
      · injection e with e1 _; rw [e1]
      · exact nomatch e
    · rcases keyIs_shape hb with ⟨j, u, rfl, e⟩ | ⟨y, u, rfl, e⟩
      · exact nomatch e
      · injection e with e1 _; rw [e1]
  byValue := fun k v h => by
    rcases keyIs_shape h with ⟨i, t, rfl, rfl⟩ | ⟨x, t, rfl, rfl⟩ <;> rfl
  pyHash := fun hv h => by
    rcases keyIs_shape hv with ⟨i, t, rfl, rfl⟩ | ⟨x, t, rfl, rfl⟩
    · exact wpAny_pyHash_int h
    · exact wpAny_pyHash_str h
  eqBool := fun hu hv h => by
    rcases keyIs_shape hu with ⟨i, t, rfl, rfl⟩ | ⟨x, t, rfl, rfl⟩
    · rcases keyIs_shape hv with ⟨j, u, rfl, rfl⟩ | ⟨y, u, rfl, rfl⟩
      · rw [key_ll] at h; exact wpAny_eqBool_int h
      · rw [key_lr] at h; exact SeqAt.EqAt.int_str i t y u _ _ _ _ h
    · rcases keyIs_shape hv with ⟨j, u, rfl, rfl⟩ | ⟨y, u, rfl, rfl⟩
      · rw [key_rl] at h; exact SeqAt.EqAt.str_int x t j u _ _ _ _ h
      · rw [key_rr] at h; exact wpAny_eqBool_str h
  «strs» := fun k x t v h => by
    rcases keyIs_shape h with ⟨i, u, rfl, e⟩ | ⟨y, u, rfl, e⟩
    · exact nomatch e
    · injection e with e1 _
      subst e1
      cases v <;> rfl

end L2

namespace L2
open PySem PySem.Spec PyProof.Rows

/-- a value, without the heap -/
inductive V where
  | non | bl (b : Bool) | int (i : Int) | str (x : Str) | byt (b : Array UInt8) | flt (b : UInt64) | ref (a : Addr) | ty (n : String)
  deriving DecidableEq

def RelV : V → Value → Prop
  | .non, u => u = Value.none
  | .bl b, u => u = Value.bool b
  | .int i, u => ∃ t, u = Value.int i t
  | .str x, u => ∃ t, u = Value.str x t
  | .byt b, u => ∃ t, u = Value.bytes b t
  | .flt b, u => ∃ t, u = Value.float b t
  | .ref a, u => u = Value.ref a
  | .ty n, u => u = Value.type n

abbrev Vals : List V → List Value → Prop := Paired RelV
theorem Vals.length {xs : List V} {us : List Value} (r : Vals xs us) : xs.length = us.length := Paired.length r
theorem Vals.get : ∀ {xs : List V} {us : List Value} {i : Nat} {x : V}, Vals xs us → xs[i]? = some x → ∃ u, us[i]? = some u ∧ RelV x u
  | _, _, _, _, .nil, e => by simp at e
  | _, _, 0, _, .cons r _, e => by simp at e; subst e; exact ⟨_, rfl, r⟩
  | _, _, i + 1, x, .cons _ t, e => by
    obtain ⟨u, h1, h2⟩ := Vals.get (i := i) (x := x) t (by simpa using e)
    exact ⟨u, by simpa using h1, h2⟩
theorem Vals.set {x : V} {u : Value} (r : RelV x u) : ∀ {xs : List V} {us : List Value} (i : Nat), Vals xs us → Vals (xs.set i x) (us.set i u)
  | _, _, _, .nil => .nil
  | _, _, 0, .cons _ t => .cons r t
  | _, _, i + 1, .cons q t => .cons q (Vals.set r i t)
theorem Vals.append : ∀ {xs ys : List V} {us ws : List Value}, Vals xs us → Vals ys ws → Vals (xs ++ ys) (us ++ ws)
  | _, _, _, _, .nil, s => s
  | _, _, _, _, .cons r t, s => .cons r (Vals.append t s)
theorem Vals.take : ∀ {xs : List V} {us : List Value} (n : Nat), Vals xs us → Vals (xs.take n) (us.take n)
  | _, _, 0, _ => .nil
  | _, _, _ + 1, .nil => .nil
  | _, _, n + 1, .cons r t => .cons r (Vals.take n t)
theorem Vals.drop : ∀ {xs : List V} {us : List Value} (n : Nat), Vals xs us → Vals (xs.drop n) (us.drop n)
  | _, _, 0, r => r
  | _, _, _ + 1, .nil => .nil
  | _, _, n + 1, .cons _ t => Vals.drop n t
def RelO : Option V → Option Value → Prop
  | some v, some u => RelV v u
  | none, none => True
  | _, _ => False
def KV {κ : Type} : List (κ × V) → List (κ × Value) → Prop := Paired fun (p : κ × V) (q : κ × Value) => p.1 = q.1 ∧ RelV p.2 q.2

/-- a key of a dict (00_mix): an int or a text -/
def kV : Key → V
  | .inl i => .int i
  | .inr x => .str x

/-- what stands at a tracked address -/
inductive HO where
  /-- a list -/
  | lst (xs : List V)
  /-- a tuple (never changes) -/
  | tup (xs : List V)
  /-- a dict whose keys are ints and texts; one whose keys are tuples of ints and texts (the empty one is both) -/
  | dK (kvs : List (Key × V)) | dT (kvs : List (List Key × V))
  /-- a set of ints: its members, its size -/
  | set (S : Int → Bool) (n : Nat)
  /-- an instance of the class at C, its dict at dx, its attributes -/
  | ins (C dx : Addr) (fs : List (Str × V))
  /-- the dict of the instance at x -/
  | own (x : Addr)
  /-- the dict of an exception -/
  | xd (fs : List (Str × V))
  /-- a bound method, f of x -/
  | met (f x : Addr)
  /-- a range object lo, lo + 1, .. below hi -/
  | rng (lo hi : Int)
  /-- a thing that is known to the object (the script; a dict while a loop walks it): read, never written while it is so -/
  | frz (o : Obj) (u : HO)
  /-- a code object's table -/
  | tbl (ps : Array Value)
  /-- any other thing, by what is true of its one object (a def of one's own: SetO a S n := HO.ext fun h => ..) -/
  | ext (φ : Heap → Prop)

abbrev Hp := Addr → Option HO
def upd (H : Hp) (a : Addr) (o : HO) : Hp := fun b => if b = a then some o else H b
theorem upd_same {H : Hp} {a : Addr} {o : HO} : upd H a o a = some o := by unfold upd; rw [if_pos rfl]
theorem upd_ne {H : Hp} {a b : Addr} {o : HO} (h : b ≠ a) : upd H a o b = H b := by unfold upd; rw [if_neg h]
theorem ne_of_none {H : Hp} {a b : Addr} {o : HO} (h : H a = some o) (h' : H b = none) : a ≠ b := by
  intro e; subst e; rw [h] at h'; cases h'

section
variable (P : Program) (w : World)
def ObjOk (H : Hp) (h : Heap) (a : Addr) : HO → Prop
  | .lst xs => xs.length ≤ sizeLine ∧ ∃ (its : List Value) (n : Nat), Vals xs its ∧ h.get? a = some { cls := .type "list", data := .seq its.toArray n }
  | .tup xs => xs.length ≤ sizeLine ∧ ∃ its : List Value, Vals xs its ∧ IsTup h a its.toArray
  | .dK kvs => kvs.length ≤ sizeLine ∧ (a == sysModules) = false ∧ ∃ vs, KV kvs vs ∧ h.DictOf (mixKind P w) a vs
  | .dT kvs => kvs.length ≤ sizeLine ∧ (a == sysModules) = false ∧ ∃ xs : List (List Key × Addr × Value),
      Paired (fun (p : List Key × V) (q : List Key × Addr × Value) => p.1 = q.1 ∧ H q.2.1 = some (.tup (p.1.map kV)) ∧ RelV p.2 q.2.2) kvs xs ∧
      ∃ o es ep, h.get? a = some o ∧ o.ExactDict ∧ o.data = .dict es ep ∧ es.toList = xs.map (entryOfKey (tupleKind (mixKind P w))) ∧ (xs.map (·.1)).Nodup
  | .set S n => h.SetOf (intKind P w) a S n
  | .ins C dx fs => H dx = some (.own a) ∧ fs.length ≤ 1000 ∧ dx ≠ a ∧ h.get? a = some (PySem.W.instObj C dx) ∧
      ∃ mA, h.Ns1 dx mA ∧ (∀ f, RelO (fs.lookup f) (mA f)) ∧ PySem.Within mA (fs.map (·.1))
  | .own _ => ∃ o, h.get? a = some o
  | .xd fs => ∃ mA, h.Ns1 a mA ∧ ∀ f, RelO (fs.lookup f) (mA f)
  | .rng lo hi => ∃ t u v, h.get? a = some { cls := .type "range", data := .fields #[.int lo t, .int hi u, .int 1 v] }
  | .frz o u => h.get? a = some o ∧ ObjOk H h a u
  | .tbl ps => h.get? a = some { cls := .none, data := .fields ps }
  | .met f x => h.get? a = some (PySem.W.methodObj (.ref f) (.ref x))
  | .ext φ => φ h ∧ (∃ o, h.get? a = some o) ∧ ∀ h1 h2 : Heap, φ h1 → (∀ o, h1.get? a = some o → h2.get? a = some o) → φ h2
/-- the abstract heap is held -/
def HOk (H : Hp) (h : Heap) : Prop := ∀ a o, H a = some o → ObjOk P w H h a o
end

section
variable {P : Program} {w : World} {H H' : Hp} {h h' : Heap} {a : Addr} {o : HO}
theorem ObjOk.lt (x : ObjOk P w H h a o) : a < h.objs.size := by
  cases o with
  | lst xs => obtain ⟨_, _, _, _, e⟩ := x; exact Heap.lt_size e
  | tup xs => obtain ⟨_, _, _, p⟩ := x; exact p.lt
  | dK kvs => obtain ⟨_, _, _, _, o, _, _, e, _⟩ := x; exact Heap.lt_size e
  | dT kvs => obtain ⟨_, _, _, _, o, _, _, e, _⟩ := x; exact Heap.lt_size e
  | set S n => obtain ⟨o, _, _, _, e, _⟩ := x; exact Heap.lt_size e
  | ins C dx fs => obtain ⟨_, _, _, e, _⟩ := x; exact Heap.lt_size e
  | own y => obtain ⟨_, e⟩ := x; exact Heap.lt_size e
  | xd fs => obtain ⟨_, ⟨_, _, _, e, _⟩, _⟩ := x; exact Heap.lt_size e
  | rng lo hi => obtain ⟨_, _, _, e⟩ := x; exact Heap.lt_size e
  | frz ob u => obtain ⟨e, _⟩ := x; exact Heap.lt_size e
  | tbl ps => exact Heap.lt_size (show h.get? a = some _ from x)
  | met f y => exact Heap.lt_size (show h.get? a = some _ from x)
  | ext φ => obtain ⟨_, ⟨_, e⟩, _⟩ := x; exact Heap.lt_size e
theorem Paired.mapP {α β : Type} {F G : α → β → Prop} : ∀ {l₁ : List α} {l₂ : List β}, Paired F l₁ l₂ → (∀ a b, F a b → G a b) → Paired G l₁ l₂
  | _, _, .nil, _ => .nil
  | _, _, .cons r t, f => .cons (f _ _ r) (Paired.mapP t f)
/-- what an object's description leans on: its own object, its own dict, the tuples -/
theorem ObjOk.stay (x : ObjOk P w H h a o) (k : ∀ b u, (b = a ∨ H b = some (.own a)) → h.get? b = some u → h'.get? b = some u)
    (ho : ∀ b, H b = some (.own a) → H' b = some (.own a)) (ht : ∀ b xs, H b = some (.tup xs) → H' b = some (.tup xs)) : ObjOk P w H' h' a o := by
  induction o with
  | lst xs => obtain ⟨z, its, n, r, e⟩ := x; exact ⟨z, its, n, r, k _ _ (.inl rfl) e⟩
  | tup xs => obtain ⟨z, its, r, ob, e, c⟩ := x; exact ⟨z, its, r, ob, k _ _ (.inl rfl) e, c⟩
  | dK kvs => obtain ⟨z, y, vs, r, ob, es, ep, e, c⟩ := x; exact ⟨z, y, vs, r, ob, es, ep, k _ _ (.inl rfl) e, c⟩
  | dT kvs =>
    obtain ⟨z, y, xs, r, ob, es, ep, e, c⟩ := x
    exact ⟨z, y, xs, Paired.mapP r fun p q z => ⟨z.1, ht _ _ z.2.1, z.2.2⟩, ob, es, ep, k _ _ (.inl rfl) e, c⟩
  | set S n => obtain ⟨ob, es, ep, t, e, c⟩ := x; exact ⟨ob, es, ep, t, k _ _ (.inl rfl) e, c⟩
  | ins C dx fs =>
    obtain ⟨d, z, ne, e, mA, ⟨od, es, ep, e2, c⟩, r⟩ := x
    exact ⟨ho _ d, z, ne, k _ _ (.inl rfl) e, mA, ⟨od, es, ep, k _ _ (.inr d) e2, c⟩, r⟩
  | own y => obtain ⟨ob, e⟩ := x; exact ⟨ob, k _ _ (.inl rfl) e⟩
  | xd fs => obtain ⟨mA, ⟨od, es, ep, e, c⟩, r⟩ := x; exact ⟨mA, ⟨od, es, ep, k _ _ (.inl rfl) e, c⟩, r⟩
  | rng lo hi => obtain ⟨t, u, v, e⟩ := x; exact ⟨t, u, v, k _ _ (.inl rfl) e⟩
  | frz ob u ih => obtain ⟨e, q⟩ := x; exact ⟨k _ _ (.inl rfl) e, ih q⟩
  | tbl ps =>
    have e : h.get? a = some { cls := .none, data := .fields ps } := x
    show h'.get? a = some { cls := .none, data := .fields ps }
    exact k a _ (.inl rfl) e
  | met f y =>
    have e : h.get? a = some (PySem.W.methodObj (.ref f) (.ref y)) := x
    show h'.get? a = some (PySem.W.methodObj (.ref f) (.ref y))
    exact k a _ (.inl rfl) e
  | ext φ => obtain ⟨p, ⟨o, e⟩, st⟩ := x; exact ⟨st _ _ p fun o q => k _ _ (.inl rfl) q, ⟨o, k _ _ (.inl rfl) e⟩, st⟩
theorem HOk.lt (x : HOk P w H h) (e : H a = some o) : a < h.objs.size := (x a o e).lt
theorem HOk.fresh (x : HOk P w H h) (e : h.objs.size ≤ a) : H a = none := by
  cases q : H a with
  | none => rfl
  | some u => exact absurd (Nat.lt_of_lt_of_le (x.lt q) e) (Nat.lt_irrefl _)
/-- every object of the heap is kept -/
theorem HOk.kept (x : HOk P w H h) (k : ∀ b u, h.get? b = some u → h'.get? b = some u) : HOk P w H h' := fun a o e =>
  (x a o e).stay (fun b u _ q => k b u q) (fun _ q => q) fun _ _ q => q
/-- a new object is laid and tracked -/
theorem HOk.laid (x : HOk P w H h) (k : ∀ b u, h.get? b = some u → h'.get? b = some u) (hp : h.objs.size ≤ a) (new : ObjOk P w (upd H a o) h' a o) : HOk P w (upd H a o) h' := fun b u e => by
  have hn := x.fresh hp
  by_cases hb : b = a
  · subst hb; rw [upd_same] at e; cases e; exact new
  · rw [upd_ne hb] at e
    exact (x b u e).stay (fun c v _ q => k c v q) (fun c q => by rw [upd_ne (ne_of_none q hn)]; exact q) fun c xs q => by rw [upd_ne (ne_of_none q hn)]; exact q
end

/-- what may be read as u: it is u, or a known u -/
def Rd (H : Hp) (a : Addr) (u : HO) : Prop := H a = some u ∨ ∃ o, H a = some (.frz o u)
theorem Rd.ok {P : Program} {w : World} {H : Hp} {h : Heap} {a : Addr} {u : HO} (r : Rd H a u) (x : HOk P w H h) : ObjOk P w H h a u := by
  rcases r with r | ⟨o, r⟩
  · exact x a u r
  · obtain ⟨_, q⟩ := x a _ r
    exact q
/-- what may be written -/
def Mut : Option HO → Prop
  | some (.lst _) => True
  | some (.dK _) => True
  | some (.dT _) => True
  | some (.set _ _) => True
  | some (.ins _ _ _) => True
  | some (.ext _) => True
  | _ => False
section
variable {P : Program} {w : World} {H : Hp} {h h' : Heap} {x e : Addr} {o' : HO}
/-- the object at e is changed: x itself, or the dict of the instance x -/
theorem HOk.write (ok : HOk P w H h) (mu : Mut (H x)) (he : e = x ∨ H e = some (.own x)) (k : ∀ b u, b ≠ e → h.get? b = some u → h'.get? b = some u) (heo : ∃ u, h'.get? e = some u)
    (new : ObjOk P w (upd H x o') h' x o') : HOk P w (upd H x o') h' := fun b u q => by
  have nown : ∀ c y, H c = some (.own y) → c ≠ x := fun c y r z => by subst z; rw [r] at mu; exact mu
  have ntup : ∀ c xs, H c = some (.tup xs) → c ≠ x := fun c xs r z => by subst z; rw [r] at mu; exact mu
  by_cases hb : b = x
  · subst hb; rw [upd_same] at q; cases q; exact new
  · rw [upd_ne hb] at q
    by_cases hbe : b = e
    · have q' : H b = some (.own x) := by
        rcases he with z | z
        · exact absurd (hbe.trans z) hb
        · rw [hbe]; exact z
      rw [q] at q'; cases q'
      obtain ⟨v, hv⟩ := heo
      exact ⟨v, by rw [hbe]; exact hv⟩
    · refine (ok b u q).stay (fun c v hc r => k c v ?_ r) (fun c r => by rw [upd_ne (nown c b r)]; exact r) fun c xs r => by rw [upd_ne (ntup c xs r)]; exact r
      rcases hc with rfl | hc
      · exact hbe
      · rintro rfl
        rcases he with z | z
        · exact nown c b hc z
        · rw [hc] at z; cases z; exact hb rfl
end

/-! ### kept unless tracked; of the frames at fs (the callers') the slots may change (an exception that passes writes there); of the records at ex (iterators) nothing is said -/
structure Un (fs ex : List Addr) (H H' : Hp) (h h' : Heap) : Prop where
  keep : ∀ b o, h.get? b = some o → H b = none → b ∉ fs → b ∉ ex → h'.get? b = some o
  slot : ∀ b o, h.get? b = some o → H b = none → b ∈ fs → b ∉ ex → ∃ sl, h'.get? b = some { o with slots := sl }
  free : ∀ b o, h.get? b = some o → H b = none → b ∉ ex → H' b = none
  there : ∀ b o, h.get? b = some o → b ∉ ex → ∃ o', h'.get? b = some o'
  tups : ∀ b xs, H b = some (.tup xs) → H' b = some (.tup xs)
  frzs : ∀ b o u, H b = some (.frz o u) → H' b = some (.frz o u)
  tbls : ∀ b ps, H b = some (.tbl ps) → ∃ more, H' b = some (.tbl (ps ++ more))
section
variable {fs fs' ex ex' : List Addr} {H H1 H2 : Hp} {h h1 h2 h' : Heap} {a x e : Addr} {o : HO}
theorem Un.any (u : Un fs ex H H1 h h1) {b : Addr} {ob : Obj} (q : h.get? b = some ob) (n : H b = none) (hx : b ∉ ex) : ∃ sl, h1.get? b = some { ob with slots := sl } := by
  by_cases hb : b ∈ fs
  · exact u.slot b ob q n hb hx
  · exact ⟨ob.slots, u.keep b ob q n hb hx⟩
theorem Un.kept (k : ∀ b u, h.get? b = some u → h'.get? b = some u) : Un fs ex H H h h' :=
  ⟨fun b ob q _ _ _ => k b ob q, fun b ob q _ _ _ => ⟨ob.slots, k b ob q⟩, fun _ _ _ n _ => n, fun b ob q _ => ⟨ob, k b ob q⟩, fun _ _ q => q, fun _ _ _ q => q, fun _ ps q => ⟨#[], by rw [q]; simp⟩⟩
theorem Un.refl : Un fs ex H H h h := Un.kept fun _ _ q => q
theorem Un.laid (k : ∀ b u, h.get? b = some u → h'.get? b = some u) (hp : h.objs.size ≤ a) (hn : H a = none) : Un fs ex H (upd H a o) h h' where
  keep := fun b u q _ _ _ => k b u q
  slot := fun b u q _ _ _ => ⟨u.slots, k b u q⟩
  free := fun b u q n _ => by rw [upd_ne (Nat.ne_of_lt (Nat.lt_of_lt_of_le (Heap.lt_size q) hp))]; exact n
  there := fun b u q _ => ⟨u, k b u q⟩
  tups := fun b xs q => by rw [upd_ne (ne_of_none q hn)]; exact q
  frzs := fun b u xs q => by rw [upd_ne (ne_of_none q hn)]; exact q
  tbls := fun b ps q => ⟨#[], by rw [upd_ne (ne_of_none q hn), q]; simp⟩
theorem Un.write (mu : Mut (H x)) (he : e = x ∨ H e = some (.own x)) (k : ∀ b u, b ≠ e → h.get? b = some u → h'.get? b = some u) (heo : ∃ u, h'.get? e = some u) : Un fs ex H (upd H x o) h h' := by
  have hx : ∀ b, H b = none → b ≠ x := fun b n z => by subst z; rw [n] at mu; exact mu
  have hb : ∀ b, H b = none → b ≠ e := fun b n z => by
    subst z
    rcases he with r | r
    · exact hx b n r
    · rw [n] at r; cases r
  have hm : ∀ b u, H b = some u → ¬ Mut (some u) → b ≠ x := fun b u q nm z => by subst z; rw [q] at mu; exact nm mu
  refine ⟨fun b u q n _ _ => k b u (hb b n) q, fun b u q n _ _ => ⟨u.slots, k b u (hb b n) q⟩, fun b u q n _ => by rw [upd_ne (hx b n)]; exact n, fun b u q _ => ?_,
    fun b xs q => by rw [upd_ne (hm b _ q fun z => z)]; exact q, fun b u xs q => by rw [upd_ne (hm b _ q fun z => z)]; exact q, fun b ps q => ⟨#[], by rw [upd_ne (hm b _ q fun z => z), q]; simp⟩⟩
  by_cases hbe : b = e
  · subst hbe; exact heo
  · exact ⟨u, k b u hbe q⟩
end

/-! ### the heap without what is tracked -/
def trk (h : Heap) (H : Hp) : List Addr := (List.range h.objs.size).filter fun a => (H a).isSome
def hidT (h : Heap) (H : Hp) : Heap := PySem.W.hideAll h (trk h H)
theorem hidT_size (h : Heap) (H : Hp) : (hidT h H).objs.size = h.objs.size := PySem.W.hideAll_size _ _
theorem hidT_get {h : Heap} {H : Hp} {b : Addr} {o : Obj} (e : h.get? b = some o) (n : H b = none) : (hidT h H).get? b = some o :=
  PySem.W.hideAll_get _ e fun hm => by
    have q : (H b).isSome = true := (List.mem_filter.mp hm).2
    rw [n] at q; simp at q
theorem of_hidT {h : Heap} {H : Hp} {b : Addr} {o : Obj} (e : (hidT h H).get? b = some o) : h.get? b = some o ∧ H b = none := by
  have e' : h.get? b = some o := PySem.W.of_hideAll (trk h H) e
  refine ⟨e', ?_⟩
  cases q : H b with
  | none => rfl
  | some x =>
    have hm : b ∈ trk h H := List.mem_filter.mpr ⟨List.mem_range.mpr (Heap.lt_size e'), by simp [q]⟩
    have z : (hidT h H).get? b = none := PySem.W.hideAll_none (trk h H) hm
    rw [z] at e; cases e

/-! ### OpenK's ledger, filled with every new object but one -/
def allNews (g h : Heap) (L : Addr) : List (Addr × Obj) := (List.range h.objs.size).filterMap fun a => if a = L ∨ (g.get? a).isSome = true then none else (h.get? a).map fun o => (a, o)
def rest (g h : Heap) (L d : Addr) : List (Addr × Obj) := (allNews g h L).filter fun p => decide (p.1 ≠ d)
end L2

namespace L2
open PySem PySem.Spec PyProof.Rows

/-- the module's facts, over the base: the heap at the law's entry without what is tracked there -/
structure Mod (K : PySem.W.Frag) (mg : Str → Option Value) (base : Heap) : Prop where
  kin : K.In base
  glob : base.Ns mainGlobals mg
  blt : ∃ mb, base.Ns builtinsNs mb ∧ ∀ x : Str, x ≠ "__name__" → mb x = bootBuiltins x
  nolimit : base.NoLimit

/-- the context: a def's body (or a comprehension's block) running. base: fixed through the whole law; s₀, H₀: the entry; outer: the frames whose slots others may change (a def's callers); stack: all frames that run;
   ex: iterators that were made ahead of the entry and are walked here (a comprehension's); fn: the names whose cells were made at the entry (a def: all; a comprehension's block: its own); calm: not within an except suite; pn: pins that every state bears; xe: what is wanted of an exception that leaves the code -/
structure Cx where
  prog : Program
  w : World
  K : PySem.W.Frag
  mg : Str → Option Value
  base : Heap
  A : Around
  N : List Str
  s₀ : Shared
  H₀ : Hp
  env : Env
  outer : List Env
  stack : List Env
  ex : List Addr
  fn : Str → Bool
  calm : Bool
  pn : List (Addr × Obj)
  xe : Value → Shared → Prop
/-- the callers' frames -/
def frs (l : List Env) : List Addr := l.filterMap (·.frame)
abbrev Cx.fs (X : Cx) : List Addr := frs X.outer

def Vis (sc : Scope) (x : Str) : Prop := sc.names.lookup x = some .local ∨ sc.names.lookup x = some .cell ∨ sc.names.lookup x = some .free
def Loc (sc : Scope) (x : Str) : Prop := sc.names.lookup x = some .local ∨ sc.names.lookup x = some .cell
def Look (env : Env) (h : Heap) (m : Str → Option Value) (x : Str) (u : Value) : Prop :=
  (env.kindOf x = some .local ∧ m x = some u) ∨ ((env.kindOf x = some .cell ∨ env.kindOf x = some .free) ∧ ∃ c, env.cells.lookup x = some c ∧ h.IsCell c (some u))

structure Cx.Ok (X : Cx) : Prop where
  mod : Mod X.K X.mg X.base
  kind : X.env.scope.kind = .function
  glob : X.env.globals = mainGlobals
  blt : X.env.builtins = builtinsNs
  above : X.s₀.heap.objs.size ≤ X.env.locals
  inj : ∀ x y c, X.env.cells.lookup x = some c → X.env.cells.lookup y = some c → x = y
  has : ∀ x, (X.env.kindOf x = some .cell ∨ X.env.kindOf x = some .free) → ∃ c, X.env.cells.lookup x = some c
  cab : ∀ x c, X.fn x = true → X.env.cells.lookup x = some c → X.s₀.heap.objs.size ≤ c
  hd : X.calm = true → X.A.handled = none
  frames : X.A.frames = some X.stack
  stk : X.stack = X.outer ∨ (X.stack = X.env :: X.outer ∧ X.env.frame = some X.env.locals)
  exf : ∀ b ∈ X.ex, b ≠ X.env.locals ∧ ∀ x c, X.env.cells.lookup x = some c → c ≠ b
  bs : ∀ b o, X.base.get? b = some o → X.s₀.heap.get? b = some o ∧ X.H₀ b = none
  bsz : X.base.objs.size ≤ X.s₀.heap.objs.size
  noex : ∀ b o, X.base.get? b = some o → b ∉ X.ex
  exfs : ∀ b ∈ X.ex, b ∉ X.fs
  funs : X.s₀.heap.FunFrames X.base X.outer
  frf : ∀ b ∈ X.fs, X.H₀ b = none

structure Inv (X : Cx) (pins : List (Addr × Obj)) (σ : List (Option V)) (H : Hp) (s : Shared) : Prop where
  ok : X.Ok
  os : s.os = X.s₀.os
  bare : AllBare s.gens
  base : Un X.fs X.ex X.H₀ H X.s₀.heap s.heap
  loc : ∃ m, s.heap.Ns X.env.locals m ∧ ∀ (i : Nat) (x : Str) (v : V), X.N[i]? = some x → σ[i]? = some (some v) → Vis X.env.scope x → ∃ u, RelV v u ∧ Look X.env s.heap m x u
  cell : ∀ x c, X.env.cells.lookup x = some c → ∃ v, s.heap.IsCell c v
  free : H X.env.locals = none
  freeC : ∀ x c, X.env.cells.lookup x = some c → H c = none
  pin : ∀ p ∈ X.pn ++ pins, s.heap.get? p.1 = some p.2 ∧ H p.1 = none ∧ p.1 ≠ X.env.locals ∧ p.1 ∉ X.fs ∧ ∀ v, p.2.data ≠ .cell v
  hok : HOk X.prog X.w H s.heap
  len : σ.length = X.N.length

section
variable {X : Cx} {pins : List (Addr × Obj)} {σ : List (Option V)} {H H' : Hp} {s : Shared} {h' : Heap}

theorem Cx.Ok.nofr (ok : X.Ok) {b : Addr} {o : Obj} (e : X.base.get? b = some o) : b ∉ X.fs := fun hb => by
  have := (ok.funs.mem hb).1
  rw [e] at this; cases this
theorem Inv.bs (I : Inv X pins σ H s) : ∀ b o, X.base.get? b = some o → s.heap.get? b = some o ∧ H b = none := fun b o e =>
  ⟨I.base.keep b o (I.ok.bs b o e).1 (I.ok.bs b o e).2 (I.ok.nofr e) (I.ok.noex b o e), I.base.free b o (I.ok.bs b o e).1 (I.ok.bs b o e).2 (I.ok.noex b o e)⟩
theorem Inv.bk (I : Inv X pins σ H s) : ∀ b o, X.base.get? b = some o → s.heap.get? b = some o := fun b o e => (I.bs b o e).1
theorem Inv.mod (I : Inv X pins σ H s) : Mod X.K X.mg X.base := I.ok.mod
theorem Inv.kIn (I : Inv X pins σ H s) : X.K.In s.heap := I.ok.mod.kin.keeps I.bk
theorem Inv.lt (I : Inv X pins σ H s) : X.env.locals < s.heap.objs.size := let ⟨_, hn, _⟩ := I.loc; hn.lt
theorem Inv.sz (I : Inv X pins σ H s) : X.s₀.heap.objs.size ≤ s.heap.objs.size := Nat.le_trans I.ok.above (Nat.le_of_lt I.lt)
theorem Inv.nofs (I : Inv X pins σ H s) {a : Addr} (h : s.heap.objs.size ≤ a) : a ∉ X.fs := fun hb => by
  obtain ⟨_, o, ho, _⟩ := I.ok.funs.mem hb
  exact absurd (Nat.lt_of_lt_of_le (Heap.lt_size ho) (Nat.le_trans I.sz h)) (Nat.lt_irrefl _)
theorem Inv.cne (I : Inv X pins σ H s) : ∀ x c, X.env.cells.lookup x = some c → c ≠ X.env.locals := fun x c e z => by
  obtain ⟨v, o, ho, hd⟩ := I.cell x c e
  obtain ⟨m, ⟨o', es, ep, ho', hd', _⟩, _⟩ := I.loc
  rw [z, ho'] at ho; cases ho; rw [hd'] at hd; cases hd
theorem Inv.funs (I : Inv X pins σ H s) : s.heap.FunFrames X.base X.outer := by
  have all : ∀ (l : List Env), (∀ b ∈ frs l, b ∈ X.fs) → X.s₀.heap.FunFrames X.base l → s.heap.FunFrames X.base l := by
    intro l
    induction l with
    | nil => intro _ _; trivial
    | cons env r ih =>
      intro hs hl
      obtain ⟨hk, ⟨L, o, hf, hn, ho, hd⟩, hr⟩ := hl
      have hL : L ∈ X.fs := hs L (by unfold frs; rw [List.filterMap_cons, hf]; exact List.mem_cons_self)
      obtain ⟨sl, e⟩ := I.base.slot L o ho (I.ok.frf L hL) hL fun z => I.ok.exfs L z hL
      exact ⟨hk, ⟨L, _, hf, hn, e, hd⟩, ih (fun b hb => hs b (by unfold frs; rw [List.filterMap_cons, hf]; exact List.mem_cons_of_mem _ hb)) hr⟩
  exact all X.outer (fun _ hb => hb) I.ok.funs

/-- the frames that run, for a call -/
theorem Inv.stack (I : Inv X pins σ H s) : s.heap.FunFrames X.base X.stack := by
  rcases I.ok.stk with e | ⟨e, hf⟩
  · rw [e]; exact I.funs
  · rw [e]
    obtain ⟨m, hn, _⟩ := I.loc
    refine .cons (by rw [I.ok.kind]; decide) hf hn ?_ I.funs
    exact Heap.get?_none_of_le (Nat.le_trans I.ok.bsz I.ok.above)
theorem Inv.stkSub (I : Inv X pins σ H s) : ∀ b ∈ frs X.stack, b ∈ X.env.locals :: X.fs := fun b hb => by
  rcases I.ok.stk with e | ⟨e, hf⟩
  · rw [e] at hb; exact List.mem_cons_of_mem _ hb
  · rw [e] at hb
    unfold frs at hb
    rw [List.filterMap_cons, hf] at hb
    exact hb
theorem Inv.stkFree (I : Inv X pins σ H s) : ∀ b ∈ frs X.stack, H b = none := fun b hb => by
  rcases List.mem_cons.mp (I.stkSub b hb) with e | hb
  · rw [e]; exact I.free
  · obtain ⟨_, o, ho, _⟩ := I.ok.funs.mem hb
    exact I.base.free b o ho (I.ok.frf b hb) fun z => I.ok.exfs b z hb

/-- THE STEP: the untracked objects but the frame and the records at ch are kept (the callers' frames up to slots), the frame's map is kept, the new abstract heap is held -/
theorem Inv.step {g' : Array GenState} {t' : Nat} {d' : Drawn} {ch : List Addr} (I : Inv X pins σ H s)
    (hch : ∀ b ∈ ch, (b ∈ X.ex ∨ X.s₀.heap.objs.size ≤ b) ∧ b ≠ X.env.locals ∧ (∀ x c, X.env.cells.lookup x = some c → c ≠ b) ∧ ∀ p ∈ X.pn ++ pins, p.1 ≠ b)
    (keep : ∀ b o, b ≠ X.env.locals → b ∉ X.fs → b ∉ ch → s.heap.get? b = some o → H b = none → h'.get? b = some o)
    (slot : ∀ b o, b ≠ X.env.locals → b ∈ X.fs → b ∉ ch → s.heap.get? b = some o → H b = none → ∃ sl, h'.get? b = some { o with slots := sl }) (free : ∀ b o, b ∉ ch → s.heap.get? b = some o → H b = none → H' b = none)
    (there : ∀ b o, b ∉ ch → s.heap.get? b = some o → ∃ o', h'.get? b = some o')
    (tups : ∀ b xs, H b = some (.tup xs) → H' b = some (.tup xs)) (frzs : ∀ b o u, H b = some (.frz o u) → H' b = some (.frz o u)) (tbls : ∀ b ps, H b = some (.tbl ps) → ∃ more, H' b = some (.tbl (ps ++ more)))
    (ns : ∀ m, s.heap.Ns X.env.locals m → h'.Ns X.env.locals m) (hok : HOk X.prog X.w H' h') (hg : AllBare g') :
    Inv X pins σ H' { s with heap := h', gens := g', drawn := d', toks := t' } := by
  have neL : ∀ b o, X.s₀.heap.get? b = some o → b ≠ X.env.locals := fun b o e => Nat.ne_of_lt (Nat.lt_of_lt_of_le (Heap.lt_size e) I.ok.above)
  have neC : ∀ b o, X.s₀.heap.get? b = some o → b ∉ X.ex → b ∉ ch := fun b o e hx hb => by
    rcases (hch b hb).1 with z | z
    · exact hx z
    · exact absurd (Nat.lt_of_lt_of_le (Heap.lt_size e) z) (Nat.lt_irrefl _)
  have cellK : ∀ x c, X.env.cells.lookup x = some c → ∀ v, s.heap.IsCell c v → h'.IsCell c v := fun x c e v ⟨o, ho, hd⟩ => by
    have nch : c ∉ ch := fun z => (hch c z).2.2.1 x c e rfl
    by_cases hc : c ∈ X.fs
    · obtain ⟨sl, q⟩ := slot c o (I.cne x c e) hc nch ho (I.freeC x c e)
      exact ⟨_, q, hd⟩
    · exact ⟨o, keep c o (I.cne x c e) hc nch ho (I.freeC x c e), hd⟩
  refine ⟨I.ok, I.os, hg, ⟨fun b o e n hb hx => ?_, fun b o e n hb hx => ?_, fun b o e n hx => ?_, fun b o e hx => ?_, fun b xs e => tups b xs (I.base.tups b xs e), fun b o xs e => frzs b o xs (I.base.frzs b o xs e), fun b ps e => ?_⟩, ?_, fun x c e => ?_, ?_, fun x c e => ?_, fun p hp => ?_, hok, I.len⟩
  · exact keep b o (neL b o e) hb (neC b o e hx) (I.base.keep b o e n hb hx) (I.base.free b o e n hx)
  · obtain ⟨sl, e1⟩ := I.base.slot b o e n hb hx
    obtain ⟨sl', e2⟩ := slot b _ (neL b o e) hb (neC b o e hx) e1 (I.base.free b o e n hx)
    exact ⟨sl', e2⟩
  · obtain ⟨o', e1⟩ := I.base.there b o e hx
    exact free b o' (neC b o e hx) e1 (I.base.free b o e n hx)
  · obtain ⟨o', e1⟩ := I.base.there b o e hx
    exact there b o' (neC b o e hx) e1
  · obtain ⟨m1, e1⟩ := I.base.tbls b ps e
    obtain ⟨m2, e2⟩ := tbls b _ e1
    exact ⟨m1 ++ m2, by rw [e2, Array.append_assoc]⟩
  · obtain ⟨m, hn, hl⟩ := I.loc
    refine ⟨m, ns m hn, fun i x v e1 e2 e3 => ?_⟩
    obtain ⟨u, r, l⟩ := hl i x v e1 e2 e3
    refine ⟨u, r, ?_⟩
    rcases l with l | ⟨k, c, e, z⟩
    · exact .inl l
    · exact .inr ⟨k, c, e, cellK x c e _ z⟩
  · obtain ⟨v, z⟩ := I.cell x c e
    exact ⟨v, cellK x c e v z⟩
  · obtain ⟨m, ⟨o, _, _, ho, _⟩, _⟩ := I.loc
    exact free _ o (fun z => (hch _ z).2.1 rfl) ho I.free
  · obtain ⟨v, o, ho, hd⟩ := I.cell x c e
    exact free c o (fun z => (hch c z).2.2.1 x c e rfl) ho (I.freeC x c e)
  · obtain ⟨e, n, ne, nf, d⟩ := I.pin p hp
    have nch : p.1 ∉ ch := fun z => (hch p.1 z).2.2.2 p hp rfl
    exact ⟨keep p.1 p.2 ne nf nch e n, free p.1 p.2 nch e n, ne, nf, d⟩
/-- .. where the frame's own object is kept too -/
theorem Inv.un {t' : Nat} (I : Inv X pins σ H s) (u : Un X.fs [] H H' s.heap h') (hok : HOk X.prog X.w H' h') : Inv X pins σ H' { s with heap := h', toks := t' } := by
  obtain ⟨m, ⟨o, es, ep, ho, r⟩, _⟩ := id I.loc
  obtain ⟨sl, hL⟩ := u.any ho I.free (by simp)
  exact I.step (g' := s.gens) (d' := s.drawn) (ch := []) (fun _ z => nomatch z) (fun b o _ hb _ e n => u.keep b o e n hb (by simp)) (fun b o _ hb _ e n => u.slot b o e n hb (by simp)) (fun b o _ e n => u.free b o e n (by simp)) (fun b o _ e => u.there b o e (by simp)) u.tups u.frzs u.tbls (fun m' hm => by
    obtain ⟨o', es', ep', ho', r'⟩ := hm
    rw [ho] at ho'; cases ho'
    exact ⟨_, es', ep', hL, r'⟩) hok I.bare
/-- behind a call (or a comprehension's block): the slots of this frame may have changed too, the records at ch may have turned -/
theorem Inv.call {g' : Array GenState} {t' : Nat} {d' : Drawn} {ch : List Addr} (I : Inv X pins σ H s) (u : Un (frs X.stack) ch H H' s.heap h') (hok : HOk X.prog X.w H' h') (hg : AllBare g')
    (hch : ∀ b ∈ ch, (b ∈ X.ex ∨ X.s₀.heap.objs.size ≤ b) ∧ b ≠ X.env.locals ∧ (∀ x c, X.env.cells.lookup x = some c → c ≠ b) ∧ ∀ p ∈ X.pn ++ pins, p.1 ≠ b) :
    Inv X pins σ H' { s with heap := h', gens := g', drawn := d', toks := t' } := by
  obtain ⟨m, ⟨o, es, ep, ho, r⟩, _⟩ := id I.loc
  obtain ⟨sl, hL⟩ := u.any ho I.free fun z => (hch _ z).2.1 rfl
  exact I.step (ch := ch) hch (fun b o hL hb hc e n => u.keep b o e n (fun z => (List.mem_cons.mp (I.stkSub b z)).elim hL hb) hc) (fun b o _ _ hc e n => u.any e n hc) (fun b o hc e n => u.free b o e n hc) (fun b o hc e => u.there b o e hc) u.tups u.frzs u.tbls (fun m' hm => by
    obtain ⟨o', es', ep', ho', r'⟩ := hm
    rw [ho] at ho'; cases ho'
    exact ⟨_, es', ep', hL, r'⟩) hok hg
/-- an untracked record of ours (an iterator) has turned -/
theorem Inv.turned {t' : Nat} {it : Addr} (I : Inv X pins σ H s) (k : ∀ b o, b ≠ it → s.heap.get? b = some o → h'.get? b = some o) (hn : H it = none) (hL : it ≠ X.env.locals)
    (h1 : it ∈ X.ex ∨ X.s₀.heap.objs.size ≤ it) (h2 : ∀ x c, X.env.cells.lookup x = some c → c ≠ it) (h3 : ∀ p ∈ X.pn ++ pins, p.1 ≠ it) : Inv X pins σ H { s with heap := h', toks := t' } := by
  have nit : ∀ b u, H b = some u → b ≠ it := fun b u e z => by rw [z, hn] at e; cases e
  refine I.step (g' := s.gens) (d' := s.drawn) (ch := [it]) (fun b hb => ?_) (fun b o _ _ hc e _ => k b o (fun z => hc (by simp [z])) e) (fun b o _ _ hc e _ => ⟨o.slots, k b o (fun z => hc (by simp [z])) e⟩) (fun _ _ _ _ n => n)
    (fun b o hc e => ⟨o, k b o (fun z => hc (by simp [z])) e⟩) (fun _ _ e => e) (fun _ _ _ e => e) (fun b ps e => ⟨#[], by rw [e]; simp⟩) (fun m hm => ?_) (fun b u e => ?_) I.bare
  · have e : b = it := by simpa using hb
    subst e
    exact ⟨h1, hL, h2, h3⟩
  · obtain ⟨o, es, ep, ho, r⟩ := hm
    exact ⟨o, es, ep, k _ o (Ne.symm hL) ho, r⟩
  · refine (I.hok b u e).stay (fun c v hc q => k c v ?_ q) (fun _ q => q) fun _ _ q => q
    rcases hc with z | z
    · rw [z]; exact nit b u e
    · exact nit c _ z
theorem Inv.tok (I : Inv X pins σ H s) (t : Nat) : Inv X pins σ H { s with toks := t } := I.un (h' := s.heap) (t' := t) Un.refl I.hok
/-- all objects kept -/
theorem Inv.kept {t' : Nat} (I : Inv X pins σ H s) (k : ∀ b u, s.heap.get? b = some u → h'.get? b = some u) : Inv X pins σ H { s with heap := h', toks := t' } := I.un (Un.kept k) (I.hok.kept k)
/-- a new object laid and tracked -/
theorem Inv.laid {a : Addr} {o : HO} {t' : Nat} (I : Inv X pins σ H s) (k : ∀ b u, s.heap.get? b = some u → h'.get? b = some u) (hp : s.heap.objs.size ≤ a) (new : ObjOk X.prog X.w (upd H a o) h' a o) :
    Inv X pins σ (upd H a o) { s with heap := h', toks := t' } := I.un (Un.laid k hp (I.hok.fresh hp)) (I.hok.laid k hp new)
/-- an object written -/
theorem Inv.write {x e : Addr} {o : HO} {t' : Nat} (I : Inv X pins σ H s) (mu : Mut (H x)) (he : e = x ∨ H e = some (.own x)) (k : ∀ b u, b ≠ e → s.heap.get? b = some u → h'.get? b = some u) (heo : ∃ u, h'.get? e = some u)
    (new : ObjOk X.prog X.w (upd H x o) h' x o) : Inv X pins σ (upd H x o) { s with heap := h', toks := t' } := I.un (Un.write mu he k heo) (I.hok.write mu he k heo new)
/-- forgetting slots, pins -/
theorem Inv.weak {σ' : List (Option V)} (I : Inv X pins σ H s) (hl : σ'.length = σ.length) (w : ∀ (i : Nat) v, σ'[i]? = some (some v) → σ[i]? = some (some v)) : Inv X pins σ' H s :=
  ⟨I.ok, I.os, I.bare, I.base, let ⟨m, hn, hl'⟩ := I.loc; ⟨m, hn, fun i x v e1 e2 e3 => hl' i x v e1 (w i v e2) e3⟩, I.cell, I.free, I.freeC, I.pin, I.hok, hl.trans I.len⟩
theorem Inv.pins_of {pins' : List (Addr × Obj)} (I : Inv X pins σ H s) (h : ∀ p ∈ pins', s.heap.get? p.1 = some p.2 ∧ H p.1 = none ∧ p.1 ≠ X.env.locals ∧ p.1 ∉ X.fs ∧ ∀ v, p.2.data ≠ .cell v) : Inv X pins' σ H s :=
  ⟨I.ok, I.os, I.bare, I.base, I.loc, I.cell, I.free, I.freeC, fun p hp => (List.mem_append.mp hp).elim (fun z => I.pin p (List.mem_append_left _ z)) (h p), I.hok, I.len⟩

theorem nodup_ix {N : List Str} (hN : N.Nodup) {i j : Nat} {x : Str} (a : N[i]? = some x) (b : N[j]? = some x) : i = j := by
  obtain ⟨h1, e1⟩ := List.getElem?_eq_some_iff.mp a
  obtain ⟨h2, e2⟩ := List.getElem?_eq_some_iff.mp b
  exact (List.getElem_inj hN).mp (e1.trans e2.symm)

/-- a name is stored; what changed -/
theorem store_ok2 {M : Model} {A : Around} {E : Value → Shared → Prop} {i : Nat} {x : Str} {v : V} {u : Value} {Q : Unit → Shared → Prop} (I : Inv X pins σ H s) (hN : X.N.Nodup) (hi : X.N[i]? = some x) (hx : Loc X.env.scope x) (r : RelV v u)
    (h : ∀ s', Inv X pins (σ.set i (some v)) H s' → (∃ a, Heap.SameBut a s.heap s'.heap ∧ (a = X.env.locals ∨ X.env.cells.lookup x = some a)) → Q () s') (hf : X.fn x = true ∨ X.env.scope.names.lookup x = some .local := by first | exact .inl rfl | exact .inr rfl | assumption) : wpAny M A (storeName X.env x u) Q E s := by
  obtain ⟨m, hn, hl⟩ := id I.loc
  have hcls : (X.env.scope.kind == .class || (X.env.scope.kind == .module && X.env.locals != X.env.globals)) = false := by rw [I.ok.kind]; rfl
  have hiσ : i < σ.length := by rw [I.len]; exact (List.getElem?_eq_some_iff.mp hi).1
  have cne := I.cne
  have tracked : ∀ {a : Addr} {h' : Heap}, (∃ o, s.heap.get? a = some o ∧ H a = none) → Heap.SameBut a s.heap h' → HOk X.prog X.w H h' := fun {a h'} ha hs b ob e => by
    obtain ⟨_, _, hfree⟩ := ha
    refine (I.hok b ob e).stay (fun c w' hc q => (hs.2 c ?_).trans q) (fun _ q => q) fun _ _ q => q
    rintro rfl
    rcases hc with rfl | hc
    · rw [hfree] at e; cases e
    · rw [hfree] at hc; cases hc
  rcases hx with hk | hk
  · refine wpAny_storeName_local hk hn (fun h' hn' hs => ?_) hcls
    obtain ⟨oL, _, _, hoL, _⟩ := id hn
    refine h _ ⟨I.ok, I.os, I.bare, ⟨fun b o e n hb hx => ?_, fun b o e n hb hx => ?_, I.base.free, fun b o e hx => ?_, I.base.tups, I.base.frzs, I.base.tbls⟩, ⟨_, hn', fun j y v' e1 e2 e3 => ?_⟩, fun y c e => ?_, I.free, I.freeC, fun p hp => ?_, tracked ⟨oL, hoL, I.free⟩ hs, by simpa using I.len⟩ ⟨_, hs, .inl rfl⟩
    · exact (hs.2 b (Nat.ne_of_lt (Nat.lt_of_lt_of_le (Heap.lt_size e) I.ok.above))).trans (I.base.keep b o e n hb hx)
    · obtain ⟨sl, e1⟩ := I.base.slot b o e n hb hx
      exact ⟨sl, (hs.2 b (Nat.ne_of_lt (Nat.lt_of_lt_of_le (Heap.lt_size e) I.ok.above))).trans e1⟩
    · obtain ⟨o', e1⟩ := I.base.there b o e hx
      exact ⟨o', (hs.2 b (Nat.ne_of_lt (Nat.lt_of_lt_of_le (Heap.lt_size e) I.ok.above))).trans e1⟩
    · by_cases hj : j = i
      · subst hj
        rw [hi] at e1; cases e1
        rw [List.getElem?_set_self hiσ] at e2
        cases e2
        exact ⟨u, r, .inl ⟨hk, by simp⟩⟩
      · rw [List.getElem?_set_ne (Ne.symm hj)] at e2
        obtain ⟨u', r', q⟩ := hl j y v' e1 e2 e3
        refine ⟨u', r', ?_⟩
        rcases q with ⟨k, e⟩ | ⟨k, c, e, z⟩
        · refine .inl ⟨k, ?_⟩
          have : y ≠ x := fun e => hj (nodup_ix hN e1 (e ▸ hi))
          simp [this, e]
        · exact .inr ⟨k, c, e, z.sameBut hs (cne y c e)⟩
    · obtain ⟨w', z⟩ := I.cell y c e
      exact ⟨w', z.sameBut hs (cne y c e)⟩
    · obtain ⟨e, n, ne, nf, d⟩ := I.pin p hp
      exact ⟨(hs.2 p.1 ne).trans e, n, ne, nf, d⟩
  · have hfn : X.fn x = true := by
      rcases hf with z | z
      · exact z
      · rw [z] at hk; cases hk
    obtain ⟨c, hc⟩ := I.ok.has x (.inl hk)
    obtain ⟨w', z⟩ := I.cell x c hc
    refine wpAny_storeName_cell I.ok.kind hk hc z (fun h' hc' hs => ?_)
    obtain ⟨oc, hoc, hocd⟩ := id z
    refine h { s with heap := h' } ⟨I.ok, I.os, I.bare, ⟨fun b o e n hb hx => ?_, fun b o e n hb hx => ?_, I.base.free, fun b o e hx => ?_, I.base.tups, I.base.frzs, I.base.tbls⟩, ⟨m, hn.sameBut hs (Ne.symm (cne x c hc)), fun j y v' e1 e2 e3 => ?_⟩, fun y c' e => ?_, I.free, I.freeC, fun p hp => ?_, tracked ⟨oc, hoc, I.freeC x c hc⟩ hs, by simpa using I.len⟩ ⟨c, hs, .inr hc⟩
    · exact (hs.2 b (Nat.ne_of_lt (Nat.lt_of_lt_of_le (Heap.lt_size e) (I.ok.cab x c hfn hc)))).trans (I.base.keep b o e n hb hx)
    · obtain ⟨sl, e1⟩ := I.base.slot b o e n hb hx
      exact ⟨sl, (hs.2 b (Nat.ne_of_lt (Nat.lt_of_lt_of_le (Heap.lt_size e) (I.ok.cab x c hfn hc)))).trans e1⟩
    · obtain ⟨o', e1⟩ := I.base.there b o e hx
      exact ⟨o', (hs.2 b (Nat.ne_of_lt (Nat.lt_of_lt_of_le (Heap.lt_size e) (I.ok.cab x c hfn hc)))).trans e1⟩
    · by_cases hj : j = i
      · subst hj
        rw [hi] at e1; cases e1
        rw [List.getElem?_set_self hiσ] at e2
        cases e2
        exact ⟨u, r, .inr ⟨.inl hk, c, hc, hc'⟩⟩
      · rw [List.getElem?_set_ne (Ne.symm hj)] at e2
        obtain ⟨u', r', q⟩ := hl j y v' e1 e2 e3
        refine ⟨u', r', ?_⟩
        rcases q with q | ⟨k, c', e, z'⟩
        · exact .inl q
        · refine .inr ⟨k, c', e, z'.sameBut hs ?_⟩
          rintro rfl
          exact hj (nodup_ix hN e1 (I.ok.inj _ _ _ e hc ▸ hi))
    · by_cases hcc : c' = c
      · subst hcc; exact ⟨_, hc'⟩
      · obtain ⟨w2, z2⟩ := I.cell y c' e
        exact ⟨w2, z2.sameBut hs hcc⟩
    · obtain ⟨e, n, ne, nf, d⟩ := I.pin p hp
      refine ⟨(hs.2 p.1 ?_).trans e, n, ne, nf, d⟩
      intro q
      rw [q, hoc] at e
      have q' : oc = p.2 := Option.some.inj e
      exact d w' (by rw [← q']; exact hocd)
theorem store_ok {M : Model} {A : Around} {E : Value → Shared → Prop} {i : Nat} {x : Str} {v : V} {u : Value} {Q : Unit → Shared → Prop} (I : Inv X pins σ H s) (hN : X.N.Nodup) (hi : X.N[i]? = some x) (hx : Loc X.env.scope x) (r : RelV v u)
    (h : ∀ s', Inv X pins (σ.set i (some v)) H s' → Q () s') (hf : X.fn x = true ∨ X.env.scope.names.lookup x = some .local := by first | exact .inl rfl | exact .inr rfl | assumption) : wpAny M A (storeName X.env x u) Q E s :=
  store_ok2 I hN hi hx r (fun s' I' _ => h s' I') hf
/-- behind a call or a block, the state as it is -/
theorem Inv.call' {s' : Shared} {ch : List Addr} (I : Inv X pins σ H s) (ho : s'.os = s.os) (u : Un (frs X.stack) ch H H' s.heap s'.heap) (hok : HOk X.prog X.w H' s'.heap) (hg : AllBare s'.gens)
    (hch : ∀ b ∈ ch, (b ∈ X.ex ∨ X.s₀.heap.objs.size ≤ b) ∧ b ≠ X.env.locals ∧ (∀ x c, X.env.cells.lookup x = some c → c ≠ b) ∧ ∀ p ∈ X.pn ++ pins, p.1 ≠ b) : Inv X pins σ H' s' := by
  obtain ⟨h', g', d', t', o'⟩ := s'
  have e : o' = s.os := ho
  subst e
  exact I.call (g' := g') (t' := t') (d' := d') u hok hg hch
end

/-! ### the judgements -/
/-- an exception: its class, its own dict's address (where it has one), the abstract heap behind it -/
abbrev XK := Value → Option Addr → Hp → Prop
abbrev St := List (Option V)
abbrev VK := V → Hp → Prop
/-- an expression's reading; a test's; an argument list's -/
abbrev TE := St → Hp → VK → Prop
abbrev TT := St → Hp → (Bool → Hp → Prop) → Prop
abbrev TA := St → Hp → (List V → Hp → Prop) → Prop
/-- what is wanted behind a statement -/
structure Ends where
  nx : St → Hp → Prop
  rt : VK
  bk : St → Hp → Prop := fun _ _ => False
  ct : St → Hp → Prop := fun _ _ => False
abbrev TS := Ends → St → Hp → Prop

def EP (X : Cx) (pins : List (Addr × Obj)) (σ : St) (Q : VK) (u : Value) (s' : Shared) : Prop := ∃ v H', Inv X pins σ H' s' ∧ RelV v u ∧ Q v H'
def TP (X : Cx) (pins : List (Addr × Obj)) (σ : St) (Q : Bool → Hp → Prop) (b : Bool) (s' : Shared) : Prop := ∃ H', Inv X pins σ H' s' ∧ Q b H'
def AP (X : Cx) (pins : List (Addr × Obj)) (σ : St) (Q : List V → Hp → Prop) (us : List Value) (s' : Shared) : Prop := ∃ vs H', Inv X pins σ H' s' ∧ Vals vs us ∧ Q vs H'
def SP (X : Cx) (pins : List (Addr × Obj)) (D : Ends) (f : Flow) (s' : Shared) : Prop :=
  match f with
  | .next => ∃ σ' H', Inv X pins σ' H' s' ∧ D.nx σ' H'
  | .brk => ∃ σ' H', Inv X pins σ' H' s' ∧ D.bk σ' H'
  | .cont => ∃ σ' H', Inv X pins σ' H' s' ∧ D.ct σ' H'
  | .ret u => ∃ v σ' H', Inv X pins σ' H' s' ∧ RelV v u ∧ D.rt v H'

def PE (X : Cx) (e : Expr) (t : TE) : Prop :=
  ∀ (pins : List (Addr × Obj)) (s : Shared) (σ : St) (H : Hp) (Q : VK), Inv X pins σ H s → t σ H Q → wpAny (model X.prog X.w) X.A (eval e X.env) (EP X pins σ Q) X.xe s
def PT (X : Cx) (e : Expr) (t : TT) : Prop :=
  ∀ (pins : List (Addr × Obj)) (s : Shared) (σ : St) (H : Hp) (Q : Bool → Hp → Prop), Inv X pins σ H s → t σ H Q → wpAny (model X.prog X.w) X.A (isTrue e X.env (eval e X.env)) (TP X pins σ Q) X.xe s
/-- a test whatever its 'whole' is (and, or) -/
def PW (X : Cx) (e : Expr) (t : TT) : Prop :=
  ∀ (whole : Sem Value) (pins : List (Addr × Obj)) (s : Shared) (σ : St) (H : Hp) (Q : Bool → Hp → Prop), Inv X pins σ H s → t σ H Q → wpAny (model X.prog X.w) X.A (isTrue e X.env whole) (TP X pins σ Q) X.xe s
theorem PW.pt {X : Cx} {e : Expr} {t : TT} (h : PW X e t) : PT X e t := h _
/-- an argument list (no star), from the left -/
def PA (X : Cx) (es : List Expr) (t : TA) : Prop :=
  ∀ (pos : Pos) (pins : List (Addr × Obj)) (s : Shared) (σ : St) (H : Hp) (Q : List V → Hp → Prop), Inv X pins σ H s → t σ H Q → wpAny (model X.prog X.w) X.A (spliced (backTo pos (starEach es X.env))) (AP X pins σ Q) X.xe s
def PS (X : Cx) (st : Stmt) (t : TS) : Prop :=
  ∀ (pins : List (Addr × Obj)) (s : Shared) (σ : St) (H : Hp) (D : Ends), Inv X pins σ H s → t D σ H → wpAny (model X.prog X.w) X.A (exec st X.env) (SP X pins D) X.xe s
def PSs (X : Cx) (st : List Stmt) (t : TS) : Prop :=
  ∀ (pins : List (Addr × Obj)) (s : Shared) (σ : St) (H : Hp) (D : Ends), Inv X pins σ H s → t D σ H → wpAny (model X.prog X.w) X.A (execs st X.env) (SP X pins D) X.xe s
/-- weaken the end -/
theorem thn {α : Type} {t : Sem α} {Q Q' : α → Shared → Prop} {M : Model} {A : Around} {E : Value → Shared → Prop} {s : Shared} (h : wpAny M A t Q E s) (hQ : ∀ a s, Q a s → Q' a s) : wpAny M A t Q' E s := wpAny_mono h hQ fun _ _ x => x
end L2

namespace L2
open PySem PySem.Spec PyProof.Rows
section
variable {X : Cx}

/-! ### names and constants -/
def tVar (i : Nat) : TE := fun σ H Q => ∃ v, σ[i]? = some (some v) ∧ Q v H
def tC (v : V) : TE := fun _ H Q => Q v H
theorem pe_var {i : Nat} {x : Str} {pos : Pos} (hN : X.N[i]? = some x) (hv : Vis X.env.scope x) (hd : (x == ("__debug__" : Str)) = false := by decide) (hcd : (x == ("__classdict__" : Str)) = false := by decide) : PE X (.Name x pos) (tVar i) := by
  intro pins s σ H Q I h
  obtain ⟨v, e, h⟩ := h
  obtain ⟨m, hn, hl⟩ := I.loc
  obtain ⟨u, r, l⟩ := hl i x v hN e hv
  have fin : EP X pins σ Q u s := ⟨v, H, I, r, h⟩
  rcases l with ⟨hk, hm⟩ | ⟨hk, c, hc, hcell⟩
  · exact wpAny_Name (wpAny_loadName_local I.ok.kind hk hn hm fin) hd
  · rcases hk with hk | hk
    · exact wpAny_Name (wpAny_loadName_cell I.ok.kind hk hc hcell fin) hd
    · exact wpAny_Name (wpAny_loadName_free I.ok.kind hk hc hcell fin hcd) hd
theorem pe_int {i j pos} : PE X (.Constant (.int i) j pos) (tC (.int i)) := fun _ _ _ H _ I h => wpAny_Constant_int ⟨.int i, H, I.tok _, ⟨_, rfl⟩, h⟩
theorem pe_bl {b j pos} : PE X (.Constant (.bool b) j pos) (tC (.bl b)) := fun _ _ _ H _ I h => Constant_bool ⟨.bl b, H, I, rfl, h⟩
theorem pe_non {j pos} : PE X (.Constant .none j pos) (tC .non) := fun _ _ _ H _ I h => Constant_none ⟨.non, H, I, rfl, h⟩
theorem pe_str {x j pos} : PE X (.Constant (.str x) j pos) (tC (.str x)) := fun _ _ _ H _ I h => Calls.Constant_str ⟨.str x, H, I.tok _, ⟨_, rfl⟩, h⟩

/-- a global name of the def -/
def Gl (X : Cx) (x : Str) : Prop := X.env.kindOf x = some .globalImplicit
theorem ld_glob {E : Value → Shared → Prop} {pins : List (Addr × Obj)} {s : Shared} {σ : St} {H : Hp} {x : Str} {u : Value} {pos : Pos} {Q : Value → Shared → Prop} (I : Inv X pins σ H s) (hg : Gl X x) (hm : X.mg x = some u) (h : Q u s)
    (hd : (x == ("__debug__" : Str)) = false := by decide) : wpAny (model X.prog X.w) X.A (eval (.Name x pos) X.env) Q E s :=
  Calls.Name_function_global I.ok.kind hg (Calls.loadGlobal_global (by rw [I.ok.glob]; exact I.mod.glob.keeps I.bk) hm h) hd
theorem ld_blt {E : Value → Shared → Prop} {pins : List (Addr × Obj)} {s : Shared} {σ : St} {H : Hp} {x : Str} {u : Value} {pos : Pos} {Q : Value → Shared → Prop} (I : Inv X pins σ H s) (hg : Gl X x) (hm : X.mg x = none) (hv : bootBuiltins x = some u) (h : Q u s)
    (hn : x ≠ "__name__" := by decide) (hd : (x == ("__debug__" : Str)) = false := by decide) : wpAny (model X.prog X.w) X.A (eval (.Name x pos) X.env) Q E s := by
  obtain ⟨mb, h1, h2⟩ := I.mod.blt
  exact Calls.Name_function_global I.ok.kind hg (Calls.loadGlobal_builtin (by rw [I.ok.glob]; exact I.mod.glob.keeps I.bk) hm (by rw [I.ok.blt]; exact h1.keeps I.bk) ((h2 x hn).trans hv) h) hd
theorem pe_bltn {x : Str} {v : V} {u : Value} {pos : Pos} (hg : Gl X x) (hm : X.mg x = none) (hv : bootBuiltins x = some u) (r : RelV v u) (hn : x ≠ "__name__" := by decide) (hd : (x == ("__debug__" : Str)) = false := by decide) : PE X (.Name x pos) (tC v) :=
  fun _ _ _ H _ I h => ld_blt I hg hm hv ⟨v, H, I, r, h⟩ hn hd

/-! ### arithmetic -/
/-- two ints -/
def t2I (ta tb : TE) (k : Int → Int → Hp → Prop) : St → Hp → Prop := fun σ H => ta σ H fun x H1 => tb σ H1 fun y H2 => ∃ i j, x = .int i ∧ y = .int j ∧ k i j H2
def tAdd (ta tb : TE) : TE := fun σ H Q => t2I ta tb (fun i j H2 => Q (.int (i + j)) H2) σ H
def tSub (ta tb : TE) : TE := fun σ H Q => t2I ta tb (fun i j H2 => Q (.int (i - j)) H2) σ H
/-- the left factor below 2^64 -/
def tMul (ta tb : TE) : TE := fun σ H Q => t2I ta tb (fun i j H2 => (-(2 ^ 64) < i ∧ i < 2 ^ 64) ∧ Q (.int (i * j)) H2) σ H
variable {a b : Expr} {ta tb : TE} {pos : Pos}
/-! ### comparisons -/
def PC (X : Cx) (op : CmpOp) (a b : Expr) (t : TE) : Prop :=
  ∀ (pins : List (Addr × Obj)) (s : Shared) (σ : St) (H : Hp) (Q : VK), Inv X pins σ H s → t σ H Q →
    wpAny (model X.prog X.w) X.A (eval a X.env) (fun v s₁ => wpAny (model X.prog X.w) X.A (eval b X.env) (fun u s₂ => wpAny (model X.prog X.w) X.A (compareOp op v u) (EP X pins σ Q) X.xe s₂) X.xe s₁) X.xe s
def tCmp (p : Int → Int → Bool) (ta tb : TE) : TE := fun σ H Q => t2I ta tb (fun i j H2 => Q (.bl (p i j)) H2) σ H
abbrev tLt : TE → TE → TE := tCmp fun i j => decide (i < j)
abbrev tLe : TE → TE → TE := tCmp fun i j => decide (i ≤ j)
abbrev tGt : TE → TE → TE := tCmp fun i j => decide (j < i)
abbrev tGe : TE → TE → TE := tCmp fun i j => decide (j ≤ i)
abbrev tEqI : TE → TE → TE := tCmp fun i j => decide (i = j)
abbrev tNeI : TE → TE → TE := tCmp fun i j => !decide (i = j)
/-- is None -/
def tIsN (ta : TE) : TE := fun σ H Q => ta σ H fun x H1 => Q (.bl (decide (x = .non))) H1
def tNotN (ta : TE) : TE := fun σ H Q => ta σ H fun x H1 => Q (.bl (!decide (x = .non))) H1
/-- a comparison as a value, as a test -/
def tB (t : TE) : TT := fun σ H Q => t σ H fun x H1 => ∃ c, x = .bl c ∧ Q c H1
/-- an expression whose value is a bool, as a test -/
theorem pt_val {e : Expr} {t : TE} (h : PE X e t) (he : ∀ whole, isTrue e X.env whole = (do let v ← whole; standAt e.pos; holding [v] (truthy v)) := by intro _; rfl) : PT X e (tB t) := by
  intro pins s σ H Q I hw
  refine isTrue_plain (thn (h pins s σ H _ I hw) fun v s1 ⟨x, H1, I1, r1, q1⟩ => ?_) (he _)
  obtain ⟨d, rfl, q⟩ := q1
  cases r1
  exact wpAny_truthy_bool ⟨H1, I1, q⟩

/-! ### and, or, not -/
variable {tA tB' : TT} {rest : List Expr}
def tAnd (t u : TT) : TT := fun σ H Q => t σ H fun c H1 => if c = true then u σ H1 Q else Q false H1
def tOr (t u : TT) : TT := fun σ H Q => t σ H fun c H1 => if c = true then Q true H1 else u σ H1 Q
def tNot (t : TT) : TT := fun σ H Q => t σ H fun c H1 => Q (!c) H1
theorem pw_or1 (ha : PT X a tA) : PW X (.BoolOp .Or [a] pos) tA := by
  intro wh pins s σ H Q I h
  refine isTrue_or (thn (ha pins s σ H Q I h) fun c s1 e => ?_)
  cases c with
  | false => exact isTrue_or_nil e
  | true => exact e
theorem pw_or (ha : PT X a tA) (hb : PW X (.BoolOp .Or (b :: rest) pos) tB') : PW X (.BoolOp .Or (a :: b :: rest) pos) (tOr tA tB') := by
  intro wh pins s σ H Q I h
  refine isTrue_or (thn (ha pins s σ H _ I h) fun c s1 ⟨H1, I1, q1⟩ => ?_)
  cases c with
  | true => exact ⟨H1, I1, q1⟩
  | false => exact hb wh pins s1 σ H1 Q I1 q1
theorem pt_not (ha : PT X a tA) : PT X (.UnaryOp .Not a pos) (tNot tA) := by
  intro pins s σ H Q I h
  exact isTrue_not (ha pins s σ H (fun c H1 => Q (!c) H1) I h)
/-- .. as values (bools) -/
def tAndV (ta tb : TE) : TE := fun σ H Q => ta σ H fun x H1 => ∃ c, x = .bl c ∧ if c = true then tb σ H1 Q else Q (.bl false) H1
def tOrV (ta tb : TE) : TE := fun σ H Q => ta σ H fun x H1 => ∃ c, x = .bl c ∧ if c = true then Q (.bl true) H1 else tb σ H1 Q
def tNotV (ta : TE) : TE := fun σ H Q => ta σ H fun x H1 => ∃ c, x = .bl c ∧ Q (.bl (!c)) H1
/-- a if t else b -/
def tIf (t : TT) (ta tb : TE) : TE := fun σ H Q => t σ H fun c H1 => if c = true then ta σ H1 Q else tb σ H1 Q
theorem pe_ifExp {c : Expr} (hc : PT X c tA) (ha : PE X a ta) (hb : PE X b tb) : PE X (.IfExp c a b pos) (tIf tA ta tb) := by
  intro pins s σ H Q I h
  refine wpAny_IfExp (thn (hc pins s σ H _ I h) fun d s1 ⟨H1, I1, q1⟩ => ?_)
  cases d with
  | true => exact ha pins s1 σ H1 Q I1 q1
  | false => exact hb pins s1 σ H1 Q I1 q1
end
end L2

namespace L2
open PySem PySem.Spec PyProof.Rows

/-! ### a list, a tuple that is read: tracked, frozen, or an object of the module -/
def SqL (K : PySem.W.Frag) (H : Hp) (a : Addr) (xs : List V) : Prop :=
  Rd H a (.lst xs) ∨
    ∃ (o : Obj) (its : Array Value) (n : Nat), K.lookup a = some o ∧ o.cls = .type "list" ∧ o.dict = none ∧ o.data = .seq its n ∧ its.size ≤ sizeLine ∧ Vals xs its.toList
def SqT (K : PySem.W.Frag) (H : Hp) (a : Addr) (xs : List V) : Prop :=
  Rd H a (.tup xs) ∨
    ∃ (o : Obj) (its : Array Value) (n : Nat), K.lookup a = some o ∧ o.cls = .type "tuple" ∧ o.data = .seq its n ∧ its.size ≤ sizeLine ∧ Vals xs its.toList
def absV : Value → Option V
  | .none => some .non
  | .bool b => some (.bl b)
  | .int i _ => some (.int i)
  | .str x _ => some (.str x)
  | .bytes b _ => some (.byt b)
  | .float b _ => some (.flt b)
  | .ref a => some (.ref a)
  | .type n => some (.ty n)
  | _ => none
theorem RelV.abs {x : V} {u : Value} (r : RelV x u) : absV u = some x := by
  cases x with
  | non => cases r; rfl
  | bl _ => cases r; rfl
  | int _ => obtain ⟨t, rfl⟩ := r; rfl
  | str _ => obtain ⟨t, rfl⟩ := r; rfl
  | byt _ => obtain ⟨t, rfl⟩ := r; rfl
  | flt _ => obtain ⟨t, rfl⟩ := r; rfl
  | ref _ => cases r; rfl
  | ty _ => cases r; rfl
theorem RelV.inj {x y : V} {u : Value} (r : RelV x u) (q : RelV y u) : x = y := Option.some.inj (r.abs.symm.trans q.abs)
theorem Vals.inj : ∀ {xs ys : List V} {us : List Value}, Vals xs us → Vals ys us → xs = ys
  | _, _, _, .nil, .nil => rfl
  | _, _, _, .cons r t, .cons r' t' => by rw [r.inj r', Vals.inj t t']
section
variable {X : Cx} {pins : List (Addr × Obj)} {σ : St} {H : Hp} {s : Shared} {a : Addr} {xs ys : List V}
theorem SqL.of {K : PySem.W.Frag} (h : H a = some (.lst xs)) : SqL K H a xs := .inl (.inl h)
theorem SqT.of {K : PySem.W.Frag} (h : H a = some (.tup xs)) : SqT K H a xs := .inl (.inl h)
theorem Inv.list (I : Inv X pins σ H s) (h : SqL X.K H a xs) : ∃ its : List Value, Vals xs its ∧ PlainL s.heap a its.toArray ∧ xs.length ≤ sizeLine := by
  rcases h with h | ⟨o, its, n, hk, hc, hd, hs, hz, r⟩
  · obtain ⟨z, its, n, r, e⟩ := h.ok I.hok
    exact ⟨its, r, ⟨_, n, e, rfl, rfl, rfl⟩, z⟩
  · refine ⟨its.toList, r, ⟨o, n, I.kIn a o hk, hc, hd, by simpa using hs⟩, ?_⟩
    have e := r.length
    simp only [Array.length_toList] at e
    omega
theorem Inv.tuple (I : Inv X pins σ H s) (h : SqT X.K H a xs) : ∃ its : List Value, Vals xs its ∧ IsTup s.heap a its.toArray ∧ xs.length ≤ sizeLine := by
  rcases h with h | ⟨o, its, n, hk, hc, hs, hz, r⟩
  · obtain ⟨z, its, r, p⟩ := h.ok I.hok
    exact ⟨its, r, p, z⟩
  · refine ⟨its.toList, r, ⟨o, I.kIn a o hk, hc, n, by simpa using hs⟩, ?_⟩
    have e := r.length
    simp only [Array.length_toList] at e
    omega
theorem Inv.list_inj (I : Inv X pins σ H s) (h : SqL X.K H a xs) (h' : SqL X.K H a ys) : xs = ys := by
  obtain ⟨its, r, ⟨o, n, e, _, _, d⟩, _⟩ := I.list h
  obtain ⟨its', r', ⟨o', n', e', _, _, d'⟩, _⟩ := I.list h'
  rw [e] at e'; cases e'
  rw [d] at d'
  injection d' with d1 _
  have : its = its' := by simpa using congrArg Array.toList d1
  subst this
  exact r.inj r'
theorem Inv.tuple_inj (I : Inv X pins σ H s) (h : SqT X.K H a xs) (h' : SqT X.K H a ys) : xs = ys := by
  obtain ⟨its, r, ⟨o, e, _, n, d⟩, _⟩ := I.tuple h
  obtain ⟨its', r', ⟨o', e', _, n', d'⟩, _⟩ := I.tuple h'
  rw [e] at e'; cases e'
  rw [d] at d'
  injection d' with d1 _
  have : its = its' := by simpa using congrArg Array.toList d1
  subst this
  exact r.inj r'
end

/-! ### another wish about exceptions -/
abbrev Cx.wish (X : Cx) (E : Value → Shared → Prop) : Cx := { X with xe := E }
/-- no exception leaves -/
abbrev Cx.nox (X : Cx) : Cx := X.wish fun _ _ => False
theorem Cx.Ok.wish {X : Cx} (ok : X.Ok) (E : Value → Shared → Prop) : (X.wish E).Ok :=
  ⟨ok.mod, ok.kind, ok.glob, ok.blt, ok.above, ok.inj, ok.has, ok.cab, ok.hd, ok.frames, ok.stk, ok.exf, ok.bs, ok.bsz, ok.noex, ok.exfs, ok.funs, ok.frf⟩
theorem Cx.Ok.unwish {X : Cx} {E : Value → Shared → Prop} (ok : (X.wish E).Ok) : X.Ok :=
  ⟨ok.mod, ok.kind, ok.glob, ok.blt, ok.above, ok.inj, ok.has, ok.cab, ok.hd, ok.frames, ok.stk, ok.exf, ok.bs, ok.bsz, ok.noex, ok.exfs, ok.funs, ok.frf⟩
section
variable {X : Cx} {pins : List (Addr × Obj)} {σ : St} {H : Hp} {s : Shared} {E : Value → Shared → Prop}
theorem Inv.wish (I : Inv X pins σ H s) (E : Value → Shared → Prop) : Inv (X.wish E) pins σ H s := ⟨I.ok.wish E, I.os, I.bare, I.base, I.loc, I.cell, I.free, I.freeC, I.pin, I.hok, I.len⟩
theorem Inv.unwish (I : Inv (X.wish E) pins σ H s) : Inv X pins σ H s := ⟨I.ok.unwish, I.os, I.bare, I.base, I.loc, I.cell, I.free, I.freeC, I.pin, I.hok, I.len⟩
theorem SP.unwish {D : Ends} {f : Flow} {s' : Shared} (h : SP (X.wish E) pins D f s') : SP X pins D f s' := by
  cases f with
  | next => obtain ⟨σ', H', I, q⟩ := h; exact ⟨σ', H', I.unwish, q⟩
  | brk => obtain ⟨σ', H', I, q⟩ := h; exact ⟨σ', H', I.unwish, q⟩
  | cont => obtain ⟨σ', H', I, q⟩ := h; exact ⟨σ', H', I.unwish, q⟩
  | ret u => obtain ⟨v, σ', H', I, r, q⟩ := h; exact ⟨v, σ', H', I.unwish, r, q⟩
theorem PSs.nox {st : List Stmt} {t : TS} (h : PSs X.nox st t) : PSs X st t := fun pins s σ H D I hw =>
  wpAny_mono (h pins s σ H D (I.wish _) hw) (fun _ _ q => q.unwish) fun _ _ z => False.elim z
end

/-! ### blocks and small statements -/
section
variable {X : Cx} {st : Stmt} {rest : List Stmt} {t u : TS} {e : Expr} {te : TE} {pos : Pos}
def tNext : TS := fun D σ H => D.nx σ H
def tSeq (t u : TS) : TS := fun D σ H => t { D with nx := u D } σ H
theorem pss_nil : PSs X [] tNext := fun _ _ σ H _ I h => wpAny_execs_nil ⟨σ, H, I, h⟩
theorem pss_cons (h1 : PS X st t) (h2 : PSs X rest u) : PSs X (st :: rest) (tSeq t u) := by
  intro pins s σ H D I h
  refine wpAny_execs_cons (thn (h1 pins s σ H { D with nx := u D } I h) fun f s1 q => ?_)
  cases f with
  | next =>
    obtain ⟨σ', H', I', q⟩ := q
    exact h2 pins s1 σ' H' D I' q
  | ret v => exact q
  | brk => exact q
  | cont => exact q
theorem pss_one (h1 : PS X st t) : PSs X [st] t := by
  intro pins s σ H D I h
  refine wpAny_execs_cons (thn (h1 pins s σ H D I h) fun f s1 q => ?_)
  cases f with
  | next => exact wpAny_execs_nil q
  | ret v => exact q
  | brk => exact q
  | cont => exact q
def tBreak : TS := fun D σ H => D.bk σ H
def tCont : TS := fun D σ H => D.ct σ H
/-- in a def's body nothing is shown -/
theorem Inv.quiet {pins : List (Addr × Obj)} {σ : St} {H : Hp} {s : Shared} (I : Inv X pins σ H s) : interactive X.env = false := by simp [interactive, I.ok.kind]
/-- an expression whose value is dropped -/
def tDrop (te : TE) : TS := fun D σ H => te σ H fun _ H1 => D.nx σ H1
theorem ps_expr (he : PE X e te) (hs : swapsWith e none pos.line X.env = pure false := by rfl) : PS X (.Expr e pos) (tDrop te) := by
  intro pins s σ H D I h
  exact wpAny_Expr_any (thn (he pins s σ H _ I h) fun v s1 ⟨x, H1, I1, r1, q1⟩ => ⟨σ, H1, I1, q1⟩) I.quiet hs
def tRet (te : TE) : TS := fun D σ H => te σ H D.rt
theorem ps_ret (he : PE X e te) : PS X (.Return (some e) pos) (tRet te) := by
  intro pins s σ H D I h
  exact wpAny_Return_some (thn (he pins s σ H _ I h) fun v s1 ⟨x, H1, I1, r1, q1⟩ => ⟨x, σ, H1, I1, r1, q1⟩)
def tRetN : TS := fun D _ H => D.rt .non H
def tIfS (c : TT) (t u : TS) : TS := fun D σ H => c σ H fun b H1 => if b = true then t D σ H1 else u D σ H1
theorem ps_if {c : Expr} {a b : List Stmt} {tc : TT} (hc : PT X c tc) (ha : PSs X a t) (hb : PSs X b u) : PS X (.If c a b pos) (tIfS tc t u) := by
  intro pins s σ H D I h
  refine wpAny_If (thn (hc pins s σ H _ I h) fun d s1 ⟨H1, I1, q1⟩ => ?_)
  cases d with
  | true => exact ha pins s1 σ H1 D I1 q1
  | false => exact hb pins s1 σ H1 D I1 q1
/-- code that the proof never comes to -/
def tNever : TS := fun _ _ _ => False
end

/-! ### targets -/
abbrev TG := V → St → Hp → (St → Hp → Prop) → Prop
abbrev TGs := List V → St → Hp → (St → Hp → Prop) → Prop
def PG (X : Cx) (target : Expr) (t : TG) : Prop :=
  ∀ (pins : List (Addr × Obj)) (s : Shared) (σ : St) (H : Hp) (v : V) (u : Value) (Q : St → Hp → Prop), Inv X pins σ H s → RelV v u → t v σ H Q →
    wpAny (model X.prog X.w) X.A (assign target X.env u) (fun _ s' => ∃ σ' H', Inv X pins σ' H' s' ∧ Q σ' H') X.xe s
/-- several targets, one after another -/
def PGs (X : Cx) (ts : List Expr) (t : TGs) : Prop :=
  ∀ (pins : List (Addr × Obj)) (s : Shared) (σ : St) (H : Hp) (vs : List V) (us : List Value) (Q : St → Hp → Prop), Inv X pins σ H s → Vals vs us → t vs σ H Q →
    wpAny (model X.prog X.w) X.A (assignInOrder ((assignEach ts X.env).map (·.2)) us) (fun _ s' => ∃ σ' H', Inv X pins σ' H' s' ∧ Q σ' H') X.xe s
/-- o[i] = v, by values -/
abbrev TSet := V → V → V → Hp → (Hp → Prop) → Prop
def PSet (X : Cx) (t : TSet) : Prop :=
  ∀ (pins : List (Addr × Obj)) (s : Shared) (σ : St) (H : Hp) (o i v : V) (ov iv u : Value) (Q : Hp → Prop), Inv X pins σ H s → RelV o ov → RelV i iv → RelV v u → t o i v H Q →
    wpAny (model X.prog X.w) X.A (setItem ov iv u) (fun _ s' => ∃ H', Inv X pins σ H' s' ∧ Q H') X.xe s
/-- a op= b, by values -/
abbrev TIp := V → V → Hp → VK → Prop
def PIp (X : Cx) (op : Operator) (t : TIp) : Prop :=
  ∀ (pins : List (Addr × Obj)) (s : Shared) (σ : St) (H : Hp) (x y : V) (v u : Value) (Q : VK), Inv X pins σ H s → RelV x v → RelV y u → t x y H Q →
    wpAny (model X.prog X.w) X.A (inplaceOp op v u) (EP X pins σ Q) X.xe s
section
variable {X : Cx} {pos : Pos}
def gName (i : Nat) : TG := fun v σ H Q => Q (σ.set i (some v)) H
theorem pg_name {i : Nat} {x : Str} (hN : X.N.Nodup) (hi : X.N[i]? = some x) (hx : Loc X.env.scope x) (hf : X.fn x = true ∨ X.env.scope.names.lookup x = some .local := by first | exact .inl rfl | exact .inr rfl | assumption) : PG X (.Name x pos) (gName i) := by
  intro pins s σ H v u Q I r h
  exact wpAny_assign_Name (store_ok I hN hi hx r (fun s' I' => ⟨_, H, I', h⟩) hf)
def gNil : TGs := fun vs σ H Q => vs = [] ∧ Q σ H
def gCons (t : TG) (u : TGs) : TGs := fun vs σ H Q => ∃ v r, vs = v :: r ∧ t v σ H fun σ' H' => u r σ' H' Q
theorem pgs_nil : PGs X [] gNil := by
  intro pins s σ H vs us Q I r h
  obtain ⟨e, h⟩ := h
  subst e
  cases r
  exact assignInOrder_nil ⟨σ, H, I, h⟩
theorem pgs_cons {e : Expr} {es : List Expr} {t : TG} {u : TGs} (h1 : PG X e t) (h2 : PGs X es u)
    (hs : (assignEach (e :: es) X.env).map (·.2) = assign e X.env :: (assignEach es X.env).map (·.2) := by rfl) : PGs X (e :: es) (gCons t u) := by
  intro pins s σ H vs us Q I r h
  obtain ⟨v, vr, e1, h⟩ := h
  subst e1
  cases r with
  | cons r rr =>
    rw [hs]
    refine assignInOrder_cons (thn (h1 pins s σ H _ _ _ I r h) fun _ s1 ⟨σ1, H1, I1, q1⟩ => ?_)
    exact h2 pins s1 σ1 H1 _ _ Q I1 rr q1
/-- (a, b, ..) = a tuple of that length -/
def gTup (K : PySem.W.Frag) (n : Nat) (t : TGs) : TG := fun v σ H Q => ∃ a xs, v = .ref a ∧ SqT K H a xs ∧ xs.length = n ∧ t xs σ H Q
theorem pg_tup {es : List Expr} {k : Nat} {t : TGs} {n : Nat} (hc : X.calm = true) (h : PGs X es t)
    (hn : (assignEach es X.env).length = n := by rfl) (hst : (assignEach es X.env).findIdx? (·.1) = none := by rfl) : PG X (.Tuple es k pos) (gTup X.K n t) := by
  intro pins s σ H v u Q I r hw
  obtain ⟨a, xs, e1, hq, hl, hw⟩ := hw
  subst e1
  cases r
  obtain ⟨its, rv, ht, hz⟩ := I.tuple hq
  refine assign_Tuple_tuple (I.ok.hd hc) ht (by simp [hn, ← hl, rv.length]) hst fun h' hx => ?_
  have I1 : Inv X pins σ H { s with heap := h' } := I.kept (t' := s.toks) fun b o e => hx b o (Nat.ne_of_lt (Heap.lt_size e)) e
  exact h pins _ σ H xs _ Q I1 (by simpa using rv) hw
/-- o[i] = .. -/
def gSub (to ti : TE) (t : TSet) : TG := fun v σ H Q => to σ H fun o H1 => ti σ H1 fun i H2 => t o i v H2 fun H3 => Q σ H3
theorem pg_sub {o i : Expr} {to ti : TE} {t : TSet} (ho : PE X o to) (hi : PE X i ti) (hs : PSet X t)
    (ha : ∀ v, assign (.Subscript o i pos) X.env v = (do
      let ov ← holding [v] (eval o X.env)
      let iv ← holding [v, ov] (eval i X.env)
      standAt pos
      holding [v, ov, iv] (setItem ov iv v)
      release [v, ov, iv] []) := by intro _; rfl) : PG X (.Subscript o i pos) (gSub to ti t) := by
  intro pins s σ H v u Q I r h
  rw [ha]
  refine wpAny_bind (wpAny_holding (thn (ho pins s σ H _ I h) fun ov s1 ⟨x, H1, I1, r1, q1⟩ => ?_))
  refine wpAny_bind (wpAny_holding (thn (hi pins s1 σ H1 _ I1 q1) fun iv s2 ⟨y, H2, I2, r2, q2⟩ => ?_))
  refine wpAny_bind (wpAny_standAt (wpAny_bind (wpAny_holding (thn (hs pins s2 σ H2 x y v ov iv u _ I2 r1 r2 r q2) fun _ s3 ⟨H3, I3, q3⟩ => ?_))))
  exact wpAny_release ⟨σ, H3, I3, q3⟩
/-- target = value -/
def tAsg (te : TE) (g : TG) : TS := fun D σ H => te σ H fun x H1 => g x σ H1 D.nx
theorem ps_asg {tg e : Expr} {te : TE} {g : TG} (he : PE X e te) (hg : PG X tg g) (hs : swapsWithSole [tg] e pos.line X.env = pure false := by rfl) (hw : swappedStores [tg] e X.env = pure none := by rfl)
    (h1 : (assignEach [tg] X.env).map (·.2) = [assign tg X.env] := by rfl) : PS X (.Assign [tg] e pos) (tAsg te g) := by
  intro pins s σ H D I h
  refine wpAny_Assign_stores (thn (he pins s σ H _ I h) fun v s1 ⟨x, H1, I1, r1, q1⟩ => ?_) hs hw
  rw [h1]
  exact thn (hg pins s1 σ H1 x v _ I1 r1 q1) fun _ s2 q => q
/-- name = value -/
theorem ps_set {i : Nat} {x : Str} {e : Expr} {te : TE} {pos' : Pos} (hN : X.N.Nodup) (hi : X.N[i]? = some x) (hx : Loc X.env.scope x) (he : PE X e te) (hs : swapsWith e (some (.Name x pos')) pos.line X.env = pure false := by rfl) (hf : X.fn x = true ∨ X.env.scope.names.lookup x = some .local := by first | exact .inl rfl | exact .inr rfl | assumption) :
    PS X (.Assign [.Name x pos'] e pos) (tAsg te (gName i)) := by
  intro pins s σ H D I h
  refine wpAny_Assign_Name (thn (he pins s σ H _ I h) fun v s1 ⟨y, H1, I1, r1, q1⟩ => ?_) hs
  exact store_ok I1 hN hi hx r1 (fun s2 I2 => ⟨_, H1, I2, q1⟩) hf
/-- a, b = x, y with plain local names: stored from the right; the pair itself is not tracked (the opening rows as in PyProof/Rows/TupAssign.lean:23) -/
def tPar (i j : Nat) (ta : TA) : TS := fun D σ H => ta σ H fun vs H1 => ∃ v w, vs = [v, w] ∧ D.nx ((σ.set i (some v)).set j (some w)) H1
/-- name op= e -/
def tAug (i : Nat) (te : TE) (ti : TIp) : TS := fun D σ H => ∃ x, σ[i]? = some (some x) ∧ te σ H fun y H1 => ti x y H1 fun z H2 => D.nx (σ.set i (some z)) H2
/-- o[i] op= e -/
def tAugS (to ti te : TE) (tget : V → V → Hp → VK → Prop) (tip : TIp) (tset : TSet) : TS := fun D σ H => to σ H fun o H1 => ti σ H1 fun i H2 => tget o i H2 fun x H3 => te σ H3 fun y H4 => tip x y H4 fun z H5 => tset o i z H5 fun H6 => D.nx σ H6
/-- o[i], by values -/
def PGet (X : Cx) (t : V → V → Hp → VK → Prop) : Prop :=
  ∀ (pins : List (Addr × Obj)) (s : Shared) (σ : St) (H : Hp) (o i : V) (ov iv : Value) (Q : VK), Inv X pins σ H s → RelV o ov → RelV i iv → t o i H Q →
    wpAny (model X.prog X.w) X.A (getItem ov iv) (EP X pins σ Q) X.xe s
/-- ints -/
def ipI (f : Int → Int → Int) : TIp := fun x y H Q => ∃ i j, x = .int i ∧ y = .int j ∧ Q (.int (f i j)) H
end

/-! ### while -/
section
variable {X : Cx} {pos : Pos}
/-- the invariant W with its measure -/
def tWhile (c : TT) (tb : TS) : TS := fun D σ H => ∃ W : Nat → St → Hp → Prop, (∃ m, W m σ H) ∧ ∀ m σ H, W m σ H →
  c σ H fun b H1 => if b = true then ∃ N : St → Hp → Prop, (∀ σ' H', N σ' H' → ∃ m', m' < m ∧ W m' σ' H') ∧ tb { D with nx := N, ct := N, bk := D.nx } σ H1 else D.nx σ H1
end

/-! ### what a loop or a comprehension walks -/
/-- at turn i: it yields x (the heap may grow), or it stops -/
structure It where
  go : Nat → Hp → Prop
  yld : Nat → Hp → V → Hp → Prop
  stop : Nat → Hp → Prop
/-- the iterator's own objects may turn: they are not the frame's, not pinned, younger than the entry (or a comprehension's own) -/
def FpOk (X : Cx) (pins : List (Addr × Obj)) (H : Hp) (b : Addr) : Prop :=
  H b = none ∧ b ≠ X.env.locals ∧ b ∉ X.fs ∧ (b ∈ X.ex ∨ X.s₀.heap.objs.size ≤ b) ∧ (∀ x c, X.env.cells.lookup x = some c → c ≠ b) ∧ ∀ p ∈ X.pn ++ pins, p.1 ≠ b
theorem Inv.fpOk {X : Cx} {pins : List (Addr × Obj)} {σ : St} {H H' : Hp} {s : Shared} {b : Addr} (I : Inv X pins σ H s) (hb : s.heap.objs.size ≤ b) (hn : H' b = none) : FpOk X pins H' b := by
  refine ⟨hn, Nat.ne_of_gt (Nat.lt_of_lt_of_le I.lt hb), I.nofs hb, .inr (Nat.le_trans I.sz hb), fun x c e z => ?_, fun p hp z => ?_⟩
  · obtain ⟨v, q⟩ := I.cell x c e
    exact absurd (Nat.lt_of_lt_of_le q.lt (by rw [z]; exact hb)) (Nat.lt_irrefl _)
  · exact absurd (Nat.lt_of_lt_of_le (Heap.lt_size (I.pin p hp).1) (by rw [z]; exact hb)) (Nat.lt_irrefl _)
structure Turn (P : Program) (w : World) (K : PySem.W.Frag) (tg : Expr) (J : It) (fp : List Addr) (it : Addr) (tn : Nat → Heap → Prop) : Prop where
  mem : it ∈ fp
  obj : ∀ i h, tn i h → ∀ b ∈ fp, ∃ o, h.get? b = some o ∧ ∀ v, o.data ≠ .cell v
  keep : ∀ i h h', tn i h → (∀ b ∈ fp, ∀ o, h.get? b = some o → h'.get? b = some o) → tn i h'
  item : ∀ (X : Cx), X.prog = P → X.w = w → X.K = K → X.calm = true → ∀ (i : Nat) (pins : List (Addr × Obj)) (s : Shared) (σ : St) (H : Hp) (E : Value → Shared → Prop), Inv X pins σ H s → (∀ b ∈ fp, FpOk X pins H b) → tn i s.heap → J.go i H →
    wpAny (model P w) X.A (pyNext (.ref it)) (fun r s1 => ∃ u, r = some u ∧
      wpAny (model P w) X.A (letOwnedTupleGo tg (.ref it) u) (fun _ s2 => ∃ x H', Inv X pins σ H' s2 ∧ RelV x u ∧ J.yld i H x H' ∧ tn (i + 1) s2.heap ∧ ∀ b ∈ fp, H' b = none) E s1) E s
  done : ∀ (X : Cx), X.prog = P → X.w = w → X.K = K → X.calm = true → ∀ (i : Nat) (pins : List (Addr × Obj)) (s : Shared) (σ : St) (H : Hp) (E : Value → Shared → Prop), Inv X pins σ H s → (∀ b ∈ fp, FpOk X pins H b) → tn i s.heap → J.stop i H →
    wpAny (model P w) X.A (pyNext (.ref it)) (fun r s1 => r = none ∧ Inv X pins σ H s1) E s
  self : ∀ (A : Around) (i : Nat) (s : Shared) (Q : Value → Shared → Prop) (E : Value → Shared → Prop), tn i s.heap → Q (.ref it) s → wpAny (model P w) A (pyIter (.ref it)) Q E s
abbrev TI := St → Hp → (It → Hp → Prop) → Prop
/-- an iterator has come -/
def PIE (X : Cx) (pins : List (Addr × Obj)) (σ : St) (tg : Expr) (R : It → Hp → Prop) (itv : Value) (s2 : Shared) : Prop :=
  ∃ (it : Addr) (fp : List Addr) (tn : Nat → Heap → Prop) (J : It) (H' : Hp), itv = .ref it ∧ Inv X pins σ H' s2 ∧ Turn X.prog X.w X.K tg J fp it tn ∧ tn 0 s2.heap ∧ (∀ b ∈ fp, FpOk X pins H' b) ∧ R J H'
def PI (X : Cx) (tg iter : Expr) (wi : TI) : Prop :=
  ∀ (pins : List (Addr × Obj)) (s : Shared) (σ : St) (H : Hp) (R : It → Hp → Prop), Inv X pins σ H s → wi σ H R →
    wpAny (model X.prog X.w) X.A (eval iter X.env) (fun v s1 => wpAny (model X.prog X.w) X.A (pyIter v) (PIE X pins σ tg R) X.xe s1) X.xe s

/-- the step ahead of the store is nothing for an iterator that keeps no tuple -/
theorem go_of {M : Model} {A : Around} {E : Value → Shared → Prop} {s : Shared} {tg : Expr} {it : Addr} {u : Value} {o : Obj} {n : String} {vs : Array Value} {Q : Unit → Shared → Prop} (ho : s.heap.get? it = some o) (hc : o.cls = .type n) (hd : o.data = .fields vs)
    (hn : ["enumerate", "zip", "dict_itemiterator", "dict_reverseitemiterator", "odict_iterator", "itertools.zip_longest", "itertools.pairwise"].contains n = false) (hQ : Q () s) : wpAny M A (letOwnedTupleGo tg (.ref it) u) Q E s := by
  unfold letOwnedTupleGo
  cases tg <;> first
    | exact wpAny_pure hQ
    | (cases u <;> first
        | exact wpAny_pure hQ
        | (refine wpAny_bind (wpAny_load ho ?_)
           rw [hc, hd]
           show wpAny M A (if (["enumerate", "zip", "dict_itemiterator", "dict_reverseitemiterator", "odict_iterator", "itertools.zip_longest", "itertools.pairwise"].contains n && vs[0]? == some (rawInt _)) = true then _ else _) Q E s
           rw [if_neg (by intro h; rw [hn, Bool.false_and] at h; cases h)]
           exact wpAny_pure hQ))

/-- the list at a, as it stands at each turn (a loop may append to it) -/
def Itl (K : PySem.W.Frag) (a : Addr) : It :=
  ⟨fun i H => ∃ xs x, SqL K H a xs ∧ xs[i]? = some x, fun i H x H' => H' = H ∧ ∀ xs, SqL K H a xs → xs[i]? = some x, fun i H => ∃ xs, SqL K H a xs ∧ xs.length ≤ i⟩
def Itt (K : PySem.W.Frag) (a : Addr) : It :=
  ⟨fun i H => ∃ xs x, SqT K H a xs ∧ xs[i]? = some x, fun i H x H' => H' = H ∧ ∀ xs, SqT K H a xs → xs[i]? = some x, fun i H => ∃ xs, SqT K H a xs ∧ xs.length ≤ i⟩
/-- lo, lo + 1, .. (n of them) -/
def Itr (lo : Int) (n : Nat) : It := ⟨fun i _ => i < n, fun i H x H' => H' = H ∧ x = .int (lo + i), fun i _ => n ≤ i⟩
theorem turn_list {P : Program} {w : World} {K : PySem.W.Frag} {tg : Expr} (a it : Addr) : Turn P w K tg (Itl K a) [it] it (fun i h => h.IsListIter it a i) where
  mem := by simp
  obj := fun i h st b hb => by
    have e : b = it := by simpa using hb
    subst e
    obtain ⟨o, e, c, d⟩ := st
    exact ⟨o, e, fun v z => by rw [d] at z; cases z⟩
  keep := fun i h h' st k => st.at fun o e => k it (by simp) o e
  item := by
    intro X hP hw hK hc i pins s σ H E I hf st hg
    subst hP hw hK
    obtain ⟨xs, x, hq, hx⟩ := hg
    obtain ⟨its, rv, p, hz⟩ := I.list hq
    obtain ⟨u, hu, ru⟩ := rv.get hx
    obtain ⟨f0, f1, f2, f3, f4, f5⟩ := hf it (by simp)
    refine wpAny_pyNext_list_item st p.isList (x := u) (by simpa using hu) fun h' st' sb => ?_
    have I1 : Inv X pins σ H { s with heap := h' } := I.turned (t' := s.toks) (fun b o hb e => (sb.2 b hb).trans e) f0 f1 f3 f4 f5
    obtain ⟨o, e, c, d⟩ := id st'
    exact ⟨u, rfl, go_of (s := { s with heap := h' }) e c d (by decide) ⟨x, H, I1, ru, ⟨rfl, fun ys hy => by rw [I.list_inj hy hq]; exact hx⟩, st', fun b hb => (hf b hb).1⟩⟩
  done := by
    intro X hP hw hK hc i pins s σ H E I hf st hg
    subst hP hw hK
    obtain ⟨xs, hq, hx⟩ := hg
    obtain ⟨its, rv, p, hz⟩ := I.list hq
    obtain ⟨f0, f1, f2, f3, f4, f5⟩ := hf it (by simp)
    have hl := rv.length
    exact wpAny_pyNext_list_end (I.ok.hd hc) st p.isList (by simp; omega) fun h' eb => ⟨rfl, I.turned (t' := s.toks) (fun b o hb e => eb b o hb e) f0 f1 f3 f4 f5⟩
  self := fun _ _ _ _ _ st h => wpAny_pyIter_listiter st h
theorem turn_tuple {P : Program} {w : World} {K : PySem.W.Frag} {tg : Expr} (a it : Addr) : Turn P w K tg (Itt K a) [it] it (fun i h => h.IsTupleIter it a i) where
  mem := by simp
  obj := fun i h st b hb => by
    have e : b = it := by simpa using hb
    subst e
    obtain ⟨o, e, c, d⟩ := st
    exact ⟨o, e, fun v z => by rw [d] at z; cases z⟩
  keep := fun i h h' st k => st.at fun o e => k it (by simp) o e
  item := by
    intro X hP hw hK hc i pins s σ H E I hf st hg
    subst hP hw hK
    obtain ⟨xs, x, hq, hx⟩ := hg
    obtain ⟨its, rv, p, hz⟩ := I.tuple hq
    obtain ⟨u, hu, ru⟩ := rv.get hx
    obtain ⟨f0, f1, f2, f3, f4, f5⟩ := hf it (by simp)
    refine wpAny_pyNext_tuple_item st (show s.heap.IsTuple a its.toArray from p) (x := u) (by simpa using hu) fun h' st' sb => ?_
    have I1 : Inv X pins σ H { s with heap := h' } := I.turned (t' := s.toks) (fun b o hb e => (sb.2 b hb).trans e) f0 f1 f3 f4 f5
    obtain ⟨o, e, c, d⟩ := id st'
    exact ⟨u, rfl, go_of (s := { s with heap := h' }) e c d (by decide) ⟨x, H, I1, ru, ⟨rfl, fun ys hy => by rw [I.tuple_inj hy hq]; exact hx⟩, st', fun b hb => (hf b hb).1⟩⟩
  done := by
    intro X hP hw hK hc i pins s σ H E I hf st hg
    subst hP hw hK
    obtain ⟨xs, hq, hx⟩ := hg
    obtain ⟨its, rv, p, hz⟩ := I.tuple hq
    obtain ⟨f0, f1, f2, f3, f4, f5⟩ := hf it (by simp)
    have hl := rv.length
    exact wpAny_pyNext_tuple_end (I.ok.hd hc) st (show s.heap.IsTuple a its.toArray from p) (by simp; omega) fun h' eb => ⟨rfl, I.turned (t' := s.toks) (fun b o hb e => eb b o hb e) f0 f1 f3 f4 f5⟩
  self := fun _ _ _ _ _ st h => wpAny_pyIter_tupleiter st h
theorem turn_range {P : Program} {w : World} {K : PySem.W.Frag} {tg : Expr} (it : Addr) (lo : Int) (n : Nat) : Turn P w K tg (Itr lo n) [it] it (fun i h => IsRangeIter h it (lo + (i : Nat) * 1) ((n : Int) - (i : Nat)) 1) where
  mem := by simp
  obj := fun i h st b hb => by
    have e : b = it := by simpa using hb
    subst e
    exact ⟨_, st, fun v z => by
      have z' : Data.fields _ = Data.cell v := z
      cases z'⟩
  keep := fun i h h' st k => k it (by simp) _ st
  item := by
    intro X hP hw hK hc i pins s σ H E I hf st hg
    subst hP hw hK
    obtain ⟨f0, f1, f2, f3, f4, f5⟩ := hf it (by simp)
    have W := Walks.range (prog := X.prog) (w := X.w) (I.ok.hd hc) it lo 1 n
    refine W.item i s _ _ hg st fun v h' tk hv st' kk => ?_
    obtain ⟨t, rfl⟩ := hv
    have I1 : Inv X pins σ H { s with heap := h', toks := tk } := I.turned (fun b o hb e => kk b o (by simpa using hb) e) f0 f1 f3 f4 f5
    refine ⟨_, rfl, go_of (s := { s with heap := h', toks := tk }) (n := "range_iterator") st' rfl rfl (by decide) ⟨.int (lo + i), H, I1, ⟨t, ?_⟩, ⟨rfl, rfl⟩, st', fun b hb => (hf b hb).1⟩⟩
    rw [Int.mul_one]
  done := by
    intro X hP hw hK hc i pins s σ H E I hf st hg
    subst hP hw hK
    obtain ⟨f0, f1, f2, f3, f4, f5⟩ := hf it (by simp)
    exact wpAny_pyNext_range_end (I.ok.hd hc) st (by have : n ≤ i := hg; omega) fun h' eb => ⟨rfl, I.turned (t' := s.toks) (fun b o hb e => eb b o hb e) f0 f1 f3 f4 f5⟩
  self := fun _ _ _ _ _ st h => wpAny_pyIter_rangeiter st h
end L2

namespace L2
open PySem PySem.Spec PyProof.Rows
section
variable {X : Cx} {tg : Expr}
def iList (K : PySem.W.Frag) (tl : TE) : TI := fun σ H R => tl σ H fun x H1 => ∃ a, x = .ref a ∧ (∃ xs, SqL K H1 a xs) ∧ R (Itl K a) H1
def iTup (K : PySem.W.Frag) (tl : TE) : TI := fun σ H R => tl σ H fun x H1 => ∃ a, x = .ref a ∧ (∃ xs, SqT K H1 a xs) ∧ R (Itt K a) H1
theorem pi_list {l : Expr} {tl : TE} (hl : PE X l tl) : PI X tg l (iList X.K tl) := by
  intro pins s σ H R I h
  refine thn (hl pins s σ H _ I h) fun v s1 ⟨x, H1, I1, r1, q1⟩ => ?_
  obtain ⟨a, e, ⟨xs, hq⟩, q⟩ := q1
  subst e
  cases r1
  obtain ⟨its, rv, p, hz⟩ := I1.list hq
  refine wpAny_pyIter_list p.isList ?_
  refine ⟨s1.heap.objs.size, [s1.heap.objs.size], _, _, H1, rfl, I1.kept (t' := s1.toks) fun b o e => Heap.get?_push_of_some _ e, turn_list a _, ⟨_, Heap.get?_push_size _ rfl, rfl, rfl⟩, fun b hb => ?_, q⟩
  have e : b = s1.heap.objs.size := by simpa using hb
  subst e
  exact I1.fpOk (Nat.le_refl _) (I1.hok.fresh (Nat.le_refl _))
theorem pi_tup {l : Expr} {tl : TE} (hl : PE X l tl) : PI X tg l (iTup X.K tl) := by
  intro pins s σ H R I h
  refine thn (hl pins s σ H _ I h) fun v s1 ⟨x, H1, I1, r1, q1⟩ => ?_
  obtain ⟨a, e, ⟨xs, hq⟩, q⟩ := q1
  subst e
  cases r1
  obtain ⟨its, rv, p, hz⟩ := I1.tuple hq
  refine wpAny_pyIter_tuple (show s1.heap.IsTuple a its.toArray from p) ?_
  refine ⟨s1.heap.objs.size, [s1.heap.objs.size], _, _, H1, rfl, I1.kept (t' := s1.toks) fun b o e => Heap.get?_push_of_some _ e, turn_tuple a _, ⟨_, Heap.get?_push_size _ rfl, rfl, rfl⟩, fun b hb => ?_, q⟩
  have e : b = s1.heap.objs.size := by simpa using hb
  subst e
  exact I1.fpOk (Nat.le_refl _) (I1.hok.fresh (Nat.le_refl _))
/-- a range object just made, walked -/
theorem range_it {pins : List (Addr × Obj)} {σ : St} {H : Hp} {s : Shared} {R : It → Hp → Prop} {E : Value → Shared → Prop} {lo hi : Int} {t u v : Tok} {tk : Nat} (I : Inv X pins σ H s) (h1 : -(2 ^ 62) ≤ lo) (h2 : lo < 2 ^ 62) (h3 : -(2 ^ 62) ≤ hi) (h4 : hi < 2 ^ 62)
    (q : R (Itr lo (hi - lo).toNat) H) : wpAny (model X.prog X.w) X.A (pyIter (.ref s.heap.objs.size)) (PIE X pins σ tg R) E { s with heap := s.heap.push { cls := .type "range", data := .fields #[.int lo t, .int hi u, .int 1 v] }, toks := tk } := by
  refine wpAny_pyIter_range (IsRange.new ..) (small_one h1 h2 h3 h4) ?_
  have I1 : Inv X pins σ H { s with heap := s.heap.push { cls := .type "range", data := .fields #[.int lo t, .int hi u, .int 1 v] }, toks := tk } := I.kept fun b o e => Heap.get?_push_of_some _ e
  refine ⟨(s.heap.push { cls := .type "range", data := .fields #[.int lo t, .int hi u, .int 1 v] }).objs.size, [(s.heap.push { cls := .type "range", data := .fields #[.int lo t, .int hi u, .int 1 v] }).objs.size], _, _, H, rfl,
    I1.kept (t' := tk) fun b o e => Heap.get?_push_of_some _ e, turn_range _ lo (hi - lo).toNat, ?_, fun b hb => ?_, q⟩
  · have e1 : lo + ((0 : Nat) : Int) * 1 = lo := by simp
    have e2 : (((hi - lo).toNat : Nat) : Int) - ((0 : Nat) : Int) = Builtin.Range.rangeSize lo hi 1 := by rw [rangeSize_one]; split <;> omega
    show IsRangeIter _ _ (lo + ((0 : Nat) : Int) * 1) ((((hi - lo).toNat : Nat) : Int) - ((0 : Nat) : Int)) 1
    rw [e1, e2]
    exact Heap.get?_push_size _ rfl
  · have e : b = (s.heap.push { cls := .type "range", data := .fields #[.int lo t, .int hi u, .int 1 v] }).objs.size := by simpa using hb
    subst e
    exact I1.fpOk (Nat.le_refl _) (I1.hok.fresh (Nat.le_refl _))
def iRng1 (ta : TA) : TI := fun σ H R => ta σ H fun vs H1 => ∃ j : Int, vs = [.int j] ∧ -(2 ^ 62) ≤ j ∧ j < 2 ^ 62 ∧ R (Itr 0 j.toNat) H1
def iRng2 (ta : TA) : TI := fun σ H R => ta σ H fun vs H1 => ∃ i j : Int, vs = [.int i, .int j] ∧ (-(2 ^ 62) ≤ i ∧ i < 2 ^ 62 ∧ -(2 ^ 62) ≤ j ∧ j < 2 ^ 62) ∧ R (Itr i (j - i).toNat) H1
theorem pi_range1 {a : Expr} {ta : TA} {p pos : Pos} (hg : Gl X "range") (hm : X.mg "range" = none) (ha : PA X [a] ta) (hs : starEach [a] X.env = [(false, eval a X.env)] := by rfl) : PI X tg (.Call (.Name "range" p) [a] [] pos) (iRng1 ta) := by
  intro pins s σ H R I h
  refine Call_ (ld_blt I hg hm boot_range (PyProof.Rows.callWith_type1 (thn (ha pos pins s σ H _ I h) fun us s1 ⟨vs, H1, I1, r1, q1⟩ => ?_) hs rfl))
  obtain ⟨j, e, q1, q2, q⟩ := q1
  subst e
  cases r1 with
  | cons r rr =>
    cases rr
    obtain ⟨t, rfl⟩ := r
    exact call_range_1 (range_it I1 (by omega) (by omega) q1 q2 (by simpa using q))
/-! ### for -/
/-- W: the invariant by the turn and a measure; N: what the body is to reach -/
def tFor (wi : TI) (g : TG) (tb : TS) : TS := fun D σ H => wi σ H fun J H1 => ∃ W : Nat → Nat → St → Hp → Prop, (∃ m, W 0 m σ H1) ∧ ∀ i m σ H, W i m σ H →
  (J.stop i H ∧ D.nx σ H) ∨ (J.go i H ∧ ∃ N : St → Hp → Prop, (∀ σ' H', N σ' H' → ∃ m', m' < m ∧ W (i + 1) m' σ' H') ∧ ∀ x H', J.yld i H x H' → g x σ H' fun σ2 H2 => tb { D with nx := N, ct := N, bk := D.nx } σ2 H2)
/-- the records at fp as they stand -/
def pinsAt (fp : List Addr) (h : Heap) : List (Addr × Obj) := fp.filterMap fun b => (h.get? b).map fun o => (b, o)
theorem mem_pinsAt {fp : List Addr} {h : Heap} {b : Addr} {o : Obj} (hb : b ∈ fp) (e : h.get? b = some o) : (b, o) ∈ pinsAt fp h := List.mem_filterMap.mpr ⟨b, hb, by rw [e]; rfl⟩
theorem of_pinsAt {fp : List Addr} {h : Heap} {p : Addr × Obj} (hp : p ∈ pinsAt fp h) : p.1 ∈ fp ∧ h.get? p.1 = some p.2 := by
  obtain ⟨b, hb, e⟩ := List.mem_filterMap.mp hp
  cases q : h.get? b with
  | none => rw [q] at e; cases e
  | some o =>
    rw [q] at e
    have e' : (b, o) = p := Option.some.inj e
    subst e'
    exact ⟨hb, q⟩
theorem Inv.pinned {pins : List (Addr × Obj)} {σ : St} {H : Hp} {s : Shared} {fp : List Addr} (I : Inv X pins σ H s) (hf : ∀ b ∈ fp, FpOk X pins H b) (ho : ∀ b ∈ fp, ∃ o, s.heap.get? b = some o ∧ ∀ v, o.data ≠ .cell v) : Inv X (pins ++ pinsAt fp s.heap) σ H s :=
  I.pins_of fun p hp => (List.mem_append.mp hp).elim (fun z => I.pin p (List.mem_append_right _ z)) fun z => by
    obtain ⟨hb, e⟩ := of_pinsAt z
    obtain ⟨f0, f1, f2, _⟩ := hf p.1 hb
    obtain ⟨o, e', d⟩ := ho p.1 hb
    rw [e] at e'; cases e'
    exact ⟨e, f0, f1, f2, d⟩
theorem Inv.unpinned {pins pl : List (Addr × Obj)} {σ : St} {H : Hp} {s : Shared} (I : Inv X (pins ++ pl) σ H s) : Inv X pins σ H s := I.pins_of fun p hp => I.pin p (List.mem_append_right _ (List.mem_append_left _ hp))
theorem ps_for {iter : Expr} {body : List Stmt} {wi : TI} {g : TG} {tb : TS} {pos : Pos} (hp : PassesOwn (model X.prog X.w) X.A X.env X.xe) (hc : X.calm = true) (hi : PI X tg iter wi) (hg : PG X tg g) (hb : PSs X body tb)
    (hs : ∀ x, foldedSetIterable iter X.env x = pure x := by intro _; rfl) : PS X (.For tg iter body [] pos) (tFor wi g tb) := by
  intro pins s σ H D I h
  refine wpAny_For (thn (hi pins s σ H _ I h) fun v s1 h1 => thn h1 fun itv s2 h2 => ?_) hs
  obtain ⟨it, fp, tn, J, H2, e, I2, T, st2, f2, W, ⟨m0, w0⟩, turn⟩ := h2
  subst e
  -- what stays true of the iterator's objects through the loop
  have stat : ∀ {H' : Hp}, (∀ b ∈ fp, H' b = none) → ∀ b ∈ fp, FpOk X pins H' b := fun hn b hb => ⟨hn b hb, (f2 b hb).2⟩
  refine codeAny_forLoop_any (fun n s' => ∃ i σ' H', Inv X pins σ' H' s' ∧ tn i s'.heap ∧ (∀ b ∈ fp, H' b = none) ∧ W i n σ' H') ?_ m0 ⟨0, σ, H2, I2, st2, fun b hb => (f2 b hb).1, w0⟩
  rintro n s3 ⟨i, σ3, H3, I3, st3, fr3, w3⟩
  rcases turn i n σ3 H3 w3 with ⟨stop, qn⟩ | ⟨go, N, hN, step⟩
  · refine wpAny_passesOwn hp (thn (T.done X rfl rfl rfl hc i pins s3 σ3 H3 X.xe I3 (stat fr3) st3 stop) fun r s4 ⟨hr, I4⟩ => ?_)
    subst hr
    exact wpAny_execs_nil ⟨σ3, H3, I4, qn⟩
  · refine wpAny_passesOwn hp (thn (T.item X rfl rfl rfl hc i pins s3 σ3 H3 X.xe I3 (stat fr3) st3 go) fun r s4 ⟨u, hr, h4⟩ => ?_)
    subst hr
    refine wpAny_passesOwn hp (thn h4 fun _ s5 ⟨x, H5, I5, r5, y5, st5, fr5⟩ => ?_)
    have I5' := I5.pinned (stat fr5) (T.obj _ _ st5)
    refine wpAny_passesOwn hp (thn (hg _ s5 σ3 H5 x u _ I5' r5 (step x H5 y5)) fun _ s6 ⟨σ6, H6, I6, q6⟩ => ?_)
    refine wpAny_passesOwn hp (thn (hb _ s6 σ6 H6 _ I6 q6) fun f s7 q7 => ?_)
    have again : ∀ {σ7 : St} {H7 : Hp}, Inv X (pins ++ pinsAt fp s5.heap) σ7 H7 s7 → N σ7 H7 → ∃ m, m < n ∧ ∃ i σ' H', Inv X pins σ' H' s7 ∧ tn i s7.heap ∧ (∀ b ∈ fp, H' b = none) ∧ W i m σ' H' := fun {σ7 H7} I7 n7 => by
      obtain ⟨m', hm, w7⟩ := hN σ7 H7 n7
      refine ⟨m', hm, i + 1, σ7, H7, I7.unpinned, T.keep _ _ _ st5 fun b hb o e => (I7.pin (b, o) (List.mem_append_right _ (List.mem_append_right _ (mem_pinsAt hb e)))).1, fun b hb => ?_, w7⟩
      obtain ⟨o, e, d⟩ := T.obj _ _ st5 b hb
      exact (I7.pin (b, o) (List.mem_append_right _ (List.mem_append_right _ (mem_pinsAt hb e)))).2.1
    cases f with
    | next => obtain ⟨σ7, H7, I7, n7⟩ := q7; exact again I7 n7
    | cont => obtain ⟨σ7, H7, I7, n7⟩ := q7; exact again I7 n7
    | brk => obtain ⟨σ7, H7, I7, q7⟩ := q7; exact ⟨σ7, H7, I7.unpinned, q7⟩
    | ret v => obtain ⟨x7, σ7, H7, I7, r7, q7⟩ := q7; exact ⟨x7, σ7, H7, I7.unpinned, r7, q7⟩
end

/-! ### the forms one uses -/
end L2

namespace L2
open PySem PySem.Spec PyProof.Rows

abbrev R2 := V → V → Hp → VK → Prop
/-- a two-place operation on values: f is binaryOp op, inplaceOp op or compareOp op -/
def OpR (X : Cx) (f : Value → Value → Sem Value) (r : R2) : Prop :=
  ∀ (pins : List (Addr × Obj)) (s : Shared) (σ : St) (H : Hp) (x y : V) (v u : Value) (Q : VK), Inv X pins σ H s → RelV x v → RelV y u → r x y H Q →
    wpAny (model X.prog X.w) X.A (f v u) (EP X pins σ Q) X.xe s
/-- a one-place operation -/
def UnR (X : Cx) (f : Value → Sem Value) (r : V → Hp → VK → Prop) : Prop :=
  ∀ (pins : List (Addr × Obj)) (s : Shared) (σ : St) (H : Hp) (x : V) (v : Value) (Q : VK), Inv X pins σ H s → RelV x v → r x H Q →
    wpAny (model X.prog X.w) X.A (f v) (EP X pins σ Q) X.xe s
/-- a call of a value that is known (a builtin, a type) with values -/
def CallR (X : Cx) (f : Value) (r : List V → Hp → VK → Prop) : Prop :=
  ∀ (pins : List (Addr × Obj)) (s : Shared) (σ : St) (H : Hp) (xs : List V) (us : List Value) (Q : VK), Inv X pins σ H s → Vals xs us → r xs H Q →
    wpAny (model X.prog X.w) X.A (call f us) (EP X pins σ Q) X.xe s
/-- a value's truth -/
def TruR (X : Cx) (r : V → Hp → (Bool → Hp → Prop) → Prop) : Prop :=
  ∀ (pins : List (Addr × Obj)) (s : Shared) (σ : St) (H : Hp) (x : V) (v : Value) (Q : Bool → Hp → Prop), Inv X pins σ H s → RelV x v → r x H Q →
    wpAny (model X.prog X.w) X.A (truthy v) (TP X pins σ Q) X.xe s

def tOp (r : R2) (ta tb : TE) : TE := fun σ H Q => ta σ H fun x H1 => tb σ H1 fun y H2 => r x y H2 Q
def tUn (r : V → Hp → VK → Prop) (ta : TE) : TE := fun σ H Q => ta σ H fun x H1 => r x H1 Q
/-- ints in, under C, and a value out -/
def rI (C : Int → Int → Prop) (g : Int → Int → V) : R2 := fun x y H Q => ∃ i j, x = .int i ∧ y = .int j ∧ C i j ∧ Q (g i j) H
def rI0 (g : Int → Int → V) : R2 := fun x y H Q => ∃ i j, x = .int i ∧ y = .int j ∧ Q (g i j) H
def rU (g : Int → V) : V → Hp → VK → Prop := fun x H Q => ∃ i, x = .int i ∧ Q (g i) H

section
variable {X : Cx} {a b c : Expr} {ta tb tc : TE} {pos : Pos}

theorem binT (ha : PE X a ta) (hb : PE X b tb) {pins : List (Addr × Obj)} {s : Shared} {σ : St} {H : Hp} {R : V → V → Hp → Prop} (I : Inv X pins σ H s)
    (h : ta σ H fun x H1 => tb σ H1 fun y H2 => R x y H2) {Q : Value → Shared → Prop} {f : Value → Value → Sem Value}
    (hf : ∀ v u s2 x y H2, Inv X pins σ H2 s2 → RelV x v → RelV y u → R x y H2 → wpAny (model X.prog X.w) X.A (f v u) Q X.xe s2) :
    wpAny (model X.prog X.w) X.A (eval a X.env) (fun v s₁ => wpAny (model X.prog X.w) X.A (eval b X.env) (fun u s₂ => wpAny (model X.prog X.w) X.A (f v u) Q X.xe s₂) X.xe s₁) X.xe s := by
  refine thn (ha pins s σ H _ I h) fun v s1 ⟨x, H1, I1, r1, q1⟩ => ?_
  refine thn (hb pins s1 σ H1 _ I1 q1) fun u s2 ⟨y, H2, I2, r2, q2⟩ => ?_
  exact hf v u s2 x y H2 I2 r1 r2 q2

theorem pe_op {op : Operator} {r : R2} (ho : OpR X (binaryOp op) r) (ha : PE X a ta) (hb : PE X b tb) : PE X (.BinOp a op b pos) (tOp r ta tb) := by
  intro pins s σ H Q I h
  exact wpAny_BinOp (binT ha hb I h fun v u s2 x y H2 I2 rx ry q => ho pins s2 σ H2 x y v u Q I2 rx ry q)
/-! ### ints -/
theorem opI {f : Value → Value → Sem Value} {C : Int → Int → Prop} {g : Int → Int → Int}
    (rule : ∀ (i j : Int) (t u : Tok) (s : Shared) (Q : Value → Shared → Prop) (E : Value → Shared → Prop), C i j → Q (.int (g i j) s.toks) { s with toks := s.toks + 1 } → wpAny (model X.prog X.w) X.A (f (.int i t) (.int j u)) Q E s) :
    OpR X f (rI C fun i j => .int (g i j)) := by
  intro pins s σ H x y v u Q I rx ry h
  obtain ⟨i, j, rfl, rfl, hc, q⟩ := h
  obtain ⟨t, rfl⟩ := rx
  obtain ⟨t', rfl⟩ := ry
  exact rule i j t t' s _ _ hc ⟨.int (g i j), H, I.tok _, ⟨_, rfl⟩, q⟩
theorem opI0 {f : Value → Value → Sem Value} {g : Int → Int → Int}
    (rule : ∀ (i j : Int) (t u : Tok) (s : Shared) (Q : Value → Shared → Prop) (E : Value → Shared → Prop), Q (.int (g i j) s.toks) { s with toks := s.toks + 1 } → wpAny (model X.prog X.w) X.A (f (.int i t) (.int j u)) Q E s) :
    OpR X f (rI0 fun i j => .int (g i j)) := by
  intro pins s σ H x y v u Q I rx ry h
  obtain ⟨i, j, rfl, rfl, q⟩ := h
  obtain ⟨t, rfl⟩ := rx
  obtain ⟨t', rfl⟩ := ry
  exact rule i j t t' s _ _ ⟨.int (g i j), H, I.tok _, ⟨_, rfl⟩, q⟩
theorem opB0 {f : Value → Value → Sem Value} {g : Int → Int → Bool}
    (rule : ∀ (i j : Int) (t u : Tok) (s : Shared) (Q : Value → Shared → Prop) (E : Value → Shared → Prop), Q (.bool (g i j)) s → wpAny (model X.prog X.w) X.A (f (.int i t) (.int j u)) Q E s) :
    OpR X f (rI0 fun i j => .bl (g i j)) := by
  intro pins s σ H x y v u Q I rx ry h
  obtain ⟨i, j, rfl, rfl, q⟩ := h
  obtain ⟨t, rfl⟩ := rx
  obtain ⟨t', rfl⟩ := ry
  exact rule i j t t' s _ _ ⟨.bl (g i j), H, I, rfl, q⟩

def CDiv (i j : Int) : Prop := 0 < j ∧ j < 1073741824
def CDivN (i j : Int) : Prop := j ≠ 0 ∧ j.natAbs < 1073741824
def CPow (i j : Int) : Prop := 0 ≤ j ∧ j ≤ 1000000 ∧ i.natAbs < 2 ^ 64
def CMul (i j : Int) : Prop := (-(2 ^ 64) < i ∧ i < 2 ^ 64) ∨ (-(2 ^ 64) < j ∧ j < 2 ^ 64)
theorem CMul.ok {i j : Int} (h : CMul i j) : IntMulOk i j := by
  rcases h with ⟨h1, h2⟩ | ⟨h1, h2⟩
  · exact .of_left (intBits_le_64 h1 h2)
  · exact .of_right (intBits_le_64 h1 h2)
theorem op_add : OpR X (binaryOp .Add) (rI0 fun i j => .int (i + j)) := opI0 fun _ _ _ _ _ _ _ q => add_int q
theorem op_mul : OpR X (binaryOp .Mult) (rI CMul fun i j => .int (i * j)) := opI fun _ _ _ _ _ _ _ hc q => mul_int q hc.ok
/-- // by a positive divisor -/
theorem op_fdiv : OpR X (binaryOp .FloorDiv) (rI CDiv fun i j => .int (i / j)) := opI fun i j _ _ _ _ _ hc q => by
  have h1 : (0 : Int) < j := hc.1
  have h2 : j < 1073741824 := hc.2
  exact floordiv_int (by omega) (by rw [Int.fdiv_eq_ediv_of_nonneg i (by omega)]; exact q) (.inl (PyProof.noPylong_small (by omega)))
/-- % by a positive divisor of any size -/
theorem op_mod : OpR X (binaryOp .Mod) (rI (fun _ j => 0 < j) fun i j => .int (i % j)) := opI fun i j _ _ _ _ _ hc q => by
  have h1 : (0 : Int) < j := hc
  exact mod_int' (by omega) (by rw [Int.fmod_eq_emod_of_nonneg i (by omega)]; exact q)
theorem op_pow : OpR X (binaryOp .Pow) (rI CPow fun i j => .int (i ^ j.toNat)) := opI fun _ _ _ _ _ _ _ hc q => pow_int_small hc.1 hc.2.1 hc.2.2 q
/-! ### bools among ints: n += (a < b) -/
end

/-! ### comparisons -/
/-- the scalars that == tells apart as data does -/
def scal : V → V → Bool
  | .non, .non => true | .non, .int _ => true | .int _, .non => true | .non, .bl _ => true | .bl _, .non => true | .non, .str _ => true | .str _, .non => true
  | .int _, .int _ => true | .bl _, .bl _ => true | .str _, .str _ => true | .byt _, .byt _ => true
  | .int _, .str _ => true | .str _, .int _ => true | .bl _, .str _ => true | .str _, .bl _ => true
  | _, _ => false
def rEq : R2 := fun x y H Q => scal x y = true ∧ Q (.bl (decide (x = y))) H
def rNe : R2 := fun x y H Q => scal x y = true ∧ Q (.bl (!decide (x = y))) H

theorem dec_int {i j : Int} : decide (V.int i = V.int j) = (i == j) := by
  rw [Bool.eq_iff_iff]
  simp
theorem dec_bl {i j : Bool} : decide (V.bl i = V.bl j) = (i == j) := by
  rw [Bool.eq_iff_iff]
  simp
theorem dec_str {i j : Str} : decide (V.str i = V.str j) = (i == j) := by
  rw [Bool.eq_iff_iff]
  simp
theorem dec_byt {i j : Array UInt8} : decide (V.byt i = V.byt j) = (i.toList == j.toList) := by
  rw [Bool.eq_iff_iff]
  cases i
  cases j
  simp

section
variable {X : Cx} {a b c : Expr} {ta tb tc : TE} {pos : Pos}
theorem fin_bl {pins : List (Addr × Obj)} {σ : St} {H : Hp} {s : Shared} {Q : VK} {k k' : Bool} (I : Inv X pins σ H s) (q : Q (.bl k) H) (e : k = k') : EP X pins σ Q (.bool k') s := by
  subst e
  exact ⟨.bl k, H, I, rfl, q⟩
theorem op_eq : OpR X (compareOp .Eq) rEq := by
  intro pins s σ H x y v u Q I rx ry h
  obtain ⟨hs, q⟩ := h
  cases x with
  | non =>
    cases rx
    cases y with
    | non => cases ry; exact PySem.EqNone.eq_none_none (fin_bl I q (by simp))
    | bl j => cases ry; exact PySem.EqNone.eq_none_bool (fin_bl I q (by simp))
    | int j => obtain ⟨t', rfl⟩ := ry; exact PySem.EqNone.eq_none_int (fin_bl I q (by simp))
    | str j => obtain ⟨t', rfl⟩ := ry; exact PySem.EqNone.eq_none_str (fin_bl I q (by simp))
    | _ => exact absurd (show false = true from hs) Bool.false_ne_true
  | bl i =>
    cases rx
    cases y with
    | non => cases ry; exact PySem.EqNone.eq_bool_none (fin_bl I q (by simp))
    | bl j => cases ry; exact eq_bool (fin_bl I q dec_bl)
    | str j => obtain ⟨t', rfl⟩ := ry; exact PySem.EqMixed.eq_bool_str (fin_bl I q (by simp))
    | _ => exact absurd (show false = true from hs) Bool.false_ne_true
  | int i =>
    obtain ⟨t, rfl⟩ := rx
    cases y with
    | non => cases ry; exact PySem.EqNone.eq_int_none (fin_bl I q (by simp))
    | int j => obtain ⟨t', rfl⟩ := ry; exact eq_int (fin_bl I q dec_int)
    | str j => obtain ⟨t', rfl⟩ := ry; exact PySem.EqMixed.eq_int_str (fin_bl I q (by simp))
    | _ => exact absurd (show false = true from hs) Bool.false_ne_true
  | str i =>
    obtain ⟨t, rfl⟩ := rx
    cases y with
    | non => cases ry; exact PySem.EqNone.eq_str_none (fin_bl I q (by simp))
    | bl j => cases ry; exact PySem.EqMixed.eq_str_bool (fin_bl I q (by simp))
    | int j => obtain ⟨t', rfl⟩ := ry; exact PySem.EqMixed.eq_str_int (fin_bl I q (by simp))
    | str j => obtain ⟨t', rfl⟩ := ry; exact eq_str (fin_bl I q dec_str)
    | _ => exact absurd (show false = true from hs) Bool.false_ne_true
  | byt i =>
    obtain ⟨t, rfl⟩ := rx
    cases y with
    | byt j => obtain ⟨t', rfl⟩ := ry; exact PySem.W.eq_bytes (fin_bl I q dec_byt)
    | _ => exact absurd (show false = true from hs) Bool.false_ne_true
  | _ => cases y <;> exact absurd (show false = true from hs) Bool.false_ne_true
theorem op_ne : OpR X (compareOp .NotEq) rNe := by
  intro pins s σ H x y v u Q I rx ry h
  obtain ⟨hs, q⟩ := h
  cases x with
  | non =>
    cases rx
    cases y with
    | non => cases ry; exact PySem.EqNone.ne_none_none (fin_bl I q (by simp))
    | bl j => cases ry; exact PySem.EqNone.ne_none_bool (fin_bl I q (by simp))
    | int j => obtain ⟨t', rfl⟩ := ry; exact PySem.EqNone.ne_none_int (fin_bl I q (by simp))
    | str j => obtain ⟨t', rfl⟩ := ry; exact PySem.EqNone.ne_none_str (fin_bl I q (by simp))
    | _ => exact absurd (show false = true from hs) Bool.false_ne_true
  | bl i =>
    cases rx
    cases y with
    | non => cases ry; exact PySem.EqNone.ne_bool_none (fin_bl I q (by simp))
    | bl j => cases ry; exact ne_bool (fin_bl I q (congrArg not dec_bl))
    | str j => obtain ⟨t', rfl⟩ := ry; exact PySem.EqMixed.ne_bool_str (fin_bl I q (by simp))
    | _ => exact absurd (show false = true from hs) Bool.false_ne_true
  | int i =>
    obtain ⟨t, rfl⟩ := rx
    cases y with
    | non => cases ry; exact PySem.EqNone.ne_int_none (fin_bl I q (by simp))
    | int j => obtain ⟨t', rfl⟩ := ry; exact ne_int (fin_bl I q (congrArg not dec_int))
    | str j => obtain ⟨t', rfl⟩ := ry; exact PySem.EqMixed.ne_int_str (fin_bl I q (by simp))
    | _ => exact absurd (show false = true from hs) Bool.false_ne_true
  | str i =>
    obtain ⟨t, rfl⟩ := rx
    cases y with
    | non => cases ry; exact PySem.EqNone.ne_str_none (fin_bl I q (by simp))
    | bl j => cases ry; exact PySem.EqMixed.ne_str_bool (fin_bl I q (by simp))
    | int j => obtain ⟨t', rfl⟩ := ry; exact PySem.EqMixed.ne_str_int (fin_bl I q (by simp))
    | str j => obtain ⟨t', rfl⟩ := ry; exact ne_str (fin_bl I q (congrArg not dec_str))
    | _ => exact absurd (show false = true from hs) Bool.false_ne_true
  | byt i =>
    obtain ⟨t, rfl⟩ := rx
    cases y with
    | byt j => obtain ⟨t', rfl⟩ := ry; exact PySem.W.ne_bytes (fin_bl I q (congrArg not dec_byt))
    | _ => exact absurd (show false = true from hs) Bool.false_ne_true
  | _ => cases y <;> exact absurd (show false = true from hs) Bool.false_ne_true

theorem op_gt : OpR X (compareOp .Gt) (rI0 fun i j => .bl (decide (j < i))) := opB0 fun _ _ _ _ _ _ _ q => gt_int q
theorem op_ge : OpR X (compareOp .GtE) (rI0 fun i j => .bl (decide (j ≤ i))) := opB0 fun _ _ _ _ _ _ _ q => ge_int q
/-- is None, is not None: the right side a value none -/
theorem op_isN : OpR X (compareOp .Is) (fun x y H Q => y = .non ∧ Q (.bl (decide (x = .non))) H) := by
  intro pins s σ H x y v u Q I rx ry h
  obtain ⟨rfl, q⟩ := h
  cases ry
  refine is_none_gen (fin_bl I q ?_)
  cases x <;> first
    | (cases rx; rfl)
    | (obtain ⟨t, rfl⟩ := rx; rfl)
theorem op_notN : OpR X (compareOp .IsNot) (fun x y H Q => y = .non ∧ Q (.bl (!decide (x = .non))) H) := by
  intro pins s σ H x y v u Q I rx ry h
  obtain ⟨rfl, q⟩ := h
  cases ry
  refine isnot_none_gen (fin_bl I q ?_)
  cases x <;> first
    | (cases rx; rfl)
    | (obtain ⟨t, rfl⟩ := rx; rfl)

/-- is, is not of two objects that are tracked lists or instances -/
def isObj : HO → Bool
  | .lst _ => true
  | .ins _ _ _ => true
  | _ => false
theorem nomark (b : Expr) {op : CmpOp} (h : op ≠ .In := by decide) (h2 : op ≠ .NotIn := by decide) : behindInMarks op b = false := by
  have e1 : (op == CmpOp.In) = false := by cases op <;> first | rfl | exact absurd rfl h
  have e2 : (op == CmpOp.NotIn) = false := by cases op <;> first | rfl | exact absurd rfl h2
  cases b <;> simp [behindInMarks, e1, e2]
/-- a comparison as a value; hm: nomark b, or (for in, not in) by with_unfolding_all rfl -/
theorem pe_cmpR {op : CmpOp} {r : R2} (ho : OpR X (compareOp op) r) (ha : PE X a ta) (hb : PE X b tb) (hm : behindInMarks op b = false) : PE X (.Compare a [op] [b] pos) (tOp r ta tb) := by
  intro pins s σ H Q I h
  exact wpAny_Compare1 (binT ha hb I h fun v u s2 x y H2 I2 rx ry q => ho pins s2 σ H2 x y v u Q I2 rx ry q) hm
/-- a reading of a value as a test -/
def tTest (t : TE) : TT := fun σ H Q => t σ H fun x H' => ∃ k, x = .bl k ∧ Q k H'
theorem pt_cmpR {op : CmpOp} {r : R2} (ho : OpR X (compareOp op) r) (ha : PE X a ta) (hb : PE X b tb) (hm : behindInMarks op b = false) : PT X (.Compare a [op] [b] pos) (tTest (tOp r ta tb)) := by
  intro pins s σ H Q I h
  refine wpAny_isTrue_Compare1 (thn (ha pins s σ H _ I h) fun v s1 ⟨x, H1, I1, r1, q1⟩ => thn (hb pins s1 σ H1 _ I1 q1) fun u s2 ⟨y, H2, I2, r2, q2⟩ =>
    thn (ho pins s2 σ H2 x y v u _ I2 r1 r2 q2) fun c s3 ⟨z, H3, I3, r3, k, e, q3⟩ => ?_) hm
  subst e
  cases r3
  exact wpAny_truthy_bool ⟨H3, I3, q3⟩
/-- a op1 b op2 c -/
def tChain (r r' : R2) (ta tb tc : TE) : TE := fun σ H Q => ta σ H fun x H1 => tb σ H1 fun y H2 => r x y H2 fun z H3 => ∃ k, z = .bl k ∧
  (if k = true then tc σ H3 fun w' H4 => r' y w' H4 Q else Q (.bl false) H3)
/-! ### truth -/
/-- a value's truth by the abstract heap -/
def TruV (K : PySem.W.Frag) (x : V) (H : Hp) (k : Bool) : Prop :=
  match x with
  | .non => k = false
  | .bl b => k = b
  | .int i => k = (i != 0)
  | .str y => y.length ≤ sizeLine ∧ k = ((y.length : Int) != 0)
  | .byt y => y.size ≤ sizeLine ∧ k = ((y.size : Int) != 0)
  | .ref p => (∃ xs, SqL K H p xs ∧ k = !xs.isEmpty) ∨ (∃ xs, SqT K H p xs ∧ k = !xs.isEmpty) ∨ ∃ kvs, H p = some (.dK kvs) ∧ k = !kvs.isEmpty
  | _ => False
theorem line63 : (sizeLine : Nat) < 2 ^ 63 := by rw [sizeLine_eq]; decide
/-! ### strs and bytes -/
theorem op_add_str : OpR X (binaryOp .Add) (fun x y H Q => ∃ i j, x = .str i ∧ y = .str j ∧ i.length + j.length ≤ sizeLine ∧ Q (.str (i ++ j)) H) := by
  intro pins s σ H x y v u Q I rx ry h
  obtain ⟨i, j, rfl, rfl, hz, q⟩ := h
  obtain ⟨t, rfl⟩ := rx
  obtain ⟨t', rfl⟩ := ry
  exact add_str (fun t' tk => ⟨.str (i ++ j), H, I.tok _, ⟨_, rfl⟩, q⟩) hz
def PlainIxT (b : Expr) : Prop := ∀ o i, subscripted b false o i = operate [o, i] (getItem o i)
/-! ### scalar builtins, by CallR -/
theorem vals1 {x : V} {us : List Value} (r : Vals [x] us) : ∃ u, us = [u] ∧ RelV x u := by
  cases r with
  | cons r1 r2 => cases r2; exact ⟨_, rfl, r1⟩
theorem vals2 {x y : V} {us : List Value} (r : Vals [x, y] us) : ∃ u w', us = [u, w'] ∧ RelV x u ∧ RelV y w' := by
  cases r with
  | cons r1 r2 =>
    cases r2 with
    | cons r3 r4 => cases r4; exact ⟨_, _, rfl, r1, r3⟩
theorem call_int1 : CallR X (.type "int") (fun xs H Q => (∃ i, xs = [.int i] ∧ Q (.int i) H) ∨ ∃ k, xs = [.bl k] ∧ Q (.int (if k then 1 else 0)) H) := by
  intro pins s σ H xs us Q I r h
  rcases h with ⟨i, rfl, q⟩ | ⟨k, rfl, q⟩
  · obtain ⟨u, rfl, t, rfl⟩ := vals1 r
    exact call_int_int ⟨.int i, H, I, ⟨_, rfl⟩, q⟩
  · obtain ⟨u, rfl, r1⟩ := vals1 r
    cases r1
    exact call_int_bool ⟨.int (if k then 1 else 0), H, I.tok _, ⟨_, rfl⟩, q⟩
/-- len of a str, a bytes, a list, a tuple -/
def LenV (K : PySem.W.Frag) (x : V) (H : Hp) (n : Nat) : Prop :=
  match x with
  | .str y => y.length ≤ sizeLine ∧ n = y.length
  | .byt y => y.size ≤ sizeLine ∧ n = y.size
  | .ref p => (∃ xs, SqL K H p xs ∧ n = xs.length) ∨ ∃ xs, SqT K H p xs ∧ n = xs.length
  | _ => False
end
end L2

namespace L2
open PySem PySem.Spec PyProof.Rows

/-! ### an instance, its attributes a map -/
structure ObjM (h : Heap) (x dx C : Addr) (mA : Str → Option Value) : Prop where
  obj : h.get? x = some (PySem.W.instObj C dx)
  ns : h.Ns1 dx mA
  ne : dx ≠ x

theorem lookIn_ns {h : Heap} {dx : Addr} {mA : Str → Option Value} (n : h.Ns1 dx mA) : ∃ od, h.get? dx = some od ∧ ∀ name, PySem.W.lookIn name od = some (mA name) := by
  obtain ⟨o, es, ep, ho, hd, hk, _, hm⟩ := n
  refine ⟨o, ho, fun name => ?_⟩
  have e := hm name
  unfold nsFind findBy at e
  rw [← Array.find?_toList] at e
  unfold PySem.W.lookIn
  rw [hd]
  dsimp only
  split
  · rename_i y q
    rw [q] at e
    exact congrArg some e
  · rename_i q
    rw [q] at e
    have a : es.toList.any (·.refKey) = false := by
      rw [List.any_eq_false]
      intro y hy
      obtain ⟨z, t, hkey⟩ := hk y (Array.mem_toList_iff.mp hy)
      simp [DictEntry.refKey, hkey]
    have a' : ¬ es.toList.any (·.refKey) = true := by rw [a]; exact Bool.false_ne_true
    rw [if_neg a']
    exact congrArg some e

theorem ObjM.look {h : Heap} {x dx C : Addr} {mA : Str → Option Value} (I : ObjM h x dx C mA) : ∃ od, PySem.W.InstAt h x (PySem.W.instObj C dx) C (some od) ∧ ∀ name, PySem.W.lookIn name od = some (mA name) :=
  let ⟨od, ho, hl⟩ := lookIn_ns I.ns
  ⟨od, ⟨I.obj, rfl, rfl, ho⟩, hl⟩

section
variable {prog : Program} {w : World} {A : Around} {E : Value → Shared → Prop} {s : Shared} {K : PySem.W.Frag} {x dx C f : Addr} {mA : Str → Option Value} {name : Str} {v : Value}

theorem get_map {expr : Bool} {Q : Value → Shared → Prop} (X : K.In s.heap) (I : ObjM s.heap x dx C mA) (hg : PySem.W.plainGet K C name = true) (hh : PySem.W.hasDictIn K C = true)
    (ha : PySem.W.findIn K (.ref C) name = some none) (hv : mA name = some v) (hv' : PySem.W.handedIn v = true) (h : Q v { s with toks := s.toks + 1 }) :
    wpAny (model prog w) A (getAttr (.ref x) name expr) Q E s := by
  obtain ⟨od, J, hl⟩ := I.look
  exact PySem.W.get_value X J (PySem.W.plainGet_of hg).1 (PySem.W.findObj_own hh ha rfl (by rw [hl, hv])) hv' h

theorem get_meth {pl : Sem Bool} {Q : Value × List Value → Shared → Prop} (X : K.In s.heap) (I : ObjM s.heap x dx C mA) (hg : PySem.W.plainGet K C name = true)
    (hf : PySem.W.findIn K (.ref C) name = some (some (.ref f))) (ht : PySem.W.isFn K (.ref f) = true) (hv : mA name = none) (h : Q (.ref f, [.ref x]) s) :
    wpAny (model prog w) A (getMethod (.ref x) name pl) Q E s := by
  obtain ⟨od, J, hl⟩ := I.look
  exact PySem.W.method_fn X J (PySem.W.plainGet_of hg).1 (PySem.W.plainGet_of hg).2 hf (beq_iff_eq.mp ht) (by show (PySem.W.lookIn name od).map (·.isSome) = some false; rw [hl, hv]; rfl) h

theorem set_map {ns : List Str} {Q : Unit → Shared → Prop} (X : K.In s.heap) (I : ObjM s.heap x dx C mA)
    (hs : PySem.W.findIn K (.ref C) "__setattr__" = some (some (.builtin "object.__setattr__"))) (hp : PySem.W.plainOver K C = true) (ht : PySem.W.takerIn K C name = some none) (hh : PySem.W.hasDictIn K C = true)
    (hw : PySem.Within mA ns) (hsz : ns.length ≤ sizeLine)
    (h : ∀ h', ObjM h' x dx C (fun y => if y = name then some v else mA y) → Heap.SameBut dx s.heap h' → Q () { s with heap := h', toks := s.toks + 2 }) :
    wpAny (model prog w) A (setAttr (.ref x) name v) Q E s := by
  obtain ⟨od, J, hl⟩ := I.look
  refine PySem.W.set_plain X J hs (PySem.W.osa_open (s := { s with toks := s.toks + 1 }) (r := none) X J hp ht fun b => ?_)
  obtain ⟨cd, hc, hd'⟩ := PySem.W.any_some hh
  have hx : s.heap.get? x = some ⟨.ref C, some dx, .plain, #[]⟩ := I.obj
  refine wpAny_bind (wpAny_pure (wpAny_bind (wpAny_bind (wpAny_loadPart hx (wpAny_bind (PySem.W.Looks.here (s := { s with toks := s.toks + 1 }) (PySem.W.looks_clsIn X hc) ?_))))))
  rw [hd']
  refine wpAny_pure (a := some dx) (wpAny_bind (wpAny_pure (wpAny_bind ?_)))
  refine wpAny_nsSet1 (s := { s with toks := s.toks + 1 }) I.ns fun h' hn2 hs2 => ?_
  obtain ⟨oD, esD, epD, hoD, hdD, hcD⟩ := hn2.count (PySem.Within.cons name v hw)
  refine wpAny_bind (wpAny_lookBehind hoD (by rw [hdD]; exact pastItsLine_dict (Nat.le_trans hcD (by rw [List.length_cons]; omega))) ?_)
  exact wpAny_pure (h _ ⟨(hs2.2 _ (Ne.symm I.ne)).trans I.obj, hn2, I.ne⟩ hs2)

/-- C(..): the dict at the heap's end, the instance behind it; then its __init__ -/
theorem make_map {R : Result → Shared → Prop} {vs : List Value} {kw : List (Str × Value)} (X : K.In s.heap) (hm : PySem.W.makesIn K C = true)
    (hi : PySem.W.findIn K (.ref C) "__init__" = some (some (.ref f))) (hf : PySem.W.typeIn K (.ref f) = some (.type "function"))
    (h : codeAny (model prog w) (A.under (.builtin "type.__call__" ⟨.ref C :: vs, kw⟩)) (.call (.ref f) ⟨.ref (s.heap.objs.size + 1) :: vs, kw⟩) (PySem.W.InitBack (s.heap.objs.size + 1) R)
      { s with heap := (s.heap.push PySem.W.emptyDict).push (PySem.W.instObj C s.heap.objs.size) }) :
    codeAny (model prog w) A (.call (.ref C) ⟨vs, kw⟩) R s := by
  obtain ⟨hh, g, d, t, os⟩ := s
  exact PySem.W.make_core (PySem.W.makes_of X hm) (PySem.W.looks_findIn X hi) (fun self => PySem.W.bind_fn X self hf) (.inl rfl) h
end

/-! ### the attributes as a list of pairs -/
def putF (f : Str) (v : V) : List (Str × V) → List (Str × V)
  | [] => [(f, v)]
  | (g, x) :: r => if g = f then (g, v) :: r else (g, x) :: putF f v r
theorem lookup_putF (f g : Str) (v : V) : ∀ fs : List (Str × V), (putF f v fs).lookup g = if g = f then some v else fs.lookup g
  | [] => by
    show List.lookup g [(f, v)] = _
    by_cases h : g = f
    · have hb : (g == f) = true := beq_iff_eq.mpr h
      simp only [List.lookup, hb, if_pos h]
    · have hb : (g == f) = false := beq_eq_false_iff_ne.mpr h
      simp only [List.lookup, hb, if_neg h]
  | (k, x) :: r => by
    have ih := lookup_putF f g v r
    rw [show putF f v ((k, x) :: r) = (if k = f then (k, v) :: r else (k, x) :: putF f v r) from rfl]
    by_cases hk : k = f
    · rw [if_pos hk]
      by_cases h : g = k
      · have hb : (g == k) = true := beq_iff_eq.mpr h
        simp only [List.lookup, hb, if_pos (h.trans hk)]
      · have hb : (g == k) = false := beq_eq_false_iff_ne.mpr h
        simp only [List.lookup, hb, if_neg (fun e : g = f => h (e.trans hk.symm))]
    · rw [if_neg hk]
      by_cases h : g = k
      · have hb : (g == k) = true := beq_iff_eq.mpr h
        simp only [List.lookup, hb, if_neg (fun e : g = f => hk (h.symm.trans e))]
      · have hb : (g == k) = false := beq_eq_false_iff_ne.mpr h
        simp only [List.lookup, hb]
        exact ih
theorem keys_putF (f : Str) (v : V) : ∀ fs : List (Str × V), f ∈ (putF f v fs).map (·.1) ∧ ∀ g, g ∈ fs.map (·.1) → g ∈ (putF f v fs).map (·.1)
  | [] => ⟨by simp [putF], fun g h => by simp at h⟩
  | (k, x) :: r => by
    obtain ⟨i1, i2⟩ := keys_putF f v r
    rw [show putF f v ((k, x) :: r) = (if k = f then (k, v) :: r else (k, x) :: putF f v r) from rfl]
    by_cases hk : k = f
    · rw [if_pos hk]
      subst hk
      exact ⟨by simp, fun g h => by simpa using h⟩
    · rw [if_neg hk]
      refine ⟨?_, fun g h => ?_⟩
      · rw [List.map_cons]
        exact List.mem_cons_of_mem _ i1
      · rw [List.map_cons] at h ⊢
        rcases List.mem_cons.mp h with e | e
        · exact List.mem_cons.mpr (.inl e)
        · exact List.mem_cons_of_mem _ (i2 g e)
theorem length_putF (f : Str) (v : V) : ∀ fs : List (Str × V), (putF f v fs).length ≤ fs.length + 1
  | [] => by simp [putF]
  | (k, x) :: r => by
    have ih := length_putF f v r
    rw [show putF f v ((k, x) :: r) = (if k = f then (k, v) :: r else (k, x) :: putF f v r) from rfl]
    by_cases hk : k = f
    · rw [if_pos hk, List.length_cons, List.length_cons]; omega
    · rw [if_neg hk, List.length_cons, List.length_cons]; omega

theorem RelO.some_of {v : V} {o : Option Value} (r : RelO (some v) o) : ∃ u, o = some u ∧ RelV v u := by
  cases o with
  | none => exact (show False from r).elim
  | some u => exact ⟨u, rfl, r⟩
theorem RelO.none_of {o : Option Value} (r : RelO none o) : o = none := by
  cases o with
  | none => rfl
  | some u => exact (show False from r).elim
theorem handed_of {v : V} {u : Value} (r : RelV v u) : PySem.W.handedIn u = true := by
  cases v with
  | non => cases (show u = Value.none from r); rfl
  | bl b => cases (show u = Value.bool b from r); rfl
  | int i => obtain ⟨t, e⟩ := (show ∃ t, u = Value.int i t from r); cases e; rfl
  | str x => obtain ⟨t, e⟩ := (show ∃ t, u = Value.str x t from r); cases e; rfl
  | byt b => obtain ⟨t, e⟩ := (show ∃ t, u = Value.bytes b t from r); cases e; rfl
  | flt b => obtain ⟨t, e⟩ := (show ∃ t, u = Value.float b t from r); cases e; rfl
  | ref a => cases (show u = Value.ref a from r); rfl
  | ty n => cases (show u = Value.type n from r); rfl

section
variable {P : Program} {w : World} {H H' : Hp} {h h' : Heap} {a C dx : Addr} {fs fs' : List (Str × V)}
theorem ins_get (hok : HOk P w H h) (e : H a = some (.ins C dx fs)) : ∃ mA, ObjM h a dx C mA ∧ (∀ f, RelO (fs.lookup f) (mA f)) ∧ PySem.Within mA (fs.map (·.1)) ∧ fs.length ≤ 1000 ∧ H dx = some (.own a) := by
  obtain ⟨d, z, ne, ob, mA, n, r, q⟩ := (show ObjOk P w H h a (.ins C dx fs) from hok a _ e)
  exact ⟨mA, ⟨ob, n, ne⟩, r, q, z, d⟩
end

/-! ### what of the text a class must have -/
structure Cls (K : PySem.W.Frag) (C : Addr) : Prop where
  pg : PySem.W.plainGet K C Str.empty = true
  hd : PySem.W.hasDictIn K C = true
  po : PySem.W.plainOver K C = true
  sa : PySem.W.findIn K (.ref C) "__setattr__" = some (some (.builtin "object.__setattr__"))
theorem Cls.get {K : PySem.W.Frag} {C : Addr} (c : Cls K C) (f : Str) : PySem.W.plainGet K C f = true := c.pg
/-- no class of it has the name -/
def NoAttr (K : PySem.W.Frag) (C : Addr) (f : Str) : Prop := PySem.W.findIn K (.ref C) f = some none
theorem NoAttr.taker {K : PySem.W.Frag} {C : Addr} {f : Str} (n : NoAttr K C f) : PySem.W.takerIn K C f = some none := by
  unfold PySem.W.takerIn
  rw [show PySem.W.findIn K (.ref C) f = some none from n]
  rfl
/-- a constant of the class -/
structure Con (K : PySem.W.Frag) (C : Addr) (f : Str) (v : V) (u : Value) : Prop where
  at_ : PySem.W.findIn K (.ref C) f = some (some u)
  rel : RelV v u
  get : PySem.W.specialIn K u "__get__" = some none
  cp : PySem.W.copiedNames.contains f = false
/-- a method: a plain def of the class or of one above it -/
structure Meth (K : PySem.W.Frag) (C : Addr) (m : Str) (f : Addr) : Prop where
  at_ : PySem.W.findIn K (.ref C) m = some (some (.ref f))
  fn : PySem.W.isFn K (.ref f) = true
  kp : PySem.W.keepIn K (.ref f) = true

section
variable {X : Cx} {pins : List (Addr × Obj)} {σ : St} {H : Hp} {s : Shared} {a C dx : Addr} {fs : List (Str × V)} {f : Str} {v : V} {A : Around} {E : Value → Shared → Prop}

theorem getattr_ok {b : Bool} {Q : Value → Shared → Prop} (I : Inv X pins σ H s) (e : H a = some (.ins C dx fs)) (c : Cls X.K C) (n : NoAttr X.K C f) (l : fs.lookup f = some v)
    (h : ∀ u s', Inv X pins σ H s' → RelV v u → Q u s') : wpAny (model X.prog X.w) A (getAttr (.ref a) f b) Q E s := by
  obtain ⟨mA, O, r, _, _, _⟩ := ins_get I.hok e
  obtain ⟨u, hu, ru⟩ := RelO.some_of (v := v) (o := mA f) (by rw [← l]; exact r f)
  exact get_map I.kIn O (c.get f) c.hd n hu (handed_of ru) (h u _ (I.tok _) ru)

theorem getmeth_ok {m : Str} {g : Addr} {pl : Sem Bool} {Q : Value × List Value → Shared → Prop} (I : Inv X pins σ H s) (e : H a = some (.ins C dx fs)) (c : Cls X.K C) (k : Meth X.K C m g) (l : fs.lookup m = none)
    (h : Q (.ref g, [.ref a]) s) : wpAny (model X.prog X.w) A (getMethod (.ref a) m pl) Q E s := by
  obtain ⟨mA, O, r, _, _, _⟩ := ins_get I.hok e
  have hn : mA m = none := RelO.none_of (by rw [← l]; exact r m)
  exact get_meth I.kIn O (c.get m) k.at_ k.fn hn h

theorem setattr_ok {y : V} {u : Value} {Q : Unit → Shared → Prop} (I : Inv X pins σ H s) (e : H a = some (.ins C dx fs)) (c : Cls X.K C) (n : NoAttr X.K C f) (hl : fs.length < 1000) (ry : RelV y u)
    (h : ∀ s', Inv X pins σ (upd H a (.ins C dx (putF f y fs))) s' → Q () s') : wpAny (model X.prog X.w) A (setAttr (.ref a) f u) Q E s := by
  obtain ⟨mA, O, r, wi, _, ho⟩ := ins_get I.hok e
  have hz : (fs.map (·.1)).length ≤ sizeLine := by rw [List.length_map, sizeLine_eq]; omega
  refine set_map I.kIn O c.sa c.po n.taker c.hd wi hz fun h' O' sb => h _ ?_
  have hd : ∃ o, h'.get? dx = some o := let ⟨o, _, _, e', _⟩ := O'.ns; ⟨o, e'⟩
  refine I.write (x := a) (e := dx) (by rw [e]; exact True.intro) (.inr ho) (fun b q hb z => (sb.2 b hb).trans z) hd ?_
  refine ⟨by rw [upd_ne O.ne]; exact ho, ?_, O.ne, O'.obj, _, O'.ns, fun g => ?_, fun g hg => ?_⟩
  · have := length_putF f y fs; omega
  · show RelO ((putF f y fs).lookup g) (if g = f then some u else mA g)
    rw [lookup_putF]
    by_cases q : g = f
    · rw [if_pos q, if_pos q]; exact ry
    · rw [if_neg q, if_neg q]; exact r g
  · by_cases q : g = f
    · rw [q]; exact (keys_putF f y fs).1
    · refine (keys_putF f y fs).2 g (wi g fun z => hg ?_)
      show (if g = f then some u else mA g) = none
      rw [if_neg q]; exact z

/-- a new instance, tracked, without attributes -/
theorem Inv.made (I : Inv X pins σ H s) : Inv X pins σ (upd (upd H s.heap.objs.size (.own (s.heap.objs.size + 1))) (s.heap.objs.size + 1) (.ins C s.heap.objs.size []))
    { s with heap := (s.heap.push PySem.W.emptyDict).push (PySem.W.instObj C s.heap.objs.size) } := by
  have e1 : (s.heap.push PySem.W.emptyDict).get? s.heap.objs.size = some PySem.W.emptyDict := Heap.get?_push_size s.heap rfl
  have e2 : ((s.heap.push PySem.W.emptyDict).push (PySem.W.instObj C s.heap.objs.size)).get? (s.heap.objs.size + 1) = some (PySem.W.instObj C s.heap.objs.size) := by
    have := Heap.get?_push_size (s.heap.push PySem.W.emptyDict) (o := PySem.W.instObj C s.heap.objs.size) rfl
    rwa [Heap.size_push] at this
  have e3 : (s.heap.push PySem.W.emptyDict).Ns s.heap.objs.size (fun _ => none) := ⟨PySem.W.emptyDict, #[], _, e1, rfl, (fun e he => absurd he (by simp)), fun _ => rfl⟩
  have I1 := I.laid (a := s.heap.objs.size) (o := .own (s.heap.objs.size + 1)) (h' := s.heap.push PySem.W.emptyDict) (t' := s.toks) (fun b u q => Heap.get?_push_of_some _ q) (Nat.le_refl _) ⟨_, e1⟩
  refine I1.laid (a := s.heap.objs.size + 1) (o := .ins C s.heap.objs.size []) (t' := s.toks) (fun b u q => Heap.get?_push_of_some _ q) (Nat.le_of_eq (Heap.size_push _ _)) ?_
  have ne : s.heap.objs.size ≠ s.heap.objs.size + 1 := Nat.ne_of_lt (Nat.lt_succ_self _)
  refine ⟨by rw [upd_ne ne, upd_same], Nat.zero_le _, ne, e2, fun _ => none, (Heap.Ns1.of_empty e3).at fun o q => Heap.get?_push_of_some _ q, fun _ => True.intro, fun y hy => absurd rfl hy⟩

/-- e.f where nothing but the object is asked: through attributeBase (super) and the last hold -/
theorem attr_of {prog : Program} {w : World} {env : Env} {e : Expr} {f : Str} {pos : Pos} {s : Shared} {Q : Value → Shared → Prop} (hb : attributeBase e f env (eval e env) = eval e env)
    (h : wpAny (model prog w) A (eval e env) (fun o s₁ => wpAny (model prog w) A (getAttr o f true) Q E s₁) E s) : wpAny (model prog w) A (eval (.Attribute e f pos) env) Q E s :=
  Attribute_any_ h (by rw [arm_eval_Attribute, hb])
end

/-! ### readings and rules -/
/-- e.f, an attribute of the instance -/
def tFld (K : PySem.W.Frag) (ta : TE) (f : Str) : TE := fun σ H Q => ta σ H fun x H1 => ∃ a C dx fs v, x = .ref a ∧ H1 a = some (.ins C dx fs) ∧ Cls K C ∧ NoAttr K C f ∧ fs.lookup f = some v ∧ Q v H1
/-- e.f, a constant of the class -/
def tCon (K : PySem.W.Frag) (ta : TE) (f : Str) : TE := fun σ H Q => ta σ H fun x H1 => ∃ a C dx fs v u, x = .ref a ∧ H1 a = some (.ins C dx fs) ∧ Cls K C ∧ Con K C f v u ∧ fs.lookup f = none ∧ Q v H1
/-- e.f = value -/
def sFld (K : PySem.W.Frag) (ta tv : TE) (f : Str) : TS := fun D σ H => tv σ H fun y H1 => ta σ H1 fun x H2 => ∃ a C dx fs, x = .ref a ∧ H2 a = some (.ins C dx fs) ∧ Cls K C ∧ NoAttr K C f ∧ fs.length < 1000 ∧
  D.nx σ (upd H2 a (.ins C dx (putF f y fs)))
/-- an augmented operator on two values -/
def InOp (X : Cx) (op : Operator) (rd : V → V → Hp → VK → Prop) : Prop :=
  ∀ (pins : List (Addr × Obj)) (s : Shared) (σ : St) (H : Hp) (x y : V) (u v : Value) (Q : VK), Inv X pins σ H s → RelV x u → RelV y v → rd x y H Q → wpAny (model X.prog X.w) X.A (inplaceOp op u v) (EP X pins σ Q) X.xe s
/-- e.f op= value -/
def sFldAug (K : PySem.W.Frag) (ta tv : TE) (rd : V → V → Hp → VK → Prop) (f : Str) : TS := fun D σ H => ta σ H fun x H1 => ∃ a C dx fs v, x = .ref a ∧ H1 a = some (.ins C dx fs) ∧ Cls K C ∧ NoAttr K C f ∧ fs.lookup f = some v ∧
  tv σ H1 fun y H2 => rd v y H2 fun z H3 => ∃ dx' fs', H3 a = some (.ins C dx' fs') ∧ fs'.length < 1000 ∧ D.nx σ (upd H3 a (.ins C dx' (putF f z fs')))

section
variable {X : Cx} {o e value : Expr} {f : Str} {pos pos' tpos : Pos} {ta tv : TE}
theorem pe_fld (he : PE X e ta) (hb : attributeBase e f X.env (eval e X.env) = eval e X.env) : PE X (.Attribute e f pos) (tFld X.K ta f) := by
  intro pins s σ H Q I h
  refine attr_of hb (thn (he pins s σ H _ I h) fun u s1 ⟨x, H1, I1, rx, a, C, dx, fs, v, ex, ea, c, n, l, q⟩ => ?_)
  subst ex
  obtain rfl : u = Value.ref a := rx
  exact getattr_ok I1 ea c n l fun u' s2 I2 ru => ⟨v, H1, I2, ru, q⟩
theorem ps_fld (ha : PE X o ta) (hv : PE X value tv) (hs : swapsWith value (some (.Attribute o f pos')) pos.line X.env = pure false) : PS X (.Assign [.Attribute o f pos'] value pos) (sFld X.K ta tv f) := by
  intro pins s σ H D I h
  refine plainObj_wpAny_Assign_Attribute (thn (hv pins s σ H _ I h) fun u s1 ⟨y, H1, I1, ry, q⟩ => thn (ha pins s1 σ H1 _ I1 q) fun ov s2 ⟨x, H2, I2, rx, a, C, dx, fs, ex, ea, c, n, l, q2⟩ => ?_) hs
  subst ex
  obtain rfl : ov = Value.ref a := rx
  exact setattr_ok I2 ea c n l ry fun s3 I3 => ⟨σ, _, I3, q2⟩
def rAdd : V → V → Hp → VK → Prop := fun x y H Q => ∃ i j, x = .int i ∧ y = .int j ∧ Q (.int (i + j)) H
def rSub : V → V → Hp → VK → Prop := fun x y H Q => ∃ i j, x = .int i ∧ y = .int j ∧ Q (.int (i - j)) H
end

/-! ### isinstance -/
section
variable {X : Cx} {pins : List (Addr × Obj)} {σ : St} {H : Hp} {s : Shared} {A : Around} {E : Value → Shared → Prop} {Q : Value → Shared → Prop} {c : Value} {b : Bool}
/-- the type of a value, as the fragment's deciders take it; for an instance its class -/
inductive TyOf (K : PySem.W.Frag) (H : Hp) : V → Value → Prop where
  | non : TyOf K H .non (.type "NoneType")
  | bl (x : Bool) : TyOf K H (.bl x) (.type "bool")
  | int (i : Int) : TyOf K H (.int i) (.type "int")
  | str (x : Str) : TyOf K H (.str x) (.type "str")
  | flt (x : UInt64) : TyOf K H (.flt x) (.type "float")
  | lst {a : Addr} {xs : List V} (e : H a = some (.lst xs)) : TyOf K H (.ref a) (.type "list")
  | frz {a : Addr} {o : Obj} {xs : List V} (e : H a = some (.frz o (.lst xs))) : TyOf K H (.ref a) (.type "list")
  | tup {a : Addr} {xs : List V} (e : H a = some (.tup xs)) : TyOf K H (.ref a) (.type "tuple")
  | dK {a : Addr} {kvs : List (Key × V)} (e : H a = some (.dK kvs)) : TyOf K H (.ref a) (.type "dict")
  | dT {a : Addr} {kvs : List (List Key × V)} (e : H a = some (.dT kvs)) : TyOf K H (.ref a) (.type "dict")
  | ins {a C dx : Addr} {fs : List (Str × V)} (e : H a = some (.ins C dx fs)) (cl : Cls K C) (ha : PySem.W.findIn K (.ref C) "__class__" = some (some (.builtin "object.__class__")))
      (hn : PySem.W.specialIn K (.builtin "object.__class__") "__get__" = some (some (.builtin "getset_descriptor.__get__"))) (htk : PySem.W.takesIn K (.builtin "object.__class__") = some true)
      (hm : PySem.W.mroIn K C (.type "object") = some true) : TyOf K H (.ref a) (.ref C)
/-- isinstance(x, c) for one class c, a built-in or an own one: kitOne's answer -/
theorem isinst_ok {x : V} {u t : Value} (I : Inv X pins σ H s) (rx : RelV x u) (ty : TyOf X.K H x t) (e : PySem.W.kitOne X.K t c = some b) (h : ∀ tk, Q (.bool b) { s with toks := tk }) :
    wpAny (model X.prog X.w) A (call (.builtin "isinstance") [u, c]) Q E s := by
  cases ty with
  | non => cases (show u = Value.none from rx); exact PySem.W.kia_one PySem.W.kitx_none I.kIn True.intro e (fun z => nomatch z) h
  | bl y => cases (show u = Value.bool y from rx); exact PySem.W.kia_one PySem.W.kitx_bool I.kIn True.intro e (fun z => nomatch z) h
  | int i => obtain ⟨t, q⟩ := (show ∃ t, u = Value.int i t from rx); cases q; exact PySem.W.kia_one PySem.W.kitx_int I.kIn True.intro e (fun z => nomatch z) h
  | str y => obtain ⟨t, q⟩ := (show ∃ t, u = Value.str y t from rx); cases q; exact PySem.W.kia_one PySem.W.kitx_str I.kIn True.intro e (fun z => nomatch z) h
  | flt y => obtain ⟨t, q⟩ := (show ∃ t, u = Value.float y t from rx); cases q; exact PySem.W.kia_one PySem.W.kitx_float I.kIn True.intro e (fun z => nomatch z) h
  | @lst a xs ea =>
    cases (show u = Value.ref a from rx)
    obtain ⟨_, _, n, _, h1⟩ := (show ObjOk X.prog X.w H s.heap a (.lst xs) from I.hok a _ ea)
    exact PySem.W.kia_one PySem.W.kitx_list I.kIn ⟨_, h1, rfl⟩ e (fun z => nomatch z) h
  | @frz a ob xs ea =>
    cases (show u = Value.ref a from rx)
    obtain ⟨_, _, _, n, _, h1⟩ := (show ObjOk X.prog X.w H s.heap a (.frz ob (.lst xs)) from I.hok a _ ea)
    exact PySem.W.kia_one PySem.W.kitx_list I.kIn ⟨_, h1, rfl⟩ e (fun z => nomatch z) h
  | @tup a xs ea =>
    cases (show u = Value.ref a from rx)
    obtain ⟨_, _, _, p⟩ := (show ObjOk X.prog X.w H s.heap a (.tup xs) from I.hok a _ ea)
    obtain ⟨o, h1, h2, _⟩ := p
    exact PySem.W.kia_one PySem.W.kitx_tuple I.kIn ⟨o, h1, h2⟩ e (fun z => nomatch z) h
  | @dK a kvs ea =>
    cases (show u = Value.ref a from rx)
    obtain ⟨_, _, vs, _, p⟩ := (show ObjOk X.prog X.w H s.heap a (.dK kvs) from I.hok a _ ea)
    obtain ⟨o, es, ep, h1, h2, _⟩ := p
    exact PySem.W.kia_one PySem.W.kitx_dict I.kIn ⟨o, h1, h2.1⟩ e (fun z => nomatch z) h
  | @dT a kvs ea =>
    cases (show u = Value.ref a from rx)
    obtain ⟨_, _, xs, _, o, es, ep, h1, h2, _⟩ := (show ObjOk X.prog X.w H s.heap a (.dT kvs) from I.hok a _ ea)
    exact PySem.W.kia_one PySem.W.kitx_dict I.kIn ⟨o, h1, h2.1⟩ e (fun z => nomatch z) h
  | @ins a C dx fs ea cl ha hn htk hm =>
    cases (show u = Value.ref a from rx)
    obtain ⟨mA, O, _⟩ := ins_get I.hok ea
    obtain ⟨od, J, _⟩ := O.look
    exact PySem.W.kia_one (PySem.W.kitx_own (cl.get _) cl.hd ha hn htk hm) I.kIn J e (fun z => nomatch z) h
end
end L2

namespace L2
open PySem PySem.Spec PyProof.Rows

/-! ### room -/
structure Room (k : Nat) (A : Around) : Prop where
  hd : A.handled = none
  dp : A.depth + 3 * k + 5 < recursionLimit
  un : A.units + 16 * k + 200 < cLine
theorem Room.mono {j k : Nat} {A : Around} (r : Room k A) (h : j ≤ k) : Room j A := ⟨r.hd, by have := r.dp; omega, by have := r.un; omega⟩
theorem Room.deeper {k : Nat} {A : Around} (r : Room (k + 1) A) (env : Env) : Room k (A.deeper env) :=
  ⟨r.hd, by have := r.dp; show A.depth + 1 + 3 * k + 5 < _; omega, by have := r.un; show A.units + 3 + 16 * k + 200 < _; omega⟩
theorem make_depth {A : Around} {C : Addr} {us : List Value} {kw : List (Str × Value)} : (A.under (.builtin "type.__call__" ⟨.ref C :: us, kw⟩)).depth = A.depth + 1 := by
  first | rfl | simp [Around.under, Code.weight, Code.isCreation, Code.isGuard, Code.isCaller, Code.frames, Code.isFrame, guardIds]
theorem make_units {A : Around} {C : Addr} {us : List Value} {kw : List (Str × Value)} : (A.under (.builtin "type.__call__" ⟨.ref C :: us, kw⟩)).units = A.units + 1 := by
  first | rfl | simp [Around.under, Code.cUnits, Code.frames, Code.isFrame]
theorem Room.make {k : Nat} {A : Around} (r : Room (k + 1) A) (C : Addr) (us : List Value) (kw : List (Str × Value)) : Room k (A.under (.builtin "type.__call__" ⟨.ref C :: us, kw⟩)) :=
  ⟨r.hd, by have := r.dp; rw [make_depth]; omega, by have := r.un; rw [make_units]; omega⟩
theorem Room.depth {k : Nat} {A : Around} (r : Room k A) : A.depth < recursionLimit := by have := r.dp; omega
theorem Room.units {k : Nat} {A : Around} (r : Room k A) : A.units + 64 < cLine := by have := r.un; omega
/-! ### argument lists and displays -/
def tNil : TA := fun _ H Q => Q [] H
def tCons (ta : TE) (tr : TA) : TA := fun σ H Q => ta σ H fun x H1 => tr σ H1 fun xs H2 => Q (x :: xs) H2
section
variable {X : Cx} {e : Expr} {es : List Expr} {te : TE} {t : TA} {pos : Pos}
theorem pa_nil : PA X [] tNil := fun _ _ _ _ H Q I h => Calls.spliced_nil ⟨[], H, I, .nil, h⟩
theorem pa_cons (ha : PE X e te) (hr : PA X es t) (hs : starEach (e :: es) X.env = (false, eval e X.env) :: starEach es X.env := by rfl) : PA X (e :: es) (tCons te t) := by
  intro pos pins s σ H Q I h
  rw [hs]
  show wpAny _ _ (spliced ((false, eval e X.env) :: backTo pos (starEach es X.env))) _ _ s
  refine Calls.spliced_cons (thn (ha pins s σ H _ I h) fun u s1 ⟨x, H1, I1, r1, q1⟩ => ?_)
  exact thn (hr pos pins s1 σ H1 _ I1 q1) fun us s2 ⟨xs, H2, I2, r2, q2⟩ => ⟨x :: xs, H2, I2, .cons r1 r2, q2⟩

/-- a tuple, a list of written items -/
def tTup (t : TA) : TE := fun σ H Q => t σ H fun xs H1 => xs.length ≤ sizeLine ∧ ∀ p, H1 p = none → Q (.ref p) (upd H1 p (.tup xs))
def tLst (t : TA) : TE := fun σ H Q => t σ H fun xs H1 => xs.length ≤ sizeLine ∧ ∀ p, H1 p = none → Q (.ref p) (upd H1 p (.lst xs))
theorem pe_tup {x1} (h : PA X es t) : PE X (.Tuple es x1 pos) (tTup t) := by
  intro pins s σ H Q I hq
  refine wpAny_Tuple_spliced (thn (h pos pins s σ H _ I hq) fun us s1 ⟨xs, H1, I1, r, z, q⟩ => ⟨by rw [← r.length]; exact z, ?_⟩)
  have hf : H1 s1.heap.objs.size = none := I1.hok.fresh (Nat.le_refl _)
  refine ⟨.ref s1.heap.objs.size, upd H1 s1.heap.objs.size (.tup xs), I1.laid (t' := s1.toks) (fun b u e => Heap.get?_push_of_some _ e) (Nat.le_refl _) ?_, rfl, q _ hf⟩
  exact ⟨z, us, r, ⟨_, Heap.get?_push_size _ rfl, rfl, _, rfl⟩⟩
theorem pe_lst (h : PA X es t) : PE X (.List es pos) (tLst t) := by
  intro pins s σ H Q I hq
  refine wpAny_List_spliced (thn (h pos pins s σ H _ I hq) fun us s1 ⟨xs, H1, I1, r, z, q⟩ => ⟨by rw [← r.length]; exact z, ?_⟩)
  have hf : H1 s1.heap.objs.size = none := I1.hok.fresh (Nat.le_refl _)
  refine ⟨.ref s1.heap.objs.size, upd H1 s1.heap.objs.size (.lst xs), I1.laid (t' := s1.toks) (fun b u e => Heap.get?_push_of_some _ e) (Nat.le_refl _) ?_, rfl, q _ hf⟩
  exact ⟨z, us, 0, r, Heap.get?_push_size _ rfl⟩
end

/-! ### what a def promises -/
/-- a def's promise: the bound arguments in the parameters' order, the heap, the wanted end, the wanted exception -/
abbrev Sp := List V → Hp → VK → XK → Prop
/-- how an exception lies behind a call (file 08 gives it): the callers' frames, abstract heap and state ahead of the call, the wish, the exception, the state -/
abbrev CXT := List Env → Hp → Shared → XK → Value → Shared → Prop

/-- the state at a call -/
structure Env0 (P : Program) (w : World) (K : PySem.W.Frag) (mg : Str → Option Value) (base : Heap) (A : Around) (outer : List Env) (s : Shared) (H : Hp) : Prop where
  frames : A.frames = some outer
  mod : Mod K mg base
  bs : ∀ b o, base.get? b = some o → s.heap.get? b = some o ∧ H b = none
  bsz : base.objs.size ≤ s.heap.objs.size
  funs : s.heap.FunFrames base outer
  frf : ∀ b ∈ frs outer, H b = none
  hok : HOk P w H s.heap
  bare : AllBare s.gens
/-- a call's end -/
def CE (outer : List Env) (P : Program) (w : World) (H : Hp) (s : Shared) (Q : VK) (u : Value) (s' : Shared) : Prop :=
  ∃ v H', s'.os = s.os ∧ AllBare s'.gens ∧ Un (frs outer) [] H H' s.heap s'.heap ∧ HOk P w H' s'.heap ∧ RelV v u ∧ Q v H'
def CR (CX : CXT) (outer : List Env) (P : Program) (w : World) (H : Hp) (s : Shared) (Q : VK) (E : XK) (r : Result) (s' : Shared) : Prop :=
  match r with
  | .ok (.ret u) => CE outer P w H s Q u s'
  | .ok _ => False
  | .error e => CX outer H s E e s'
structure FnOk (P : Program) (w : World) (K : PySem.W.Frag) (mg : Str → Option Value) (base : Heap) (CX : CXT) (k : Nat) (f : Addr) (fd : FuncData) (ps : List Str) (sp : Sp) : Prop where
  len : ∀ vs H Q E, sp vs H Q E → vs.length = ps.length
  run : ∀ (A : Around) (outer : List Env) (s : Shared) (H : Hp) (args : Args) (us : List Value) (vs : List V) (Q : VK) (E : XK), Room k A → Env0 P w K mg base A outer s H → BindsTo s fd args (ps.zip us) → Vals vs us → sp vs H Q E →
    codeAny (model P w) A (.call (.ref f) args) (CR CX outer P w H s Q E) s
theorem FnOk.mono {P : Program} {w : World} {K : PySem.W.Frag} {mg : Str → Option Value} {base : Heap} {CX : CXT} {j k : Nat} {f : Addr} {fd : FuncData} {ps : List Str} {sp : Sp} (F : FnOk P w K mg base CX j f fd ps sp) (h : j ≤ k) :
    FnOk P w K mg base CX k f fd ps sp := ⟨F.len, fun A outer s H args us vs Q E hr => F.run A outer s H args us vs Q E (hr.mono h)⟩
/-- a weaker promise -/
theorem FnOk.imp {P : Program} {w : World} {K : PySem.W.Frag} {mg : Str → Option Value} {base : Heap} {CX : CXT} {k : Nat} {f : Addr} {fd : FuncData} {ps : List Str} {sp sp' : Sp} (F : FnOk P w K mg base CX k f fd ps sp)
    (h : ∀ vs H Q E, sp' vs H Q E → sp vs H Q E) : FnOk P w K mg base CX k f fd ps sp' :=
  ⟨fun vs H Q E q => F.len vs H Q E (h _ _ _ _ q), fun A outer s H args us vs Q E hr he hb hv hs => F.run A outer s H args us vs Q E hr he hb hv (h _ _ _ _ hs)⟩

theorem Env0.make {P : Program} {w : World} {K : PySem.W.Frag} {mg : Str → Option Value} {base : Heap} {A : Around} {outer : List Env} {s : Shared} {H : Hp} (e : Env0 P w K mg base A outer s H) (C : Addr) (us : List Value) (kw : List (Str × Value)) :
    Env0 P w K mg base (A.under (.builtin "type.__call__" ⟨.ref C :: us, kw⟩)) outer s H := ⟨by first | exact e.frames | (simpa [Around.under, Code.envs, Code.isFrame, pushEnvs] using e.frames), e.mod, e.bs, e.bsz, e.funs, e.frf, e.hok, e.bare⟩
section
variable {X : Cx} {pins : List (Addr × Obj)} {σ : St} {H : Hp} {s s' : Shared}
/-- from a body: what a callee wants -/
theorem Inv.env0 (I : Inv X pins σ H s) : Env0 X.prog X.w X.K X.mg X.base X.A X.stack s H :=
  ⟨I.ok.frames, I.ok.mod, I.bs, Nat.le_trans I.ok.bsz I.sz, I.stack, I.stkFree, I.hok, I.bare⟩
/-- behind a call -/
theorem Inv.after {Q : VK} {u : Value} (I : Inv X pins σ H s) (h : CE X.stack X.prog X.w H s Q u s') : EP X pins σ Q u s' := by
  obtain ⟨v, H', os, bare, un, hok, r, q⟩ := h
  obtain ⟨hh, g, d, t, os'⟩ := s'
  obtain rfl : os' = s.os := os
  exact ⟨v, H', I.call (h' := hh) (g' := g) (d' := d) (t' := t) (ch := []) un hok bare (fun b z => absurd z (by simp)), r, q⟩
end

/-! ### calls -/
/-- f(..): the written arguments, then the defaults dvs; E: what is wanted of an exception -/
def tCall (sp : Sp) (dvs : List V) (E : XK) (t : TA) : TE := fun σ H Q => t σ H fun vs H1 => sp (vs ++ dvs) H1 Q E
/-- o.m(..) of an instance of the class at C -/
def tMeth (C : Addr) (m : Str) (sp : Sp) (dvs : List V) (E : XK) (ta : TE) (t : TA) : TE := fun σ H Q => ta σ H fun x H1 => ∃ a dx fs, x = .ref a ∧ H1 a = some (.ins C dx fs) ∧ fs.lookup m = none ∧
  t σ H1 fun vs H2 => sp (x :: (vs ++ dvs)) H2 Q E
/-- C(..): a new instance and its dict, then __init__ -/
def tMake (C : Addr) (sp : Sp) (dvs : List V) (E : XK) (t : TA) : TE := fun σ H Q => t σ H fun vs H1 => ∀ x dx, H1 x = none → H1 dx = none → dx ≠ x →
  sp (.ref x :: (vs ++ dvs)) (upd (upd H1 dx (.own x)) x (.ins C dx [])) (fun v H2 => v = .non ∧ Q (.ref x) H2) E

/-- how the parameters are bound: us the positional arguments, kw the keywords' values by name, ds the defaults that fill up -/
def Binds (K : PySem.W.Frag) (fd : FuncData) (ps : List Str) (ds : List Value) : Prop :=
  ∀ (s : Shared) (us : List Value), K.In s.heap → (us ++ ds).length = ps.length → BindsTo s fd ⟨us, []⟩ (ps.zip (us ++ ds))
/-- every parameter is given -/
theorem Binds.all {K : PySem.W.Frag} {fd : FuncData} {ps : List Str} (h : ∀ us : List Value, us.length = ps.length → bindArgs fd ⟨us, []⟩ = pure (ps.zip us)) : Binds K fd ps [] := fun s us _ hl => by
  rw [List.append_nil] at hl ⊢
  exact .of_eq (h us hl)

/-- an exception of a callee reaches what this body wants of exceptions -/
def Passes (CX : CXT) (X : Cx) (E : XK) : Prop := ∀ (pins : List (Addr × Obj)) (σ : St) (H : Hp) (s : Shared) (e : Value) (s' : Shared), Inv X pins σ H s → CX X.stack H s E e s' → X.xe e s'

section
variable {X : Cx} {CX : CXT} {k : Nat} {f C : Addr} {fd : FuncData} {ps : List Str} {sp : Sp} {dvs : List V} {ds : List Value} {E : XK} {x m : Str} {p pos apos : Pos} {e o : Expr} {es : List Expr} {ta : TE} {t : TA}

/-- the callee runs -/
theorem run_fn {pins : List (Addr × Obj)} {σ : St} {H : Hp} {s : Shared} {Q : VK} {us : List Value} {vs : List V} (F : FnOk X.prog X.w X.K X.mg X.base CX k f fd ps sp) (hr : Room k X.A) (hb : Binds X.K fd ps ds) (hd : Vals dvs ds) (hx : Passes CX X E)
    (I : Inv X pins σ H s) (r : Vals vs us) (h : sp (vs ++ dvs) H Q E) : wpAny (model X.prog X.w) X.A (call (.ref f) us) (EP X pins σ Q) X.xe s := by
  have r2 : Vals (vs ++ dvs) (us ++ ds) := r.append hd
  have hl : (us ++ ds).length = ps.length := by rw [← r2.length]; exact F.len _ _ _ _ h
  refine wpAny_call (codeAny_mono (F.run X.A X.stack s H ⟨us, []⟩ (us ++ ds) (vs ++ dvs) Q E hr I.env0 (hb s us I.kIn hl) r2 h) fun r s' hq => ?_)
  cases r with
  | error e => exact hx pins σ H s e s' I hq
  | ok fl =>
    cases fl with
    | ret u => exact I.after hq
    | next => exact False.elim hq
    | brk => exact False.elim hq
    | cont => exact False.elim hq

theorem pe_call (F : FnOk X.prog X.w X.K X.mg X.base CX k f fd ps sp) (hr : Room k X.A) (hg : Gl X x) (hm : X.mg x = some (.ref f)) (hk : PySem.W.keepIn X.K (.ref f) = true) (hb : Binds X.K fd ps ds) (hd : Vals dvs ds) (hx : Passes CX X E)
    (ha : PA X (e :: es) t) (hdb : (x == ("__debug__" : Str)) = false := by decide) (he : starEach (e :: es) X.env = (false, eval e X.env) :: starEach es X.env := by rfl) (hpl : (backTo pos (starEach es X.env)).any (·.1) = false := by rfl) :
    PE X (.Call (.Name x p) (e :: es) [] pos) (tCall sp dvs E t) := by
  intro pins s σ H Q I h
  refine wpAny_Call_Name_kw (ld_glob I hg hm ?_ hdb)
  refine PySem.W.callWith_K (h₀ := X.base) I.ok.mod.kin hk (thn (ha pos pins s σ H _ I h) fun us s1 ⟨vs, H1, I1, r, q⟩ => ⟨I1.kIn, ?_⟩) he hpl
  exact run_fn F hr hb hd hx I1 r q
theorem pe_call0 (F : FnOk X.prog X.w X.K X.mg X.base CX k f fd ps sp) (hr : Room k X.A) (hg : Gl X x) (hm : X.mg x = some (.ref f)) (hk : PySem.W.keepIn X.K (.ref f) = true) (hb : Binds X.K fd ps ds) (hd : Vals dvs ds) (hx : Passes CX X E)
    (hdb : (x == ("__debug__" : Str)) = false := by decide) : PE X (.Call (.Name x p) [] [] pos) (tCall sp dvs E tNil) := by
  intro pins s σ H Q I h
  refine wpAny_Call_Name_kw (ld_glob I hg hm ?_ hdb)
  exact PySem.W.callWith_K0 I.kIn hk (run_fn (us := []) F hr hb hd hx I .nil h)

/-- what a class must have to be made -/
structure Mk (K : PySem.W.Frag) (C f : Addr) : Prop where
  makes : PySem.W.makesIn K C = true
  init : PySem.W.findIn K (.ref C) "__init__" = some (some (.ref f))
  fn : PySem.W.isFn K (.ref f) = true
  kp : PySem.W.keepIn K (.ref C) = true

theorem run_make {pins : List (Addr × Obj)} {σ : St} {H : Hp} {s : Shared} {Q : VK} {us : List Value} {vs : List V} (M : Mk X.K C f) (F : FnOk X.prog X.w X.K X.mg X.base CX k f fd ps sp) (hr : Room (k + 1) X.A) (hb : Binds X.K fd ps ds) (hd : Vals dvs ds)
    (hx : Passes CX X E) (I : Inv X pins σ H s) (r : Vals vs us)
    (h : ∀ x dx, H x = none → H dx = none → dx ≠ x → sp (.ref x :: (vs ++ dvs)) (upd (upd H dx (.own x)) x (.ins C dx [])) (fun v H2 => v = .non ∧ Q (.ref x) H2) E) :
    wpAny (model X.prog X.w) X.A (call (.ref C) us) (EP X pins σ Q) X.xe s := by
  have hq := h (s.heap.objs.size + 1) s.heap.objs.size (I.hok.fresh (Nat.le_succ _)) (I.hok.fresh (Nat.le_refl _)) (Nat.ne_of_lt (Nat.lt_succ_self _))
  have I2 := Inv.made (C := C) I
  have r2 : Vals (V.ref (s.heap.objs.size + 1) :: (vs ++ dvs)) (Value.ref (s.heap.objs.size + 1) :: (us ++ ds)) := .cons rfl (r.append hd)
  have hl : (Value.ref (s.heap.objs.size + 1) :: us ++ ds).length = ps.length := by
    have e := r2.length
    rw [F.len _ _ _ _ hq] at e
    exact e.symm
  refine wpAny_call (make_map (f := f) I.kIn M.makes M.init (beq_iff_eq.mp M.fn) (codeAny_mono (F.run _ X.stack _ _ ⟨Value.ref (s.heap.objs.size + 1) :: us, []⟩ (Value.ref (s.heap.objs.size + 1) :: (us ++ ds)) _ _ E (hr.make C us [])
    (I2.env0.make C us []) (hb _ (Value.ref (s.heap.objs.size + 1) :: us) I2.kIn hl) r2 hq) fun r s' hq' => ?_))
  cases r with
  | error e => exact hx pins σ _ _ e s' I2 hq'
  | ok fl =>
    cases fl with
    | ret u =>
      obtain ⟨v, H', I3, rv, ev, q3⟩ := I2.after hq'
      subst ev
      exact ⟨rv, ⟨V.ref (s.heap.objs.size + 1), H', I3, rfl, q3⟩⟩
    | next => exact False.elim hq'
    | brk => exact False.elim hq'
    | cont => exact False.elim hq'
theorem pe_make (M : Mk X.K C f) (F : FnOk X.prog X.w X.K X.mg X.base CX k f fd ps sp) (hr : Room (k + 1) X.A) (hg : Gl X x) (hm : X.mg x = some (.ref C)) (hb : Binds X.K fd ps ds) (hd : Vals dvs ds) (hx : Passes CX X E)
    (ha : PA X (e :: es) t) (hdb : (x == ("__debug__" : Str)) = false := by decide) (he : starEach (e :: es) X.env = (false, eval e X.env) :: starEach es X.env := by rfl) (hpl : (backTo pos (starEach es X.env)).any (·.1) = false := by rfl) :
    PE X (.Call (.Name x p) (e :: es) [] pos) (tMake C sp dvs E t) := by
  intro pins s σ H Q I h
  refine wpAny_Call_Name_kw (ld_glob I hg hm ?_ hdb)
  refine PySem.W.callWith_K (h₀ := X.base) I.ok.mod.kin M.kp (thn (ha pos pins s σ H _ I h) fun us s1 ⟨vs, H1, I1, r, q⟩ => ⟨I1.kIn, ?_⟩) he hpl
  exact run_make M F hr hb hd hx I1 r q
end

/-! ### keywords -/
/-- the values of the keywords, from the left -/
def PK (X : Cx) (kws : List Keyword) (t : TA) : Prop :=
  ∀ (pos : Pos) (pins : List (Addr × Obj)) (s : Shared) (σ : St) (H : Hp) (Q : List V → Hp → Prop), Inv X pins σ H s → t σ H Q → wpAny (model X.prog X.w) X.A (evalAll ((backToKw pos (keywordEach kws X.env)).map (·.2))) (AP X pins σ Q) X.xe s
section
variable {X : Cx} {CX : CXT} {k : Nat} {f C : Addr} {fd : FuncData} {ps ks : List Str} {sp : Sp} {E : XK} {x m : Str} {p pos apos kpos : Pos} {e o : Expr} {es : List Expr} {kws : List Keyword} {te ta : TE} {t tk : TA} {nm : Option Str}
/-- how a call with keywords binds: g puts the positional values us and the keywords' values ws (names ks) in the parameters' order, defaults among them -/
structure KBinds (K : PySem.W.Frag) (fd : FuncData) (ps ks : List Str) (g : List Value → List Value → List Value) (gV : List V → List V → List V) : Prop where
  to : ∀ (s : Shared) (us ws : List Value), K.In s.heap → (g us ws).length = ps.length → BindsTo s fd ⟨us, ks.zip ws⟩ (ps.zip (g us ws))
  rel : ∀ {vs : List V} {us : List Value} {zs : List V} {ws : List Value}, Vals vs us → Vals zs ws → Vals (gV vs zs) (g us ws)
def tCallK (sp : Sp) (gV : List V → List V → List V) (E : XK) (t tk : TA) : TE := fun σ H Q => t σ H fun vs H1 => tk σ H1 fun zs H2 => sp (gV vs zs) H2 Q E
variable {g : List Value → List Value → List Value} {gV : List V → List V → List V}
end

/-! ### a def's body keeps its promise -/
/-- names: the parameters first -/
structure FnScope (N P : List Str) (sc : Scope) : Prop where
  kind : sc.kind = .function
  co : sc.isCoroutine = false
  gen : sc.isGenerator = false
  nd : N.Nodup
  pre : N.take P.length = P
  par : ∀ x ∈ P, sc.names.lookup x = some .local ∨ sc.names.lookup x = some .cell
  nofree : ∀ y ∈ sc.names, y.2 ≠ .free

theorem bindL_out {kindOf : Str → Option NameKind} {x : Str} : ∀ {binds : List (Str × Value)} {m : Str → Option Value}, (∀ v, (x, v) ∉ binds) → bindL kindOf binds m x = m x
  | [], _, _ => rfl
  | (n, v) :: r, m, h => by
    unfold bindL
    rw [bindL_out fun w hw => h w (List.mem_cons_of_mem _ hw)]
    split
    · have : x ≠ n := by rintro rfl; exact h v List.mem_cons_self
      simp [this]
    · rfl
theorem bindC_out {kindOf : Str → Option NameKind} {x : Str} : ∀ {binds : List (Str × Value)} {m : Str → Option Value}, (∀ v, (x, v) ∉ binds) → bindC kindOf binds m x = m x
  | [], _, _ => rfl
  | (n, v) :: r, m, h => by
    unfold bindC
    rw [bindC_out fun w hw => h w (List.mem_cons_of_mem _ hw)]
    split
    · rfl
    · have : x ≠ n := by rintro rfl; exact h v List.mem_cons_self
      simp [this]
theorem bindL_get {kindOf : Str → Option NameKind} {x : Str} {v : Value} : ∀ {P : List Str} {vs : List Value} {i : Nat} {m : Str → Option Value}, P.Nodup → P[i]? = some x → vs[i]? = some v → kindOf x = some .local →
    bindL kindOf (P.zip vs) m x = some v
  | [], _, _, _, _, h, _, _ => by simp at h
  | _ :: _, [], _, _, _, _, h, _ => by simp at h
  | p :: P, w :: vs, 0, m, nd, h1, h2, hk => by
    simp at h1 h2; subst h1; subst h2
    show bindL kindOf ((p, w) :: P.zip vs) m p = _
    unfold bindL
    rw [bindL_out fun v hv => (List.nodup_cons.mp nd).1 (List.of_mem_zip hv).1, if_pos hk]
    simp
  | p :: P, w :: vs, i + 1, m, nd, h1, h2, hk => by
    show bindL kindOf ((p, w) :: P.zip vs) m x = _
    unfold bindL
    exact bindL_get (i := i) (List.nodup_cons.mp nd).2 (by simpa using h1) (by simpa using h2) hk
theorem bindC_get {kindOf : Str → Option NameKind} {x : Str} {v : Value} : ∀ {P : List Str} {vs : List Value} {i : Nat} {m : Str → Option Value}, P.Nodup → P[i]? = some x → vs[i]? = some v → kindOf x ≠ some .local →
    bindC kindOf (P.zip vs) m x = some v
  | [], _, _, _, _, h, _, _ => by simp at h
  | _ :: _, [], _, _, _, _, h, _ => by simp at h
  | p :: P, w :: vs, 0, m, nd, h1, h2, hk => by
    simp at h1 h2; subst h1; subst h2
    show bindC kindOf ((p, w) :: P.zip vs) m p = _
    unfold bindC
    rw [bindC_out fun v hv => (List.nodup_cons.mp nd).1 (List.of_mem_zip hv).1, if_neg hk]
    simp
  | p :: P, w :: vs, i + 1, m, nd, h1, h2, hk => by
    show bindC kindOf ((p, w) :: P.zip vs) m x = _
    unfold bindC
    exact bindC_get (i := i) (List.nodup_cons.mp nd).2 (by simpa using h1) (by simpa using h2) hk

/-- the names' values at the entry -/
def start (N : List Str) (vs : List V) : St := vs.map some ++ List.replicate (N.length - vs.length) none

/-- the context of a def's body, at its entry; an exception leaves the frame, then lies as CX says -/
def cxOf (CX : CXT) (P : Program) (w : World) (K : PySem.W.Frag) (mg : Str → Option Value) (base : Heap) (N : List Str) (qual : Str) (scope : Scope) (f : Addr) (cd : Value) (A : Around) (outer : List Env) (s : Shared) (H : Hp) (E : XK) : Cx where
  prog := P
  w := w
  K := K
  mg := mg
  base := base
  A := A.deeper (envOfC qual scope s.heap.objs.size f cd)
  N := N
  s₀ := s
  H₀ := H
  env := envOfC qual scope s.heap.objs.size f cd
  outer := outer
  stack := envOfC qual scope s.heap.objs.size f cd :: outer
  ex := []
  calm := true
  fn := fun _ => true
  pn := []
  xe := fun e s' => wpAny (model P w) (A.deeper (envOfC qual scope s.heap.objs.size f cd)) (leaving (envOfC qual scope s.heap.objs.size f cd) e) (fun _ s'' => CX outer H s E e s'') (fun e' s'' => CX outer H s E e' s'') s'

theorem cell_has {sc : Scope} {n : Nat} {x : Str} (h : sc.names.lookup x = some .cell) : ∃ c, (cellsFrom n sc.names []).lookup x = some c := by
  have q := PySem.W.cellsFrom_some sc.names n [] (.inl h)
  exact Option.isSome_iff_exists.mp q

theorem inv_start {CX : CXT} {P : Program} {w : World} {K : PySem.W.Frag} {mg : Str → Option Value} {base : Heap} {N ps : List Str} {qual : Str} {scope : Scope} {f : Addr} {cd : Value} {A : Around} {outer : List Env} {s s1 : Shared} {H : Hp} {E : XK} {us : List Value} {vs : List V}
    (S : FnScope N ps scope) (hd : A.handled = none) (e0 : Env0 P w K mg base A outer s H) (hl : vs.length = ps.length) (r : Vals vs us)
    (x : InCallC s s.heap.objs.size (bindL (envOfC qual scope s.heap.objs.size f cd).kindOf (ps.zip us) fun _ => none) (cellsFrom (s.heap.objs.size + 1) scope.names []) (bindC (envOfC qual scope s.heap.objs.size f cd).kindOf (ps.zip us) fun _ => none) s1) :
    Inv (cxOf CX P w K mg base N qual scope f cd A outer s H E) [] (start N vs) H s1 := by
  have hpl : ps.length ≤ N.length := by have := congrArg List.length S.pre; rw [List.length_take] at this; omega
  obtain ⟨h1, tk, rfl, hk⟩ := x.done
  have noA : ∀ b : Addr, b ∉ (cxOf CX P w K mg base N qual scope f cd A outer s H E).ex := fun b z => absurd (show b ∈ ([] : List Addr) from z) (by simp)
  refine ⟨⟨e0.mod, S.kind, rfl, rfl, Nat.le_refl _, fun y z c h1 h2 => ?_, fun y hy => ?_, fun y c _ h => ?_, fun _ => hd, Around.frames_deeper e0.frames, .inr ⟨rfl, rfl⟩, fun b z => absurd z (noA b), e0.bs, e0.bsz, fun b _ _ => noA b, fun b z => absurd z (noA b), e0.funs, e0.frf⟩,
    rfl, e0.bare, Un.kept hk, ⟨_, x.toInCall.ns, fun i y v h1 h2 h3 => ?_⟩, fun y c h => ⟨_, x.cell y c h⟩, e0.hok.fresh (Nat.le_refl _), fun y c h => ?_, fun p hp => absurd (show p ∈ ([] : List (Addr × Obj)) from hp) (by simp), e0.hok.kept hk, ?_⟩
  · exact name_of_addr x.apart (PySem.mem_of_lookup h1) (PySem.mem_of_lookup h2)
  · have hy : scope.names.lookup y = some .cell ∨ scope.names.lookup y = some .free := hy
    rcases hy with hy | hy
    · exact cell_has hy
    · exact absurd rfl (S.nofree _ (PySem.mem_of_lookup hy))
  · exact Nat.le_of_lt (x.above y c (PySem.mem_of_lookup h))
  · have hi : i < vs.length := by
      unfold start at h2
      by_cases hi : i < vs.length
      · exact hi
      · rw [List.getElem?_append_right (by simpa using hi)] at h2
        rw [List.getElem?_replicate] at h2
        split at h2 <;> cases h2
    have ha : vs[i]? = some v := by
      unfold start at h2
      rw [List.getElem?_append_left (by simpa using hi), List.getElem?_map] at h2
      cases e : vs[i]? with
      | none => rw [e] at h2; cases h2
      | some a => rw [e] at h2; cases h2; rfl
    obtain ⟨u, hu, rv⟩ := r.get ha
    have hp : ps[i]? = some y := by
      rw [← S.pre, List.getElem?_take_of_lt (by omega)]; exact h1
    have ndP : ps.Nodup := by rw [← S.pre]; exact S.nd.sublist (List.take_sublist _ _)
    refine ⟨u, rv, ?_⟩
    rcases S.par y (List.mem_of_getElem? hp) with k | k
    · exact .inl ⟨k, bindL_get ndP hp hu k⟩
    · obtain ⟨c, e⟩ := cell_has (n := s.heap.objs.size + 1) k
      refine .inr ⟨.inl k, c, e, ?_⟩
      have q := x.cell y c e
      rw [bindC_get ndP hp hu (by show scope.names.lookup y ≠ _; rw [k]; decide)] at q
      exact q
  · exact e0.hok.fresh (Nat.le_of_lt (x.above y c (PySem.mem_of_lookup h)))
  · unfold start
    show _ = N.length
    rw [List.length_append, List.length_map, List.length_replicate]
    omega

/-- THE RULE: a def (or a method) of the text, by its body. The body's reading t is chosen for each entry; it is run at the parameters' values -/
theorem fn_of {CX : CXT} {P : Program} {w : World} {K : PySem.W.Frag} {mg : Str → Option Value} {base : Heap} {k : Nat} {f : Addr} {name qual : Str} {params : Arguments} {body : List Stmt} {scope : Scope} {dV kV doc pm cdv ct oc : Value} {an od : Option Addr}
    {osl : Array (Option Value)} {N ps : List Str} {sp : Sp} (lk : K.lookup f = some ⟨oc, od, .func (PySem.W.fnOf name qual params body scope dV kV doc pm an cdv ct), osl⟩) (hcd : PySem.W.codeIn K cdv qual = true) (S : FnScope N ps scope)
    (len : ∀ vs H Q E, sp vs H Q E → vs.length = ps.length)
    (hbody : ∀ (A : Around) (outer : List Env) (s : Shared) (H : Hp) (vs : List V) (Q : VK) (E : XK), Room k (A.deeper (envOfC qual scope s.heap.objs.size f cdv)) → sp vs H Q E →
      ∃ t, PSs (cxOf CX P w K mg base N qual scope f cdv A outer s H E) body t ∧ t { nx := fun _ H' => Q .non H', rt := Q } (start N vs) H) :
    FnOk P w K mg base CX (k + 1) f (PySem.W.fnOf name qual params body scope dV kV doc pm an cdv ct) ps sp := by
  refine ⟨len, fun A outer s H args us vs Q E hr e0 hb r hsp => ?_⟩
  have hl := len _ _ _ _ hsp
  have KX : K.In s.heap := e0.mod.kin.keeps fun b o e => (e0.bs b o e).1
  have lim : s.heap.NoLimit := e0.mod.nolimit.keeps fun b o e => (e0.bs b o e).1
  have hkind : ∀ y ∈ ps.zip us, scope.names.lookup y.1 = some .local ∨ (scope.names.lookup y.1 = some .cell ∧ ((cellsFrom (s.heap.objs.size + 1) scope.names []).lookup y.1).isSome = true) := fun ⟨n, v⟩ hy => by
    rcases S.par n (List.of_mem_zip hy).1 with q | q
    · exact .inl q
    · exact .inr ⟨q, PySem.W.cellsFrom_some _ _ _ (.inl q)⟩
  refine codeAny_call_function hr.depth (KX _ _ lk) rfl S.co S.gen rfl (PySem.W.codeRec_of KX hcd) (hb _ _ _ _ ?_)
  refine wpAny_newFunctionEnv_cells S.kind hkind fun env he s1 x => ?_
  subst he
  refine ⟨lim.keeps x.toInCall.keep, codeAny_func ?_⟩
  obtain ⟨t, ht, hq⟩ := hbody A outer s H vs Q E (hr.deeper _) hsp
  have I : Inv (cxOf CX P w K mg base N qual scope f cdv A outer s H E) [] (start N vs) H s1 := inv_start S hr.hd e0 hl r x
  refine wpAny_mono (ht [] s1 (start N vs) H _ I hq) (fun fl s' hs => ?_) fun e s' hs => hs
  have fin : ∀ {σ' : St} {H' : Hp} {v : V} {u : Value}, Inv (cxOf CX P w K mg base N qual scope f cdv A outer s H E) [] σ' H' s' → RelV v u → Q v H' → CE outer P w H s Q u s' :=
    fun {σ' H' v u} J rv q => ⟨v, H', J.os, J.bare, J.base, J.hok, rv, q⟩
  cases fl with
  | ret u =>
    obtain ⟨v, σ', H', J, rv, q⟩ := hs
    exact fin J rv q
  | next =>
    obtain ⟨σ', H', J, q⟩ := hs
    exact fin (v := V.non) (u := Value.none) J rfl q
  | brk =>
    obtain ⟨_, _, _, q⟩ := hs
    exact False.elim q
  | cont =>
    obtain ⟨_, _, _, q⟩ := hs
    exact False.elim q
end L2

namespace L2
open PySem PySem.Spec PyProof.Rows
section
variable {X : Cx} {x : Str} {p pos : Pos} {e : Expr} {es : List Expr} {t : TA} {id T : String} {r : List V → Hp → VK → Prop}

def tCB (r : List V → Hp → VK → Prop) (t : TA) : TE := fun σ H Q => t σ H fun vs H1 => r vs H1 Q
/-- f(e, ..), f a built-in function -/
theorem pe_callB (hc : CallR X (.builtin id) r) (hg : Gl X x) (hm : X.mg x = none) (hv : bootBuiltins x = some (.builtin id)) (ha : PA X (e :: es) t) (hn : x ≠ "__name__" := by decide) (hdb : (x == ("__debug__" : Str)) = false := by decide)
    (he : starEach (e :: es) X.env = (false, eval e X.env) :: starEach es X.env := by rfl) (hpl : (backTo pos (starEach es X.env)).any (·.1) = false := by rfl) : PE X (.Call (.Name x p) (e :: es) [] pos) (tCB r t) := by
  intro pins s σ H Q I h
  refine wpAny_Call_Name_kw (ld_blt I hg hm hv ?_ hn hdb)
  exact PyProof.Rows.callWith_builtin1 (thn (ha pos pins s σ H _ I h) fun us s1 ⟨vs, H1, I1, r1, q1⟩ => hc pins s1 σ H1 vs us Q I1 r1 q1) he hpl
/-- T(e, ..), T a built-in type -/
theorem pe_callTy (hc : CallR X (.type T) r) (hg : Gl X x) (hm : X.mg x = none) (hv : bootBuiltins x = some (.type T)) (ha : PA X (e :: es) t) (hn : x ≠ "__name__" := by decide) (hdb : (x == ("__debug__" : Str)) = false := by decide)
    (he : starEach (e :: es) X.env = (false, eval e X.env) :: starEach es X.env := by rfl) (hpl : (backTo pos (starEach es X.env)).any (·.1) = false := by rfl) : PE X (.Call (.Name x p) (e :: es) [] pos) (tCB r t) := by
  intro pins s σ H Q I h
  refine wpAny_Call_Name_kw (ld_blt I hg hm hv ?_ hn hdb)
  exact PyProof.Rows.callWith_type1 (thn (ha pos pins s σ H _ I h) fun us s1 ⟨vs, H1, I1, r1, q1⟩ => hc pins s1 σ H1 vs us Q I1 r1 q1) he hpl
end
end L2

namespace HT
open PySem PyProof.Rows

/-- t < u of tuples of ints -/
def lexLt : List Int → List Int → Bool
  | [], [] => false
  | [], _ :: _ => true
  | _ :: _, [] => false
  | x :: xs, y :: ys => if x = y then lexLt xs ys else decide (x < y)
section
open PySem.SeqAt
open PySem.AutoSeq1 (wpAny_loadPart')
open PySem.MeetsSeq PySem.MeetsSeq2 PySem.MeetsSeq3

end

section
variable {prog : Program} {w : World} {A : Around} {E : Value → Shared → Prop} {s : Shared}

/-! ### t[a:b], not the whole -/
/-- a slice's bound as a place among n (d where it is left out) -/
def sIx (n d : Nat) : Option Int → Nat
  | none => d
  | some v => if v < 0 then (v + (n : Int)).toNat else min v.toNat n
end
end HT

namespace L2
open PySem PySem.Spec PyProof.Rows

/-! ### the parts of a slice -/
abbrev TO := St → Hp → (Option Int → Hp → Prop) → Prop
/-- a slice's part (left out, or an int) -/
def PO (X : Cx) (e : Option Expr) (t : TO) : Prop :=
  ∀ (pins : List (Addr × Obj)) (s : Shared) (σ : St) (H : Hp) (Q : Option Int → Hp → Prop), Inv X pins σ H s → t σ H Q →
    wpAny (model X.prog X.w) X.A (evalPart e X.env) (fun u s' => ∃ o H', Inv X pins σ H' s' ∧ IsPart u o ∧ Q o H') X.xe s
def tNoPart : TO := fun _ H Q => Q none H
def tPart (t : TE) : TO := fun σ H Q => t σ H fun x H1 => ∃ i, x = .int i ∧ Q (some i) H1

section
variable {X : Cx} {e : Expr} {te : TE} {lo hi : Option Expr} {tl th : TO} {pos p2 : Pos}

theorem po_none : PO X none tNoPart := by
  intro pins s σ H Q I h
  rw [evalPart_none]
  exact wpAny_pure ⟨none, H, I, .none, h⟩
theorem po_some (h : PE X e te) : PO X (some e) (tPart te) := by
  intro pins s σ H Q I hw
  rw [evalPart_some]
  refine thn (h pins s σ H _ I hw) fun u s1 ⟨x, H1, I1, r1, q1⟩ => ?_
  obtain ⟨i, rfl, q⟩ := q1
  obtain ⟨t, rfl⟩ := r1
  exact ⟨some i, H1, I1, .int i t, q⟩

/-- what a slice of a value is, by values: the slice object stands at sl -/
def SlR (X : Cx) (r : V → Option Int → Option Int → Hp → VK → Prop) : Prop :=
  ∀ (pins : List (Addr × Obj)) (s : Shared) (σ : St) (H : Hp) (x : V) (v vl vu : Value) (lo hi : Option Int) (sl : Addr) (Q : VK), Inv X pins σ H s → RelV x v → s.heap.IsSliceOf sl vl vu .none → IsPart vl lo → IsPart vu hi → r x lo hi H Q →
    ∃ T id, typeLookup (.type T) "__getitem__" = pure (some (.builtin id)) ∧ s.TypeIs v T ∧ wpAny (model X.prog X.w) X.A (getItem v (.ref sl)) (EP X pins σ Q) X.xe s
def tSl (r : V → Option Int → Option Int → Hp → VK → Prop) (te : TE) (tl th : TO) : TE := fun σ H Q => te σ H fun x H1 => tl σ H1 fun l H2 => th σ H2 fun u H3 => r x l u H3 Q
/-- a[lo:hi], any a -/
theorem pe_slice {r : V → Option Int → Option Int → Hp → VK → Prop} (hr : SlR X r) (he : PE X e te) (hl : PO X lo tl) (hu : PO X hi th) : PE X (.Subscript e (.Slice lo hi none p2) pos) (tSl r te tl th) := by
  intro pins s σ H Q I h
  refine Subscript_ (thn (he pins s σ H _ I h) fun v s1 ⟨x, H1, I1, r1, q1⟩ => ?_)
  refine wpAny_Slice (thn (hl pins s1 σ H1 _ I1 q1) fun vl s2 ⟨l, H2, I2, pl, q2⟩ => thn (hu pins s2 σ H2 _ I2 q2) fun vu s3 ⟨u, H3, I3, pu, q3⟩ => ?_)
  rw [evalPart_none]
  refine wpAny_pure ?_
  have I4 : Inv X pins σ H3 { s3 with heap := s3.heap.push { cls := .type "slice", data := .fields #[vl, vu, .none] } } := I3.kept (t' := s3.toks) fun b ob q => Heap.get?_push_of_some _ q
  obtain ⟨T, id, hT, ht, hg⟩ := hr pins { s3 with heap := s3.heap.push { cls := .type "slice", data := .fields #[vl, vu, .none] } } σ H3 x v vl vu l u s3.heap.objs.size Q I4 r1 (Heap.IsSliceOf.new ..) pl pu q3
  show wpAny (model X.prog X.w) X.A (subscriptTail e (.Slice lo hi none p2) v (.ref s3.heap.objs.size)) (EP X pins σ Q) X.xe { s3 with heap := s3.heap.push { cls := .type "slice", data := .fields #[vl, vu, .none] } }
  exact tail_any (ops := [.ref s3.heap.objs.size, v]) ht hT hg (by with_unfolding_all rfl)

/-- the items of xs[lo:hi] -/
def cutV (xs : List V) (lo hi : Option Int) : List V := (xs.drop (HT.sIx xs.length 0 lo)).take (HT.sIx xs.length xs.length hi - HT.sIx xs.length 0 lo)
theorem cutV_length (xs : List V) (lo hi : Option Int) : (cutV xs lo hi).length ≤ xs.length := by
  unfold cutV
  rw [List.length_take, List.length_drop]
  omega
/-- t[lo:hi], not the whole of it (the whole would be t itself) -/
def rSlT (K : PySem.W.Frag) : V → Option Int → Option Int → Hp → VK → Prop := fun x lo hi H Q => ∃ a xs, x = .ref a ∧ SqT K H a xs ∧
  ¬ (HT.sIx xs.length 0 lo = 0 ∧ HT.sIx xs.length xs.length hi = xs.length) ∧ ∀ p, H p = none → Q (.ref p) (upd H p (.tup (cutV xs lo hi)))
/-! ### t < u, t + u -/
def rLtT (K : PySem.W.Frag) : R2 := fun x y H Q => ∃ a b ns ms, x = .ref a ∧ y = .ref b ∧ SqT K H a (ns.map V.int) ∧ SqT K H b (ms.map V.int) ∧ Q (.bl (HT.lexLt ns ms)) H
/-- t + u, t not empty: u empty gives t itself -/
def rCatT (K : PySem.W.Frag) : R2 := fun x y H Q => ∃ a b xs ys, x = .ref a ∧ y = .ref b ∧ SqT K H a xs ∧ SqT K H b ys ∧ xs ≠ [] ∧ xs.length + ys.length ≤ sizeLine ∧
  (ys = [] → Q (.ref a) H) ∧ (ys ≠ [] → ∀ p, H p = none → Q (.ref p) (upd H p (.tup (xs ++ ys))))
end
end L2

namespace L2
open PySem PySem.Spec PyProof.Rows

/-! ### places -/
/-- the place that an index of any sign means -/
def ixN (n : Nat) (i : Int) : Option Nat := if 0 ≤ i then (if i < n then some i.toNat else none) else if -(n : Int) ≤ i then some (i + n).toNat else none
def atI {α : Type} (xs : List α) (i : Int) : Option α := (ixN xs.length i).bind fun j => xs[j]?
theorem ixN_seq {n : Nat} {i : Int} {j : Nat} (h : ixN n i = some j) : seqIndex? i n = some j ∧ j < n ∧ -(n : Int) ≤ i ∧ i < n := by
  unfold ixN at h
  by_cases h0 : 0 ≤ i
  · rw [if_pos h0] at h
    by_cases h1 : i < n
    · rw [if_pos h1] at h
      have e : i.toNat = j := Option.some.inj h
      exact ⟨by rw [seqIndex_of h0 h1, e], by omega, by omega, h1⟩
    · rw [if_neg h1] at h; cases h
  · rw [if_neg h0] at h
    by_cases h1 : -(n : Int) ≤ i
    · rw [if_pos h1] at h
      have e : (i + n).toNat = j := Option.some.inj h
      exact ⟨by rw [seqIndex_neg (by omega) h1, e], by omega, h1, by omega⟩
    · rw [if_neg h1] at h; cases h
theorem atI_get {α : Type} {xs : List α} {i : Int} {v : α} (h : atI xs i = some v) : ∃ j, seqIndex? i xs.length = some j ∧ xs[j]? = some v ∧ j < xs.length ∧ -(xs.length : Int) ≤ i ∧ i < xs.length := by
  unfold atI at h
  cases e : ixN xs.length i with
  | none => rw [e] at h; cases h
  | some j =>
    rw [e] at h
    obtain ⟨h1, h2, h3, h4⟩ := ixN_seq e
    exact ⟨j, h1, h, h2, h3, h4⟩
/-! ### what may be subscripted -/
/-- what stands as an index of a plain subscript -/
def PlainIx (b : Expr) : Prop := ∀ o i, subscripted b false o i = operate [o, i] (getItem o i)
/-- a subscript by values -/
def IxR (X : Cx) (r : R2) : Prop :=
  ∀ (value slice : Expr) (pins : List (Addr × Obj)) (s : Shared) (σ : St) (H : Hp) (x y : V) (v u : Value) (Q : VK), Inv X pins σ H s → RelV x v → RelV y u → r x y H Q →
    subscripted slice false v u = operate [v, u] (getItem v u) → wpAny (model X.prog X.w) X.A (subscriptTail value slice v u) (EP X pins σ Q) X.xe s
/-- a call of a builtin's method by values: the receiver, the arguments -/
def MtR (X : Cx) (id : String) (r : V → List V → Hp → VK → Prop) : Prop :=
  ∀ (pins : List (Addr × Obj)) (s : Shared) (σ : St) (H : Hp) (x : V) (xs : List V) (v : Value) (us : List Value) (Q : VK), Inv X pins σ H s → RelV x v → Vals xs us → r x xs H Q →
    wpAny (model X.prog X.w) X.A (call (.builtin id) (v :: us)) (EP X pins σ Q) X.xe s
section
variable {X : Cx} {a b : Expr} {ta tb : TE} {pos : Pos}
theorem IxR.or {r r' : R2} (h : IxR X r) (h' : IxR X r') : IxR X (fun x y H Q => r x y H Q ∨ r' x y H Q) := by
  intro value slice pins s σ H x y v u Q I rx ry q hs
  rcases q with q | q
  · exact h value slice pins s σ H x y v u Q I rx ry q hs
  · exact h' value slice pins s σ H x y v u Q I rx ry q hs
/-- a[b] -/
theorem pe_ix {r : R2} (hr : IxR X r) (ha : PE X a ta) (hb : PE X b tb) (hs : PlainIx b) : PE X (.Subscript a b pos) (tOp r ta tb) := by
  intro pins s σ H Q I h
  exact Subscript_ (binT ha hb I h fun v u s2 x y H2 I2 rx ry q => hr a b pins s2 σ H2 x y v u Q I2 rx ry q (hs _ _))

def rIxL (K : PySem.W.Frag) : R2 := fun x y H Q => ∃ p xs i v, x = .ref p ∧ y = .int i ∧ SqL K H p xs ∧ atI xs i = some v ∧ Q v H
def rIxT (K : PySem.W.Frag) : R2 := fun x y H Q => ∃ p xs i v, x = .ref p ∧ y = .int i ∧ SqT K H p xs ∧ atI xs i = some v ∧ Q v H
def rIxS : R2 := fun x y H Q => ∃ z i c, x = .str z ∧ y = .int i ∧ z.length ≤ sizeLine ∧ atI z.cps.toList i = some c ∧ Q (.str ⟨#[c]⟩) H
theorem ix_list : IxR X (rIxL X.K) := by
  intro value slice pins s σ H x y v u Q I rx ry h hs
  obtain ⟨p, xs, i, z, rfl, rfl, hq, he, q⟩ := h
  cases rx
  obtain ⟨t, rfl⟩ := ry
  obtain ⟨its, r, pl, hz⟩ := I.list hq
  obtain ⟨j, h1, h2, h3, h4, h5⟩ := atI_get he
  obtain ⟨w, ew, rw'⟩ := r.get h2
  have hl := r.length
  have hn := line63
  have fin : EP X pins σ Q w s := ⟨z, H, I, rw', q⟩
  by_cases h0 : 0 ≤ i
  · have hj : i.toNat = j := by
      rw [seqIndex_of h0 h5] at h1
      exact Option.some.inj h1
    exact item_listR pl.isList h0 (by omega) (by rw [hj]; simpa using ew) fin hs
  · have hj : (i + (its.toArray.size : Int)).toNat = j := by
      rw [seqIndex_neg (by omega) h4] at h1
      rw [List.size_toArray, ← hl]
      exact Option.some.inj h1
    exact subscriptTail_builtinR (x := w) pl.isList.typeIs slot_list_getitem.lookup
      (wpAny_getItem_list_neg (Q := fun r s' => r = w ∧ EP X pins σ Q r s') pl.isList (by omega) (by rw [List.size_toArray] <;> omega) (by omega) (by rw [hj]; simpa using ew) ⟨rfl, fin⟩) hs
theorem ix_tup : IxR X (rIxT X.K) := by
  intro value slice pins s σ H x y v u Q I rx ry h hs
  obtain ⟨p, xs, i, z, rfl, rfl, hq, he, q⟩ := h
  cases rx
  obtain ⟨t, rfl⟩ := ry
  obtain ⟨its, r, pl, hz⟩ := I.tuple hq
  obtain ⟨j, h1, h2, h3, h4, h5⟩ := atI_get he
  obtain ⟨w, ew, rw'⟩ := r.get h2
  have hl := r.length
  have hn := line63
  have fin : EP X pins σ Q w s := ⟨z, H, I, rw', q⟩
  exact subscriptTail_builtinR (x := w) pl.typeIs slot_tuple_getitem.lookup
    (getItem_tuple (j := j) (Q := fun r s' => r = w ∧ EP X pins σ Q r s') pl (by omega) (by omega) (by rw [List.size_toArray, ← hl]; exact h1) (by simpa using ew) ⟨rfl, fin⟩) hs
theorem ix_str : IxR X rIxS := by
  intro value slice pins s σ H x y v u Q I rx ry h hs
  obtain ⟨z, i, c, rfl, rfl, hz, he, q⟩ := h
  obtain ⟨t, rfl⟩ := rx
  obtain ⟨t', rfl⟩ := ry
  obtain ⟨j, h1, h2, h3, h4, h5⟩ := atI_get he
  have hl : z.cps.toList.length = z.length := by simp [Str.length]
  rw [hl] at h1 h4 h5
  have hn := line63
  exact tail_any (typeIs_str s z t) slot_str_getitem.lookup (getItem_str (c := c) (by
    have e1 : decide (i < -(2 ^ 63 : Int)) = false := decide_eq_false (by omega)
    have e2 : decide (i ≥ 2 ^ 63) = false := decide_eq_false (by omega)
    rw [e1, e2, Bool.or_false]) (by rw [h1]; simpa using h2) ⟨.str ⟨#[c]⟩, H, I.tok _, ⟨_, rfl⟩, q⟩) hs
/-- list, tuple or str -/
def rIx (K : PySem.W.Frag) : R2 := fun x y H Q => rIxL K x y H Q ∨ rIxT K x y H Q ∨ rIxS x y H Q
theorem ix_seq : IxR X (rIx X.K) := ix_list.or (ix_tup.or ix_str)

/-! ### xs[i] = v, any sign -/
/-- the list's object behind a store -/
theorem mapSeq_set (its : List Value) (n j : Nat) (u : Value) : Obj.mapSeq (·.setIfInBounds j u) { cls := .type "list", data := .seq its.toArray n } = { cls := .type "list", data := .seq (its.set j u).toArray n } := by
  simp [Obj.mapSeq]
theorem Inv.lst {pins : List (Addr × Obj)} {σ : St} {H : Hp} {s : Shared} {p : Addr} {xs : List V} (I : Inv X pins σ H s) (h : H p = some (.lst xs)) :
    ∃ (its : List Value) (n : Nat), Vals xs its ∧ s.heap.get? p = some { cls := .type "list", data := .seq its.toArray n } ∧ xs.length ≤ sizeLine := by
  obtain ⟨z, its, n, r, e⟩ := I.hok p _ h
  exact ⟨its, n, r, e, z⟩
/-- the list at p is written by an update of its object -/
theorem Inv.lstUpd {pins : List (Addr × Obj)} {σ : St} {H : Hp} {s : Shared} {p : Addr} {xs ys : List V} {its its' : List Value} {n n' : Nat} {f : Obj → Obj} (I : Inv X pins σ H s) (h : H p = some (.lst xs))
    (ho : s.heap.get? p = some { cls := .type "list", data := .seq its.toArray n }) (hf : f { cls := .type "list", data := .seq its.toArray n } = { cls := .type "list", data := .seq its'.toArray n' }) (r : Vals ys its') (hz : ys.length ≤ sizeLine) (t : Nat) :
    Inv X pins σ (upd H p (.lst ys)) { s with heap := s.heap.update p f, toks := t } := by
  have e : (s.heap.update p f).get? p = some { cls := .type "list", data := .seq its'.toArray n' } := by
    rw [Heap.get?_update_self f ho (by rw [hf] <;> rfl), hf]
  refine I.write (x := p) (e := p) (by rw [h]; trivial) (.inl rfl) (fun b u hb q => (Heap.get?_update_other _ _ (Ne.symm hb)).trans q) ⟨_, e⟩ ?_
  exact ⟨hz, its', n', r, e⟩
def rSetL : V → V → V → Hp → (Hp → Prop) → Prop := fun o i v H Q => ∃ p xs k j, o = .ref p ∧ i = .int k ∧ H p = some (.lst xs) ∧ ixN xs.length k = some j ∧ Q (upd H p (.lst (xs.set j v)))
theorem set_list : PSet X rSetL := by
  intro pins s σ H o i v ov iv u Q I ro ri rv h
  obtain ⟨p, xs, k, j, rfl, rfl, hp, hj, q⟩ := h
  cases ro
  obtain ⟨t, rfl⟩ := ri
  obtain ⟨its, n, r, ho, hz⟩ := I.lst hp
  obtain ⟨h1, h2, h3, h4⟩ := ixN_seq hj
  have hl := r.length
  have hn := line63
  have I' : Inv X pins σ (upd H p (.lst (xs.set j v))) { s with heap := s.heap.update p (Obj.mapSeq (·.setIfInBounds j u)) } :=
    I.lstUpd hp ho (mapSeq_set its n j u) (r.set rv j) (by rw [List.length_set]; exact hz) s.toks
  by_cases h0 : 0 ≤ k
  · have hk : k.toNat = j := by
      rw [seqIndex_of h0 h4] at h1
      exact Option.some.inj h1
    exact PySem.W.ki_setAt ho h0 (by omega) (by rw [List.size_toArray, ← hl]; exact h4) (by rw [hk]; exact ⟨_, I', q⟩)
  · have hk : (k + (its.toArray.size : Int)).toNat = j := by
      rw [seqIndex_neg (by omega) h3] at h1
      rw [List.size_toArray, ← hl]
      exact Option.some.inj h1
    exact PySem.W.ki_setBack ho (by omega) (by rw [List.size_toArray, ← hl]; exact h3) (by omega) (by rw [hk]; exact ⟨_, I', q⟩)

/-! ### slices -/
theorem slice_bounds (lo hi : Option Int) (n : Nat) : (sliceBounds lo hi none n).1 = ((HT.sIx n 0 lo : Nat) : Int) ∧ (sliceBounds lo hi none n).2.1 = ((HT.sIx n n hi : Nat) : Int) ∧ (sliceBounds lo hi none n).2.2 = 1 := by
  refine ⟨?_, ?_, rfl⟩
  · cases lo with
    | none => simp [sliceBounds, HT.sIx]
    | some i =>
      simp only [sliceBounds, HT.sIx, Option.getD_none, show (1 : Int) > 0 by decide, if_true]
      by_cases h : i < 0
      · simp only [h, if_true] <;> omega
      · simp only [h, if_false] <;> omega
  · cases hi with
    | none => simp [sliceBounds, HT.sIx]
    | some i =>
      simp only [sliceBounds, HT.sIx, Option.getD_none, show (1 : Int) > 0 by decide, if_true]
      by_cases h : i < 0
      · simp only [h, if_true] <;> omega
      · simp only [h, if_false] <;> omega
theorem slicePick_cut (its : List Value) (lo hi : Option Int) : slicePick its.toArray lo hi none = ((its.drop (HT.sIx its.length 0 lo)).take (HT.sIx its.length its.length hi - HT.sIx its.length 0 lo)).toArray := by
  obtain ⟨h1, h2, h3⟩ := slice_bounds lo hi its.toArray.size
  unfold slicePick
  rw [h1, h2, h3]
  simp only [sliceRange_one, pick_run, List.size_toArray] <;> rfl
/-- xs[lo:hi] of a list: a new list -/
def rSlL (K : PySem.W.Frag) : V → Option Int → Option Int → Hp → VK → Prop := fun x lo hi H Q => ∃ a xs, x = .ref a ∧ SqL K H a xs ∧ ∀ p, H p = none → Q (.ref p) (upd H p (.lst (cutV xs lo hi)))
theorem sl_list : SlR X (rSlL X.K) := by
  intro pins s σ H x v vl vu lo hi sl Q I rx hs pl pu h
  obtain ⟨a, xs, rfl, hx, q⟩ := h
  cases rx
  obtain ⟨its, r, ht, hz⟩ := I.list hx
  have hlen := r.length
  refine ⟨"list", _, slot_list_getitem.lookup, ht.isList.typeIs, ?_⟩
  refine wpAny_getItem_list_slice ht.isList hs pl pu .none (by simp) ?_ (by rw [List.size_toArray] <;> omega)
  rw [slicePick_cut, ← hlen]
  refine ⟨.ref s.heap.objs.size, _, I.laid (t' := s.toks) (o := .lst (cutV xs lo hi)) (fun b ob q => Heap.get?_push_of_some _ q) (Nat.le_refl _) ?_, rfl, q _ (I.hok.fresh (Nat.le_refl _))⟩
  exact ⟨Nat.le_trans (cutV_length xs lo hi) hz, _, 0, (r.drop (HT.sIx xs.length 0 lo)).take (HT.sIx xs.length xs.length hi - HT.sIx xs.length 0 lo), Heap.get?_push_size _ rfl⟩

/-! ### in, not in: flat items -/
def flatV : V → Bool
  | .non => true
  | .bl _ => true
  | .int _ => true
  | .str _ => true
  | _ => false
/-- == of flat values -/
def eqV : V → V → Bool
  | .non, .non => true
  | .bl a, .bl b => a == b
  | .bl a, .int b => (if a then 1 else 0) == b
  | .int a, .bl b => a == (if b then 1 else 0)
  | .int a, .int b => a == b
  | .str a, .str b => a == b
  | _, _ => false
theorem eqAt_V {A : Around} {s : Shared} {y x : V} {u v : Value} (ry : RelV y u) (rx : RelV x v) (fy : flatV y = true) (fx : flatV x = true) : SeqAt.EqAt A s u v (eqV y x) := by
  cases y with
  | non =>
    cases ry
    cases x with
    | non => cases rx; exact SeqAt.EqAt.same _
    | bl b => cases rx; exact SeqAt.EqAt.none_bool b
    | int b => obtain ⟨t, rfl⟩ := rx; exact SeqAt.EqAt.none_int b t
    | str b => obtain ⟨t, rfl⟩ := rx; exact SeqAt.EqAt.none_str b t
    | _ => exact absurd (show false = true from fx) Bool.false_ne_true
  | bl a =>
    cases ry
    cases x with
    | non => cases rx; exact SeqAt.EqAt.bool_none a
    | bl b => cases rx; exact SeqAt.EqAt.bool_bool a b
    | int b => obtain ⟨t, rfl⟩ := rx; exact SeqAt.EqAt.bool_int a b t
    | str b => obtain ⟨t, rfl⟩ := rx; exact SeqAt.EqAt.bool_str a b t
    | _ => exact absurd (show false = true from fx) Bool.false_ne_true
  | int a =>
    obtain ⟨t', rfl⟩ := ry
    cases x with
    | non => cases rx; exact SeqAt.EqAt.int_none a t'
    | bl b => cases rx; exact SeqAt.EqAt.int_bool a t' b
    | int b => obtain ⟨t, rfl⟩ := rx; exact SeqAt.EqAt.int_int a t' b t
    | str b => obtain ⟨t, rfl⟩ := rx; exact SeqAt.EqAt.int_str a t' b t
    | _ => exact absurd (show false = true from fx) Bool.false_ne_true
  | str a =>
    obtain ⟨t', rfl⟩ := ry
    cases x with
    | non => cases rx; exact SeqAt.EqAt.str_none a t'
    | bl b => cases rx; exact SeqAt.EqAt.str_bool a t' b
    | int b => obtain ⟨t, rfl⟩ := rx; exact SeqAt.EqAt.str_int a t' b t
    | str b => obtain ⟨t, rfl⟩ := rx; exact SeqAt.EqAt.str_str a t' b t
    | _ => exact absurd (show false = true from fx) Bool.false_ne_true
  | _ => exact absurd (show false = true from fy) Bool.false_ne_true
/-- the items' answers, read off the values (a value's own answer does not lean on its token) -/
def eqU (x : V) (u : Value) : Bool := match u with
  | .none => eqV .non x
  | .bool b => eqV (.bl b) x
  | .int i _ => eqV (.int i) x
  | .str z _ => eqV (.str z) x
  | _ => false
def inV (x : V) (xs : List V) : Bool := xs.any fun y => eqV y x
/-- x in a list or tuple of flat items -/
def rIn (K : PySem.W.Frag) (neg : Bool) : R2 := fun x y H Q => ∃ p xs, y = .ref p ∧ (SqL K H p xs ∨ SqT K H p xs) ∧ flatV x = true ∧ xs.all flatV = true ∧ Q (.bl (if neg then !inV x xs else inV x xs)) H
/-! ### len, list(x), tuple(x) of any list or tuple that is read -/
theorem call_len_seq : CallR X (.builtin "len") (fun xs H Q => ∃ p ys, xs = [.ref p] ∧ (SqL X.K H p ys ∨ SqT X.K H p ys) ∧ Q (.int ys.length) H) := by
  intro pins s σ H xs us Q I r h
  obtain ⟨p, ys, rfl, hq, q⟩ := h
  obtain ⟨u, rfl, rx⟩ := vals1 r
  cases rx
  have hn := line63
  rcases hq with hq | hq
  · obtain ⟨its, r', pl, hz⟩ := I.list hq
    have hlen := r'.length
    exact Calls.call_len_list pl.isList (by simp only [List.size_toArray] <;> omega) ⟨.int ys.length, H, I.tok _, ⟨s.toks + 1, by rw [List.size_toArray, hlen]⟩, q⟩
  · obtain ⟨its, r', pl, hz⟩ := I.tuple hq
    have hlen := r'.length
    exact len_tuple pl (by simp only [List.size_toArray] <;> omega) ⟨.int ys.length, H, I.tok _, ⟨s.toks + 1, by rw [List.size_toArray, hlen]⟩, q⟩
theorem call_len_str : CallR X (.builtin "len") (fun xs H Q => ∃ z, xs = [.str z] ∧ z.length ≤ sizeLine ∧ Q (.int z.length) H) := by
  intro pins s σ H xs us Q I r h
  obtain ⟨z, rfl, hz, q⟩ := h
  obtain ⟨u, rfl, t, rfl⟩ := vals1 r
  have hn := line63
  exact len_str (by omega) ⟨.int z.length, H, I.tok _, ⟨_, rfl⟩, q⟩
theorem call_list_of : CallR X (.type "list") (fun xs H Q => ∃ p ys, xs = [.ref p] ∧ (SqL X.K H p ys ∨ SqT X.K H p ys) ∧ ∀ l, H l = none → Q (.ref l) (upd H l (.lst ys))) := by
  intro pins s σ H xs us Q I r h
  obtain ⟨p, ys, rfl, hq, q⟩ := h
  obtain ⟨u, rfl, rx⟩ := vals1 r
  cases rx
  have fin : ∀ (its : List Value), Vals ys its → ys.length ≤ sizeLine → ∀ (h' : Heap) (c' : Nat), (∀ b o', s.heap.get? b = some o' → h'.get? b = some o') →
      h'.get? s.heap.objs.size = some { cls := .type "list", dict := none, data := .seq its.toArray c', slots := #[] } → EP X pins σ Q (.ref s.heap.objs.size) { s with heap := h' } := fun its r' hz h' c' kp e =>
    ⟨.ref s.heap.objs.size, _, I.laid (t' := s.toks) kp (Nat.le_refl _) (show ObjOk X.prog X.w _ h' _ (.lst ys) from ⟨hz, its, c', r', e⟩), rfl, q _ (I.hok.fresh (Nat.le_refl _))⟩
  rcases hq with hq | hq
  · obtain ⟨its, r', pl, hz⟩ := I.list hq
    have hlen := r'.length
    obtain ⟨o, ho, hc, n, hd⟩ := pl.isList
    exact call_list_seq p (.inl rfl) ho hc hd (fun h' c' kp e => fin its r' hz h' c' kp e) (by simp only [List.size_toArray] <;> omega)
  · obtain ⟨its, r', pl, hz⟩ := I.tuple hq
    have hlen := r'.length
    obtain ⟨o, ho, hc, n, hd⟩ := pl
    exact call_list_seq p (.inr rfl) ho hc hd (fun h' c' kp e => fin its r' hz h' c' kp e) (by simp only [List.size_toArray] <;> omega)
/-! ### the call of a builtin's method: o.m(..) -/
/-- the value is of that builtin type -/
def tyV (K : PySem.W.Frag) (T : String) (x : V) (H : Hp) : Prop := match x with
  | .str _ => T = "str"
  | .int _ => T = "int"
  | .ref p => (T = "list" ∧ ∃ xs, SqL K H p xs) ∨ (T = "tuple" ∧ ∃ o, K.lookup p = some o ∧ o.cls = .type "tuple" ∧ o.dict = none) ∨
      (T = "dict" ∧ ((∃ kvs, H p = some (.dK kvs)) ∨ ∃ kvs, H p = some (.dT kvs))) ∨ (T = "set" ∧ ∃ S n, H p = some (.set S n))
  | _ => False
theorem tyV_is {pins : List (Addr × Obj)} {σ : St} {H : Hp} {s : Shared} {T : String} {x : V} {v : Value} (I : Inv X pins σ H s) (r : RelV x v) (ty : tyV X.K T x H) :
    s.TypeIs v T ∧ ∀ a, v = .ref a → ∃ ob, s.heap.get? a = some ob ∧ ob.dict = none := by
  cases x with
  | str z =>
    obtain ⟨t, rfl⟩ := r
    cases (show T = "str" from ty)
    exact ⟨typeIs_str s z t, fun _ e => nomatch e⟩
  | int i =>
    obtain ⟨t, rfl⟩ := r
    cases (show T = "int" from ty)
    exact ⟨typeIs_int s i t, fun _ e => nomatch e⟩
  | ref p =>
    cases r
    rcases ty with ⟨rfl, xs, hq⟩ | ⟨rfl, o, hk, hc, hd⟩ | ⟨rfl, hk⟩ | ⟨rfl, S, n, hk⟩
    · obtain ⟨its, _, pl, _⟩ := I.list hq
      refine ⟨pl.isList.typeIs, fun a e => ?_⟩
      cases e
      obtain ⟨o, n, e, c, hd, _⟩ := pl
      exact ⟨o, e, hd⟩
    · refine ⟨⟨o, I.kIn p o hk, hc⟩, fun a e => ?_⟩
      cases e
      exact ⟨o, I.kIn _ o hk, hd⟩
    · have z : ∃ o, s.heap.get? p = some o ∧ o.ExactDict := by
        rcases hk with ⟨kvs, hk⟩ | ⟨kvs, hk⟩
        · obtain ⟨_, _, _, _, o, _, _, e, ex, _⟩ := I.hok p _ hk
          exact ⟨o, e, ex⟩
        · obtain ⟨_, _, _, _, o, _, _, e, ex, _⟩ := I.hok p _ hk
          exact ⟨o, e, ex⟩
      obtain ⟨o, e, ex⟩ := z
      refine ⟨⟨o, e, ex.1⟩, fun a e2 => ?_⟩
      cases e2
      exact ⟨o, e, ex.2.1⟩
    · obtain ⟨o, _, _, _, e, ex, _⟩ := I.hok p _ hk
      refine ⟨⟨o, e, ex.1⟩, fun a e2 => ?_⟩
      cases e2
      exact ⟨o, e, ex.2.1⟩
  | _ => exact False.elim ty
def tBM0 (K : PySem.W.Frag) (T : String) (r : V → List V → Hp → VK → Prop) (to : TE) : TE := fun σ H Q => to σ H fun x H1 => tyV K T x H1 ∧ r x [] H1 Q
def tBM (K : PySem.W.Frag) (T : String) (r : V → List V → Hp → VK → Prop) (to : TE) (t : TA) : TE := fun σ H Q => to σ H fun x H1 => tyV K T x H1 ∧ t σ H1 fun xs H2 => r x xs H2 Q
variable {o e : Expr} {es : List Expr} {to : TE} {t : TA} {name : Str} {apos cpos : Pos} {T id : String} {r : V → List V → Hp → VK → Prop}
theorem pe_bm0 (pa : PlainAttrs T) (slot : Slot T name id) (hty : typeOf (.builtin id) = pure (.type "method_descriptor")) (hm : MtR X id r) (ho : PE X o to)
    (hbase : attributeBase o name X.env (eval o X.env) = eval o X.env := by rfl) (hline : (apos.endLine == cpos.line) = true := by rfl) : PE X (.Call (.Attribute o name apos) [] [] cpos) (tBM0 X.K T r to) := by
  intro pins s σ H Q I h
  refine wpAny_Call_method0_late hbase hline (thn (ho pins s σ H _ I h) fun v s1 ⟨x, H1, I1, r1, ty, q1⟩ => ?_)
  obtain ⟨h1, h2⟩ := tyV_is I1 r1 ty
  exact ⟨T, id, pa, slot, hty, h1, h2, Calls.callWith_builtin rfl (PySem.evalArgs_none (hm pins s1 σ H1 x [] v [] Q I1 r1 .nil q1))⟩
theorem pe_bm (pa : PlainAttrs T) (slot : Slot T name id) (hty : typeOf (.builtin id) = pure (.type "method_descriptor")) (hm : MtR X id r) (ho : PE X o to) (ha : PA X (e :: es) t)
    (hbase : attributeBase o name X.env (eval o X.env) = eval o X.env := by rfl)
    (hfew : ((backTo cpos (starEach (e :: es) X.env)).all (fun x => !x.1) && (backToKw cpos (keywordEach [] X.env)).all (fun x => x.1.isSome)
      && decide ((e :: es).length + ([] : List Keyword).length + (if ([] : List Keyword).isEmpty then 0 else 1) < 30)) = true := by rfl)
    (hline : (apos.endLine == cpos.line) = true := by rfl) (hs : starEach (e :: es) X.env = (false, eval e X.env) :: starEach es X.env := by rfl) (hplain : (backTo cpos (starEach es X.env)).any (·.1) = false := by rfl) :
    PE X (.Call (.Attribute o name apos) (e :: es) [] cpos) (tBM X.K T r to t) := by
  intro pins s σ H Q I h
  refine wpAny_Call_method_late hbase hfew hline rfl (thn (ho pins s σ H _ I h) fun v s1 ⟨x, H1, I1, r1, ty, q1⟩ => ?_)
  obtain ⟨h1, h2⟩ := tyV_is I1 r1 ty
  refine ⟨T, id, pa, slot, hty, h1, h2, ?_⟩
  have hA := ha cpos pins s1 σ H1 _ I1 q1
  rw [hs] at hA ⊢
  refine Calls.callWith_builtin (by show (false || (backTo cpos (starEach es X.env)).any (·.1)) = false; rw [hplain] <;> rfl) (Calls.evalArgs_plain ?_)
  exact thn hA fun us s2 ⟨vs, H2, I2, r2, q2⟩ => hm pins s2 σ H2 x vs v us Q I2 r1 r2 q2
/- xs.append(e), list.index on a module's tuple .. are MtR facts of 06m -/
end
end L2

namespace L2
open PySem PySem.Spec PyProof.Rows

def MtM (X : Cx) (id : String) (r : V → List V → Hp → VK → Prop) : Prop :=
  ∀ (pins : List (Addr × Obj)) (s : Shared) (σ : St) (H : Hp) (x : V) (xs : List V) (v : Value) (us : List Value) (Q : VK), Inv X pins σ H s → RelV x v → Vals xs us → r x xs H Q →
    wpAny (model X.prog X.w) X.A (call (.builtin id) (v :: us)) (EP X pins σ Q) X.xe s

/-! ### lists of values -/
theorem Vals.one : ∀ {x : V} {us : List Value}, Vals [x] us → ∃ u, us = [u] ∧ RelV x u
  | _, _, .cons r .nil => ⟨_, rfl, r⟩
theorem Vals.zero : ∀ {us : List Value}, Vals [] us → us = []
  | _, .nil => rfl
section
variable {X : Cx} {pins : List (Addr × Obj)} {σ : St} {H : Hp} {s : Shared} {l b : Addr} {xs ys zs : List V}

/-! ### the two steps: a tracked list is rewritten, a new list is laid -/
theorem Inv.lset {its its' : List Value} {n : Nat} {f : Array Value → Array Value} {t' : Nat} (I : Inv X pins σ H s) (hH : H l = some (.lst xs))
    (e : s.heap.get? l = some { cls := .type "list", data := .seq its.toArray n }) (hf : f its.toArray = its'.toArray) (hv : Vals ys its') (hz : ys.length ≤ sizeLine) :
    Inv X pins σ (upd H l (.lst ys)) { s with heap := s.heap.update l (Obj.mapSeq f), toks := t' } := by
  have q := PySem.IsL.update e f
  rw [hf] at q
  refine I.write (x := l) (e := l) (by rw [hH]; exact trivial) (.inl rfl) (fun b' u hb hu => (Heap.get?_update_other s.heap (Obj.mapSeq f) (Ne.symm hb)).trans hu) ⟨_, q⟩ ?_
  exact ⟨hz, its', _, hv, q⟩
theorem Inv.lnew {its : List Value} {t' : Nat} (I : Inv X pins σ H s) (hv : Vals ys its) (hz : ys.length ≤ sizeLine) :
    Inv X pins σ (upd H s.heap.objs.size (.lst ys)) { s with heap := s.heap.push { cls := .type "list", data := .seq its.toArray }, toks := t' } :=
  I.laid (fun _ _ q => Heap.get?_push_of_some _ q) (Nat.le_refl _) ⟨hz, its, 0, hv, Heap.get?_push_size _ rfl⟩
theorem Inv.fresh (I : Inv X pins σ H s) : H s.heap.objs.size = none := I.hok.fresh (Nat.le_refl _)
theorem Inv.lstM (I : Inv X pins σ H s) (hH : H l = some (.lst xs)) : xs.length ≤ sizeLine ∧ ∃ (its : List Value) (n : Nat), Vals xs its ∧ xs.length = its.length ∧ s.heap.get? l = some { cls := .type "list", data := .seq its.toArray n } := by
  obtain ⟨z, its, n, r, e⟩ := I.hok l _ hH
  exact ⟨z, its, n, r, r.length, e⟩

theorem notLongL {n : Nat} (h : n ≤ sizeLine) : Builtin.List.listTooLong n = false := by
  unfold Builtin.List.listTooLong
  exact decide_eq_false (by omega)
end

section
variable {X : Cx}

/-! ### methods -/
def rAppend : V → List V → Hp → VK → Prop := fun x vs H Q => ∃ l xs y, x = .ref l ∧ vs = [y] ∧ H l = some (.lst xs) ∧ xs.length < sizeLine ∧ Q .non (upd H l (.lst (xs ++ [y])))
theorem mt_append : MtM X "list.append" rAppend := by
  intro pins s σ H x vs v us Q I rx rv h
  obtain ⟨l, xs, y, rfl, rfl, hH, hz, q⟩ := h
  cases rx
  obtain ⟨u, rfl, ru⟩ := rv.one
  obtain ⟨z, its, n, r, hl, e⟩ := I.lstM hH
  refine call_meets F.slot_list_append ⟨_, e, rfl⟩ F.entry_list_append (F.args_list_append_2 _ _) (PySem.list_append l its.toArray n u (by rw [List.size_toArray]; omega)) ⟨e, ?_⟩
  refine ⟨.non, _, I.lset (its' := its ++ [u]) hH e (by simp) (r.append (.cons ru .nil)) ?_, rfl, q⟩
  rw [List.length_append, List.length_singleton]
  omega

def rExtend : V → List V → Hp → VK → Prop := fun x vs H Q => ∃ l b xs zs, x = .ref l ∧ vs = [.ref b] ∧ H l = some (.lst xs) ∧ H b = some (.lst zs) ∧ xs.length + zs.length ≤ sizeLine ∧ Q .non (upd H l (.lst (xs ++ zs)))
theorem mt_extend : MtM X "list.extend" rExtend := by
  intro pins s σ H x vs v us Q I rx rv h
  obtain ⟨l, b, xs, zs, rfl, rfl, hH, hB, hz, q⟩ := h
  cases rx
  obtain ⟨u, rfl, ru⟩ := rv.one
  cases ru
  obtain ⟨z, its, n, r, hl, e⟩ := I.lstM hH
  obtain ⟨z2, its2, n2, r2, hl2, e2⟩ := I.lstM hB
  have hsz : its.toArray.size + its2.toArray.size ≤ sizeLine := by rw [List.size_toArray, List.size_toArray]; omega
  have hlong : ¬ (!its.toArray.isEmpty && Builtin.List.listTooLong (its.toArray.size + its2.toArray.size)) = true := by
    rw [notLongL hsz, Bool.and_false]
    exact Bool.false_ne_true
  refine call_meets F.slot_list_extend ⟨_, e, rfl⟩ F.entry_list_extend (F.args_list_extend_2 _ _)
    (AutoSeq1.list_extend_list_list_0 l its.toArray n b its2.toArray n2 hlong (by rw [List.size_toArray]; omega) (by omega)) ⟨e, e2, ?_⟩
  refine ⟨.non, _, I.lset (its' := its ++ its2) hH e (by simp) (r.append r2) ?_, rfl, q⟩
  rw [List.length_append]
  omega

def rPop : V → List V → Hp → VK → Prop := fun x vs H Q => ∃ l xs y, x = .ref l ∧ vs = [] ∧ H l = some (.lst xs) ∧ xs[xs.length - 1]? = some y ∧ Q y (upd H l (.lst xs.dropLast))
def rPopAt : V → List V → Hp → VK → Prop := fun x vs H Q => ∃ l xs i k y, x = .ref l ∧ vs = [.int i] ∧ H l = some (.lst xs) ∧ -(2 ^ 63) ≤ i ∧ i < 2 ^ 63 ∧ seqIndex? i xs.length = some k ∧ xs[k]? = some y ∧ Q y (upd H l (.lst (xs.eraseIdx k)))
def rReverse : V → List V → Hp → VK → Prop := fun x vs H Q => ∃ l xs, x = .ref l ∧ vs = [] ∧ H l = some (.lst xs) ∧ Q .non (upd H l (.lst xs.reverse))
def rClear : V → List V → Hp → VK → Prop := fun x vs H Q => ∃ l xs, x = .ref l ∧ vs = [] ∧ H l = some (.lst xs) ∧ Q .non (upd H l (.lst []))
theorem mt_clear : MtM X "list.clear" rClear := by
  intro pins s σ H x vs v us Q I rx rv h
  obtain ⟨l, xs, rfl, rfl, hH, q⟩ := h
  cases rx
  have hus := rv.zero
  subst hus
  obtain ⟨z, its, n, r, hl, e⟩ := I.lstM hH
  refine call_meets F.slot_list_clear ⟨_, e, rfl⟩ F.entry_list_clear (F.args_list_clear_1 _) (AutoSeq1.list_clear_list_0 l its.toArray n (by rw [List.size_toArray]; omega)) ⟨e, ?_⟩
  exact ⟨.non, _, I.lset (its' := []) (ys := []) hH e rfl .nil (Nat.zero_le _), rfl, q⟩

/-! ### list + list, list += list, list * int -/
def rCat : R2 := fun x y H Q => ∃ l b xs zs, x = .ref l ∧ y = .ref b ∧ H l = some (.lst xs) ∧ H b = some (.lst zs) ∧ xs.length + zs.length ≤ sizeLine ∧ ∀ p, H p = none → Q (.ref p) (upd H p (.lst (xs ++ zs)))
theorem op_cat : OpR X (binaryOp .Add) rCat := by
  intro pins s σ H x y v u Q I rx ry h
  obtain ⟨l, b, xs, zs, rfl, rfl, hH, hB, hz, q⟩ := h
  cases rx
  cases ry
  obtain ⟨z, its, n, r, hl, e⟩ := I.lstM hH
  obtain ⟨z2, its2, n2, r2, hl2, e2⟩ := I.lstM hB
  refine PySem.P.add_list e e2 ?_ (by rw [List.size_toArray, List.size_toArray]; omega)
  have ea : its.toArray ++ its2.toArray = (its ++ its2).toArray := by simp
  rw [ea]
  exact ⟨.ref _, _, I.lnew (t' := s.toks) (r.append r2) (by rw [List.length_append]; omega), rfl, q _ I.fresh⟩
/-- a list times an int (a negative one is nothing) -/
def rRep : R2 := fun x y H Q => ∃ l k xs, x = .ref l ∧ y = .int k ∧ H l = some (.lst xs) ∧ -(2 ^ 63) ≤ k ∧ k < 2 ^ 63 ∧ xs.length * k.toNat ≤ sizeLine ∧
  ∀ p, H p = none → Q (.ref p) (upd H p (.lst (List.replicate k.toNat xs).flatten))
/-! ### del xs[i] -/
end

/-! ### xs[a:b] = ys -/
section
variable {prog : Program} {w : World} {A : Around} {E : Value → Shared → Prop} {s : Shared}
set_option maxRecDepth 100000 in
end

section
variable {X : Cx}
end
end L2

namespace L2
open PySem PySem.Spec PyProof.Rows

/-! ### lists of pairs as tables -/
section
variable {κ : Type} [DecidableEq κ]
def valV (kvs : List (κ × V)) (k : κ) : Option V := (kvs.find? fun kv => decide (kv.1 = k)).map (·.2)
/-- in its place, or at the end -/
def putK (kvs : List (κ × V)) (k : κ) (v : V) : List (κ × V) :=
  if (kvs.any fun kv => decide (kv.1 = k)) = true then kvs.map (fun kv => if kv.1 = k then (kv.1, v) else kv) else kvs ++ [(k, v)]
def dropK (kvs : List (κ × V)) (k : κ) : List (κ × V) := kvs.filter fun kv => decide (kv.1 ≠ k)

theorem KV.length {kvs : List (κ × V)} {vs : List (κ × Value)} (r : KV kvs vs) : kvs.length = vs.length := Paired.length r
end


/-! ### a tracked dict, its keys ints and texts or tuples of these -/
/-- raw entries of a dict with tuple keys -/
abbrev KT (H : Hp) : List (List Key × V) → List (List Key × Addr × Value) → Prop := Paired fun p q => p.1 = q.1 ∧ H q.2.1 = some (.tup (p.1.map kV)) ∧ RelV p.2 q.2.2
section
variable {P : Program} {w : World} {H : Hp} {h : Heap} {a : Addr}
theorem rd_of {u : HO} (ok : HOk P w H h) (e : Rd H a u) : ObjOk P w H h a u := e.ok ok
theorem dk_rd {kvs : List (Key × V)} (ok : HOk P w H h) (e : Rd H a (.dK kvs)) : kvs.length ≤ sizeLine ∧ (a == sysModules) = false ∧ ∃ vs, KV kvs vs ∧ h.DictOf (mixKind P w) a vs :=
  show ObjOk P w H h a (.dK kvs) from rd_of ok e
end

/-- what the dict at a holds at the key y -/
def DGet (H : Hp) (a : Addr) (y : V) (r : Option V) : Prop :=
  (∃ kvs k, Rd H a (.dK kvs) ∧ y = kV k ∧ r = valV kvs k) ∨ ∃ kvs k b, Rd H a (.dT kvs) ∧ y = .ref b ∧ H b = some (.tup (k.map kV)) ∧ r = valV kvs k
/-- the heap behind a[y] = v -/
def DPut (H : Hp) (a : Addr) (y v : V) (H' : Hp) : Prop :=
  (∃ kvs k, H a = some (.dK kvs) ∧ y = kV k ∧ kvs.length < sizeLine ∧ H' = upd H a (.dK (putK kvs k v))) ∨
  ∃ kvs k b, H a = some (.dT kvs) ∧ y = .ref b ∧ H b = some (.tup (k.map kV)) ∧ kvs.length < sizeLine ∧ H' = upd H a (.dT (putK kvs k v))
section
variable {X : Cx} {pins : List (Addr × Obj)} {σ : St} {H : Hp} {s : Shared} {a : Addr} {y v : V} {u r : Value} {o : Option V} {A : Around} {E : Value → Shared → Prop}

end

section
variable {X : Cx} {pins : List (Addr × Obj)} {σ : St} {H : Hp} {s : Shared} {a : Addr} {kvs : List (Key × V)} {k : Key} {u : Value} {A : Around} {E : Value → Shared → Prop}
/-- len(d) -/
theorem d_len {Q : Value → Shared → Prop} (I : Inv X pins σ H s) (e : Rd H a (.dK kvs)) (h : ∀ t s', Inv X pins σ H s' → Q (.int kvs.length t) s') : wpAny (model X.prog X.w) A (call (.builtin "len") [.ref a]) Q E s := by
  obtain ⟨z, hd, vs, rel, dd⟩ := dk_rd I.hok e
  refine call_len_dict hd dd (by rw [← rel.length]; rw [sizeLine_eq] at z; omega) ?_
  rw [← rel.length]
  exact h _ _ (I.tok _)
end


/-! ### readings and rules -/
/-- the element of a subscription, not a slice -/
def NoSl (i : Expr) : Prop := ∀ ov iv, subscripted i false ov iv = operate [ov, iv] (getItem ov iv)
/-- d[y] -/
def tDGet (td ty : TE) : TE := fun σ H Q => td σ H fun x H1 => ty σ H1 fun y H2 => ∃ a v, x = .ref a ∧ DGet H2 a y (some v) ∧ Q v H2
/-- y in d, y not in d -/
def tDIn (ty td : TE) : TE := fun σ H Q => ty σ H fun y H1 => td σ H1 fun x H2 => ∃ a o, x = .ref a ∧ DGet H2 a y o ∧ Q (.bl o.isSome) H2
def tDNotIn (ty td : TE) : TE := fun σ H Q => ty σ H fun y H1 => td σ H1 fun x H2 => ∃ a o, x = .ref a ∧ DGet H2 a y o ∧ Q (.bl (!o.isSome)) H2
/-- d[y] = v -/
def sDPut (td ty tv : TE) : TS := fun D σ H => tv σ H fun v H1 => td σ H1 fun x H2 => ty σ H2 fun y H3 => ∃ a H4, x = .ref a ∧ DPut H3 a y v H4 ∧ D.nx σ H4
/-- d[y] op= v -/
def sDAug (td ty tv : TE) (rd : V → V → Hp → VK → Prop) : TS := fun D σ H => td σ H fun x H1 => ty σ H1 fun y H2 => ∃ a v, x = .ref a ∧ DGet H2 a y (some v) ∧
  tv σ H2 fun y2 H3 => rd v y2 H3 fun z H4 => ∃ H5, DPut H4 a y z H5 ∧ D.nx σ H5
/-- del d[y] -/
def sDDel (td ty : TE) : TS := fun D σ H => td σ H fun x H1 => ty σ H1 fun y H2 => ∃ a kvs k, x = .ref a ∧ H2 a = some (.dK kvs) ∧ y = kV k ∧ (valV kvs k).isSome = true ∧ D.nx σ (upd H2 a (.dK (dropK kvs k)))

section
variable {X : Cx} {o i e value : Expr} {pos pos' tpos : Pos} {td ty tv : TE}
end


/-! ### displays -/
/-- {}, to be a dict of the kind that is wanted -/
def tDNewK : TE := fun _ H Q => ∀ p, H p = none → Q (.ref p) (upd H p (.dK []))
def tDNewT : TE := fun _ H Q => ∀ p, H p = none → Q (.ref p) (upd H p (.dT []))
section
variable {X : Cx} {pos : Pos}
end

/-- the pairs of a display, from the left -/
def tPairs : List (TE × TE) → St → Hp → (List (V × V) → Hp → Prop) → Prop
  | [], _, H, Q => Q [] H
  | (tk, tv) :: r, σ, H, Q => tk σ H fun x H1 => tv σ H1 fun y H2 => tPairs r σ H2 fun ps H3 => Q ((x, y) :: ps) H3
abbrev VV : List (V × V) → List (Value × Value) → Prop := Paired fun p q => RelV p.1 q.1 ∧ RelV p.2 q.2
def PPs (X : Cx) (pos : Pos) (keys : List (Option Expr)) (values : List Expr) (trs : List (TE × TE)) : Prop :=
  ∀ (pins : List (Addr × Obj)) (s : Shared) (σ : St) (H : Hp) (Q : List (V × V) → Hp → Prop), Inv X pins σ H s → tPairs trs σ H Q →
    wpAny (model X.prog X.w) X.A (evalPairs (pairTrees keys values X.env pos)) (fun vs s' => ∃ ps H', Inv X pins σ H' s' ∧ VV ps vs ∧ Q ps H') X.xe s
def mergeK (kvs more : List (Key × V)) : List (Key × V) := more.foldl (fun acc kv => putK acc kv.1 kv.2) kvs
/-- {k: v, ..} with keys ints and texts; the new dict stands empty while the pairs are made -/
def tDisp (trs : List (TE × TE)) : TE := fun σ H Q => ∀ p, H p = none → tPairs trs σ (upd H p (.dK [])) fun ps H2 => H2 p = some (.dK []) ∧ ∃ kvs : List (Key × V), ps = kvs.map (fun kv => (kV kv.1, kv.2)) ∧ kvs.length ≤ 15 ∧ Q (.ref p) (upd H2 p (.dK (mergeK [] kvs)))
/-! ### methods -/
/-- a method call o.m(e) of a built-in, with one argument: what must be seen of the text -/
structure M1 (X : Cx) (o : Expr) (m : Str) (apos : Pos) (e : Expr) (cpos : Pos) : Prop where
  base : attributeBase o m X.env (eval o X.env) = eval o X.env
  few : ((backTo cpos (starEach [e] X.env)).all (fun x => !x.1) && (backToKw cpos (keywordEach [] X.env)).all (fun x => x.1.isSome)
    && decide (([e] : List Expr).length + ([] : List Keyword).length + (if ([] : List Keyword).isEmpty then 0 else 1) < 30)) = true
  line : (apos.endLine == cpos.line) = true
  trees : backTo cpos (starEach [e] X.env) = [(false, eval e X.env)]
structure M2 (X : Cx) (o : Expr) (m : Str) (apos : Pos) (e f : Expr) (cpos : Pos) : Prop where
  base : attributeBase o m X.env (eval o X.env) = eval o X.env
  few : ((backTo cpos (starEach [e, f] X.env)).all (fun x => !x.1) && (backToKw cpos (keywordEach [] X.env)).all (fun x => x.1.isSome)
    && decide (([e, f] : List Expr).length + ([] : List Keyword).length + (if ([] : List Keyword).isEmpty then 0 else 1) < 30)) = true
  line : (apos.endLine == cpos.line) = true
  trees : backTo cpos (starEach [e, f] X.env) = [(false, eval e X.env), (false, eval f X.env)]

/-- a is a dict, whatever its keys -/
def IsD (H : Hp) (a : Addr) : Prop := (∃ kvs, Rd H a (.dK kvs)) ∨ ∃ kvs, Rd H a (.dT kvs)
section
variable {X : Cx} {pins : List (Addr × Obj)} {σ : St} {H : Hp} {s : Shared} {a : Addr} {y d : V} {u r : Value} {o : Option V} {A : Around} {E : Value → Shared → Prop}
end

def tDGet1 (td ty : TE) : TE := fun σ H Q => td σ H fun x H1 => ∃ a, x = .ref a ∧ IsD H1 a ∧ ty σ H1 fun y H2 => ∃ o, DGet H2 a y o ∧ Q (o.getD .non) H2
def tDGet2 (td ty tx : TE) : TE := fun σ H Q => td σ H fun x H1 => ∃ a, x = .ref a ∧ IsD H1 a ∧ ty σ H1 fun y H2 => tx σ H2 fun z H3 => ∃ o, DGet H3 a y o ∧ Q (o.getD z) H3
/-- d.pop(k): there; d.pop(k, x): there or not -/
def tDPop1 (td ty : TE) : TE := fun σ H Q => td σ H fun x H1 => ∃ a, x = .ref a ∧ IsD H1 a ∧ ty σ H1 fun y H2 => ∃ kvs k v, H2 a = some (.dK kvs) ∧ y = kV k ∧ valV kvs k = some v ∧ Q v (upd H2 a (.dK (dropK kvs k)))
def tDPop2 (td ty tx : TE) : TE := fun σ H Q => td σ H fun x H1 => ∃ a, x = .ref a ∧ IsD H1 a ∧ ty σ H1 fun y H2 => tx σ H2 fun z H3 => ∃ kvs k, H3 a = some (.dK kvs) ∧ y = kV k ∧
  (∀ v, valV kvs k = some v → Q v (upd H3 a (.dK (dropK kvs k)))) ∧ (valV kvs k = none → Q z H3)
section
variable {X : Cx} {o e f : Expr} {apos cpos : Pos} {td ty tx : TE}
end

/-! ### dict(d): a copy -/
section
variable {X : Cx} {pins : List (Addr × Obj)} {σ : St} {H : Hp} {s : Shared} {a : Addr} {kvs : List (Key × V)} {A : Around} {E : Value → Shared → Prop}
end


section
variable {X : Cx} {pins : List (Addr × Obj)} {σ : St} {H : Hp} {s : Shared} {a : Addr} {y : V} {u : Value} {A : Around} {E : Value → Shared → Prop}
end
end L2

namespace Att
open PySem PySem.W PySem.Calls PyProof.Rows

/-! ### the script -/
theorem ints_of_wellAll {P : Params} {h : Heap} : ∀ (ns : List Int) (vs : List Value), WellAll P h vs (ns.map WData.int) → IntsAre vs ns := by
  intro ns
  induction ns with
  | nil =>
    intro vs w
    rw [List.map_nil] at w
    cases w
    exact .nil
  | cons n ns ih =>
    intro vs w
    rw [List.map_cons] at w
    cases w with
    | cons a b =>
      cases a
      exact .cons _ _ (ih _ b)

theorem script_of {l : OpenLaw} {n : Nat} (hn : l.most = some n) {P : Params} {h : Heap} {args : List WData} {vals : List Value}
    (hpre : l.row.toRowW.claim.pre args = true) (hwl : WellAll P h vals args) :
    ∃ a vs ns, vals = [Value.ref a] ∧ args = [WData.list (ns.map WData.int)] ∧ h.get? a = some { cls := .type "list", data := .seq vs.toArray } ∧ IntsAre vs ns ∧ ns.length ≤ n := by
  have hsh : WShape.hasAll [] args [.list .int] = true := (pre_splitW hpre).1
  have hc : l.pre.holds [] { args := args } = true := (pre_splitW hpre).2
  obtain ⟨d, r, rfl, h1, h2⟩ := hasAllW_cons hsh
  obtain rfl := hasAllW_nil h2
  obtain ⟨xs, rfl, h3⟩ := hasW_list h1
  obtain ⟨ns, rfl⟩ := items_int h3
  have hlen : ns.length ≤ n := by
    unfold OpenLaw.pre at hc
    have h4 : (WTm.not (.lt (.lit (.int (n : Int))) (.len (.arg 0)))).holds [] { args := [.list (ns.map .int)] } = true := by
      have h4 := (holds_andW hc).1
      rw [hn] at h4
      exact h4
    have h5 := condW_of h4 (w_not (w_lt w_lit (w_len_list (w_arg rfl))))
    rw [List.length_map] at h5
    refine Nat.le_of_not_lt fun q => ?_
    have q' : (n : Int) < ((ns.length : Nat) : Int) := by omega
    first
      | (rw [decide_eq_true q'] at h5; exact absurd h5 (by decide))
      | (simp at h5; omega)
  cases hwl with
  | cons w1 w2 =>
    cases w2
    cases w1 with
    | list ho hall => exact ⟨_, _, ns, rfl, rfl, ho, ints_of_wellAll ns _ hall, hlen⟩

theorem post_true (l : OpenLaw) (args : List WData) : l.row.toRowW.claim.post args (.bool true) args = true :=
  postW_of (r := l.row.toRowW) (X := (true == true))
    (show WShape.has [] (.bool true) .bool = true by first | rfl | decide | simp [WShape.has, WShape.arms, WShape.armsAll])
    (show (WTm.eq .res (.lit (.bool true))).value [] { args := args, res := some (.bool true), after := args } = some (.bool (true == true)) from w_eq_bool (w_res rfl) w_lit) rfl

/-! ### the attachment: holds_open's last premise (the goal 'hc' behind k_head) from a wpAny of the law's body -/
/-- the same from a codeAny of the CALL (for a layer whose function contracts speak of calls) -/
theorem attach_call {l : OpenLaw} {n : Nat} {q : Program} {loose : List Str} {XP : (Str → Option Value) → Heap → Prop} {YP : World → Heap → Prop} {d : DefRec}
    (hn : l.most = some n) (hdf : d.params.defaults = [])
    (call : ∀ (w : World) (s₀ s₁ : Shared) (mg mb : Str → Option Value) (fa : Addr) (o : Obj) (pm cd doc : Value) (a : Addr) (vs : List Value) (ns : List Int),
      Ground q loose [] XP w s₀ mg mb s₁.heap → YP w s₁.heap →
      s₁.heap.get? fa = some o → o.data = .func (docDef d.name d.params d.body d.scope pm cd doc) → s₁.heap.CodeRec cd d.name → mg d.name = some (.ref fa) →
      s₁.heap.get? a = some { cls := .type "list", data := .seq vs.toArray } → IntsAre vs ns → ns.length ≤ n → s₁.gens = #[] →
      codeAny (model l.prog w) callerA (.call (.ref fa) ⟨[.ref a], []⟩) (fun r s' => r = .ok (.ret (.bool true)) ∧ OldK s₁.heap s'.heap ∧ s'.os = s₁.os ∧ AllBare s'.gens) s₁) :
    WalkO q loose XP YP l.row.toRowW d [] (fun f vs => PySem.call f vs) := by
  intro w s₀ s₁ mg mb G Y fa o pm cd doc dV kV ho hd hcd hD hmg hg args vals as hpre hlay hrd hwl hlo
  obtain rfl : dV = .none := Dflts.none hD hdf
  obtain rfl : kV = .none := Dflts.noKw hD
  obtain ⟨a, vs, ns, rfl, rfl, hobj, hints, hlen⟩ := script_of hn hpre hwl
  refine enter_call (codeAny_mono (call w s₀ s₁ mg mb fa o pm cd doc a vs ns G Y ho (fd_plain hd) hcd hmg hobj hints hlen hg) fun r s' hq => ?_)
  obtain ⟨rfl, h2, h3, h4⟩ := hq
  exact ⟨.inl ⟨.bool true, .bool true, [], rfl, fun _ => rfl, .bool true, post_true l _, fun _ => ⟨List.Pairwise.nil, fun _ hm => (nomatch hm)⟩⟩, h2, h3, h4⟩

/-! ### rules over ANY heap (no ledger) from facts about the written part K: the library's own take a ledger (News) for what they write -/
section
variable {prog : Program} {w : World} {A : Around} {E : Value → Shared → Prop} {s : Shared} {K : Frag}

/-! the whole heap as the ledger: makes every rule that writes through a ledger a rule over any heap -/
def noObjs (h : Heap) : Heap := { h with objs := #[] }
def ledger (h : Heap) (L d : Addr) : List (Addr × Obj) := (List.range h.objs.size).filterMap fun a => if a = L ∨ a = d then none else (h.get? a).map fun o => (a, o)
end
end Att

namespace L2
open PySem PySem.Spec PyProof.Rows

theorem vals_ints : ∀ {vs : List Value} {ns : List Int}, IntsAre vs ns → Vals (ns.map V.int) vs
  | _, _, .nil => .nil
  | _, _, .cons n t h => .cons ⟨t, rfl⟩ (vals_ints h)

/-- nothing is tracked but the script, known to the object (or it is an object of the module) -/
def Only (H : Hp) : Prop := ∀ b, H b = none ∨ ∃ o xs, H b = some (.frz o (.lst xs))

/-- THE HEAD: the law's promise, at the heap behind the top. F, the promise of the law's def, may use that base is part of the heap (so K.In base, base.Ns mainGlobals mg stand in Mod) -/
theorem law_call {P : Program} {w : World} {K : PySem.W.Frag} {mg mb : Str → Option Value} {CX : CXT} {k : Nat} {fa a : Addr} {fd : FuncData} {x : Str} {sp : Sp} {s₁ : Shared} {vs : List Value} {ns : List Int}
    (KX : K.In s₁.heap) (hns : s₁.heap.Ns mainGlobals mg) (hb : s₁.heap.Ns builtinsNs mb) (hbb : ∀ x : Str, x ≠ "__name__" → mb x = bootBuiltins x) (hlim : s₁.heap.NoLimit) (hg : s₁.gens = #[])
    (ha : s₁.heap.get? a = some { cls := .type "list", data := .seq vs.toArray }) (hi : IntsAre vs ns) (hl : ns.length ≤ sizeLine) (hr : Room k callerA)
    (F : ∀ base : Heap, K.In base → base.Ns mainGlobals mg → FnOk P w K mg base CX k fa fd [x] sp) (hbind : ∀ (s : Shared) (u : Value), BindsTo s fd ⟨[u], []⟩ [(x, u)])
    (hsp : ∀ H : Hp, Only H → SqL K H a (ns.map V.int) → sp [.ref a] H (fun v _ => v = .bl true) fun _ _ _ => False)
    (hCX : ∀ H e s', CX [] H s₁ (fun _ _ _ => False) e s' → False) :
    codeAny (model P w) callerA (.call (.ref fa) ⟨[.ref a], []⟩) (fun r s' => r = .ok (.ret (.bool true)) ∧ OldK s₁.heap s'.heap ∧ s'.os = s₁.os ∧ AllBare s'.gens) s₁ := by
  have rv := vals_ints hi
  have lenV := hi.length
  -- from an abstract heap in which nothing but the script may be tracked
  have core : ∀ H : Hp, Only H → SqL K H a (ns.map V.int) → HOk P w H s₁.heap → (∀ b, H b ≠ none → b = a) → (H a ≠ none → K.lookup a = none) →
      codeAny (model P w) callerA (.call (.ref fa) ⟨[.ref a], []⟩) (fun r s' => r = .ok (.ret (.bool true)) ∧ OldK s₁.heap s'.heap ∧ s'.os = s₁.os ∧ AllBare s'.gens) s₁ := by
    intro H hO hS hok hA hK
    have base_of : ∀ {b : Addr} {o : Obj}, s₁.heap.get? b = some o → H b = none → (hidT s₁.heap H).get? b = some o := fun e n => hidT_get e n
    have noA : ∀ {b : Addr} {o : Obj} {es : Array DictEntry} {ep : Nat}, s₁.heap.get? b = some o → o.data = .dict es ep → H b = none := fun {b o es ep} e d => by
      cases q : H b with
      | none => rfl
      | some u =>
        have e' : b = a := hA b (by rw [q]; simp)
        subst e'
        rw [ha] at e; cases e
        have d' : Data.seq vs.toArray _ = Data.dict es ep := d
        cases d'
    have nsK : ∀ {b : Addr} {m : Str → Option Value}, s₁.heap.Ns b m → (hidT s₁.heap H).Ns b m := fun {b m} ⟨o, es, ep, e, d, r⟩ => ⟨o, es, ep, base_of e (noA e d), d, r⟩
    have hKb : K.In (hidT s₁.heap H) := fun b o e => base_of (KX b o e) (by
      cases q : H b with
      | none => rfl
      | some u =>
        have e' : b = a := hA b (by rw [q]; simp)
        subst e'
        rw [hK (by rw [q]; simp)] at e; cases e)
    have hM : Mod K mg (hidT s₁.heap H) := ⟨hKb, nsK hns, ⟨mb, nsK hb, hbb⟩, let ⟨mc, h1, h2⟩ := hlim; ⟨mc, nsK h1, h2⟩⟩
    have e0 : Env0 P w K mg (hidT s₁.heap H) callerA [] s₁ H := ⟨rfl, hM, fun b o e => of_hidT e, Nat.le_of_eq (hidT_size _ _), trivial, fun b hb => absurd (show b ∈ ([] : List Addr) from hb) (by simp), hok, .of_eq hg⟩
    refine codeAny_mono ((F _ hKb (nsK hns)).run callerA [] s₁ H ⟨[.ref a], []⟩ [.ref a] [.ref a] _ _ hr e0 (hbind s₁ (.ref a)) (.cons rfl .nil) (hsp H hO hS)) fun r s' h => ?_
    cases r with
    | error e => exact (hCX H e s' h).elim
    | ok fl =>
      cases fl with
      | next => exact False.elim h
      | brk => exact False.elim h
      | cont => exact False.elim h
      | ret u =>
        obtain ⟨v, H', os, bare, un, hok', r', q⟩ := h
        have q' : v = .bl true := q
        subst q'
        obtain rfl : u = Value.bool true := r'
        refine ⟨rfl, OldK.of_keep fun b o e => ?_, os, bare⟩
        cases q : H b with
        | none => exact un.keep b o e q (by intro z; exact absurd (show b ∈ ([] : List Addr) from z) (by simp)) (by simp)
        | some u =>
          rcases hO b with z | ⟨ob, xs, z⟩
          · rw [q] at z; cases z
          · have z2 := un.frzs b ob _ z
            obtain ⟨e1, _⟩ := hok b _ z
            obtain ⟨e2, _⟩ := hok' b _ z2
            rw [e] at e1; cases e1
            exact e2
  cases hk : K.lookup a with
  | some o =>
    -- the script is one of the module's own objects
    have e := KX a o hk
    rw [ha] at e
    cases e
    refine core (fun _ => none) (fun _ => .inl rfl) (.inr ⟨_, vs.toArray, _, hk, rfl, rfl, rfl, by rw [List.size_toArray, lenV]; exact hl, by simpa using rv⟩) (fun b u z => by have z' : (none : Option HO) = some u := z; cases z') (fun b z => absurd rfl z) fun z => absurd rfl z
  | none =>
    refine core (fun b => if b = a then some (.frz { cls := .type "list", data := .seq vs.toArray } (.lst (ns.map V.int))) else none) (fun b => ?_) (.inl (.inr ⟨{ cls := .type "list", data := .seq vs.toArray }, if_pos rfl⟩)) (fun b u z => ?_) (fun b z => ?_) fun _ => hk
    · by_cases hb : b = a
      · exact .inr ⟨_, _, if_pos hb⟩
      · exact .inl (if_neg hb)
    · by_cases hb : b = a
      · have z' := (if_pos hb).symm.trans z
        cases z'
        subst hb
        exact ⟨ha, by rw [List.length_map]; exact hl, vs, _, rv, ha⟩
      · have z' := (if_neg hb).symm.trans z
        cases z'
    · by_cases hb : b = a
      · exact hb
      · exact absurd (if_neg hb) z
end L2

namespace L2
open PySem PySem.Spec PyProof.Rows

abbrev KOf {K : PySem.W.Frag} {h : Heap} (_ : K.In h) : PySem.W.Frag := K

/-- the goal that k_head leaves (case hc), from the law's promise. F gives the function object fd (K's own) once, then the promise over every base -/
theorem walk_of {l : PySem.W.OpenLaw} {n k : Nat} {q : Program} {loose : List Str} {XP : (Str → Option Value) → Heap → Prop} {YP : World → Heap → Prop} {d : DefRec} {K : Params → PySem.W.Frag} {CX : World → CXT} {sp : World → Sp} {x : Str}
    (hn : l.most = some n) (hn2 : n ≤ sizeLine) (hdf : d.params.defaults = []) (hr : Room k callerA)
    (hY : ∀ (w : World) (h : Heap), YP w h → (K w.params).In h)
    (F : ∀ (w : World) (mg : Str → Option Value) (fa : Addr) (h : Heap), (K w.params).In h → h.Ns mainGlobals mg → mg d.name = some (.ref fa) →
      ∃ fd : FuncData, (∀ (s : Shared) (u : Value), BindsTo s fd ⟨[u], []⟩ [(x, u)]) ∧
        ∀ base : Heap, (K w.params).In base → base.Ns mainGlobals mg → FnOk l.prog w (K w.params) mg base (CX w) k fa fd [x] (sp w))
    (hsp : ∀ (w : World) (H : Hp) (a : Addr) (ns : List Int), ns.length ≤ n → Only H → SqL (K w.params) H a (ns.map V.int) → sp w [.ref a] H (fun v _ => v = .bl true) fun _ _ _ => False)
    (hCX : ∀ (w : World) (H : Hp) (s : Shared) (e : Value) (s' : Shared), CX w [] H s (fun _ _ _ => False) e s' → False) :
    PySem.W.WalkO q loose XP YP l.row.toRowW d [] (fun f vs => PySem.call f vs) := by
  refine Att.attach_call hn hdf fun w s₀ s₁ mg mb fa o pm cd doc a vs ns G Y ho hd hcd hmg hobj hints hlen hg => ?_
  have KX := hY w _ Y
  obtain ⟨fd, hb, hF⟩ := F w mg fa _ KX G.T.g hmg
  exact law_call KX G.T.g G.T.b G.T.builtins G.T.nolimit hg hobj hints (Nat.le_trans hlen hn2) hr hF hb (fun H hO hS => hsp w H a ns hlen hO hS) fun H e s' => hCX w H s₁ e s'
end L2

/- THE LAST THEOREM (shape; LID, My.* are yours):
   My.Adr: a structure of the addresses that your layer names (classes, functions); My.Txt K t: a structure (Prop) of the equations over K;
   My.txt_mk : {K} {implicit addresses ..} (e1 : nsIn K mainGlobals "law" = some (some (.ref f))) (e2 : K.lookup f = some ⟨oc, od, .func (fnOf "law" "law" params body scope dV kV doc pm an cdv ct), sl⟩) (e3 : codeIn K cdv "law" = true) .. : ∃ t, My.Txt K t

set_option maxRecDepth 100000 in
set_option maxHeartbeats 0 in
theorem PySem.Challenge.cw_LID_holds : PySem.Challenge.rw_LID.Holds := by
  w_on; o_law; k_head; (case hw => w_witness2)
  k_fill
  refine L2.walk_of (l := PySem.Challenge.rw_LID) (n := 63) (k := 40) (x := "script") (CX := fun w => ..) (sp := fun _ => My.sp_law) rfl (by decide) rfl ⟨rfl, by decide, by decide⟩ (fun w h Y => PySem.W.kIn_of Y) ?F ?S ?C
  case F =>
    intro w mg fa h KX G hmg
    have T : ∃ t, My.Txt (L2.KOf KX) t := by
      dsimp only [L2.KOf]                          -- K must stand as «<heap const> w.params» for k_is
      refine' My.txt_mk ?e1 ?e2 ?e3 ..
      (case e1 => PySem.W.k_is)                    -- in the order: a name -> its address -> its object -> its parts
      (case e2 => PySem.W.k_is)
      ..
    obtain ⟨t, T⟩ := T
    have e0 := hmg.symm.trans (PySem.W.mg_of KX G T.law)
    cases e0                                       -- fa is the law's own address
    exact ⟨_, fun s u => .of_eq rfl, fun base kb nb => My.law_fn T kb nb⟩     -- if «.of_eq rfl» comes too early: refine' ⟨_, ?b, fun base kb nb => My.law_fn T kb nb⟩; exact fun s u => .of_eq rfl
  case S => exact fun w H a ns hl hO hS => ..
  case C => exact ..
(the tactic k_is has no namespace: write k_is) -/

/-! SHORT WORDS over the layer: a def of the text, its body, what a loop and a test want. -/
namespace L2
open PySem PySem.Spec PyProof.Rows

/-! ### the text by places -/
/-- the j-th statement of a class's body -/
def inClass (s : Stmt) (j : Nat) : Stmt := match s with
  | .ClassDef _ _ _ body _ _ _ _ _ _ _ => body.getD j (.Pass ⟨0, 0, 0, 0⟩)
  | _ => .Pass ⟨0, 0, 0, 0⟩
def defArgs (s : Stmt) : Arguments := match s with
  | .FunctionDef _ a _ _ _ _ _ _ _ _ => a
  | _ => { posonlyargs := [], args := [], vararg := none, kwonlyargs := [], kw_defaults := [], kwarg := none, defaults := [] }
def defBody (s : Stmt) : List Stmt := match s with
  | .FunctionDef _ _ b _ _ _ _ _ _ _ => b
  | _ => []
def defScope (s : Stmt) : Scope := match s with
  | .FunctionDef _ _ _ _ _ _ sc _ _ _ => sc
  | _ => { kind := .function, names := [], isGenerator := false, isCoroutine := false }

/-! ### no exception leaves a def -/
abbrev CX0 : CXT := fun _ _ _ _ _ _ => False
abbrev E0 : XK := fun _ _ _ => False
theorem pass0 {X : Cx} : Passes CX0 X E0 := fun _ _ _ _ _ _ _ h => h.elim

/-! ### a def (or method) of the text as it stands behind the top -/
structure Fun (K : PySem.W.Frag) (x qual : Str) (st : Stmt) (f : Addr) (fd : FuncData) : Prop where
  ex : ∃ (oc : Value) (od : Option Addr) (kV doc pm : Value) (an : Option Addr) (cdv ct : Value) (osl : Array (Option Value)),
    fd = PySem.W.fnOf x qual (defArgs st) (defBody st) (defScope st) .none kV doc pm an cdv ct ∧ K.lookup f = some ⟨oc, od, .func fd, osl⟩ ∧ PySem.W.codeIn K cdv qual = true
  kp : PySem.W.keepIn K (.ref f) = true
section
variable {P : Program} {w : World} {K : PySem.W.Frag} {mg : Str → Option Value} {base : Heap}
/-- THE RULE for a def: its body as a term of rules, and the reading of that term -/
theorem Fun.ok {x qual : Str} {st : Stmt} {f : Addr} {fd : FuncData} {N ps : List Str} {k : Nat} {sp : Sp} (F : Fun K x qual st f fd) (S : FnScope N ps (defScope st)) (len : ∀ vs H Q E, sp vs H Q E → vs.length = ps.length)
    (hbody : ∀ (cdv : Value) (A : Around) (outer : List Env) (s : Shared) (H : Hp) (vs : List V) (Q : VK) (E : XK), Room k (A.deeper (envOfC qual (defScope st) s.heap.objs.size f cdv)) → sp vs H Q E →
      ∃ t, PSs (cxOf CX0 P w K mg base N qual (defScope st) f cdv A outer s H E).nox (defBody st) t ∧ t { nx := fun _ H' => Q .non H', rt := Q } (start N vs) H) : FnOk P w K mg base CX0 (k + 1) f fd ps sp := by
  obtain ⟨oc, od, kV, doc, pm, an, cdv, ct, osl, rfl, lk, hcd⟩ := F.ex
  refine fn_of lk hcd S len fun A outer s H vs Q E hr hsp => ?_
  obtain ⟨t, h, q⟩ := hbody cdv A outer s H vs Q E hr hsp
  exact ⟨t, h.nox, q⟩
/-- how its arguments bind (no defaults): h is «fun _ _ _ _ _ _ us hl => match us, hl with | [_, _], _ => rfl», one _ a parameter -/
theorem Fun.binds {x qual : Str} {st : Stmt} {f : Addr} {fd : FuncData} {ps : List Str} (F : Fun K x qual st f fd)
    (h : ∀ (kV doc pm : Value) (an : Option Addr) (cdv ct : Value) (us : List Value), us.length = ps.length → bindArgs (PySem.W.fnOf x qual (defArgs st) (defBody st) (defScope st) .none kV doc pm an cdv ct) ⟨us, []⟩ = pure (ps.zip us)) : Binds K fd ps [] := by
  obtain ⟨oc, od, kV, doc, pm, an, cdv, ct, osl, rfl, lk, hcd⟩ := F.ex
  exact .all (h kV doc pm an cdv ct)
theorem fun_mk {x qual : Str} {st : Stmt} {f : Addr} {oc : Value} {od an : Option Addr} {osl : Array (Option Value)} {kV doc pm cdv ct : Value} (l : K.lookup f = some ⟨oc, od, .func (PySem.W.fnOf x qual (defArgs st) (defBody st) (defScope st) .none kV doc pm an cdv ct), osl⟩)
    (c : PySem.W.codeIn K cdv qual = true) (k : PySem.W.keepIn K (.ref f) = true) : Fun K x qual st f (PySem.W.fnOf x qual (defArgs st) (defBody st) (defScope st) .none kV doc pm an cdv ct) := ⟨⟨oc, od, kV, doc, pm, an, cdv, ct, osl, rfl, l, c⟩, k⟩
end
theorem small1000 {n : Nat} (h : n ≤ 1000) : n < sizeLine := Nat.lt_of_le_of_lt h (by decide)

/-! ### expressions in short: the name that stands in the i-th slot -/
section
variable {X : Cx}
theorem pv (i : Nat) {x : Str} {pos : Pos} (hN : X.N[i]? = some x := by rfl) (hv : Vis X.env.scope x := by first | exact Or.inl rfl | exact Or.inr (Or.inl rfl) | exact Or.inr (Or.inr rfl)) (hd : (x == ("__debug__" : Str)) = false := by decide)
    (hcd : (x == ("__classdict__" : Str)) = false := by decide) : PE X (.Name x pos) (tVar i) := pe_var hN hv hd hcd
end

/-! ### tests -/
theorem iteF {A B : Prop} (h : B) : if false = true then A else B := by
  rw [if_neg Bool.false_ne_true]
  exact h
theorem iteT {A B : Prop} (h : A) : if true = true then A else B := by
  rw [if_pos rfl]
  exact h
/-! ### heaps -/
/-- all that was tracked is as it was -/
def Same (H H' : Hp) : Prop := ∀ b o, H b = some o → H' b = some o
theorem Same.refl (H : Hp) : Same H H := fun _ _ h => h
theorem Same.trans {H H1 H2 : Hp} (a : Same H H1) (b : Same H1 H2) : Same H H2 := fun c o h => b c o (a c o h)
theorem Same.seq {K : PySem.W.Frag} {H H' : Hp} {a : Addr} {xs : List V} (e : Same H H') (h : SqL K H a xs) : SqL K H' a xs := by
  rcases h with (h | ⟨o, h⟩) | h
  · exact .inl (.inl (e _ _ h))
  · exact .inl (.inr ⟨o, e _ _ h⟩)
  · exact .inr h

section
variable {X : Cx}
/-- len of a dict -/
theorem call_lenD : CallR X (.builtin "len") (fun xs H Q => ∃ a kvs, xs = [V.ref a] ∧ H a = some (.dK kvs) ∧ Q (.int kvs.length) H) := by
  intro pins s σ H xs us Q I r h
  obtain ⟨a, kvs, rfl, ha, q⟩ := h
  obtain ⟨u, rfl, ru⟩ := vals1 r
  cases ru
  exact d_len I (.inl ha) fun t s' I' => ⟨.int kvs.length, H, I', ⟨t, rfl⟩, q⟩
end
/-! ### a dict's pairs: keys that differ -/
section
variable {κ : Type} [DecidableEq κ]
end
end L2

set_option Elab.async false
set_option linter.all false
set_option maxRecDepth 100000
set_option maxHeartbeats 4000000
/-! COMPREHENSIONS over the hand layer: the block runs in a context of its own (compCx); what it takes from around it are cells. -/
namespace L3
open PySem PySem.Spec PyProof.Rows L2
abbrev St := L2.St

theorem forIn_pure {α β : Type} {f : α → β → Sem (ForInStep β)} {g : β → α → β} : ∀ (l : List α) (b : β), (∀ x ∈ l, ∀ c, f x c = pure (ForInStep.yield (g c x))) → (forIn l b f : Sem β) = pure (l.foldl g b)
  | [], b, _ => by simp
  | x :: r, b, h => by
    rw [List.forIn_cons, h x List.mem_cons_self b]
    show (forIn r (g b x) f : Sem β) = _
    rw [forIn_pure r (g b x) fun y hy c => h y (List.mem_cons_of_mem _ hy) c]
    rfl
def closG (cells : List (Str × Addr)) (cs : List (Str × Addr)) (x : Str × NameKind) : List (Str × Addr) := if (x.2 == NameKind.free) = true then (x.1, (cells.lookup x.1).getD 0) :: cs else cs
def closOf (cells : List (Str × Addr)) (names : List (Str × NameKind)) : List (Str × Addr) := names.foldl (closG cells) []
theorem closureFor_of {scope : Scope} {env : Env} (h : ∀ x ∈ scope.names, x.2 = .free → ∃ c, env.cells.lookup x.1 = some c) :
    closureFor scope env = pure (closOf env.cells scope.names) := by
  simp only [closureFor]
  rw [forIn_pure (g := closG env.cells) scope.names [] fun x hx c => by
    obtain ⟨n, k⟩ := x
    by_cases hk : k = .free
    · subst hk
      obtain ⟨a, e⟩ := h _ hx rfl
      have e' : env.cells.lookup n = some a := e
      simp only [closG, cellOf, e', beq_self_eq_true, if_true, Option.getD_some]
      rfl
    · have hb : (k == NameKind.free) = false := by simpa using hk
      simp only [closG, hb, Bool.false_eq_true, if_false]]
  rfl
theorem clos_sub {cells : List (Str × Addr)} : ∀ (names : List (Str × NameKind)) (acc : List (Str × Addr)), (∀ x ∈ names, x.2 = .free → ∃ c, cells.lookup x.1 = some c) → (∀ x c, acc.lookup x = some c → cells.lookup x = some c) →
    ∀ x c, (names.foldl (closG cells) acc).lookup x = some c → cells.lookup x = some c
  | [], acc, _, ha, x, c, e => ha x c e
  | y :: r, acc, h, ha, x, c, e => by
    refine clos_sub r (closG cells acc y) (fun z hz => h z (List.mem_cons_of_mem _ hz)) (fun z d ez => ?_) x c e
    obtain ⟨n, k⟩ := y
    unfold closG at ez
    split at ez
    · rename_i hk
      obtain ⟨a, ea⟩ := h (n, k) List.mem_cons_self (by simpa using hk)
      have ea' : cells.lookup n = some a := ea
      rw [List.lookup_cons] at ez
      cases hb : z == n with
      | true =>
        rw [hb] at ez
        have ez' : some ((cells.lookup n).getD 0) = some d := ez
        rw [ea'] at ez'
        rw [eq_of_beq hb, ea']
        exact ez'
      | false =>
        rw [hb] at ez
        exact ha z d ez
    · exact ha z d ez
theorem clos_keep {cells : List (Str × Addr)} : ∀ (names : List (Str × NameKind)) (acc : List (Str × Addr)) (x : Str), (∃ c, acc.lookup x = some c) → ∃ c, (names.foldl (closG cells) acc).lookup x = some c
  | [], _, _, h => h
  | y :: r, acc, x, h => by
    refine clos_keep r (closG cells acc y) x ?_
    unfold closG
    split
    · rw [List.lookup_cons]
      cases x == y.1 with
      | true => exact ⟨_, rfl⟩
      | false => exact h
    · exact h
theorem clos_has {cells : List (Str × Addr)} : ∀ (names : List (Str × NameKind)) (acc : List (Str × Addr)) (x : Str), (x, NameKind.free) ∈ names → ∃ c, (names.foldl (closG cells) acc).lookup x = some c
  | [], _, _, h => by cases h
  | y :: r, acc, x, h => by
    rcases List.mem_cons.mp h with e | h
    · subst e
      refine clos_keep r _ x ?_
      unfold closG
      rw [if_pos (by simp), List.lookup_cons]
      simp
    · exact clos_has r _ x h
theorem relab_lookup {env : Env} (x : Str) : ∀ (names : List (Str × NameKind)),
    (names.map fun (n, k) => if (k == NameKind.free && env.scope.kind == .function && env.kindOf n == some .cell) then (n, NameKind.cell) else (n, k)).lookup x =
      (names.lookup x).map fun k => if (k == NameKind.free && env.scope.kind == .function && env.kindOf x == some .cell) = true then NameKind.cell else k
  | [] => rfl
  | (n, k) :: r => by
    have ih := relab_lookup (env := env) x r
    rw [List.map_cons, List.lookup_cons (k := n)]
    show List.lookup x ((if (k == NameKind.free && env.scope.kind == .function && env.kindOf n == some .cell) = true then (n, NameKind.cell) else (n, k)) :: _) = _
    cases hx : x == n with
    | true =>
      have e := eq_of_beq hx
      subst e
      split
      · rename_i hc
        simp only [List.lookup_cons, hx, Option.map_some, hc, if_true]
      · rename_i hc
        simp only [List.lookup_cons, hx, Option.map_some]
        rw [if_neg hc]
    | false =>
      rw [← ih]
      split
      · simp only [List.lookup_cons, hx]
      · simp only [List.lookup_cons, hx]
theorem relab_free {scope : Scope} {env : Env} {x : Str} (hcell : ∀ y ∈ scope.names, y.2 ≠ .cell) (h : (relabel scope env).names.lookup x = some .cell ∨ (relabel scope env).names.lookup x = some .free) : (x, NameKind.free) ∈ scope.names := by
  have e := relab_lookup (env := env) x scope.names
  have h' : (scope.names.lookup x).map (fun k => if (k == NameKind.free && env.scope.kind == .function && env.kindOf x == some .cell) = true then NameKind.cell else k) = some .cell ∨
      (scope.names.lookup x).map (fun k => if (k == NameKind.free && env.scope.kind == .function && env.kindOf x == some .cell) = true then NameKind.cell else k) = some .free := by
    rw [← e]; exact h
  cases q : scope.names.lookup x with
  | none =>
    rw [q] at h'
    rcases h' with z | z <;> cases z
  | some k =>
    rw [q] at h'
    have hm := mem_of_lookup q
    have hc := hcell _ hm
    cases k with
    | free => exact hm
    | cell => exact absurd rfl hc
    | _ => rcases h' with z | z <;> cases z
theorem relab_of_free {scope : Scope} {env : Env} {x : Str} (h : scope.names.lookup x = some .free) : (relabel scope env).names.lookup x = some .cell ∨ (relabel scope env).names.lookup x = some .free := by
  have e := relab_lookup (env := env) x scope.names
  have e' : (relabel scope env).names.lookup x = (scope.names.lookup x).map fun k => if (k == NameKind.free && env.scope.kind == .function && env.kindOf x == some .cell) = true then NameKind.cell else k := e
  rw [e', h, Option.map_some]
  split
  · exact .inl rfl
  · exact .inr rfl

/-- the block's context -/
def compCx (X : Cx) (N' : List Str) (scope : Scope) (cl : List (Str × Addr)) (C : Addr) (fp : List Addr) (s : Shared) (H : Hp) : Cx :=
  { X with N := N', s₀ := s, H₀ := H, env := compEnvC scope cl C X.env, outer := X.stack, ex := fp, fn := fun _ => false, pn := [], xe := fun _ _ => False }

/-- the tests of a clause -/
def PIf (X : Cx) (ifs : List Expr) (t : TT) : Prop :=
  ∀ (pins : List (Addr × Obj)) (s : Shared) (σ : St) (H : Hp) (Q : Bool → Hp → Prop), Inv X pins σ H s → t σ H Q →
    wpAny (model X.prog X.w) X.A (forIn ifs true fun c r => if r = true then do let ok ← isTrue c X.env (eval c X.env); pure (ForInStep.yield ok) else pure (ForInStep.yield r)) (TP X pins σ Q) X.xe s
def tIf0 : TT := fun _ H Q => Q true H
theorem pif_nil {X : Cx} : PIf X [] tIf0 := fun _ _ _ H _ I h => wpAny_tests_nil ⟨H, I, h⟩
theorem pif_one {X : Cx} {c : Expr} {t : TT} (h : PT X c t) : PIf X [c] t := fun pins s σ H Q I hq => wpAny_tests_one (h pins s σ H Q I hq)

section
variable {prog : Program} {w : World} {A : Around} {R : Result → Shared → Prop} {s : Shared}
theorem compLoop_gen {elt target iter : Expr} {ifs : List Expr} {scope : Scope} {pos : Pos} {it acc : Value} {env : Env} (J : Nat → Shared → Prop)
    (turn : ∀ n s, J n s → wpAny (model prog w) A (pyNext it) (fun r s₁ => match r with
      | none => R (.ok .next) s₁
      | some v => wpAny (model prog w) A (letOwnedTupleGo target it v) (fun _ s₁' => wpAny (model prog w) A (assign target env v) (fun _ s₂ =>
          wpAny (model prog w) A (forIn ifs true fun c r => if r = true then do let ok ← isTrue c env (eval c env); pure (ForInStep.yield ok) else pure (ForInStep.yield r)) (fun ok s₃ =>
            if ok = true then wpAny (model prog w) A (eval elt env) (fun x s₄ =>
              wpAny (model prog w) A (call (.builtin "list.append") [acc, x]) (fun _ s₅ => ∃ m, m < n ∧ J m s₅) (notedBy (model prog w) A env fun e s' => R (.error e) s') s₄) (notedBy (model prog w) A env fun e s' => R (.error e) s') s₃
            else ∃ m, m < n ∧ J m s₃) (notedBy (model prog w) A env fun e s' => R (.error e) s') s₂) (notedBy (model prog w) A env fun e s' => R (.error e) s') s₁')
            (notedBy (model prog w) A env fun e s' => R (.error e) s') s₁) (notedBy (model prog w) A env fun e s' => R (.error e) s') s)
    (n : Nat) (h : J n s) :
    codeAny (model prog w) A (.compLoop (.ListComp elt [⟨target, iter, ifs, 0⟩] scope pos) 0 it acc env) R s := by
  refine codeAny_loop rfl J (fun n s hI => ?_) n h
  show wpAny _ A ((compTurn (.ListComp elt [⟨target, iter, ifs, 0⟩] scope pos) 0 it acc env).onRaise (fun x => do noteFrame x env; theTreesLotGoes x)) _ _ s
  refine wpAny_noted ?_
  rw [compTurn_list]
  refine wpAny_bind (wpAny_standAt (wpAny_bind (wpAny_mono (turn n s hI) (fun r s₁ h₁ => ?_) fun _ _ h' => h')))
  cases r with
  | none => exact wpAny_pure h₁
  | some v =>
    refine wpAny_bind (wpAny_mono h₁ (fun _ s₁' h₁' => ?_) fun _ _ h' => h')
    refine wpAny_bind (wpAny_mono h₁' (fun _ s₂ h₂ => wpAny_bind (wpAny_mono h₂ (fun ok s₃ h₃ => ?_) fun _ _ h' => h')) fun _ _ h' => h')
    cases ok with
    | false => exact wpAny_pure ⟨rfl, h₃⟩
    | true =>
      exact wpAny_bind (wpAny_bind (wpAny_mono h₃ (fun x s₄ h₄ => wpAny_bind (wpAny_mono h₄ (fun _ s₅ h₅ => wpAny_pure (wpAny_pure ⟨rfl, h₅⟩)) fun _ _ h' => h')) fun _ _ h' => h'))
end

/-- the block's names at a turn's start: k of its own, unbound; then what it takes from around it -/
def capSt (k : Nat) (cap : List Nat) (σ : St) : St := List.replicate k none ++ cap.map fun j => (σ[j]?).join
theorem capSt_low {k : Nat} {cap : List Nat} {σ : St} {i : Nat} {v : V} (h : (capSt k cap σ)[i]? = some (some v)) : k ≤ i := by
  by_cases hi : k ≤ i
  · exact hi
  · unfold capSt at h
    rw [List.getElem?_append_left (by rw [List.length_replicate]; omega), List.getElem?_replicate] at h
    split at h <;> cases h
theorem capSt_get {k : Nat} {cap : List Nat} {σ : St} {N N' : List Str} {i : Nat} {v : V} {x : Str} (hcap : (N'.drop k).map some = cap.map fun j => N[j]?) (hx : N'[i]? = some x) (h : (capSt k cap σ)[i]? = some (some v)) :
    ∃ j : Nat, N[j]? = some x ∧ σ[j]? = some (some v) ∧ x ∈ N'.drop k := by
  have hi := capSt_low h
  unfold capSt at h
  rw [List.getElem?_append_right (by rw [List.length_replicate]; exact hi), List.length_replicate, List.getElem?_map] at h
  have hd : (N'.drop k)[i - k]? = some x := by
    rw [List.getElem?_drop, show k + (i - k) = i by omega]
    exact hx
  have e := congrArg (fun l => l[i - k]?) hcap
  simp only [List.getElem?_map, hd, Option.map_some] at e
  cases q : cap[i - k]? with
  | none =>
    rw [q] at h
    cases h
  | some j =>
    rw [q] at h e
    simp only [Option.map_some, Option.some.injEq] at h e
    refine ⟨j, e.symm, ?_, List.mem_of_getElem? hd⟩
    cases z : σ[j]? with
    | none => rw [z] at h; cases h
    | some o =>
      rw [z] at h
      have h' : o = some v := h
      rw [h']

def tComp (wi : TI) (g : TG) (tt : TT) (te : TE) (k : Nat) (cap : List Nat) : TE := fun σ H Q => wi σ H fun J H1 => ∀ p, H1 p = none →
  ∃ W : Nat → Nat → List V → Hp → Prop, (∃ m, W 0 m [] (upd H1 p (.lst []))) ∧ ∀ i m acc H2, W i m acc H2 → 
    (J.stop i H2 ∧ Q (.ref p) H2) ∨
     (J.go i H2 ∧ ∀ x H3, J.yld i H2 x H3 → g x (capSt k cap σ) H3 fun σ4 H4 => σ4.drop k = (capSt k cap σ).drop k ∧ tt σ4 H4 fun b H5 =>
        if b = true then te σ4 H5 fun y H6 => ∃ acc', H6 p = some (.lst acc') ∧ acc'.length < sizeLine ∧ ∃ m', m' < m ∧ W (i + 1) m' (acc' ++ [y]) (upd H6 p (.lst (acc' ++ [y])))
        else ∃ m', m' < m ∧ W (i + 1) m' acc H5)

theorem pe_comp {X : Cx} {elt iter tg : Expr} {ifs : List Expr} {scope : Scope} {pos : Pos} {N' : List Str} {k : Nat} {cap : List Nat} {wi : TI} {g : TG} {tt : TT} {te : TE}
    (hc : X.calm = true) (hi : PI X tg iter wi)
    (body : ∀ (cl : List (Str × Addr)) (C : Addr) (fp : List Addr) (s : Shared) (H : Hp), PG (compCx X N' scope cl C fp s H) tg g ∧ PIf (compCx X N' scope cl C fp s H) ifs tt ∧ PE (compCx X N' scope cl C fp s H) elt te)
    (hkind : scope.kind = .function := by rfl) (hcell : (scope.names.all fun y => y.2 != .cell) = true := by rfl)
    (hloc : (scope.names.all fun y => y.2 != .local || scope.names.lookup y.1 == some .local) = true := by rfl)
    (hfree : (scope.names.all fun y => y.2 != .free || (X.env.kindOf y.1 == some .cell || X.env.kindOf y.1 == some .free)) = true := by rfl)
    (hlen : N'.length = k + cap.length := by rfl) (hcap : (N'.drop k).map some = cap.map fun j => X.N[j]? := by rfl)
    (hcf : ((N'.drop k).all fun x => scope.names.lookup x == some .free) = true := by rfl)
    (hs : ∀ x, foldedSetIterable iter X.env x = pure x := by intro _; rfl) :
    PE X (.ListComp elt [⟨tg, iter, ifs, 0⟩] scope pos) (tComp wi g tt te k cap) := by
  intro pins s σ H Q I h
  have hcell' : ∀ y ∈ scope.names, y.2 ≠ .cell := fun y hy e => by
    have z := List.all_eq_true.mp hcell y hy
    rw [e] at z
    exact absurd z (by decide)
  have hloc' : ∀ y ∈ scope.names, y.2 = .local → scope.names.lookup y.1 = some .local := fun y hy e => by
    have z := List.all_eq_true.mp hloc y hy
    rw [e] at z
    simpa using z
  have hfree' : ∀ y ∈ scope.names, y.2 = .free → X.env.kindOf y.1 = some .cell ∨ X.env.kindOf y.1 = some .free := fun y hy e => by
    have z := List.all_eq_true.mp hfree y hy
    rw [e] at z
    simpa using z
  have hcl : ∀ y ∈ scope.names, y.2 = .free → ∃ c, X.env.cells.lookup y.1 = some c := fun y hy e => I.ok.has y.1 (hfree' y hy e)
  rw [eval_ListComp]
  refine wpAny_comprehension_free (use := none) rfl hs (closureFor_of hcl) hkind hloc' (thn (hi pins s σ H _ I h) fun xv s₁ h₁ => thn h₁ fun it s₂ h₂ => ?_)
  obtain ⟨ita, fp, tn, J, H2, e, I2, T, st2, f2, R2⟩ := h₂
  subst e
  obtain ⟨W, ⟨m0, w0⟩, turn⟩ := R2 s₂.heap.objs.size (I2.hok.fresh (Nat.le_refl _))
  refine wpAny_newObj_type (wpAny_newFunctionEnv hcell' (by intro y hy; simp at hy) (fun h₁ hns₁ hsb₁ => ?_) hkind)
  dsimp only at hns₁ hsb₁ ⊢
  generalize hp : s₂.heap.push { cls := .type "list", dict := none, data := .seq ([] : List Value).toArray } = hpL at hns₁ hsb₁ ⊢
  have hsz : hpL.objs.size = s₂.heap.objs.size + 1 := by rw [← hp, Heap.size_push]
  have I3 : Inv X pins σ (upd H2 s₂.heap.objs.size (.lst [])) { s₂ with heap := hpL } := by
    rw [← hp]
    exact I2.laid (t' := s₂.toks) (fun b u e => Heap.get?_push_of_some _ e) (Nat.le_refl _) ⟨Nat.zero_le _, [], 0, .nil, Heap.get?_push_size _ rfl⟩
  have old : ∀ b o, hpL.get? b = some o → h₁.get? b = some o := fun b o e => hsb₁.extBut b o (Nat.ne_of_lt (Heap.lt_size e)) (Heap.get?_push_of_some _ e)
  have older : ∀ b o, s₂.heap.get? b = some o → hpL.get? b = some o := fun b o e => by rw [← hp]; exact Heap.get?_push_of_some _ e
  have hfpS : ∀ b ∈ fp, b < s₂.heap.objs.size := fun b hb => let ⟨o, e, _⟩ := T.obj _ _ st2 b hb; Heap.lt_size e
  have sub : ∀ x c, (closOf X.env.cells scope.names).lookup x = some c → X.env.cells.lookup x = some c := clos_sub scope.names [] hcl (fun x c e => by cases e)
  have ok' : (compCx X N' scope (closOf X.env.cells scope.names) hpL.objs.size fp { s₂ with heap := hpL } (upd H2 s₂.heap.objs.size (.lst []))).Ok := {
    mod := I3.ok.mod
    kind := hkind
    glob := I3.ok.glob
    blt := I3.ok.blt
    above := Nat.le_refl _
    inj := fun x y c h1 h2 => I3.ok.inj x y c (sub x c h1) (sub y c h2)
    has := fun x hx => clos_has scope.names [] x (relab_free hcell' hx)
    cab := fun x c hf _ => absurd (show false = true from hf) Bool.false_ne_true
    hd := I3.ok.hd
    frames := I3.ok.frames
    stk := .inl rfl
    exf := fun b hb => ⟨(by
      show b ≠ hpL.objs.size
      rw [hsz]
      exact Nat.ne_of_lt (Nat.lt_succ_of_lt (hfpS b hb))), fun x c e => (f2 b hb).2.2.2.2.1 x c (sub x c e)⟩
    bs := I3.bs
    bsz := Nat.le_trans I3.ok.bsz I3.sz
    noex := fun b o e hb => by
      rcases (f2 b hb).2.2.2.1 with z | z
      · exact I3.ok.noex b o e z
      · exact absurd (Nat.lt_of_lt_of_le (Heap.lt_size e) (Nat.le_trans I3.ok.bsz z)) (Nat.lt_irrefl _)
    exfs := fun b hb z => (List.mem_cons.mp (I3.stkSub b z)).elim (f2 b hb).2.1 (f2 b hb).2.2.1
    funs := I3.stack
    frf := I3.stkFree }
  have IX : Inv (compCx X N' scope (closOf X.env.cells scope.names) hpL.objs.size fp { s₂ with heap := hpL } (upd H2 s₂.heap.objs.size (.lst []))) [] (capSt k cap σ) (upd H2 s₂.heap.objs.size (.lst []))
      { s₂ with heap := h₁, toks := s₂.toks + ([] : List (Str × Value)).length } := {
    ok := ok'
    os := rfl
    bare := I3.bare
    base := Un.kept old
    loc := ⟨_, hns₁, fun i x v e1 e2 _ => by
      obtain ⟨j, hj, hσ, hm⟩ := capSt_get hcap e1 e2
      have hx : scope.names.lookup x = some .free := by simpa using List.all_eq_true.mp hcf x hm
      have hk := hfree' (x, .free) (mem_of_lookup hx) rfl
      obtain ⟨m, hn, hl⟩ := I3.loc
      obtain ⟨u, r, lk⟩ := hl j x v hj hσ (hk.elim (fun z => .inr (.inl z)) fun z => .inr (.inr z))
      refine ⟨u, r, .inr ⟨relab_of_free hx, ?_⟩⟩
      rcases lk with ⟨z, _⟩ | ⟨_, c, e, o, ho, hd⟩
      · rcases hk with y | y
        · rw [y] at z; cases z
        · rw [y] at z; cases z
      · obtain ⟨c', e'⟩ := clos_has (cells := X.env.cells) scope.names [] x (mem_of_lookup hx)
        have ec := sub x c' e'
        rw [e] at ec
        have ec' : c = c' := Option.some.inj ec
        subst ec'
        exact ⟨c, e', o, old _ _ ho, hd⟩⟩
    cell := fun x c e => by
      obtain ⟨v, o, ho, hd⟩ := I3.cell x c (sub x c e)
      exact ⟨v, o, old _ _ ho, hd⟩
    free := I3.hok.fresh (Nat.le_refl _)
    freeC := fun x c e => I3.freeC x c (sub x c e)
    pin := fun p hp => absurd (show p ∈ ([] : List (Addr × Obj)) from hp) (by simp)
    hok := I3.hok.kept old
    len := by
      show (capSt k cap σ).length = N'.length
      rw [hlen]
      unfold capSt
      rw [List.length_append, List.length_replicate, List.length_map] }
  have stat : ∀ {H' : Hp}, (∀ b ∈ fp, H' b = none) → ∀ b ∈ fp, FpOk (compCx X N' scope (closOf X.env.cells scope.names) hpL.objs.size fp { s₂ with heap := hpL } (upd H2 s₂.heap.objs.size (.lst []))) [] H' b := fun hn b hb =>
    ⟨hn b hb, (ok'.exf b hb).1, ok'.exfs b hb, .inl hb, (ok'.exf b hb).2, fun p hp => absurd (show p ∈ ([] : List (Addr × Obj)) from hp) (by simp)⟩
  have st4 : tn 0 h₁ := T.keep _ _ _ st2 fun b _ o e => old b o (older b o e)
  have loop : codeAny (model X.prog X.w) X.A (.compLoop (.ListComp elt [⟨tg, iter, ifs, 0⟩] scope pos) 0 (.ref ita) (.ref s₂.heap.objs.size) (compEnvC scope (closOf X.env.cells scope.names) hpL.objs.size X.env))
      (compPost (model X.prog X.w) X.A X.xe none (EP X pins σ Q) (.ref s₂.heap.objs.size) hpL.objs.size) { s₂ with heap := h₁, toks := s₂.toks + ([] : List (Str × Value)).length } := by
    refine compLoop_gen (fun n s' => ∃ i acc H', Inv (compCx X N' scope (closOf X.env.cells scope.names) hpL.objs.size fp { s₂ with heap := hpL } (upd H2 s₂.heap.objs.size (.lst []))) [] (capSt k cap σ) H' s' ∧ tn i s'.heap ∧ (∀ b ∈ fp, H' b = none) ∧ W i n acc H')
      ?_ m0 ⟨0, [], _, IX, st4, fun b hb => ?_, w0⟩
    · rintro n s3 ⟨i, acc, H3, I4, st3, fr3, w3⟩
      rcases turn i n acc H3 w3 with ⟨stop, qn⟩ | ⟨go, step⟩
      · refine thn (T.done (compCx X N' scope (closOf X.env.cells scope.names) hpL.objs.size fp { s₂ with heap := hpL } (upd H2 s₂.heap.objs.size (.lst []))) rfl rfl rfl hc i [] s3 _ H3 _ I4 (stat fr3) st3 stop) fun r s4 ⟨hr, I5⟩ => ?_
        subst hr
        obtain ⟨m, hn, _⟩ := id I5.loc
        have U := I5.base
        refine ⟨m, hn, fun h' hs' => ⟨.ref s₂.heap.objs.size, H3, ?_, rfl, qn⟩⟩
        have neC : ∀ b o, hpL.get? b = some o → b ≠ hpL.objs.size := fun b o e => Nat.ne_of_lt (Heap.lt_size e)
        refine I3.call' (s' := { s4 with heap := h' }) (ch := fp) I5.os ⟨fun b o e n hb hx => (hs'.2 b (neC b o e)).trans (U.keep b o e n hb hx), fun b o e n hb hx => ?_, U.free, fun b o e hx => ?_, U.tups, U.frzs, U.tbls⟩ (fun b ob e => ?_) I5.bare
          fun b hb => ⟨(f2 b hb).2.2.2.1, (f2 b hb).2.1, (f2 b hb).2.2.2.2.1, (f2 b hb).2.2.2.2.2⟩
        · obtain ⟨sl, e'⟩ := U.slot b o e n hb hx
          exact ⟨sl, (hs'.2 b (neC b o e)).trans e'⟩
        · obtain ⟨o', e'⟩ := U.there b o e hx
          exact ⟨o', (hs'.2 b (neC b o e)).trans e'⟩
        · refine (I5.hok b ob e).stay (fun c w' hc q => (hs'.2 c ?_).trans q) (fun _ q => q) fun _ _ q => q
          intro z
          have fz : H3 hpL.objs.size = none := I5.free
          rcases hc with hc | hc
          · rw [← hc, z, fz] at e; cases e
          · rw [z, fz] at hc; cases hc
      · refine thn (T.item (compCx X N' scope (closOf X.env.cells scope.names) hpL.objs.size fp { s₂ with heap := hpL } (upd H2 s₂.heap.objs.size (.lst []))) rfl rfl rfl hc i [] s3 _ H3 _ I4 (stat fr3) st3 go) fun r s4 ⟨u, hr, h4⟩ => ?_
        subst hr
        refine thn h4 fun _ s5 ⟨x, H5, I5, r5, y5, st5, fr5⟩ => ?_
        have I5' := I5.pinned (stat fr5) (T.obj _ _ st5)
        have again : ∀ {H8 : Hp} {s8 : Shared} {σ8 : St} {acc8 : List V} {m' : Nat}, Inv (compCx X N' scope (closOf X.env.cells scope.names) hpL.objs.size fp { s₂ with heap := hpL } (upd H2 s₂.heap.objs.size (.lst []))) ([] ++ pinsAt fp s5.heap) σ8 H8 s8 → σ8.drop k = (capSt k cap σ).drop k → m' < n → W (i + 1) m' acc8 H8 →
            ∃ m, m < n ∧ ∃ i acc H', Inv (compCx X N' scope (closOf X.env.cells scope.names) hpL.objs.size fp { s₂ with heap := hpL } (upd H2 s₂.heap.objs.size (.lst []))) [] (capSt k cap σ) H' s8 ∧ tn i s8.heap ∧ (∀ b ∈ fp, H' b = none) ∧ W i m acc H' := fun {H8 s8 σ8 acc8 m'} I8 hd8 hm8 w8 => by
          refine ⟨m', hm8, i + 1, acc8, H8, I8.unpinned.weak (IX.len.trans I8.len.symm) (fun j v e => ?_), T.keep _ _ _ st5 fun b hb o e => (I8.pin (b, o) (List.mem_append_right _ (List.mem_append_right _ (mem_pinsAt hb e)))).1, fun b hb => ?_, w8⟩
          · have hj := capSt_low e
            have q : (σ8.drop k)[j - k]? = ((capSt k cap σ).drop k)[j - k]? := by rw [hd8]
            rw [List.getElem?_drop, List.getElem?_drop, show k + (j - k) = j by omega] at q
            rw [q]; exact e
          · obtain ⟨o, e, d⟩ := T.obj _ _ st5 b hb
            exact (I8.pin (b, o) (List.mem_append_right _ (List.mem_append_right _ (mem_pinsAt hb e)))).2.1
        refine wpAny_mono ((body _ _ _ _ _).1 _ s5 _ H5 x u _ I5' r5 (step x H5 y5)) (fun _ s6 h6 => ?_) fun _ _ f => f.elim
        obtain ⟨σ6, H6, I6, hd6, q6⟩ := h6
        refine wpAny_mono ((body _ _ _ _ _).2.1 _ s6 σ6 H6 _ I6 q6) (fun b s7 h7 => ?_) fun _ _ f => f.elim
        obtain ⟨H7, I7, q7⟩ := h7
        cases b with
        | false =>
          rw [if_neg Bool.false_ne_true] at q7
          rw [if_neg Bool.false_ne_true]
          obtain ⟨m', hm', w7⟩ := q7
          exact again I7 hd6 hm' w7
        | true =>
          rw [if_pos rfl] at q7
          rw [if_pos rfl]
          refine wpAny_mono ((body _ _ _ _ _).2.2 _ s7 σ6 H7 _ I7 q7) (fun yv s8 h8 => ?_) fun _ _ f => f.elim
          obtain ⟨y, H8, I8, r8, acc', hp8, hl8, m', hm', w8⟩ := h8
          refine wpAny_mono (mt_append (X := compCx X N' scope (closOf X.env.cells scope.names) hpL.objs.size fp { s₂ with heap := hpL } (upd H2 s₂.heap.objs.size (.lst []))) _ s8 σ6 H8 (.ref s₂.heap.objs.size) [y] (.ref s₂.heap.objs.size) [yv] (fun _ Hx => Hx = upd H8 s₂.heap.objs.size (.lst (acc' ++ [y]))) I8 rfl (.cons r8 .nil) ⟨_, acc', y, rfl, rfl, hp8, hl8, rfl⟩) (fun _ s9 h9 => ?_) fun _ _ f => f.elim
          obtain ⟨_, H9, I9, _, e9⟩ := h9
          subst e9
          exact again I9 hd6 hm' w8
    · have z : b ≠ s₂.heap.objs.size := Nat.ne_of_lt (hfpS b hb)
      rw [upd_ne z]
      exact (f2 b hb).1
  exact codeAny_compStart_list loop (T.self _ 0 _ _ _ st4 loop)
end L3

set_option Elab.async false
set_option linter.all false
set_option maxRecDepth 100000
set_option maxHeartbeats 4000000
/-! MORE RULES over the hand layer: a text's signs walked, all, isinstance, <= of texts, is (not) of truths. -/
namespace L3
open PySem PySem.Spec PyProof.Rows L2

/-! ### an assertion behind a statement -/
def tCut (t : TS) : TS := fun D σ H => ∃ N : St → Hp → Prop, t { D with nx := N } σ H ∧ ∀ σ' H', N σ' H' → D.nx σ' H'
/-! ### a text's signs -/
def Its (x : Str) : It := ⟨fun i _ => i < x.cps.size, fun i H v H' => H' = H ∧ ∃ c, x.cps[i]? = some c ∧ v = .str ⟨#[c]⟩, fun i _ => i = x.cps.size⟩
section
variable {X : Cx} {tg : Expr}
def iStr (tl : TE) : TI := fun σ H R => tl σ H fun v H1 => ∃ x, v = .str x ∧ R (Its x) H1
end

/-! ### tests on values -/
section
variable {X : Cx}
end
end L3

set_option Elab.async false
set_option linter.all false
set_option maxRecDepth 100000
set_option maxHeartbeats 4000000
/-! == AND != OF DATA: tuples and lists of data, at any depth. D: the data; Rep: a value stands for it. -/
namespace L3
open PySem PySem.Spec PyProof.Rows L2

inductive D where
  | non | bl (b : Bool) | int (i : Int) | str (x : Str) | tup (ds : List D) | lst (ds : List D)
mutual
def Rep (K : PySem.W.Frag) (H : Hp) : D → V → Prop
  | .non, v => v = .non
  | .bl b, v => v = .bl b
  | .int i, v => v = .int i
  | .str x, v => v = .str x
  | .tup ds, v => ∃ a xs, v = .ref a ∧ SqT K H a xs ∧ Reps K H ds xs
  | .lst ds, v => ∃ a xs, v = .ref a ∧ SqL K H a xs ∧ Reps K H ds xs
def Reps (K : PySem.W.Frag) (H : Hp) : List D → List V → Prop
  | [], xs => xs = []
  | d :: ds, xs => ∃ v r, xs = v :: r ∧ Rep K H d v ∧ Reps K H ds r
end
mutual
def eqD : D → D → Bool
  | .non, .non => true
  | .bl a, .bl b => a == b
  | .bl a, .int b => (if a then 1 else 0) == b
  | .int a, .bl b => a == (if b then 1 else 0)
  | .int a, .int b => a == b
  | .str a, .str b => a == b
  | .tup a, .tup b => eqDs a b
  | .lst a, .lst b => eqDs a b
  | _, _ => false
def eqDs : List D → List D → Bool
  | [], [] => true
  | a :: r, b :: q => eqD a b && eqDs r q
  | _, _ => false
end
mutual
def dpt : D → Nat
  | .tup ds => dpts ds + 1
  | .lst ds => dpts ds + 1
  | _ => 0
def dpts : List D → Nat
  | [] => 0
  | d :: r => max (dpt d) (dpts r)
end
mutual
theorem eqD_refl : ∀ d : D, eqD d d = true
  | .non => by unfold eqD; rfl
  | .bl b => by unfold eqD; simp
  | .int i => by unfold eqD; simp
  | .str x => by unfold eqD; simp
  | .tup ds => by unfold eqD; exact eqDs_refl ds
  | .lst ds => by unfold eqD; exact eqDs_refl ds
theorem eqDs_refl : ∀ ds : List D, eqDs ds ds = true
  | [] => by unfold eqDs; rfl
  | d :: r => by unfold eqDs; rw [eqD_refl d, eqDs_refl r]; rfl
end
theorem reps_len {K : PySem.W.Frag} {H : Hp} : ∀ {ds : List D} {xs : List V}, Reps K H ds xs → ds.length = xs.length
  | [], xs, h => by
    unfold Reps at h
    subst h
    rfl
  | d :: ds, xs, h => by
    unfold Reps at h
    obtain ⟨v, r, rfl, _, h2⟩ := h
    rw [List.length_cons, List.length_cons, reps_len h2]
def eAt (ds ds' : List D) (j : Nat) : Bool := match ds[j]?, ds'[j]? with
  | some a, some b => eqD a b
  | _, _ => true
theorem eqDs_iff : ∀ (ds ds' : List D), eqDs ds ds' = true ↔ ds.length = ds'.length ∧ ∀ j, j < ds.length → eAt ds ds' j = true
  | [], [] => by simp [eqDs]
  | [], b :: q => by simp [eqDs]
  | a :: r, [] => by simp [eqDs]
  | a :: r, b :: q => by
    have ih := eqDs_iff r q
    unfold eqDs
    rw [Bool.and_eq_true, ih, List.length_cons, List.length_cons]
    constructor
    · rintro ⟨h1, h2, h3⟩
      refine ⟨by omega, fun j hj => ?_⟩
      cases j with
      | zero => exact h1
      | succ j => exact h3 j (by omega)
    · rintro ⟨h1, h2⟩
      exact ⟨h2 0 (by omega), by omega, fun j hj => h2 (j + 1) (by omega)⟩
theorem range_eqDs {ds ds' : List D} {n m : Nat} (hn : ds.length = n) (hm : ds'.length = m) : ((List.range (min n m)).all (eAt ds ds') && n == m) = eqDs ds ds' := by
  rw [Bool.eq_iff_iff, eqDs_iff, Bool.and_eq_true, List.all_eq_true]
  subst hn hm
  constructor
  · rintro ⟨h1, h2⟩
    have e : ds.length = ds'.length := by simpa using h2
    exact ⟨e, fun j hj => h1 j (List.mem_range.mpr (by omega))⟩
  · rintro ⟨e, h⟩
    exact ⟨fun j hj => h j (by have := List.mem_range.mp hj; omega), by simpa using e⟩
theorem range_eqDs' {ds ds' : List D} {n : Nat} (hn : ds.length = n) (hm : ds'.length = n) : (List.range n).all (eAt ds ds') = eqDs ds ds' := by
  rw [← range_eqDs hn hm]; simp
theorem eqDs_len {ds ds' : List D} (h : ds.length ≠ ds'.length) : eqDs ds ds' = false := by
  cases e : eqDs ds ds' with
  | false => rfl
  | true => exact absurd ((eqDs_iff ds ds').mp e).1 h
section
variable {X : Cx} {pins : List (Addr × Obj)} {σ : St} {H : Hp} {s : Shared}
theorem sq_ne (I : Inv X pins σ H s) {a : Addr} {xs ys : List V} (h : SqL X.K H a xs) (h' : SqT X.K H a ys) : False := by
  obtain ⟨its, _, p, _⟩ := I.list h
  obtain ⟨its', _, p', _⟩ := I.tuple h'
  exact SeqAt.ne_of_list_tuple p.isList (show s.heap.IsTuple a its'.toArray from p') rfl
mutual
theorem rep_same (I : Inv X pins σ H s) : ∀ (d d' : D) (v : V), Rep X.K H d v → Rep X.K H d' v → eqD d d' = true
  | .non, d', v, h, h' => by
    unfold Rep at h
    subst h
    cases d' <;> unfold Rep at h' <;> first | rfl | (exact nomatch h') | (obtain ⟨_, _, e, _⟩ := h'; exact nomatch e)
  | .bl b, d', v, h, h' => by
    unfold Rep at h
    subst h
    cases d' <;> unfold Rep at h' <;> first | (obtain ⟨_, _, e, _⟩ := h'; cases e) | (cases h' <;> simp [eqD])
  | .int b, d', v, h, h' => by
    unfold Rep at h
    subst h
    cases d' <;> unfold Rep at h' <;> first | (obtain ⟨_, _, e, _⟩ := h'; cases e) | (cases h' <;> simp [eqD])
  | .str b, d', v, h, h' => by
    unfold Rep at h
    subst h
    cases d' <;> unfold Rep at h' <;> first | (obtain ⟨_, _, e, _⟩ := h'; cases e) | (cases h' <;> simp [eqD])
  | .tup ds, d', v, h, h' => by
    unfold Rep at h
    obtain ⟨a, xs, rfl, hq, hr⟩ := h
    cases d' with
    | tup ds' =>
      unfold Rep at h'
      obtain ⟨a', xs', e, hq', hr'⟩ := h'
      cases e
      have ex := I.tuple_inj hq hq'
      subst ex
      unfold eqD
      exact reps_same I ds ds' xs hr hr'
    | lst ds' =>
      unfold Rep at h'
      obtain ⟨a', xs', e, hq', hr'⟩ := h'
      cases e
      exact (sq_ne I hq' hq).elim
    | _ => unfold Rep at h'; exact nomatch h'
  | .lst ds, d', v, h, h' => by
    unfold Rep at h
    obtain ⟨a, xs, rfl, hq, hr⟩ := h
    cases d' with
    | lst ds' =>
      unfold Rep at h'
      obtain ⟨a', xs', e, hq', hr'⟩ := h'
      cases e
      have ex := I.list_inj hq hq'
      subst ex
      unfold eqD
      exact reps_same I ds ds' xs hr hr'
    | tup ds' =>
      unfold Rep at h'
      obtain ⟨a', xs', e, hq', hr'⟩ := h'
      cases e
      exact (sq_ne I hq hq').elim
    | _ => unfold Rep at h'; exact nomatch h'
theorem reps_same (I : Inv X pins σ H s) : ∀ (ds ds' : List D) (xs : List V), Reps X.K H ds xs → Reps X.K H ds' xs → eqDs ds ds' = true
  | [], ds', xs, h, h' => by
    unfold Reps at h
    subst h
    cases ds' with
    | nil => rfl
    | cons d r => unfold Reps at h'; obtain ⟨_, _, e, _⟩ := h'; exact nomatch e
  | d :: ds, ds', xs, h, h' => by
    unfold Reps at h
    obtain ⟨v, r, rfl, h1, h2⟩ := h
    cases ds' with
    | nil => unfold Reps at h'; exact nomatch h'
    | cons d' r' =>
      unfold Reps at h'
      obtain ⟨v', q, e, h1', h2'⟩ := h'
      cases e
      unfold eqDs
      rw [rep_same I d d' v h1 h1', reps_same I ds r' r h2 h2']
      rfl
end
mutual
theorem eqAt_D (I : Inv X pins σ H s) : ∀ (d d' : D) (x y : V) (u v : Value) (A : Around), Rep X.K H d x → Rep X.K H d' y → RelV x u → RelV y v → A.units + dpt d + dpt d' < cLine → SeqAt.EqAt A s u v (eqD d d')
  | .tup ds, d', x, y, u, v, A, hx, hy, ru, rv, hu => by
    unfold Rep at hx
    obtain ⟨a, xs, rfl, hq, hr⟩ := hx
    cases ru
    obtain ⟨its, rx, p, _⟩ := I.tuple hq
    have p : s.heap.IsTuple a its.toArray := p
    cases d' with
    | non => unfold Rep at hy; subst hy; cases rv; exact SeqAt.EqAt.tuple_none p (by omega)
    | bl b => unfold Rep at hy; subst hy; cases rv; exact SeqAt.EqAt.tuple_bool b p (by omega)
    | int b => unfold Rep at hy; subst hy; obtain ⟨t, rfl⟩ := rv; exact SeqAt.EqAt.tuple_int b t p (by omega)
    | str b => unfold Rep at hy; subst hy; obtain ⟨t, rfl⟩ := rv; exact SeqAt.EqAt.tuple_str b t p (by omega)
    | lst ds' =>
      unfold Rep at hy
      obtain ⟨b, ys, rfl, hq', hr'⟩ := hy
      cases rv
      obtain ⟨its', ry, p', _⟩ := I.list hq'
      exact SeqAt.EqAt.tuple_list p p'.isList (by omega)
    | tup ds' =>
      have hy0 := hy
      unfold Rep at hy
      obtain ⟨b, ys, rfl, hq', hr'⟩ := hy
      cases rv
      obtain ⟨its', ry, p', _⟩ := I.tuple hq'
      have p' : s.heap.IsTuple b its'.toArray := p'
      by_cases hab : a = b
      · subst hab
        have e : eqD (.tup ds) (.tup ds') = true := rep_same I _ _ (.ref a) (by unfold Rep; exact ⟨a, xs, rfl, hq, hr⟩) hy0
        rw [e]
        exact SeqAt.EqAt.same _
      · have hd : dpt (.tup ds) = dpts ds + 1 := by rw [dpt]
        have hd' : dpt (.tup ds') = dpts ds' + 1 := by rw [dpt]
        have q := SeqAt.RcAt.tuples (A := A) (e := eAt ds ds') p p' (by omega) fun j h1 h2 => by
          have z := eqsAt_D I ds ds' xs ys its its' A.in1 hr hr' rx ry (by show A.units + 1 + dpts ds + dpts ds' < cLine; omega) j (by simpa using h1) (by simpa using h2)
          simpa using z
        rw [range_eqDs (by rw [reps_len hr, rx.length]; simp) (by rw [reps_len hr', ry.length]; simp)] at q
        exact SeqAt.EqAt.of_refs hab (by unfold eqD; exact q)
  | .lst ds, d', x, y, u, v, A, hx, hy, ru, rv, hu => by
    unfold Rep at hx
    obtain ⟨a, xs, rfl, hq, hr⟩ := hx
    cases ru
    obtain ⟨its, rx, p, _⟩ := I.list hq
    have p := p.isList
    cases d' with
    | non => unfold Rep at hy; subst hy; cases rv; exact SeqAt.EqAt.list_none p (by omega)
    | bl b => unfold Rep at hy; subst hy; cases rv; exact SeqAt.EqAt.list_bool b p (by omega)
    | int b => unfold Rep at hy; subst hy; obtain ⟨t, rfl⟩ := rv; exact SeqAt.EqAt.list_int b t p (by omega)
    | str b => unfold Rep at hy; subst hy; obtain ⟨t, rfl⟩ := rv; exact SeqAt.EqAt.list_str b t p (by omega)
    | tup ds' =>
      unfold Rep at hy
      obtain ⟨b, ys, rfl, hq', hr'⟩ := hy
      cases rv
      obtain ⟨its', ry, p', _⟩ := I.tuple hq'
      exact SeqAt.EqAt.list_tuple p (show s.heap.IsTuple b its'.toArray from p') (by omega)
    | lst ds' =>
      have hy0 := hy
      unfold Rep at hy
      obtain ⟨b, ys, rfl, hq', hr'⟩ := hy
      cases rv
      obtain ⟨its', ry, p', _⟩ := I.list hq'
      have p' := p'.isList
      by_cases hab : a = b
      · subst hab
        have e : eqD (.lst ds) (.lst ds') = true := rep_same I _ _ (.ref a) (by unfold Rep; exact ⟨a, xs, rfl, hq, hr⟩) hy0
        rw [e]
        exact SeqAt.EqAt.same _
      · have hd : dpt (.lst ds) = dpts ds + 1 := by rw [dpt]
        have hd' : dpt (.lst ds') = dpts ds' + 1 := by rw [dpt]
        by_cases hl : its.length = its'.length
        · have q := SeqAt.RcAt.lists (A := A) (e := eAt ds ds') p p' (by simpa using hl) (by omega) fun j h1 h2 => by
            have z := eqsAt_D I ds ds' xs ys its its' A.in1 hr hr' rx ry (by show A.units + 1 + dpts ds + dpts ds' < cLine; omega) j (by simpa using h1) (by simpa using h2)
            simpa using z
          rw [range_eqDs' (by rw [reps_len hr, rx.length]; simp) (by rw [reps_len hr', ry.length, ← hl]; simp)] at q
          exact SeqAt.EqAt.of_refs hab (by unfold eqD; exact q)
        · have e : eqD (.lst ds) (.lst ds') = false := by
            unfold eqD
            exact eqDs_len (by rw [reps_len hr, reps_len hr', rx.length, ry.length]; exact hl)
          rw [e]
          exact SeqAt.EqAt.of_refs hab (SeqAt.RcAt.lists_lengths p p' (by simpa using hl) (by omega))
  | .non, d', x, y, u, v, A, hx, hy, ru, rv, hu => by
    unfold Rep at hx
    subst hx
    cases d' with
    | tup ds' =>
      unfold Rep at hy
      obtain ⟨b, ys, rfl, hq', hr'⟩ := hy
      cases rv
      cases ru
      obtain ⟨its', ry, p', _⟩ := I.tuple hq'
      exact SeqAt.EqAt.none_tuple (show s.heap.IsTuple b its'.toArray from p') (by omega)
    | lst ds' =>
      unfold Rep at hy
      obtain ⟨b, ys, rfl, hq', hr'⟩ := hy
      cases rv
      cases ru
      obtain ⟨its', ry, p', _⟩ := I.list hq'
      exact SeqAt.EqAt.none_list p'.isList (by omega)
    | _ => unfold Rep at hy; subst hy; exact eqAt_V ru rv rfl rfl
  | .bl c, d', x, y, u, v, A, hx, hy, ru, rv, hu => by
    unfold Rep at hx
    subst hx
    cases d' with
    | tup ds' =>
      unfold Rep at hy
      obtain ⟨b, ys, rfl, hq', hr'⟩ := hy
      cases rv
      cases ru
      obtain ⟨its', ry, p', _⟩ := I.tuple hq'
      exact SeqAt.EqAt.bool_tuple c (show s.heap.IsTuple b its'.toArray from p') (by omega)
    | lst ds' =>
      unfold Rep at hy
      obtain ⟨b, ys, rfl, hq', hr'⟩ := hy
      cases rv
      cases ru
      obtain ⟨its', ry, p', _⟩ := I.list hq'
      exact SeqAt.EqAt.bool_list c p'.isList (by omega)
    | _ => unfold Rep at hy; subst hy; exact eqAt_V ru rv rfl rfl
  | .int c, d', x, y, u, v, A, hx, hy, ru, rv, hu => by
    unfold Rep at hx
    subst hx
    cases d' with
    | tup ds' =>
      unfold Rep at hy
      obtain ⟨b, ys, rfl, hq', hr'⟩ := hy
      cases rv
      obtain ⟨t, rfl⟩ := ru
      obtain ⟨its', ry, p', _⟩ := I.tuple hq'
      exact SeqAt.EqAt.int_tuple c t (show s.heap.IsTuple b its'.toArray from p') (by omega)
    | lst ds' =>
      unfold Rep at hy
      obtain ⟨b, ys, rfl, hq', hr'⟩ := hy
      cases rv
      obtain ⟨t, rfl⟩ := ru
      obtain ⟨its', ry, p', _⟩ := I.list hq'
      exact SeqAt.EqAt.int_list c t p'.isList (by omega)
    | _ => unfold Rep at hy; subst hy; exact eqAt_V ru rv rfl rfl
  | .str c, d', x, y, u, v, A, hx, hy, ru, rv, hu => by
    unfold Rep at hx
    subst hx
    cases d' with
    | tup ds' =>
      unfold Rep at hy
      obtain ⟨b, ys, rfl, hq', hr'⟩ := hy
      cases rv
      obtain ⟨t, rfl⟩ := ru
      obtain ⟨its', ry, p', _⟩ := I.tuple hq'
      exact SeqAt.EqAt.str_tuple c t (show s.heap.IsTuple b its'.toArray from p') (by omega)
    | lst ds' =>
      unfold Rep at hy
      obtain ⟨b, ys, rfl, hq', hr'⟩ := hy
      cases rv
      obtain ⟨t, rfl⟩ := ru
      obtain ⟨its', ry, p', _⟩ := I.list hq'
      exact SeqAt.EqAt.str_list c t p'.isList (by omega)
    | _ => unfold Rep at hy; subst hy; exact eqAt_V ru rv rfl rfl
theorem eqsAt_D (I : Inv X pins σ H s) : ∀ (ds ds' : List D) (xs ys : List V) (us vs : List Value) (A : Around), Reps X.K H ds xs → Reps X.K H ds' ys → Vals xs us → Vals ys vs → A.units + dpts ds + dpts ds' < cLine →
    ∀ (j : Nat) (h1 : j < us.length) (h2 : j < vs.length), SeqAt.EqAt A s us[j] vs[j] (eAt ds ds' j)
  | [], ds', xs, ys, us, vs, A, hx, hy, ru, rv, hu, j, h1, h2 => by
    have := reps_len hx
    have := ru.length
    simp only [List.length_nil] at *
    omega
  | d :: ds, [], xs, ys, us, vs, A, hx, hy, ru, rv, hu, j, h1, h2 => by
    have := reps_len hy
    have := rv.length
    simp only [List.length_nil] at *
    omega
  | d :: ds, d' :: ds', xs, ys, us, vs, A, hx, hy, ru, rv, hu, j, h1, h2 => by
    unfold Reps at hx hy
    obtain ⟨x, xr, rfl, hx1, hx2⟩ := hx
    obtain ⟨y, yr, rfl, hy1, hy2⟩ := hy
    have e1 : dpts (d :: ds) = max (dpt d) (dpts ds) := by rw [dpts]
    have e2 : dpts (d' :: ds') = max (dpt d') (dpts ds') := by rw [dpts]
    cases ru with
    | cons r1 r2 =>
      cases rv with
      | cons q1 q2 =>
        cases j with
        | zero => exact eqAt_D I d d' x y _ _ A hx1 hy1 r1 q1 (by omega)
        | succ j => exact eqsAt_D I ds ds' xr yr _ _ A hx2 hy2 r2 q2 (by omega) j (by simpa using h1) (by simpa using h2)
end
/-- both a tuple, or both a list -/
def likeD : D → D → Bool
  | .tup _, .tup _ => true
  | .lst _, .lst _ => true
  | _, _ => false
def rEqD (K : PySem.W.Frag) (neg : Bool) : R2 := fun x y H Q => ∃ d d', Rep K H d x ∧ Rep K H d' y ∧ likeD d d' = true ∧ dpt d ≤ 20 ∧ dpt d' ≤ 20 ∧ Q (.bl (if neg then !eqD d d' else eqD d d')) H
theorem op_eqD (hu : X.A.units + 64 < cLine) : OpR X (compareOp .Eq) (rEqD X.K false) := by
  intro pins s σ H x y u v Q I ru rv h
  obtain ⟨d, d', hx, hy, hd, h1, h2, q⟩ := h
  cases d with
  | tup ds =>
    cases d' with
    | tup ds' =>
      have hd1 : dpt (.tup ds) = dpts ds + 1 := by rw [dpt]
      have hd2 : dpt (.tup ds') = dpts ds' + 1 := by rw [dpt]
      unfold Rep at hx hy
      obtain ⟨a, xs, rfl, hq, hr⟩ := hx
      obtain ⟨b, ys, rfl, hq', hr'⟩ := hy
      cases ru
      cases rv
      obtain ⟨its, rx, p, _⟩ := I.tuple hq
      obtain ⟨its', ry, p', _⟩ := I.tuple hq'
      refine SeqAt.eq_tupleAt (e := eAt ds ds') (show s.heap.IsTuple a its.toArray from p) (show s.heap.IsTuple b its'.toArray from p') (by omega) (fun j h1 h2 => ?_) ?_
      · have z := eqsAt_D I ds ds' xs ys its its' X.A.in1 hr hr' rx ry (by show X.A.units + 1 + dpts ds + dpts ds' < cLine; omega) j (by simpa using h1) (by simpa using h2)
        simpa using z
      · rw [range_eqDs (by rw [reps_len hr, rx.length]; simp) (by rw [reps_len hr', ry.length]; simp)]
        unfold eqD at q
        exact fin_bl I q rfl
    | _ => exact nomatch hd
  | lst ds =>
    cases d' with
    | lst ds' =>
      have hd1 : dpt (.lst ds) = dpts ds + 1 := by rw [dpt]
      have hd2 : dpt (.lst ds') = dpts ds' + 1 := by rw [dpt]
      unfold Rep at hx hy
      obtain ⟨a, xs, rfl, hq, hr⟩ := hx
      obtain ⟨b, ys, rfl, hq', hr'⟩ := hy
      cases ru
      cases rv
      obtain ⟨its, rx, p, _⟩ := I.list hq
      obtain ⟨its', ry, p', _⟩ := I.list hq'
      by_cases hl : its.length = its'.length
      · refine SeqAt.eq_listAt (e := eAt ds ds') p.isList p'.isList (by simpa using hl) (by omega) (fun j h1 h2 => ?_) ?_
        · have z := eqsAt_D I ds ds' xs ys its its' X.A.in1 hr hr' rx ry (by show X.A.units + 1 + dpts ds + dpts ds' < cLine; omega) j (by simpa using h1) (by simpa using h2)
          simpa using z
        · rw [range_eqDs' (by rw [reps_len hr, rx.length]; simp) (by rw [reps_len hr', ry.length, ← hl]; simp)]
          unfold eqD at q
          exact fin_bl I q rfl
      · refine SeqAt.eq_list_lengthsAt p.isList p'.isList (by simpa using hl) (by omega) ?_
        have e : eqDs ds ds' = false := eqDs_len (by rw [reps_len hr, reps_len hr', rx.length, ry.length]; exact hl)
        unfold eqD at q
        rw [e] at q
        exact fin_bl I q rfl
    | _ => exact nomatch hd
  | _ => exact nomatch hd
theorem op_neD (hu : X.A.units + 64 < cLine) : OpR X (compareOp .NotEq) (rEqD X.K true) := by
  intro pins s σ H x y u v Q I ru rv h
  obtain ⟨d, d', hx, hy, hd, h1, h2, q⟩ := h
  cases d with
  | tup ds =>
    cases d' with
    | tup ds' =>
      have hd1 : dpt (.tup ds) = dpts ds + 1 := by rw [dpt]
      have hd2 : dpt (.tup ds') = dpts ds' + 1 := by rw [dpt]
      unfold Rep at hx hy
      obtain ⟨a, xs, rfl, hq, hr⟩ := hx
      obtain ⟨b, ys, rfl, hq', hr'⟩ := hy
      cases ru
      cases rv
      obtain ⟨its, rx, p, _⟩ := I.tuple hq
      obtain ⟨its', ry, p', _⟩ := I.tuple hq'
      have w := SeqAt.RcNeAt.tuples (A := X.A) (e := eAt ds ds') (show s.heap.IsTuple a its.toArray from p) (show s.heap.IsTuple b its'.toArray from p') (by omega) (fun j h1 h2 => by
        have z := eqsAt_D I ds ds' xs ys its its' X.A.in1 hr hr' rx ry (by show X.A.units + 1 + dpts ds + dpts ds' < cLine; omega) j (by simpa using h1) (by simpa using h2)
        simpa using z)
      rw [range_eqDs (by rw [reps_len hr, rx.length]; simp) (by rw [reps_len hr', ry.length]; simp)] at w
      unfold eqD at q
      exact w X.prog X.w X.xe _ (fin_bl I q rfl)
    | _ => exact nomatch hd
  | lst ds =>
    cases d' with
    | lst ds' =>
      have hd1 : dpt (.lst ds) = dpts ds + 1 := by rw [dpt]
      have hd2 : dpt (.lst ds') = dpts ds' + 1 := by rw [dpt]
      unfold Rep at hx hy
      obtain ⟨a, xs, rfl, hq, hr⟩ := hx
      obtain ⟨b, ys, rfl, hq', hr'⟩ := hy
      cases ru
      cases rv
      obtain ⟨its, rx, p, _⟩ := I.list hq
      obtain ⟨its', ry, p', _⟩ := I.list hq'
      by_cases hl : its.length = its'.length
      · have w := SeqAt.RcNeAt.lists (A := X.A) (e := eAt ds ds') p.isList p'.isList (by simpa using hl) (by omega) (fun j h1 h2 => by
          have z := eqsAt_D I ds ds' xs ys its its' X.A.in1 hr hr' rx ry (by show X.A.units + 1 + dpts ds + dpts ds' < cLine; omega) j (by simpa using h1) (by simpa using h2)
          simpa using z)
        rw [range_eqDs' (by rw [reps_len hr, rx.length]; simp) (by rw [reps_len hr', ry.length, ← hl]; simp)] at w
        unfold eqD at q
        exact w X.prog X.w X.xe _ (fin_bl I q rfl)
      · have e : eqDs ds ds' = false := eqDs_len (by rw [reps_len hr, reps_len hr', rx.length, ry.length]; exact hl)
        unfold eqD at q
        rw [e] at q
        exact SeqAt.RcNeAt.lists_lengths p.isList p'.isList (by simpa using hl) (by omega) X.prog X.w X.xe _ (fin_bl I q rfl)
    | _ => exact nomatch hd
  | _ => exact nomatch hd
end
end L3

set_option Elab.async false
set_option linter.all false
set_option maxRecDepth 100000
set_option maxHeartbeats 4000000
/-! WHAT THE LAWS SHARE: written displays, the digits of a number. -/
namespace L3
open PySem PySem.Spec PyProof.Rows L2

/-! ### displays of written texts -/
inductive StrsAre : List Expr → List V → Prop
  | nil : StrsAre [] []
  | cons {x : Str} {j : Nat} {pos : Pos} {es : List Expr} {vs : List V} (h : StrsAre es vs) : StrsAre (.Constant (.str x) j pos :: es) (.str x :: vs)
def tStrs (vs : List V) : TA := fun _ H Q => Q vs H
def strsOf : List Expr → Option (List V)
  | [] => some []
  | .Constant (.str x) _ _ :: r => (strsOf r).map fun l => V.str x :: l
  | _ => none
theorem str_len (x : Str) : x.cps.toList.length = x.length := Array.length_toList
theorem app_len (x y : Str) : (x ++ y).length = x.length + y.length := by
  rw [← str_len, PySem.W.KT.app_list, List.length_append, str_len, str_len]
theorem small_line {n : Nat} (h : n ≤ 1000) : n ≤ sizeLine := Nat.le_of_lt (small1000 h)

/-! ### the digits of a number -/
def DSt (xs : List V) : Prop := (∃ c, xs = [.int c]) ∨ ∃ q r n, xs = [.int q, .int r, .int n]
/-- all that was tracked but at a is as it was -/
def Sm1 (a : Addr) (H H' : Hp) : Prop := ∀ b o, H b = some o → b ≠ a → H' b = some o
theorem Same.new {p : Addr} {H H1 : Hp} (x : Same H H1) (hp : H1 p = none) (o : HO) : Same H (upd H1 p o) := fun b u e => by
  have z := x b u e
  rw [upd_ne (ne_of_none z hp)]
  exact z
/-- a digit is told; of the state only its form is kept -/
def spDigit : Sp := fun vs H Q _ => ∃ (a : Addr) (b : Int) (xs : List V), vs = [.ref a, .int b] ∧ 0 < b ∧ b < 1073741824 ∧ H a = some (.lst xs) ∧ DSt xs ∧
  ∀ (d : Int) (xs' : List V) (H' : Hp), 0 ≤ d → d < b → DSt xs' → H' a = some (.lst xs') → Sm1 a H H' → Q (.int d) H'
structure Blt (mg : Str → Option Value) : Prop where
  len : mg "len" = none
  int : mg "int" = none
  range : mg "range" = none
/-! ### a def with defaults -/
structure FunD (K : PySem.W.Frag) (x qual : Str) (st : Stmt) (f : Addr) (fd : FuncData) (T : Addr) : Prop where
  ex : ∃ (oc : Value) (od : Option Addr) (kV doc pm : Value) (an : Option Addr) (cdv ct : Value) (osl : Array (Option Value)),
    fd = PySem.W.fnOf x qual (defArgs st) (defBody st) (defScope st) (.ref T) kV doc pm an cdv ct ∧ K.lookup f = some ⟨oc, od, .func fd, osl⟩ ∧ PySem.W.codeIn K cdv qual = true
  kp : PySem.W.keepIn K (.ref f) = true
section
variable {P : Program} {w : World} {K : PySem.W.Frag} {mg : Str → Option Value} {base : Heap}
theorem FunD.ok {x qual : Str} {st : Stmt} {f T : Addr} {fd : FuncData} {N ps : List Str} {k : Nat} {sp : Sp} (F : FunD K x qual st f fd T) (S : FnScope N ps (defScope st)) (len : ∀ vs H Q E, sp vs H Q E → vs.length = ps.length)
    (hbody : ∀ (cdv : Value) (A : Around) (outer : List Env) (s : Shared) (H : Hp) (vs : List V) (Q : VK) (E : XK), Room k (A.deeper (envOfC qual (defScope st) s.heap.objs.size f cdv)) → sp vs H Q E →
      ∃ t, PSs (cxOf CX0 P w K mg base N qual (defScope st) f cdv A outer s H E).nox (defBody st) t ∧ t { nx := fun _ H' => Q .non H', rt := Q } (L2.start N vs) H) : FnOk P w K mg base CX0 (k + 1) f fd ps sp := by
  obtain ⟨oc, od, kV, doc, pm, an, cdv, ct, osl, rfl, lk, hcd⟩ := F.ex
  refine fn_of lk hcd S len fun A outer s H vs Q E hr hsp => ?_
  obtain ⟨t, h, q⟩ := hbody cdv A outer s H vs Q E hr hsp
  exact ⟨t, h.nox, q⟩
theorem fund_mk {x qual : Str} {st : Stmt} {f T : Addr} {oc : Value} {od an : Option Addr} {osl : Array (Option Value)} {kV doc pm cdv ct : Value} (l : K.lookup f = some ⟨oc, od, .func (PySem.W.fnOf x qual (defArgs st) (defBody st) (defScope st) (.ref T) kV doc pm an cdv ct), osl⟩)
    (c : PySem.W.codeIn K cdv qual = true) (k : PySem.W.keepIn K (.ref f) = true) : FunD K x qual st f (PySem.W.fnOf x qual (defArgs st) (defBody st) (defScope st) (.ref T) kV doc pm an cdv ct) T := ⟨⟨oc, od, kV, doc, pm, an, cdv, ct, osl, rfl, l, c⟩, k⟩
end
theorem FunD.binds {K : PySem.W.Frag} {x qual : Str} {st : Stmt} {f T : Addr} {fd : FuncData} {ps : List Str} {ds : List Value} {o : Obj} {items : Array Value} {n : Nat} (F : FunD K x qual st f fd T) (ho : K.lookup T = some o) (hs : o.data = .seq items n)
    (h : ∀ (kV doc pm : Value) (an : Option Addr) (cdv ct : Value) (us : List Value), us.length = ps.length - ds.length → ∃ k, bindArgs (PySem.W.fnOf x qual (defArgs st) (defBody st) (defScope st) (.ref T) kV doc pm an cdv ct) ⟨us, []⟩ = seqItems? (.ref T) >>= k ∧ k (some items) = pure (ps.zip (us ++ ds))) : Binds K fd ps ds := by
  obtain ⟨oc, od, kV, doc, pm, an, cdv, ct, osl, rfl, lk, hcd⟩ := F.ex
  intro s us KX hl
  obtain ⟨k, h1, h2⟩ := h kV doc pm an cdv ct us (by rw [List.length_append] at hl; omega)
  exact BindsTo.of_defaults (k := k) rfl (KX _ _ ho) hs h1 h2
/-- a def of the text: its object, its name, how its arguments bind -/
structure Fn (K : PySem.W.Frag) (mg : Str → Option Value) (x : Str) (st : Stmt) (f : Addr) (fd : FuncData) (ps : List Str) : Prop where
  F : Fun K x x st f fd
  m : mg x = some (.ref f)
  b : Binds K fd ps []
/-- the rows of a digit's def behind its first if -/
def tDigitRest (K : PySem.W.Frag) : TS :=
  let ix : Int → TE := fun k => tOp (rIxL K) (tVar 0) (tC (.int k))
  tSeq (tIfS (tTest (tOp (rI0 fun i j => .bl (decide (j < i))) (ix 0) (tC (.int 0))))
    (tSeq (tAsg (tOp (rI (fun _ j => 0 < j) fun i j => .int (i % j)) (ix 0) (tVar 1)) (gName 3))
      (tSeq (tAsg (tOp (rI CDiv fun i j => .int (i / j)) (ix 0) (tVar 1)) (gSub (tVar 0) (tC (.int 0)) rSetL)) (tRet (tVar 3)))) tNext)
  (tSeq (tAsg (tOp (rI0 fun i j => .int (i + j)) (ix 2) (tC (.int 1))) (gSub (tVar 0) (tC (.int 2)) rSetL))
  (tSeq (tAsg (tOp (rI (fun _ j => 0 < j) fun i j => .int (i % j)) (tOp (rI CMul fun i j => .int (i * j)) (tOp (rI0 fun i j => .int (i + j)) (tOp (rI0 fun i j => .int (i + j)) (ix 1) (tOp (rI CMul fun i j => .int (i * j)) (tC (.int 7919)) (ix 2))) (tC (.int 1))) (tC (.int 48271))) (tC (.int 2147483647))) (gName 4))
  (tSeq (tAsg (tOp (rI (fun _ j => 0 < j) fun i j => .int (i % j)) (tOp (rI CMul fun i j => .int (i * j)) (tVar 4) (tOp (rI0 fun i j => .int (i + j)) (tOp (rI CDiv fun i j => .int (i / j)) (tVar 4) (tC (.int 1009))) (tC (.int 69621)))) (tC (.int 2147483647))) (gName 4))
  (tRet (tOp (rI (fun _ j => 0 < j) fun i j => .int (i % j)) (tOp (rI (fun _ j => 0 < j) fun i j => .int (i % j)) (tOp (rI CMul fun i j => .int (i * j)) (tVar 4) (tOp (rI0 fun i j => .int (i + j)) (tOp (rI CDiv fun i j => .int (i / j)) (tVar 4) (tC (.int 2003))) (tC (.int 40692)))) (tC (.int 2147483399))) (tVar 1))))))
end L3

set_option Elab.async false
set_option linter.all false
set_option maxRecDepth 100000
set_option maxHeartbeats 4000000
/-! MORE OF TEXTS: text * number, text[i:], split by a text, join of a tuple. -/
namespace L3
open PySem PySem.Spec PyProof.Rows L2
section
variable {X : Cx}
end
end L3

set_option Elab.async false
set_option linter.all false
set_option maxRecDepth 100000
set_option maxHeartbeats 4000000
/-! RULES WITH THE FRAGMENT NAMED: inside a comprehension's block the reading may not lean on the block's own context. -/
namespace L3
open PySem PySem.Spec PyProof.Rows L2
section
variable {X : Cx} (K : PySem.W.Frag)
theorem pi_listK {tg l : Expr} {tl : TE} (hl : PE X l tl) (hK : X.K = K := by rfl) : PI X tg l (iList K tl) := by subst hK; exact pi_list hl
theorem pi_tupK {tg l : Expr} {tl : TE} (hl : PE X l tl) (hK : X.K = K := by rfl) : PI X tg l (iTup K tl) := by subst hK; exact pi_tup hl
theorem pg_tupK {es : List Expr} {pos : Pos} {k : Nat} {t : TGs} {n : Nat} (hc : X.calm = true) (h : PGs X es t) (hn : (assignEach es X.env).length = n := by rfl) (hst : (assignEach es X.env).findIdx? (·.1) = none := by rfl) (hK : X.K = K := by rfl) : PG X (.Tuple es k pos) (gTup K n t) := by
  subst hK; exact pg_tup hc h hn hst
variable {o e : Expr} {es : List Expr} {to : TE} {t : TA} {name : Str} {apos cpos : Pos} {T id : String} {r : V → List V → Hp → VK → Prop}
theorem pe_bmK (pa : PlainAttrs T) (slot : Slot T name id) (hty : typeOf (.builtin id) = pure (.type "method_descriptor")) (hm : MtR X id r) (ho : PE X o to) (ha : PA X (e :: es) t)
    (hbase : attributeBase o name X.env (eval o X.env) = eval o X.env := by rfl)
    (hfew : ((backTo cpos (starEach (e :: es) X.env)).all (fun x => !x.1) && (backToKw cpos (keywordEach [] X.env)).all (fun x => x.1.isSome)
      && decide ((e :: es).length + ([] : List Keyword).length + (if ([] : List Keyword).isEmpty then 0 else 1) < 30)) = true := by rfl)
    (hline : (apos.endLine == cpos.line) = true := by rfl) (hs : starEach (e :: es) X.env = (false, eval e X.env) :: starEach es X.env := by rfl) (hplain : (backTo cpos (starEach es X.env)).any (·.1) = false := by rfl) (hK : X.K = K := by rfl) :
    PE X (.Call (.Attribute o name apos) (e :: es) [] cpos) (tBM K T r to t) := by subst hK; exact pe_bm pa slot hty hm ho ha hbase hfew hline hs hplain
end
end L3

set_option Elab.async false
set_option linter.all false
set_option maxRecDepth 100000
set_option maxHeartbeats 4000000
/-! THE PROGRAM AS FUNCTIONS: values as data (no heap), expressions and statements as partial functions of the names' slots; what was read so is sound over the hand layer. -/
namespace L4
open PySem PySem.Spec PyProof.Rows L2 L3

abbrev St := L2.St
inductive D where
  | non | bl (b : Bool) | int (i : Int) | str (x : Str)
  | tup (ds : List D) | lst (ds : List D)
  /-- a list that is never changed (the script) -/
  | fzl (ds : List D)
  | obj (c : Nat) (ns : List Str) (ds : List D)
  | dic (ks : List Key) (ds : List D)

structure Bg where
  K : PySem.W.Frag
  ca : Nat → Addr

mutual
def Rep (G : Bg) (H : Hp) : D → V → Prop
  | .non, v => v = .non
  | .bl b, v => v = .bl b
  | .int i, v => v = .int i
  | .str x, v => v = .str x
  | .tup ds, v => ∃ a xs, v = .ref a ∧ SqT G.K H a xs ∧ Reps G H ds xs
  | .lst ds, v => ∃ a xs, v = .ref a ∧ H a = some (.lst xs) ∧ Reps G H ds xs
  | .fzl ds, v => ∃ a xs, v = .ref a ∧ SqL G.K H a xs ∧ Reps G H ds xs
  | .obj c ns ds, v => ∃ a dx xs, v = .ref a ∧ H a = some (.ins (G.ca c) dx (ns.zip xs)) ∧ ns.length = xs.length ∧ Reps G H ds xs
  | .dic ks ds, v => ∃ a xs, v = .ref a ∧ H a = some (.dK (ks.zip xs)) ∧ ks.length = xs.length ∧ Reps G H ds xs
def Reps (G : Bg) (H : Hp) : List D → List V → Prop
  | [], xs => xs = []
  | d :: ds, xs => ∃ v r, xs = v :: r ∧ Rep G H d v ∧ Reps G H ds r
end
theorem SqT.mono {K : PySem.W.Frag} {H H' : Hp} {a : Addr} {xs : List V} (e : Same H H') (h : SqT K H a xs) : SqT K H' a xs := by
  rcases h with (h | ⟨o, h⟩) | h
  · exact .inl (.inl (e _ _ h))
  · exact .inl (.inr ⟨o, e _ _ h⟩)
  · exact .inr h
mutual
theorem Rep.mono {G : Bg} {H H' : Hp} (e : Same H H') : ∀ (d : D) (v : V), Rep G H d v → Rep G H' d v
  | .non, v, h => by unfold Rep at h ⊢; exact h
  | .bl b, v, h => by unfold Rep at h ⊢; exact h
  | .int i, v, h => by unfold Rep at h ⊢; exact h
  | .str x, v, h => by unfold Rep at h ⊢; exact h
  | .tup ds, v, h => by
    unfold Rep at h ⊢
    obtain ⟨a, xs, rfl, h1, h2⟩ := h
    exact ⟨a, xs, rfl, SqT.mono e h1, Reps.mono e ds xs h2⟩
  | .lst ds, v, h => by
    unfold Rep at h ⊢
    obtain ⟨a, xs, rfl, h1, h2⟩ := h
    exact ⟨a, xs, rfl, e _ _ h1, Reps.mono e ds xs h2⟩
  | .fzl ds, v, h => by
    unfold Rep at h ⊢
    obtain ⟨a, xs, rfl, h1, h2⟩ := h
    exact ⟨a, xs, rfl, e.seq h1, Reps.mono e ds xs h2⟩
  | .obj c ns ds, v, h => by
    unfold Rep at h ⊢
    obtain ⟨a, dx, xs, rfl, h1, h2, h3⟩ := h
    exact ⟨a, dx, xs, rfl, e _ _ h1, h2, Reps.mono e ds xs h3⟩
  | .dic ks ds, v, h => by
    unfold Rep at h ⊢
    obtain ⟨a, xs, rfl, h1, h2, h3⟩ := h
    exact ⟨a, xs, rfl, e _ _ h1, h2, Reps.mono e ds xs h3⟩
theorem Reps.mono {G : Bg} {H H' : Hp} (e : Same H H') : ∀ (ds : List D) (xs : List V), Reps G H ds xs → Reps G H' ds xs
  | [], xs, h => by unfold Reps at h ⊢; exact h
  | d :: ds, xs, h => by
    unfold Reps at h ⊢
    obtain ⟨v, r, rfl, h1, h2⟩ := h
    exact ⟨v, r, rfl, Rep.mono e d v h1, Reps.mono e ds r h2⟩
end
section
variable {G : Bg} {H : Hp}
theorem reps_nil : Reps G H [] [] := by unfold Reps; rfl
theorem reps_cons {d : D} {v : V} {ds : List D} {xs : List V} (h : Rep G H d v) (r : Reps G H ds xs) : Reps G H (d :: ds) (v :: xs) := by unfold Reps; exact ⟨v, xs, rfl, h, r⟩
theorem reps_len : ∀ {ds : List D} {xs : List V}, Reps G H ds xs → ds.length = xs.length
  | [], xs, h => by unfold Reps at h; subst h; rfl
  | d :: ds, xs, h => by
    unfold Reps at h
    obtain ⟨v, r, rfl, _, h2⟩ := h
    rw [List.length_cons, List.length_cons, reps_len h2]
theorem reps_app : ∀ {ds es : List D} {xs ys : List V}, Reps G H ds xs → Reps G H es ys → Reps G H (ds ++ es) (xs ++ ys)
  | [], es, xs, ys, h, h' => by unfold Reps at h; subst h; exact h'
  | d :: ds, es, xs, ys, h, h' => by
    unfold Reps at h
    obtain ⟨v, r, rfl, h1, h2⟩ := h
    exact reps_cons h1 (reps_app h2 h')
theorem reps_get : ∀ {ds : List D} {xs : List V} {i : Nat} {d : D}, Reps G H ds xs → ds[i]? = some d → ∃ v, xs[i]? = some v ∧ Rep G H d v
  | [], xs, i, d, h, e => by simp at e
  | d' :: ds, xs, i, d, h, e => by
    unfold Reps at h
    obtain ⟨v, r, rfl, h1, h2⟩ := h
    cases i with
    | zero => simp at e; subst e; exact ⟨v, rfl, h1⟩
    | succ i => simpa using reps_get (i := i) (d := d) h2 (by simpa using e)
theorem reps_set : ∀ {ds : List D} {xs : List V} (i : Nat) {d : D} {v : V}, Reps G H ds xs → Rep G H d v → Reps G H (ds.set i d) (xs.set i v)
  | [], xs, i, d, v, h, e => by unfold Reps at h; subst h; exact reps_nil
  | d' :: ds, xs, i, d, v, h, e => by
    unfold Reps at h
    obtain ⟨v', r, rfl, h1, h2⟩ := h
    cases i with
    | zero => exact reps_cons e h2
    | succ i => exact reps_cons h1 (reps_set i h2 e)
theorem reps_drop : ∀ {ds : List D} {xs : List V} (n : Nat), Reps G H ds xs → Reps G H (ds.drop n) (xs.drop n)
  | ds, xs, 0, h => h
  | [], xs, n + 1, h => by unfold Reps at h; subst h; exact reps_nil
  | d :: ds, xs, n + 1, h => by
    unfold Reps at h
    obtain ⟨v, r, rfl, h1, h2⟩ := h
    exact reps_drop n h2
theorem reps_take : ∀ {ds : List D} {xs : List V} (n : Nat), Reps G H ds xs → Reps G H (ds.take n) (xs.take n)
  | ds, xs, 0, h => reps_nil
  | [], xs, n + 1, h => by unfold Reps at h; subst h; exact reps_nil
  | d :: ds, xs, n + 1, h => by
    unfold Reps at h
    obtain ⟨v, r, rfl, h1, h2⟩ := h
    exact reps_cons h1 (reps_take n h2)
theorem rep_tup {a : Addr} {xs : List V} {ds : List D} (h : SqT G.K H a xs) (r : Reps G H ds xs) : Rep G H (.tup ds) (.ref a) := by unfold Rep; exact ⟨a, xs, rfl, h, r⟩
theorem rep_lst {a : Addr} {xs : List V} {ds : List D} (h : H a = some (.lst xs)) (r : Reps G H ds xs) : Rep G H (.lst ds) (.ref a) := by unfold Rep; exact ⟨a, xs, rfl, h, r⟩
theorem rep_int (i : Int) : Rep G H (.int i) (.int i) := by unfold Rep; rfl
theorem rep_bl (i : Bool) : Rep G H (.bl i) (.bl i) := by unfold Rep; rfl
theorem rep_str (i : Str) : Rep G H (.str i) (.str i) := by unfold Rep; rfl
theorem rep_non : Rep G H .non .non := by unfold Rep; rfl
end

/-! ### the names' slots -/
inductive Sl where
  /-- nothing is known -/
  | un
  /-- a value that is not changed any more -/
  | im (d : D)
  /-- a list of the frame's own, changed in place -/
  | ls (ds : List D)
  /-- a list that was handed in to be changed -/
  | pm (ds : List D)
  /-- a dict of the frame's own -/
  | dk (ks : List Key) (ds : List D)
  /-- an instance that is being made -/
  | ob (c : Nat) (ns : List Str) (ds : List D)
def Sl.own : Sl → Bool
  | .ls _ => true
  | .pm _ => true
  | .dk _ _ => true
  | .ob _ _ _ => true
  | _ => false
/-- the state at the frame's beginning: what may be read for good, all that is tracked, what may be changed -/
structure Fr where
  B0 : Hp
  B : Hp
  A : List Addr
def SlOk (G : Bg) (F : Fr) (H0 H : Hp) (o : Option V) : Sl → Prop
  | .un => True
  | .im d => ∃ v, o = some v ∧ Rep G H0 d v
  | .ls ds => ∃ a xs, o = some (.ref a) ∧ H a = some (.lst xs) ∧ H0 a = none ∧ F.B a = none ∧ Reps G H0 ds xs
  | .pm ds => ∃ a xs, o = some (.ref a) ∧ H a = some (.lst xs) ∧ H0 a = none ∧ a ∈ F.A ∧ Reps G H0 ds xs
  | .dk ks ds => ∃ a xs, o = some (.ref a) ∧ H a = some (.dK (ks.zip xs)) ∧ H0 a = none ∧ F.B a = none ∧ ks.length = xs.length ∧ Reps G H0 ds xs
  | .ob c ns ds => ∃ a dx xs, o = some (.ref a) ∧ H a = some (.ins (G.ca c) dx (ns.zip xs)) ∧ H0 a = none ∧ a ∈ F.A ∧ ns.length = xs.length ∧ Reps G H0 ds xs
structure RelE (G : Bg) (F : Fr) (σ : St) (ρ : List Sl) (H0 H : Hp) : Prop where
  sub : Same H0 H
  g0 : Same F.B0 H0
  keep : ∀ b o, F.B b = some o → b ∉ F.A → H b = some o
  fr : ∀ b o, H0 b = some o → F.B0 b = some o ∨ F.B b = none
  am : ∀ a ∈ F.A, ∃ o, H a = some o
  len : σ.length = ρ.length
  sl : ∀ (i : Nat) (s : Sl), ρ[i]? = some s → SlOk G F H0 H (σ[i]?).join s
  ap : ∀ (i j : Nat) (s t : Sl) (a : Addr), i ≠ j → ρ[i]? = some s → ρ[j]? = some t → s.own = true → t.own = true → (σ[i]?).join = some (.ref a) → (σ[j]?).join = some (.ref a) → False
/-- an own slot's object: where it stands -/
theorem SlOk.at {G : Bg} {F : Fr} {H0 H : Hp} {o : Option V} {s : Sl} (h : SlOk G F H0 H o s) (e : s.own = true) : ∃ a u, o = some (.ref a) ∧ H a = some u ∧ H0 a = none ∧ (F.B a = none ∨ a ∈ F.A) := by
  cases s with
  | un => cases e
  | im d => cases e
  | ls ds => obtain ⟨a, xs, h1, h2, h3, h4, _⟩ := h; exact ⟨a, _, h1, h2, h3, .inl h4⟩
  | pm ds => obtain ⟨a, xs, h1, h2, h3, h4, _⟩ := h; exact ⟨a, _, h1, h2, h3, .inr h4⟩
  | dk ks ds => obtain ⟨a, xs, h1, h2, h3, h4, _⟩ := h; exact ⟨a, _, h1, h2, h3, .inl h4⟩
  | ob c ns ds => obtain ⟨a, dx, xs, h1, h2, h3, h4, _⟩ := h; exact ⟨a, _, h1, h2, h3, .inr h4⟩
theorem SlOk.grow {G : Bg} {F : Fr} {H0 H H0' H' : Hp} {o : Option V} {s : Sl} (h : SlOk G F H0 H o s) (h0 : Same H0 H0') (hk : ∀ a u, o = some (.ref a) → s.own = true → H a = some u → H' a = some u)
    (hn : ∀ a u, o = some (.ref a) → s.own = true → H a = some u → H0 a = none → H0' a = none) : SlOk G F H0' H' o s := by
  cases s with
  | un => trivial
  | im d => obtain ⟨v, h1, h2⟩ := h; exact ⟨v, h1, Rep.mono h0 _ _ h2⟩
  | ls ds => obtain ⟨a, xs, h1, h2, h3, h4, h5⟩ := h; exact ⟨a, xs, h1, hk _ _ h1 rfl h2, hn _ _ h1 rfl h2 h3, h4, Reps.mono h0 _ _ h5⟩
  | pm ds => obtain ⟨a, xs, h1, h2, h3, h4, h5⟩ := h; exact ⟨a, xs, h1, hk _ _ h1 rfl h2, hn _ _ h1 rfl h2 h3, h4, Reps.mono h0 _ _ h5⟩
  | dk ks ds => obtain ⟨a, xs, h1, h2, h3, h4, h5, h6⟩ := h; exact ⟨a, xs, h1, hk _ _ h1 rfl h2, hn _ _ h1 rfl h2 h3, h4, h5, Reps.mono h0 _ _ h6⟩
  | ob c ns ds => obtain ⟨a, dx, xs, h1, h2, h3, h4, h5, h6⟩ := h; exact ⟨a, dx, xs, h1, hk _ _ h1 rfl h2, hn _ _ h1 rfl h2 h3, h4, h5, Reps.mono h0 _ _ h6⟩
section
variable {G : Bg} {F : Fr} {σ : St} {ρ : List Sl} {H0 H H0' H' : Hp}
theorem RelE.bNone (R : RelE G F σ ρ H0 H) {b : Addr} (h : H b = none) : F.B b = none := by
  cases e : F.B b with
  | none => rfl
  | some o =>
    by_cases ha : b ∈ F.A
    · obtain ⟨xs, q⟩ := R.am b ha
      rw [q] at h; cases h
    · have q := R.keep b o e ha
      rw [q] at h; cases h
/-- all that is tracked stays; what is new to be read was not there -/
theorem RelE.grow (R : RelE G F σ ρ H0 H) (hs : Same H H') (h0 : Same H0 H0') (sub' : Same H0' H') (hf : ∀ b o, H0' b = some o → H0 b = some o ∨ H b = none) : RelE G F σ ρ H0' H' where
  sub := sub'
  g0 := R.g0.trans h0
  keep := fun b o e n => hs _ _ (R.keep b o e n)
  fr := fun b o e => by
    rcases hf b o e with q | q
    · exact R.fr b o q
    · exact .inr (R.bNone q)
  am := fun a ha => let ⟨xs, q⟩ := R.am a ha; ⟨xs, hs _ _ q⟩
  len := R.len
  sl := fun i s e => (R.sl i s e).grow h0 (fun a u _ _ q => hs _ _ q) fun a u _ _ q q0 => by
    cases z : H0' a with
    | none => rfl
    | some o =>
      rcases hf a o z with y | y
      · rw [y] at q0; cases q0
      · rw [y] at q; cases q
  ap := R.ap
theorem same_new {H : Hp} {p : Addr} (hp : H p = none) (o : HO) : Same H (upd H p o) := Same.new (Same.refl H) hp o
theorem RelE.h0none (R : RelE G F σ ρ H0 H) {p : Addr} (hp : H p = none) : H0 p = none := by
  cases e : H0 p with
  | none => rfl
  | some o => have := R.sub _ _ e; rw [this] at hp; cases hp
theorem same_upd {H0 H : Hp} (s : Same H0 H) (p : Addr) (o : HO) : Same (upd H0 p o) (upd H p o) := fun b u e => by
  by_cases hb : b = p
  · subst hb; rw [upd_same] at e ⊢; exact e
  · rw [upd_ne hb] at e ⊢; exact s _ _ e
/-- a new object, to be read for good -/
theorem RelE.newIm (R : RelE G F σ ρ H0 H) {p : Addr} (hp : H p = none) (o : HO) : RelE G F σ ρ (upd H0 p o) (upd H p o) :=
  R.grow (same_new hp o) (same_new (R.h0none hp) o) (same_upd R.sub p o) fun b u e => by
    by_cases hb : b = p
    · subst hb; exact .inr hp
    · rw [upd_ne hb] at e; exact .inl e
/-- a new object of the frame's own -/
theorem RelE.newOwn (R : RelE G F σ ρ H0 H) {p : Addr} (hp : H p = none) (o : HO) : RelE G F σ ρ H0 (upd H p o) :=
  R.grow (same_new hp o) (Same.refl _) (fun b u e => by rw [upd_ne (ne_of_none (R.sub _ _ e) hp)]; exact R.sub _ _ e) fun b u e => .inl e
/-- an own object is apart from all slots -/
def Apart (σ : St) (ρ : List Sl) (p : Addr) : Prop := ∀ (i : Nat) (s : Sl), ρ[i]? = some s → s.own = true → (σ[i]?).join ≠ some (.ref p)
theorem RelE.apart (R : RelE G F σ ρ H0 H) {p : Addr} (hp : H p = none) : Apart σ ρ p := fun i s e so z => by
  obtain ⟨a, u, h1, h2, _⟩ := (R.sl i s e).at so
  rw [z] at h1
  cases h1
  rw [hp] at h2; cases h2
/-- an own object is let be read for good -/
theorem RelE.freeze (R : RelE G F σ ρ H0 H) {p : Addr} {o : HO} (hp : H p = some o) (h0 : H0 p = none) (hb : F.B p = none) (ap : Apart σ ρ p) : RelE G F σ ρ (upd H0 p o) H where
  sub := fun b u e => by
    by_cases hb : b = p
    · subst hb; rw [upd_same] at e; cases e; exact hp
    · rw [upd_ne hb] at e; exact R.sub _ _ e
  g0 := R.g0.trans (same_new h0 o)
  keep := R.keep
  fr := fun b u e => by
    by_cases hb' : b = p
    · subst hb'; exact .inr hb
    · rw [upd_ne hb'] at e; exact R.fr _ _ e
  am := R.am
  len := R.len
  sl := fun i s e => (R.sl i s e).grow (same_new h0 o) (fun a u _ _ q => q) fun a u z so q q0 => by
    rw [upd_ne (fun y => ap i s e so (by rw [z, y]))]
    exact q0
  ap := R.ap
theorem join_set {σ : St} {i j : Nat} {v : Option V} (hi : i < σ.length) : ((σ.set i v)[j]?).join = if j = i then v else (σ[j]?).join := by
  rw [List.getElem?_set]
  by_cases h : i = j
  · subst h; simp [hi]
  · rw [if_neg h, if_neg (fun z => h z.symm)]
/-- a slot is set -/
theorem RelE.set (R : RelE G F σ ρ H0 H) {i : Nat} {v : V} {s : Sl} (hs : SlOk G F H0 H (some v) s) (ap : s.own = true → ∀ a, v = .ref a → ∀ (j : Nat) (t : Sl), j ≠ i → ρ[j]? = some t → t.own = true → (σ[j]?).join ≠ some (.ref a)) :
    RelE G F (σ.set i (some v)) (ρ.set i s) H0 H where
  sub := R.sub
  g0 := R.g0
  keep := R.keep
  fr := R.fr
  am := R.am
  len := by rw [List.length_set, List.length_set, R.len]
  sl := fun j t e => by
    rw [List.getElem?_set] at e
    by_cases h : i = j
    · subst h
      rw [if_pos rfl] at e
      split at e
      · rename_i hi
        cases e
        rw [join_set (by rw [R.len]; exact hi), if_pos rfl]
        exact hs
      · cases e
    · rw [if_neg h] at e
      have hh := R.sl j t e
      rw [List.getElem?_set, if_neg h]
      exact hh
  ap := fun j k t u a hjk ej ek tj tk vj vk => by
    have gen : ∀ {m : Nat} {x : Sl}, (ρ.set i s)[m]? = some x → m ≠ i → ρ[m]? = some x ∧ ((σ.set i (some v))[m]?).join = (σ[m]?).join := fun {m x} e hm => by
      rw [List.getElem?_set, if_neg (fun z => hm z.symm)] at e
      exact ⟨e, by rw [List.getElem?_set, if_neg (fun z => hm z.symm)]⟩
    have self : ∀ {x : Sl}, (ρ.set i s)[i]? = some x → x = s ∧ ((σ.set i (some v))[i]?).join = some v := fun {x} e => by
      rw [List.getElem?_set, if_pos rfl] at e
      split at e
      · rename_i hi
        cases e
        exact ⟨rfl, by rw [join_set (by rw [R.len]; exact hi), if_pos rfl]⟩
      · cases e
    by_cases hj : j = i
    · subst hj
      obtain ⟨rfl, ev⟩ := self ej
      rw [ev] at vj
      cases vj
      obtain ⟨e2, e3⟩ := gen ek (fun z => hjk z.symm)
      rw [e3] at vk
      exact ap tj a rfl k u (fun z => hjk z.symm) e2 tk vk
    · obtain ⟨e2, e3⟩ := gen ej hj
      by_cases hk : k = i
      · subst hk
        obtain ⟨rfl, ev⟩ := self ek
        rw [ev] at vk
        cases vk
        rw [e3] at vj
        exact ap tk a rfl j t hj e2 tj vj
      · obtain ⟨e4, e5⟩ := gen ek hk
        rw [e3] at vj
        rw [e5] at vk
        exact R.ap j k t u a hjk e2 e4 tj tk vj vk
theorem RelE.setIm (R : RelE G F σ ρ H0 H) (i : Nat) {v : V} {d : D} (h : Rep G H0 d v) : RelE G F (σ.set i (some v)) (ρ.set i (.im d)) H0 H := R.set ⟨v, rfl, h⟩ fun z => by cases z
theorem RelE.setLs (R : RelE G F σ ρ H0 H) (i : Nat) {p : Addr} {xs : List V} {ds : List D} (hp : H p = some (.lst xs)) (h0 : H0 p = none) (hb : F.B p = none) (ap : Apart σ ρ p) (h : Reps G H0 ds xs) : RelE G F (σ.set i (some (.ref p))) (ρ.set i (.ls ds)) H0 H :=
  R.set ⟨p, xs, rfl, hp, h0, hb, h⟩ fun _ a e j t _ ej tj => by cases e; exact ap j t ej tj
/-- the list of an own slot is changed -/
theorem RelE.mut (R : RelE G F σ ρ H0 H) {i : Nat} {a : Addr} {s s' : Sl} {o : HO} (hi : ρ[i]? = some s) (so : s.own = true) (ha : (σ[i]?).join = some (.ref a)) (ok : ∀ H', H' a = some o → SlOk G F H0 H' (some (.ref a)) s')
    (so' : s'.own = true) : RelE G F σ (ρ.set i s') H0 (upd H a o) := by
  obtain ⟨a', u, e1, e2, e3, e4⟩ := (R.sl i s hi).at so
  rw [ha] at e1
  cases e1
  exact {
    sub := fun b w e => by rw [upd_ne (fun z => by rw [z, e3] at e; cases e)]; exact R.sub _ _ e
    g0 := R.g0
    keep := fun b w e n => by
      have nb : b ≠ a := fun z => by
        subst z
        rcases e4 with q | q
        · rw [q] at e; cases e
        · exact n q
      rw [upd_ne nb]; exact R.keep b w e n
    fr := R.fr
    am := fun b hb => by
      by_cases z : b = a
      · subst z
        exact ⟨o, upd_same⟩
      · rw [upd_ne z]; exact R.am b hb
    len := by rw [List.length_set]; exact R.len
    sl := fun j t e => by
      rw [List.getElem?_set] at e
      by_cases h : i = j
      · subst h
        rw [if_pos rfl] at e
        split at e
        · cases e
          rw [ha]
          exact ok _ upd_same
        · cases e
      · rw [if_neg h] at e
        refine (R.sl j t e).grow (Same.refl _) (fun b w z to q => ?_) fun b w _ _ _ q => q
        rw [upd_ne (fun y => by subst y; exact R.ap j i t s b (fun y => h y.symm) e hi to so z ha)]
        exact q
    ap := fun j k t u b hjk ej ek tj tk vj vk => by
      have gen : ∀ {m : Nat} {x : Sl}, (ρ.set i s')[m]? = some x → ∃ y, ρ[m]? = some y ∧ (x.own = true → y.own = true) := fun {m x} e => by
        rw [List.getElem?_set] at e
        by_cases h : i = m
        · subst h; exact ⟨s, hi, fun _ => so⟩
        · rw [if_neg h] at e; exact ⟨x, e, fun q => q⟩
      obtain ⟨y, ey, oy⟩ := gen ej
      obtain ⟨z, ez, oz⟩ := gen ek
      exact R.ap j k y z b hjk ey ez (oy tj) (oz tk) vj vk }
end
end L4

set_option Elab.async false
set_option linter.all false
set_option maxRecDepth 100000
set_option maxHeartbeats 4000000
namespace L4
open PySem PySem.Spec PyProof.Rows L2 L3

/-! ### readings by functions -/
abbrev Env' := List Sl
abbrev FE := List Sl → Option (D × List Sl)
abbrev FT := List Sl → Option (Bool × List Sl)
abbrev FA := List Sl → Option (List D × List Sl)
def tF (G : Bg) (f : FE) : TE := fun σ H Q => ∃ F ρ H0 d ρ', RelE G F σ ρ H0 H ∧ f ρ = some (d, ρ') ∧ ∀ v H0' H', Same H0 H0' → RelE G F σ ρ' H0' H' → Rep G H0' d v → Q v H'
def tFT (G : Bg) (f : FT) : TT := fun σ H Q => ∃ F ρ H0 d ρ', RelE G F σ ρ H0 H ∧ f ρ = some (d, ρ') ∧ ∀ H0' H', Same H0 H0' → RelE G F σ ρ' H0' H' → Q d H'
def tFA (G : Bg) (f : FA) : TA := fun σ H Q => ∃ F ρ H0 ds ρ', RelE G F σ ρ H0 H ∧ f ρ = some (ds, ρ') ∧ ∀ xs H0' H', Same H0 H0' → RelE G F σ ρ' H0' H' → Reps G H0' ds xs → Q xs H'
/-- a new list, the asker's own -/
def tFN (G : Bg) (f : FA) : TE := fun σ H Q => ∃ F ρ H0 ds ρ', RelE G F σ ρ H0 H ∧ f ρ = some (ds, ρ') ∧ ∀ p xs H0' H', Same H0 H0' → RelE G F σ ρ' H0' H' → H' p = some (.lst xs) → H0' p = none → F.B p = none → Apart σ ρ' p → Reps G H0' ds xs → Q (.ref p) H'
theorem PE.weak {X : Cx} {e : Expr} {t t' : TE} (h : PE X e t) (w : ∀ σ H Q, t' σ H Q → t σ H Q) : PE X e t' := fun pins s σ H Q I hq => h pins s σ H Q I (w _ _ _ hq)
theorem PT.weak {X : Cx} {e : Expr} {t t' : TT} (h : PT X e t) (w : ∀ σ H Q, t' σ H Q → t σ H Q) : PT X e t' := fun pins s σ H Q I hq => h pins s σ H Q I (w _ _ _ hq)
theorem PW.weak {X : Cx} {e : Expr} {t t' : TT} (h : PW X e t) (w : ∀ σ H Q, t' σ H Q → t σ H Q) : PW X e t' := fun wh pins s σ H Q I hq => h wh pins s σ H Q I (w _ _ _ hq)
theorem PA.weak {X : Cx} {e : List Expr} {t t' : TA} (h : PA X e t) (w : ∀ σ H Q, t' σ H Q → t σ H Q) : PA X e t' := fun pos pins s σ H Q I hq => h pos pins s σ H Q I (w _ _ _ hq)

/-! ### the combinators -/
def cC (d : D) : FE := fun ρ => some (d, ρ)
def cV (i : Nat) : FE := fun ρ => match ρ[i]? with
  | some (.im d) => some (d, ρ)
  | _ => none
def c1 (g : D → Option D) (f : FE) : FE := fun ρ => match f ρ with
  | some (d, ρ') => match g d with
    | some x => some (x, ρ')
    | none => none
  | none => none
def c2 (g : D → D → Option D) (f f' : FE) : FE := fun ρ => match f ρ with
  | some (x, ρ1) => match f' ρ1 with
    | some (y, ρ2) => match g x y with
      | some z => some (z, ρ2)
      | none => none
    | none => none
  | none => none
theorem c1_some {g : D → Option D} {f : FE} {ρ ρ' : List Sl} {z : D} (h : c1 g f ρ = some (z, ρ')) : ∃ d, f ρ = some (d, ρ') ∧ g d = some z := by
  unfold c1 at h
  cases e : f ρ with
  | none => rw [e] at h; cases h
  | some p =>
    obtain ⟨d, ρ1⟩ := p
    rw [e] at h
    cases e2 : g d with
    | none => simp only [e2] at h; cases h
    | some x => simp only [e2] at h; cases h; exact ⟨d, rfl, e2⟩
theorem c2_some {g : D → D → Option D} {f f' : FE} {ρ ρ' : List Sl} {z : D} (h : c2 g f f' ρ = some (z, ρ')) : ∃ x y ρ1, f ρ = some (x, ρ1) ∧ f' ρ1 = some (y, ρ') ∧ g x y = some z := by
  unfold c2 at h
  cases e : f ρ with
  | none => rw [e] at h; cases h
  | some p =>
    obtain ⟨x, ρ1⟩ := p
    simp only [e] at h
    cases e2 : f' ρ1 with
    | none => simp only [e2] at h; cases h
    | some q =>
      obtain ⟨y, ρ2⟩ := q
      simp only [e2] at h
      cases e3 : g x y with
      | none => simp only [e3] at h; cases h
      | some w => simp only [e3] at h; cases h; exact ⟨x, y, ρ1, rfl, e2, e3⟩
section
variable {X : Cx} {G : Bg}
theorem pf_int {i j pos} : PE X (.Constant (.int i) j pos) (tF G (cC (.int i))) := PE.weak pe_int fun σ H Q h => by
  obtain ⟨F, ρ, H0, d, ρ', R, e, k⟩ := h; cases e; exact k _ _ _ (Same.refl _) R (rep_int i)
theorem pf_bl {i j pos} : PE X (.Constant (.bool i) j pos) (tF G (cC (.bl i))) := PE.weak pe_bl fun σ H Q h => by
  obtain ⟨F, ρ, H0, d, ρ', R, e, k⟩ := h; cases e; exact k _ _ _ (Same.refl _) R (rep_bl i)
theorem pf_str {i j pos} : PE X (.Constant (.str i) j pos) (tF G (cC (.str i))) := PE.weak pe_str fun σ H Q h => by
  obtain ⟨F, ρ, H0, d, ρ', R, e, k⟩ := h; cases e; exact k _ _ _ (Same.refl _) R (rep_str i)
theorem pf_non {j pos} : PE X (.Constant .none j pos) (tF G (cC .non)) := PE.weak pe_non fun σ H Q h => by
  obtain ⟨F, ρ, H0, d, ρ', R, e, k⟩ := h; cases e; exact k _ _ _ (Same.refl _) R rep_non
theorem cV_some {i : Nat} {ρ ρ' : List Sl} {d : D} (h : cV i ρ = some (d, ρ')) : ρ[i]? = some (.im d) ∧ ρ' = ρ := by
  unfold cV at h
  split at h
  · rename_i e; cases h; exact ⟨e, rfl⟩
  · cases h
theorem opt_join {α : Type} {o : Option (Option α)} {v : α} (h : o.join = some v) : o = some (some v) := by
  cases o with
  | none => cases h
  | some u => cases u with
    | none => cases h
    | some w => cases h; rfl
theorem pf_var {e : Expr} {i : Nat} (h : PE X e (tVar i)) : PE X e (tF G (cV i)) := PE.weak h fun σ H Q hh => by
  obtain ⟨F, ρ, H0, d, ρ', R, e, k⟩ := hh
  obtain ⟨e1, rfl⟩ := cV_some e
  obtain ⟨v, e2, e3⟩ := R.sl i _ e1
  exact ⟨v, opt_join e2, k _ _ _ (Same.refl _) R e3⟩
/-! ### operators that make nothing -/
def OpD (G : Bg) (r : R2) (g : D → D → Option D) : Prop := ∀ x y z H0 H v u (Q : VK), g x y = some z → Same H0 H → Rep G H0 x v → Rep G H0 y u → (∀ w, (∀ H0', Same H0 H0' → Rep G H0' z w) → Q w H) → r v u H Q
theorem tOp_F {r : R2} {g : D → D → Option D} {f f' : FE} (ho : OpD G r g) : ∀ σ H Q, tF G (c2 g f f') σ H Q → tOp r (tF G f) (tF G f') σ H Q := fun σ H Q hh => by
  obtain ⟨F, ρ, H0, d, ρ', R, e, k⟩ := hh
  obtain ⟨x, y, ρ1, e1, e2, e3⟩ := c2_some e
  refine ⟨F, ρ, H0, x, ρ1, R, e1, fun v H1 H1' s1 R1 r1 => ⟨F, ρ1, H1, y, ρ', R1, e2, fun u H2 H2' s2 R2 r2 => ?_⟩⟩
  exact ho x y d H2 H2' v u Q e3 R2.sub (Rep.mono s2 _ _ r1) r2 fun w hw => k w H2 H2' (s1.trans s2) R2 (hw _ (Same.refl _))
theorem pf_op {a b : Expr} {op : Operator} {r : R2} {g : D → D → Option D} {f f' : FE} {pos : Pos} (hr : OpR X (binaryOp op) r) (ho : OpD G r g) (ha : PE X a (tF G f)) (hb : PE X b (tF G f')) : PE X (.BinOp a op b pos) (tF G (c2 g f f')) := PE.weak (pe_op hr ha hb) (tOp_F ho)
theorem pf_cmp {a b : Expr} {op : CmpOp} {r : R2} {g : D → D → Option D} {f f' : FE} {pos : Pos} (hr : OpR X (compareOp op) r) (ho : OpD G r g) (ha : PE X a (tF G f)) (hb : PE X b (tF G f')) (hm : behindInMarks op b = false) : PE X (.Compare a [op] [b] pos) (tF G (c2 g f f')) := PE.weak (pe_cmpR hr ha hb hm) (tOp_F ho)
theorem pf_ix {a b : Expr} {r : R2} {g : D → D → Option D} {f f' : FE} {pos : Pos} (hr : IxR X r) (ho : OpD G r g) (ha : PE X a (tF G f)) (hb : PE X b (tF G f')) (hs : PlainIx b) : PE X (.Subscript a b pos) (tF G (c2 g f f')) := PE.weak (pe_ix hr ha hb hs) (tOp_F ho)

/-! tests -/
def cT (f : FE) : FT := fun ρ => match f ρ with
  | some (.bl b, ρ') => some (b, ρ')
  | _ => none
theorem cT_some {f : FE} {ρ ρ' : List Sl} {b : Bool} (h : cT f ρ = some (b, ρ')) : f ρ = some (.bl b, ρ') := by
  unfold cT at h
  split at h
  · rename_i e; cases h; exact e
  · cases h
theorem tTest_F {f : FE} : ∀ σ H Q, tFT G (cT f) σ H Q → tTest (tF G f) σ H Q := fun σ H Q hh => by
  obtain ⟨F, ρ, H0, d, ρ', R, e, k⟩ := hh
  refine ⟨F, ρ, H0, _, ρ', R, cT_some e, fun v H0' H' s R' r => ?_⟩
  unfold Rep at r
  exact ⟨d, r, k _ _ s R'⟩
theorem pft_cmp {a b : Expr} {op : CmpOp} {r : R2} {g : D → D → Option D} {f f' : FE} {pos : Pos} (hr : OpR X (compareOp op) r) (ho : OpD G r g) (ha : PE X a (tF G f)) (hb : PE X b (tF G f')) (hm : behindInMarks op b = false) :
    PT X (.Compare a [op] [b] pos) (tFT G (cT (c2 g f f'))) := PT.weak (pt_cmpR hr ha hb hm) fun σ H Q hh => by
  obtain ⟨F, ρ, H0, d, ρ', R, e, k⟩ := tTest_F σ H Q hh
  exact tOp_F ho σ H _ ⟨F, ρ, H0, d, ρ', R, e, k⟩
/-- any expression whose value is a truth -/
theorem pft_val {e : Expr} {f : FE} (h : PE X e (tF G f)) (he : ∀ whole, isTrue e X.env whole = (do let v ← whole; standAt e.pos; holding [v] (truthy v)) := by intro _; rfl) : PT X e (tFT G (cT f)) := PT.weak (pt_val h he) fun σ H Q hh => by
  obtain ⟨F, ρ, H0, d, ρ', R, e, k⟩ := hh
  refine ⟨F, ρ, H0, _, ρ', R, cT_some e, fun v H0' H' s R' r => ?_⟩
  unfold Rep at r
  exact ⟨d, r, k _ _ s R'⟩
def cNotT (f : FT) : FT := fun ρ => match f ρ with
  | some (b, ρ') => some (!b, ρ')
  | none => none
def cAndT (f g : FT) : FT := fun ρ => match f ρ with
  | some (true, ρ') => g ρ'
  | r => r
def cOrT (f g : FT) : FT := fun ρ => match f ρ with
  | some (false, ρ') => g ρ'
  | r => r
theorem pft_not {a : Expr} {f : FT} {pos : Pos} (h : PT X a (tFT G f)) : PT X (.UnaryOp .Not a pos) (tFT G (cNotT f)) := PT.weak (pt_not h) fun σ H Q hh => by
  obtain ⟨F, ρ, H0, d, ρ', R, e, k⟩ := hh
  unfold cNotT at e
  cases e1 : f ρ with
  | none => simp only [e1] at e; cases e
  | some p =>
    obtain ⟨b, ρ1⟩ := p
    simp only [e1] at e
    cases e
    exact ⟨F, ρ, H0, b, _, R, e1, fun H0' H' s R' => k _ _ s R'⟩
theorem tOr_F {f g : FT} : ∀ σ H Q, tFT G (cOrT f g) σ H Q → tOr (tFT G f) (tFT G g) σ H Q := fun σ H Q hh => by
  obtain ⟨F, ρ, H0, d, ρ', R, e, k⟩ := hh
  unfold cOrT at e
  cases e1 : f ρ with
  | none => simp only [e1] at e; cases e
  | some p =>
    obtain ⟨b, ρ1⟩ := p
    cases b with
    | false =>
      simp only [e1] at e
      exact ⟨F, ρ, H0, false, ρ1, R, e1, fun H0' H' s R' => iteF ⟨F, ρ1, H0', d, ρ', R', e, fun H2 H2' s2 R2 => k _ _ (s.trans s2) R2⟩⟩
    | true =>
      simp only [e1] at e
      cases e
      exact ⟨F, ρ, H0, true, _, R, e1, fun H0' H' s R' => iteT (k _ _ s R')⟩
theorem pfw_or1 {a : Expr} {f : FT} {pos : Pos} (h : PT X a (tFT G f)) : PW X (.BoolOp .Or [a] pos) (tFT G f) := pw_or1 h
theorem pfw_or {a b : Expr} {rest : List Expr} {f g : FT} {pos : Pos} (ha : PT X a (tFT G f)) (hb : PW X (.BoolOp .Or (b :: rest) pos) (tFT G g)) : PW X (.BoolOp .Or (a :: b :: rest) pos) (tFT G (cOrT f g)) := PW.weak (pw_or ha hb) tOr_F

/-! and, or, not, if as values (of truths) -/
def cAnd (f g : FE) : FE := fun ρ => match f ρ with
  | some (.bl true, ρ') => g ρ'
  | some (.bl false, ρ') => some (.bl false, ρ')
  | _ => none
def cOr (f g : FE) : FE := fun ρ => match f ρ with
  | some (.bl false, ρ') => g ρ'
  | some (.bl true, ρ') => some (.bl true, ρ')
  | _ => none
def cNot (f : FE) : FE := fun ρ => match f ρ with
  | some (.bl b, ρ') => some (.bl !b, ρ')
  | _ => none
def cIf (c : FT) (f g : FE) : FE := fun ρ => match c ρ with
  | some (true, ρ') => f ρ'
  | some (false, ρ') => g ρ'
  | none => none
theorem pf_if {c a b : Expr} {h : FT} {f g : FE} {pos : Pos} (hc : PT X c (tFT G h)) (ha : PE X a (tF G f)) (hb : PE X b (tF G g)) : PE X (.IfExp c a b pos) (tF G (cIf h f g)) := PE.weak (pe_ifExp hc ha hb) fun σ H Q hh => by
  obtain ⟨F, ρ, H0, d, ρ', R, e, k⟩ := hh
  unfold cIf at e
  cases e1 : h ρ with
  | none => simp only [e1] at e; cases e
  | some p =>
    obtain ⟨b, ρ1⟩ := p
    refine ⟨F, ρ, H0, b, ρ1, R, e1, fun H1 H1' s R' => ?_⟩
    cases b with
    | true =>
      simp only [e1] at e
      exact iteT ⟨F, ρ1, H1, d, ρ', R', e, fun v H2 H2' s2 R2 r2 => k _ _ _ (s.trans s2) R2 r2⟩
    | false =>
      simp only [e1] at e
      exact iteF ⟨F, ρ1, H1, d, ρ', R', e, fun v H2 H2' s2 R2 r2 => k _ _ _ (s.trans s2) R2 r2⟩

/-! ### argument lists, displays -/
def aNil : FA := fun ρ => some ([], ρ)
def aCons (f : FE) (g : FA) : FA := fun ρ => match f ρ with
  | some (d, ρ1) => match g ρ1 with
    | some (ds, ρ2) => some (d :: ds, ρ2)
    | none => none
  | none => none
theorem aCons_some {f : FE} {g : FA} {ρ ρ' : List Sl} {ds : List D} (h : aCons f g ρ = some (ds, ρ')) : ∃ d r ρ1, f ρ = some (d, ρ1) ∧ g ρ1 = some (r, ρ') ∧ ds = d :: r := by
  unfold aCons at h
  cases e : f ρ with
  | none => rw [e] at h; cases h
  | some p =>
    obtain ⟨x, ρ1⟩ := p
    simp only [e] at h
    cases e2 : g ρ1 with
    | none => simp only [e2] at h; cases h
    | some q =>
      obtain ⟨y, ρ2⟩ := q
      simp only [e2] at h
      cases h
      exact ⟨x, y, ρ1, rfl, e2, rfl⟩
theorem pfa_nil : PA X [] (tFA G aNil) := PA.weak pa_nil fun σ H Q hh => by
  obtain ⟨F, ρ, H0, d, ρ', R, e, k⟩ := hh
  cases e
  exact k _ _ _ (Same.refl _) R reps_nil
theorem pfa_cons {e : Expr} {es : List Expr} {f : FE} {g : FA} (ha : PE X e (tF G f)) (hr : PA X es (tFA G g)) (hs : starEach (e :: es) X.env = (false, eval e X.env) :: starEach es X.env := by rfl) : PA X (e :: es) (tFA G (aCons f g)) := PA.weak (pa_cons ha hr hs) fun σ H Q hh => by
  obtain ⟨F, ρ, H0, d, ρ', R, e, k⟩ := hh
  obtain ⟨x, r, ρ1, e1, e2, rfl⟩ := aCons_some e
  exact ⟨F, ρ, H0, x, ρ1, R, e1, fun v H1 H1' s R' rv => ⟨F, ρ1, H1, r, ρ', R', e2, fun xs H2 H2' s2 R2 rs => k _ _ _ (s.trans s2) R2 (reps_cons (Rep.mono s2 _ _ rv) rs)⟩⟩
def cTup (g : FA) : FE := fun ρ => match g ρ with
  | some (ds, ρ') => if ds.length ≤ 1000 then some (.tup ds, ρ') else none
  | none => none
/-- a new list: few enough -/
def cLst (g : FA) : FA := fun ρ => match g ρ with
  | some (ds, ρ') => if ds.length ≤ 1000 then some (ds, ρ') else none
  | none => none
theorem pf_tup {es : List Expr} {x1} {g : FA} {pos : Pos} (h : PA X es (tFA G g)) : PE X (.Tuple es x1 pos) (tF G (cTup g)) := PE.weak (pe_tup h) fun σ H Q hh => by
  obtain ⟨F, ρ, H0, d, ρ', R, e, k⟩ := hh
  unfold cTup at e
  cases e1 : g ρ with
  | none => simp only [e1] at e; cases e
  | some p =>
    obtain ⟨ds, ρ1⟩ := p
    simp only [e1] at e
    split at e
    · rename_i hl
      cases e
      refine ⟨F, ρ, H0, _, _, R, e1, fun xs H1 H1' s R' rs => ⟨by rw [← reps_len rs]; exact small_line hl, fun p hp => ?_⟩⟩
      exact k _ _ _ (s.trans (same_new (R'.h0none hp) _)) (R'.newIm hp _) (rep_tup (SqT.of upd_same) (Reps.mono (same_new (R'.h0none hp) _) _ _ rs))
    · cases e
theorem pfn_lst {es : List Expr} {g : FA} {pos : Pos} (h : PA X es (tFA G g)) : PE X (.List es pos) (tFN G (cLst g)) := PE.weak (pe_lst h) fun σ H Q hh => by
  obtain ⟨F, ρ, H0, d, ρ', R, e, k⟩ := hh
  unfold cLst at e
  cases e1 : g ρ with
  | none => simp only [e1] at e; cases e
  | some p =>
    obtain ⟨ds, ρ1⟩ := p
    simp only [e1] at e
    split at e
    · rename_i hl
      cases e
      refine ⟨F, ρ, H0, _, _, R, e1, fun xs H1 H1' s R' rs => ⟨by rw [← reps_len rs]; exact small_line hl, fun p hp => ?_⟩⟩
      exact k _ _ _ _ s (R'.newOwn hp _) upd_same (R'.h0none hp) (R'.bNone hp) (R'.apart hp) rs
    · cases e
/-- a new list, read for good -/
def cL (g : FA) : FE := fun ρ => match g ρ with
  | some (ds, ρ') => some (.lst ds, ρ')
  | none => none
theorem cL_some {g : FA} {ρ ρ' : List Sl} {d : D} (h : cL g ρ = some (d, ρ')) : ∃ ds, g ρ = some (ds, ρ') ∧ d = .lst ds := by
  unfold cL at h
  cases e : g ρ with
  | none => simp only [e] at h; cases h
  | some p =>
    obtain ⟨ds, ρ1⟩ := p
    simp only [e] at h
    cases h
    exact ⟨ds, rfl, rfl⟩
theorem tN_F {g : FA} : ∀ σ H Q, tF G (cL g) σ H Q → tFN G g σ H Q := fun σ H Q hh => by
  obtain ⟨F, ρ, H0, d, ρ', R, e, k⟩ := hh
  obtain ⟨ds, e1, rfl⟩ := cL_some e
  refine ⟨F, ρ, H0, ds, ρ', R, e1, fun p xs H1 H1' s R' hp h0 hb ap rs => ?_⟩
  exact k _ _ _ (s.trans (same_new h0 _)) (R'.freeze hp h0 hb ap) (rep_lst upd_same (Reps.mono (same_new h0 _) _ _ rs))
theorem pf_new {e : Expr} {g : FA} (h : PE X e (tFN G g)) : PE X e (tF G (cL g)) := PE.weak h tN_F
end
end L4

set_option Elab.async false
set_option linter.all false
set_option maxRecDepth 100000
set_option maxHeartbeats 4000000
namespace L4
open PySem PySem.Spec PyProof.Rows L2 L3

/-! ### statements -/
inductive Out where
  | nx (ρ : List Sl) | bk (ρ : List Sl) | ct (ρ : List Sl)
  | rt (d : D) (ρ : List Sl)
  /-- a new list is given back -/
  | rn (ds : List D) (ρ : List Sl)
abbrev FS := List Sl → Option Out
def OutOk (G : Bg) (F : Fr) (H0 : Hp) (E : Ends) : Out → Prop
  | .nx ρ' => ∀ σ' H0' H', Same H0 H0' → RelE G F σ' ρ' H0' H' → E.nx σ' H'
  | .bk ρ' => ∀ σ' H0' H', Same H0 H0' → RelE G F σ' ρ' H0' H' → E.bk σ' H'
  | .ct ρ' => ∀ σ' H0' H', Same H0 H0' → RelE G F σ' ρ' H0' H' → E.ct σ' H'
  | .rt d ρ' => ∀ v σ' H0' H', Same H0 H0' → RelE G F σ' ρ' H0' H' → Rep G H0' d v → E.rt v H'
  | .rn ds ρ' => ∀ p xs σ' H0' H', Same H0 H0' → RelE G F σ' ρ' H0' H' → H' p = some (.lst xs) → H0' p = none → F.B p = none → Apart σ' ρ' p → Reps G H0' ds xs → E.rt (.ref p) H'
def tFS (G : Bg) (f : FS) : TS := fun E σ H => ∃ F ρ H0 o, RelE G F σ ρ H0 H ∧ f ρ = some o ∧ OutOk G F H0 E o ∧ (∀ p, E.rt p = E.rt p)
theorem OutOk.back {G : Bg} {F : Fr} {H0 H1 : Hp} {E : Ends} {o : Out} (h : OutOk G F H0 E o) (s : Same H0 H1) : OutOk G F H1 E o := by
  cases o with
  | nx ρ => exact fun σ' H0' H' s' R => h σ' H0' H' (s.trans s') R
  | bk ρ => exact fun σ' H0' H' s' R => h σ' H0' H' (s.trans s') R
  | ct ρ => exact fun σ' H0' H' s' R => h σ' H0' H' (s.trans s') R
  | rt d ρ => exact fun v σ' H0' H' s' R => h v σ' H0' H' (s.trans s') R
  | rn ds ρ => exact fun p xs σ' H0' H' s' R => h p xs σ' H0' H' (s.trans s') R
theorem PS.weak {X : Cx} {e : Stmt} {t t' : TS} (h : PS X e t) (w : ∀ E σ H, t' E σ H → t E σ H) : PS X e t' := fun pins s σ H D I hq => h pins s σ H D I (w _ _ _ hq)
theorem PSs.weak {X : Cx} {e : List Stmt} {t t' : TS} (h : PSs X e t) (w : ∀ E σ H, t' E σ H → t E σ H) : PSs X e t' := fun pins s σ H D I hq => h pins s σ H D I (w _ _ _ hq)
def sNext : FS := fun ρ => some (.nx ρ)
def sSeq (f g : FS) : FS := fun ρ => match f ρ with
  | some (.nx ρ') => g ρ'
  | r => r
section
variable {X : Cx} {G : Bg}
theorem tFS_nx {E : Ends} {σ : St} {H : Hp} (h : tFS G sNext E σ H) : E.nx σ H := by
  obtain ⟨F, ρ, H0, o, R, e, k, _⟩ := h
  cases e
  exact k _ _ _ (Same.refl _) R
theorem pfs_nil : PSs X [] (tFS G sNext) := PSs.weak pss_nil fun E σ H h => tFS_nx h
theorem pfs_cons {st : Stmt} {rest : List Stmt} {f g : FS} (h1 : PS X st (tFS G f)) (h2 : PSs X rest (tFS G g)) : PSs X (st :: rest) (tFS G (sSeq f g)) := PSs.weak (pss_cons h1 h2) fun E σ H h => by
  obtain ⟨F, ρ, H0, o, R, e, k, k2⟩ := h
  unfold sSeq at e
  cases e1 : f ρ with
  | none => simp only [e1] at e; cases e
  | some o1 =>
    cases o1 with
    | nx ρ1 =>
      simp only [e1] at e
      exact ⟨F, ρ, H0, _, R, e1, fun σ' H0' H' s R' => ⟨F, ρ1, H0', o, R', e, k.back s, k2⟩, k2⟩
    | bk ρ1 => simp only [e1] at e; cases e; exact ⟨F, ρ, H0, _, R, e1, k, k2⟩
    | ct ρ1 => simp only [e1] at e; cases e; exact ⟨F, ρ, H0, _, R, e1, k, k2⟩
    | rt d ρ1 => simp only [e1] at e; cases e; exact ⟨F, ρ, H0, _, R, e1, k, k2⟩
    | rn d ρ1 => simp only [e1] at e; cases e; exact ⟨F, ρ, H0, _, R, e1, k, k2⟩
theorem pfs_one {st : Stmt} {f : FS} (h1 : PS X st (tFS G f)) : PSs X [st] (tFS G f) := pss_one h1
def sRet (f : FE) : FS := fun ρ => match f ρ with
  | some (d, ρ') => some (.rt d ρ')
  | none => none
def sRetN (f : FA) : FS := fun ρ => match f ρ with
  | some (d, ρ') => some (.rn d ρ')
  | none => none
def sRet0 : FS := fun ρ => some (.rt .non ρ)
theorem fe_cases {α : Type} {f : List Sl → Option (α × List Sl)} {ρ : List Sl} : f ρ = none ∨ ∃ d ρ', f ρ = some (d, ρ') := by
  cases e : f ρ with
  | none => exact .inl rfl
  | some p => exact .inr ⟨p.1, p.2, rfl⟩
theorem pfs_ret {e : Expr} {f : FE} {pos : Pos} (h : PE X e (tF G f)) : PS X (.Return (some e) pos) (tFS G (sRet f)) := PS.weak (ps_ret h) fun E σ H hh => by
  obtain ⟨F, ρ, H0, o, R, e, k, k2⟩ := hh
  unfold sRet at e
  rcases fe_cases (f := f) (ρ := ρ) with e1 | ⟨d, ρ', e1⟩ <;> simp only [e1] at e
  · cases e
  · cases e
    exact ⟨F, ρ, H0, d, ρ', R, e1, fun v H0' H' s R' r => k _ _ _ _ s R' r⟩
theorem pfs_retN {e : Expr} {f : FA} {pos : Pos} (h : PE X e (tFN G f)) : PS X (.Return (some e) pos) (tFS G (sRetN f)) := PS.weak (ps_ret h) fun E σ H hh => by
  obtain ⟨F, ρ, H0, o, R, e, k, k2⟩ := hh
  unfold sRetN at e
  rcases fe_cases (f := f) (ρ := ρ) with e1 | ⟨d, ρ', e1⟩ <;> simp only [e1] at e
  · cases e
  · cases e
    exact ⟨F, ρ, H0, d, ρ', R, e1, fun p xs H0' H' s R' h1 h2 h3 h4 h5 => k _ _ _ _ _ s R' h1 h2 h3 h4 h5⟩
def sBreak : FS := fun ρ => some (.bk ρ)
def sCont : FS := fun ρ => some (.ct ρ)
def sExpr (f : FE) : FS := fun ρ => match f ρ with
  | some (_, ρ') => some (.nx ρ')
  | none => none
theorem pfs_expr {e : Expr} {f : FE} {pos : Pos} (h : PE X e (tF G f)) (hs : swapsWith e none pos.line X.env = pure false := by rfl) : PS X (.Expr e pos) (tFS G (sExpr f)) := PS.weak (ps_expr h hs) fun E σ H hh => by
  obtain ⟨F, ρ, H0, o, R, e, k, k2⟩ := hh
  unfold sExpr at e
  rcases fe_cases (f := f) (ρ := ρ) with e1 | ⟨d, ρ', e1⟩ <;> simp only [e1] at e
  · cases e
  · cases e
    exact ⟨F, ρ, H0, d, ρ', R, e1, fun v H0' H' s R' r => k _ _ _ s R'⟩
def sIf (c : FT) (f g : FS) : FS := fun ρ => match c ρ with
  | some (true, ρ') => f ρ'
  | some (false, ρ') => g ρ'
  | none => none
theorem pfs_if {c : Expr} {a b : List Stmt} {h : FT} {f g : FS} {pos : Pos} (hc : PT X c (tFT G h)) (ha : PSs X a (tFS G f)) (hb : PSs X b (tFS G g)) : PS X (.If c a b pos) (tFS G (sIf h f g)) := PS.weak (ps_if hc ha hb) fun E σ H hh => by
  obtain ⟨F, ρ, H0, o, R, e, k, k2⟩ := hh
  unfold sIf at e
  rcases fe_cases (f := h) (ρ := ρ) with e1 | ⟨d, ρ', e1⟩
  · simp only [e1] at e; cases e
  · refine ⟨F, ρ, H0, d, ρ', R, e1, fun H0' H' s R' => ?_⟩
    cases d with
    | true => simp only [e1] at e; exact iteT ⟨F, ρ', H0', o, R', e, k.back s, k2⟩
    | false => simp only [e1] at e; exact iteF ⟨F, ρ', H0', o, R', e, k.back s, k2⟩

/-! ### targets -/
abbrev FG := D → List Sl → Option (List Sl)
/-- the first n slots alone are set -/
def tFG (G : Bg) (n : Nat) (g : FG) : TG := fun v σ H Q => ∃ F ρ H0 d ρ', RelE G F σ ρ H0 H ∧ Rep G H0 d v ∧ g d ρ = some ρ' ∧ ∀ σ', σ'.drop n = σ.drop n → RelE G F σ' ρ' H0 H → Q σ' H
def tFGs (G : Bg) (n : Nat) (g : List D → List Sl → Option (List Sl)) : TGs := fun vs σ H Q => ∃ F ρ H0 ds ρ', RelE G F σ ρ H0 H ∧ Reps G H0 ds vs ∧ g ds ρ = some ρ' ∧ ∀ σ', σ'.drop n = σ.drop n → RelE G F σ' ρ' H0 H → Q σ' H
theorem PG.weak {e : Expr} {t t' : TG} (h : PG X e t) (w : ∀ v σ H Q, t' v σ H Q → t v σ H Q) : PG X e t' := fun pins s σ H x u Q I r hq => h pins s σ H x u Q I r (w _ _ _ _ hq)
theorem PGs.weak {e : List Expr} {t t' : TGs} (h : PGs X e t) (w : ∀ v σ H Q, t' v σ H Q → t v σ H Q) : PGs X e t' := fun pins s σ H x u Q I r hq => h pins s σ H x u Q I r (w _ _ _ _ hq)
def gN (i : Nat) : FG := fun d ρ => some (ρ.set i (.im d))
theorem drop_set_lt {α : Type} {l : List α} {i n : Nat} {x : α} (h : i < n) : (l.set i x).drop n = l.drop n := by
  apply List.ext_getElem?
  intro j
  rw [List.getElem?_drop, List.getElem?_drop, List.getElem?_set, if_neg (by omega)]
theorem pfg_name {tg : Expr} {i : Nat} (n : Nat) (h : PG X tg (gName i)) (hi : i < n) : PG X tg (tFG G n (gN i)) := PG.weak h fun v σ H Q hh => by
  obtain ⟨F, ρ, H0, d, ρ', R, r, e, k⟩ := hh
  cases e
  exact k _ (drop_set_lt hi) (R.setIm i r)
def gsNil : List D → List Sl → Option (List Sl) := fun ds ρ => match ds with
  | [] => some ρ
  | _ => none
def gsCons (g : FG) (gs : List D → List Sl → Option (List Sl)) : List D → List Sl → Option (List Sl) := fun ds ρ => match ds with
  | d :: r => match g d ρ with
    | some ρ' => gs r ρ'
    | none => none
  | [] => none
theorem pfg_nil {n : Nat} (h : PGs X [] gNil) : PGs X [] (tFGs G n gsNil) := PGs.weak h fun v σ H Q hh => by
  obtain ⟨F, ρ, H0, ds, ρ', R, r, e, k⟩ := hh
  cases ds with
  | nil => cases e; unfold Reps at r; exact ⟨r, k _ rfl R⟩
  | cons d ds => cases e
theorem pfg_cons {n : Nat} {e : Expr} {es : List Expr} {g : FG} {gs : List D → List Sl → Option (List Sl)} (h : PGs X (e :: es) (gCons (tFG G n g) (tFGs G n gs))) : PGs X (e :: es) (tFGs G n (gsCons g gs)) := PGs.weak h fun v σ H Q hh => by
  obtain ⟨F, ρ, H0, ds, ρ', R, r, e, k⟩ := hh
  cases ds with
  | nil => cases e
  | cons d ds =>
    unfold Reps at r
    obtain ⟨v1, r1, rfl, q1, q2⟩ := r
    unfold gsCons at e
    cases e1 : g d ρ with
    | none => simp only [e1] at e; cases e
    | some ρ1 =>
      simp only [e1] at e
      exact ⟨v1, r1, rfl, F, ρ, H0, d, ρ1, R, q1, e1, fun σ' s R' => ⟨F, ρ1, H0, ds, ρ', R', q2, e, fun σ'' s' R'' => k _ (s'.trans s) R''⟩⟩
def gT (gs : List D → List Sl → Option (List Sl)) (n : Nat) : FG := fun d ρ => match d with
  | .tup ds => if ds.length = n then gs ds ρ else none
  | _ => none
theorem pfg_tup {n m : Nat} {es : List Expr} {gs : List D → List Sl → Option (List Sl)} {k : Nat} {pos : Pos} (h : PG X (.Tuple es k pos) (gTup G.K m (tFGs G n gs))) : PG X (.Tuple es k pos) (tFG G n (gT gs m)) := PG.weak h fun v σ H Q hh => by
  obtain ⟨F, ρ, H0, d, ρ', R, r, e, k⟩ := hh
  cases d with
  | tup ds =>
    unfold gT at e
    simp only at e
    split at e
    · rename_i hl
      unfold Rep at r
      obtain ⟨a, xs, rfl, h1, h2⟩ := r
      exact ⟨a, xs, rfl, SqT.mono R.sub h1, by rw [← reps_len h2]; exact hl, F, ρ, H0, ds, ρ', R, h2, e, k⟩
    · cases e
  | _ => cases e
/-- an assignment -/
def sAsg (f : FE) (g : FG) : FS := fun ρ => match f ρ with
  | some (d, ρ') => match g d ρ' with
    | some ρ2 => some (.nx ρ2)
    | none => none
  | none => none
theorem pfs_asg {st : Stmt} {f : FE} {g : FG} {n : Nat} (h : PS X st (tAsg (tF G f) (tFG G n g))) : PS X st (tFS G (sAsg f g)) := PS.weak h fun E σ H hh => by
  obtain ⟨F, ρ, H0, o, R, e, k, k2⟩ := hh
  unfold sAsg at e
  rcases fe_cases (f := f) (ρ := ρ) with e1 | ⟨d, ρ', e1⟩ <;> simp only [e1] at e
  · cases e
  · cases e2 : g d ρ' with
    | none => simp only [e2] at e; cases e
    | some ρ2 =>
      simp only [e2] at e
      cases e
      exact ⟨F, ρ, H0, d, ρ', R, e1, fun v H0' H' s R' r => ⟨F, ρ', H0', d, ρ2, R', r, e2, fun σ' _ R2 => k _ _ _ s R2⟩⟩
/-- a name is given a value -/
def sSet (i : Nat) (f : FE) : FS := fun ρ => match f ρ with
  | some (d, ρ') => some (.nx (ρ'.set i (.im d)))
  | none => none
theorem pfs_set {st : Stmt} {i : Nat} {f : FE} (h : PS X st (tAsg (tF G f) (gName i))) : PS X st (tFS G (sSet i f)) := PS.weak h fun E σ H hh => by
  obtain ⟨F, ρ, H0, o, R, e, k, k2⟩ := hh
  unfold sSet at e
  rcases fe_cases (f := f) (ρ := ρ) with e1 | ⟨d, ρ', e1⟩ <;> simp only [e1] at e
  · cases e
  · cases e
    exact ⟨F, ρ, H0, d, ρ', R, e1, fun v H0' H' s R' r => k _ _ _ s (R'.setIm i r)⟩
/-- a name is given a new list, its own -/
def sSetN (i : Nat) (f : FA) : FS := fun ρ => match f ρ with
  | some (d, ρ') => some (.nx (ρ'.set i (.ls d)))
  | none => none
theorem pfs_setN {st : Stmt} {i : Nat} {f : FA} (h : PS X st (tAsg (tFN G f) (gName i))) : PS X st (tFS G (sSetN i f)) := PS.weak h fun E σ H hh => by
  obtain ⟨F, ρ, H0, o, R, e, k, k2⟩ := hh
  unfold sSetN at e
  rcases fe_cases (f := f) (ρ := ρ) with e1 | ⟨d, ρ', e1⟩ <;> simp only [e1] at e
  · cases e
  · cases e
    exact ⟨F, ρ, H0, d, ρ', R, e1, fun p xs H0' H' s R' h1 h2 h3 h4 h5 => k _ _ _ s (R'.setLs i h1 h2 h3 h4 h5)⟩

/-! ### functions -/
def stE (n : Nat) (ds : List D) : List Sl := ds.map Sl.im ++ List.replicate (n - ds.length) .un
/-- a def: np parameters, n names -/
def fnD (np n : Nat) (f : FS) : List D → Option D := fun ds => if ds.length = np then match f (stE n ds) with
  | some (.rt d _) => some d
  | some (.rn ds _) => some (.lst ds)
  | some (.nx _) => some .non
  | _ => none
  else none
/-- a def that gives back a new list -/
def fnN (np n : Nat) (f : FS) : List D → Option (List D) := fun ds => if ds.length = np then match f (stE n ds) with
  | some (.rn ds _) => some ds
  | _ => none
  else none
def spF (G : Bg) (g : List D → Option D) : Sp := fun vs H Q _ => ∃ H0 ds d, Same H0 H ∧ Reps G H0 ds vs ∧ g ds = some d ∧
  ∀ v H0' H', Same H0 H0' → Same H0' H' → Same H H' → (∀ b o, H0' b = some o → H0 b = some o ∨ H b = none) → Rep G H0' d v → Q v H'
def spN (G : Bg) (g : List D → Option (List D)) : Sp := fun vs H Q _ => ∃ H0 ds d, Same H0 H ∧ Reps G H0 ds vs ∧ g ds = some d ∧
  ∀ p xs H0' H', Same H0 H0' → Same H0' H' → Same H H' → (∀ b o, H0' b = some o → H0 b = some o ∨ H b = none) → H p = none → H' p = some (.lst xs) → H0' p = none → Reps G H0' d xs → Q (.ref p) H'
theorem stE_get {n : Nat} {ds : List D} {i : Nat} {s : Sl} (h : (stE n ds)[i]? = some s) : s = .un ∨ ∃ d, ds[i]? = some d ∧ s = .im d := by
  unfold stE at h
  by_cases hi : i < ds.length
  · rw [List.getElem?_append_left (by simpa using hi), List.getElem?_map, List.getElem?_eq_getElem hi] at h
    cases h
    exact .inr ⟨_, List.getElem?_eq_getElem hi, rfl⟩
  · rw [List.getElem?_append_right (by simpa using hi), List.getElem?_replicate] at h
    split at h
    · cases h; exact .inl rfl
    · cases h
theorem start_get {N : List Str} {vs : List V} {i : Nat} {v : V} (h : vs[i]? = some v) : ((L2.start N vs)[i]?).join = some v := by
  unfold L2.start
  have hi := (List.getElem?_eq_some_iff.mp h).1
  rw [List.getElem?_append_left (by simpa using hi), List.getElem?_map, h]
  rfl
theorem rel_start {N : List Str} {vs : List V} {ds : List D} {H0 H : Hp} (s : Same H0 H) (r : Reps G H0 ds vs) (hl : vs.length ≤ N.length) : RelE G ⟨H0, H, []⟩ (L2.start N vs) (stE N.length ds) H0 H where
  sub := s
  g0 := Same.refl _
  keep := fun b o e _ => e
  fr := fun b o e => .inl e
  am := fun a h => by cases h
  len := by
    unfold L2.start stE
    rw [List.length_append, List.length_append, List.length_map, List.length_map, List.length_replicate, List.length_replicate, reps_len r]
  sl := fun i t e => by
    rcases stE_get e with rfl | ⟨d, e1, rfl⟩
    · trivial
    · obtain ⟨v, e2, e3⟩ := reps_get r e1
      exact ⟨v, start_get e2, e3⟩
  ap := fun i j t u a _ e _ ht => by
    rcases stE_get e with rfl | ⟨d, _, rfl⟩ <;> cases ht
theorem fnD_some {np n : Nat} {f : FS} {ds : List D} {d : D} (h : fnD np n f ds = some d) : ds.length = np ∧ ((∃ ρ, f (stE n ds) = some (.rt d ρ)) ∨ (∃ xs ρ, f (stE n ds) = some (.rn xs ρ) ∧ d = .lst xs) ∨ ∃ ρ, f (stE n ds) = some (.nx ρ) ∧ d = .non) := by
  unfold fnD at h
  split at h
  · rename_i hl
    refine ⟨hl, ?_⟩
    split at h
    · rename_i e; cases h; exact .inl ⟨_, e⟩
    · rename_i e; cases h; exact .inr (.inl ⟨_, _, e, rfl⟩)
    · rename_i e; cases h; exact .inr (.inr ⟨_, e, rfl⟩)
    · cases h
  · cases h
theorem fnN_some {np n : Nat} {f : FS} {ds xs : List D} (h : fnN np n f ds = some xs) : ds.length = np ∧ ∃ ρ, f (stE n ds) = some (.rn xs ρ) := by
  unfold fnN at h
  split at h
  · rename_i hl
    refine ⟨hl, ?_⟩
    split at h
    · rename_i e; cases h; exact ⟨_, e⟩
    · cases h
  · cases h
end
/-- the reading of a def's body, at its entry -/
theorem entry_F {G : Bg} {N : List Str} {np : Nat} {f : FS} {vs : List V} {H : Hp} {Q : VK} {E : XK} (hN : np ≤ N.length) (h : spF G (fnD np N.length f) vs H Q E) : tFS G f { nx := fun _ H' => Q .non H', rt := Q } (L2.start N vs) H := by
  obtain ⟨H0, ds, d, s, r, e, k⟩ := h
  obtain ⟨hl, e'⟩ := fnD_some e
  clear e
  have R := rel_start (N := N) s r (by rw [← reps_len r, hl]; exact hN)
  have fin : ∀ {σ' : St} {ρ' : List Sl} {H0' H' : Hp}, RelE G ⟨H0, H, []⟩ σ' ρ' H0' H' → Same H H' ∧ Same H0' H' ∧ ∀ b o, H0' b = some o → H0 b = some o ∨ H b = none := fun R' => ⟨fun b o e => R'.keep b o e (by simp), R'.sub, R'.fr⟩
  rcases e' with ⟨ρ, e⟩ | ⟨xs, ρ, e, rfl⟩ | ⟨ρ, e, rfl⟩
  · refine ⟨_, _, H0, _, R, e, fun v σ' H0' H' s' R' rv => ?_, fun _ => rfl⟩
    obtain ⟨h1, h2, h3⟩ := fin R'
    exact k v H0' H' s' h2 h1 h3 rv
  · refine ⟨_, _, H0, _, R, e, fun p ys σ' H0' H' s' R' hp h0 hb ap rs => ?_, fun _ => rfl⟩
    have R2 := R'.freeze hp h0 hb ap
    obtain ⟨h1, h2, h3⟩ := fin R2
    exact k _ _ H' (s'.trans (same_new h0 _)) h2 h1 h3 (rep_lst upd_same (Reps.mono (same_new h0 _) _ _ rs))
  · refine ⟨_, _, H0, _, R, e, fun σ' H0' H' s' R' => ?_, fun _ => rfl⟩
    obtain ⟨h1, h2, h3⟩ := fin R'
    exact k _ H0' H' s' h2 h1 h3 rep_non
theorem entry_N {G : Bg} {N : List Str} {np : Nat} {f : FS} {vs : List V} {H : Hp} {Q : VK} {E : XK} (hN : np ≤ N.length) (h : spN G (fnN np N.length f) vs H Q E) : tFS G f { nx := fun _ H' => Q .non H', rt := Q } (L2.start N vs) H := by
  obtain ⟨H0, ds, d, s, r, e, k⟩ := h
  obtain ⟨hl, ρ, e⟩ := fnN_some e
  have R := rel_start (N := N) s r (by rw [← reps_len r, hl]; exact hN)
  refine ⟨_, _, H0, _, R, e, fun p ys σ' H0' H' s' R' hp h0 hb ap rs => ?_, fun _ => rfl⟩
  exact k p ys H0' H' s' R'.sub (fun b o e => R'.keep b o e (by simp)) R'.fr hb hp h0 rs
theorem len_F {G : Bg} {g : List D → Option D} {np : Nat} (hg : ∀ ds d, g ds = some d → ds.length = np) : ∀ vs H Q E, spF G g vs H Q E → vs.length = np := fun vs H Q E h => by
  obtain ⟨H0, ds, d, _, r, e, _⟩ := h
  rw [← reps_len r]; exact hg _ _ e
theorem len_N {G : Bg} {g : List D → Option (List D)} {np : Nat} (hg : ∀ ds d, g ds = some d → ds.length = np) : ∀ vs H Q E, spN G g vs H Q E → vs.length = np := fun vs H Q E h => by
  obtain ⟨H0, ds, d, _, r, e, _⟩ := h
  rw [← reps_len r]; exact hg _ _ e
theorem fnD_len {np n : Nat} {f : FS} : ∀ ds d, fnD np n f ds = some d → ds.length = np := fun _ _ h => (fnD_some h).1
theorem fnN_len {np n : Nat} {f : FS} : ∀ ds d, fnN np n f ds = some d → ds.length = np := fun _ _ h => (fnN_some h).1
/-! ### calls -/
def cCallG {α : Type} (g : List D → Option α) (a : FA) : List Sl → Option (α × List Sl) := fun ρ => match a ρ with
  | some (ds, ρ') => match g ds with
    | some d => some (d, ρ')
    | none => none
  | none => none
abbrev cCall (g : List D → Option D) (a : FA) : FE := cCallG g a
abbrev cCallN (g : List D → Option (List D)) (a : FA) : FA := cCallG g a
theorem callG_some {α : Type} {g : List D → Option α} {a : FA} {ρ ρ' : List Sl} {d : α} (h : cCallG g a ρ = some (d, ρ')) : ∃ ds, a ρ = some (ds, ρ') ∧ g ds = some d := by
  unfold cCallG at h
  rcases fe_cases (f := a) (ρ := ρ) with e1 | ⟨ds, ρ1, e1⟩ <;> simp only [e1] at h
  · cases h
  · cases e2 : g ds with
    | none => simp only [e2] at h; cases h
    | some x => simp only [e2] at h; cases h; exact ⟨ds, e1, e2⟩
section
variable {X : Cx} {G : Bg}
theorem tCall_F {g : List D → Option D} {a : FA} {dvs : List V} {dds : List D} {E : XK} (hd : ∀ H, Reps G H dds dvs) : ∀ σ H Q, tF G (cCall (fun ds => g (ds ++ dds)) a) σ H Q → tCall (spF G g) dvs E (tFA G a) σ H Q := fun σ H Q hh => by
  obtain ⟨F, ρ, H0, d, ρ', R, e, k⟩ := hh
  obtain ⟨ds, e1, e2⟩ := callG_some e
  refine ⟨F, ρ, H0, ds, ρ', R, e1, fun xs H1 H1' s R' rs => ⟨H1, ds ++ dds, d, R'.sub, reps_app rs (hd _), e2, fun v H2 H2' s1 s2 s3 fr rv => ?_⟩⟩
  exact k v H2 H2' (s.trans s1) (R'.grow s3 s1 s2 fr) rv
theorem tCall_N {g : List D → Option (List D)} {a : FA} {dvs : List V} {dds : List D} {E : XK} (hd : ∀ H, Reps G H dds dvs) : ∀ σ H Q, tFN G (cCallN (fun ds => g (ds ++ dds)) a) σ H Q → tCall (spN G g) dvs E (tFA G a) σ H Q := fun σ H Q hh => by
  obtain ⟨F, ρ, H0, d, ρ', R, e, k⟩ := hh
  obtain ⟨ds, e1, e2⟩ := callG_some e
  refine ⟨F, ρ, H0, ds, ρ', R, e1, fun xs H1 H1' s R' rs => ⟨H1, ds ++ dds, d, R'.sub, reps_app rs (hd _), e2, fun p ys H2 H2' s1 s2 s3 fr hn hp h0 rv => ?_⟩⟩
  exact k p ys H2 H2' (s.trans s1) (R'.grow s3 s1 s2 fr) hp h0 (R'.bNone hn) (R'.apart hn) rv
end
end L4

set_option Elab.async false
set_option linter.all false
set_option maxRecDepth 100000
set_option maxHeartbeats 4000000
namespace L4
open PySem PySem.Spec PyProof.Rows L2 L3

/-! ### calls of the text's defs -/
section
variable {X : Cx} {G : Bg}
theorem pf_call {e : Expr} {g : List D → Option D} {a : FA} {dvs : List V} {dds : List D} {E : XK} (hd : ∀ H, Reps G H dds dvs) (h : PE X e (tCall (spF G g) dvs E (tFA G a))) : PE X e (tF G (cCall (fun ds => g (ds ++ dds)) a)) := PE.weak h (tCall_F hd)
theorem pfn_call {e : Expr} {g : List D → Option (List D)} {a : FA} {dvs : List V} {dds : List D} {E : XK} (hd : ∀ H, Reps G H dds dvs) (h : PE X e (tCall (spN G g) dvs E (tFA G a))) : PE X e (tFN G (cCallN (fun ds => g (ds ++ dds)) a)) := PE.weak h (tCall_N hd)
theorem pfn_call0 {e : Expr} {g : List D → Option (List D)} {E : XK} (h : PE X e (tCall (spN G g) [] E tNil)) : PE X e (tFN G (cCallN g aNil)) := PE.weak h fun σ H Q hh => by
  obtain ⟨F, ρ, H0, d, ρ', R, e, k⟩ := hh
  obtain ⟨ds, e1, e2⟩ := callG_some e
  cases e1
  exact ⟨H0, [], d, R.sub, reps_nil, e2, fun p ys H2 H2' s1 s2 s3 fr hn hp h0 rv => k p ys H2 H2' s1 (R.grow s3 s1 s2 fr) hp h0 (R.bNone hn) (R.apart hn) rv⟩

/-! ### fields -/
def getF : List Str → List D → Str → Option D
  | n :: ns, d :: ds, f => if n = f then some d else getF ns ds f
  | _, _, _ => none
theorem getF_look {H : Hp} : ∀ {ns : List Str} {ds : List D} {xs : List V} {f : Str} {d : D}, Reps G H ds xs → getF ns ds f = some d → ∃ v, (ns.zip xs).lookup f = some v ∧ Rep G H d v
  | [], ds, xs, f, d, r, e => by simp [getF] at e
  | n :: ns, [], xs, f, d, r, e => by simp [getF] at e
  | n :: ns, d' :: ds, xs, f, d, r, e => by
    unfold Reps at r
    obtain ⟨v, q, rfl, h1, h2⟩ := r
    unfold getF at e
    by_cases hn : n = f
    · rw [if_pos hn] at e
      cases e
      subst hn
      exact ⟨v, by simp [List.lookup], h1⟩
    · rw [if_neg hn] at e
      obtain ⟨w, e1, e2⟩ := getF_look h2 e
      refine ⟨w, ?_, e2⟩
      have hb : (f == n) = false := beq_eq_false_iff_ne.mpr fun z => hn z.symm
      simp only [List.zip_cons_cons, List.lookup, hb]
      exact e1
/-- which classes have which fields: no class of them has the name -/
def dFld (ok : Nat → Bool) (f : Str) : D → Option D
  | .obj c ns ds => if ok c = true then getF ns ds f else none
  | _ => none
theorem pf_fld {e : Expr} {ff : FE} {f : Str} {pos : Pos} {ok : Nat → Bool} (he : PE X e (tF G ff)) (hc : ∀ c, ok c = true → Cls X.K (G.ca c) ∧ NoAttr X.K (G.ca c) f) (hb : attributeBase e f X.env (eval e X.env) = eval e X.env := by rfl) : PE X (.Attribute e f pos) (tF G (c1 (dFld ok f) ff)) := PE.weak (pe_fld he hb) fun σ H Q hh => by
  obtain ⟨F, ρ, H0, d, ρ', R, e, k⟩ := hh
  obtain ⟨x, e1, e2⟩ := c1_some e
  cases x with
  | obj c ns ds =>
    unfold dFld at e2
    simp only at e2
    split at e2
    · rename_i hk
      refine ⟨F, ρ, H0, _, ρ', R, e1, fun v H1 H1' s R' r => ?_⟩
      unfold Rep at r
      obtain ⟨a, dx, xs, rfl, h1, h2, h3⟩ := r
      obtain ⟨w, l1, l2⟩ := getF_look h3 e2
      exact ⟨a, _, dx, _, w, rfl, R'.sub _ _ h1, (hc c hk).1, (hc c hk).2, l1, k _ _ _ s R' l2⟩
    · cases e2
  | _ => cases e2

/-! ### methods -/
def MOk (X : Cx) (C : Addr) (m : Str) (sp : Sp) (dvs : List V) (E : XK) : Prop := ∃ (k : Nat) (f : Addr) (fd : FuncData) (ps : List Str) (ds : List Value), Cls X.K C ∧ Meth X.K C m f ∧ FnOk X.prog X.w X.K X.mg X.base CX0 k f fd ps sp ∧ Room k X.A ∧ Binds X.K fd ps ds ∧ Vals dvs ds ∧ Passes CX0 X E
/-- a method by the instance's class; g: what it tells, by the class -/
def cMeth (g : Nat → Option (List D → Option D)) (m : Str) (f : FE) (a : FA) : FE := fun ρ => match f ρ with
  | some (.obj c ns ds, ρ1) => match g c with
    | some h => if ns.contains m = true then none else match a ρ1 with
      | some (es, ρ2) => match h (.obj c ns ds :: es) with
        | some d => some (d, ρ2)
        | none => none
      | none => none
    | none => none
  | _ => none
theorem cMeth_some {g : Nat → Option (List D → Option D)} {m : Str} {f : FE} {a : FA} {ρ ρ' : List Sl} {d : D} (h : cMeth g m f a ρ = some (d, ρ')) :
    ∃ c ns ds ρ1 hh es, f ρ = some (.obj c ns ds, ρ1) ∧ g c = some hh ∧ ns.contains m = false ∧ a ρ1 = some (es, ρ') ∧ hh (.obj c ns ds :: es) = some d := by
  unfold cMeth at h
  split at h
  · rename_i c ns ds ρ1 e1
    cases e2 : g c with
    | none => simp only [e2] at h; cases h
    | some hh =>
      simp only [e2] at h
      cases e3 : ns.contains m with
      | true => simp only [e3, if_true] at h; cases h
      | false =>
        simp only [e3, Bool.false_eq_true, if_false] at h
        rcases fe_cases (f := a) (ρ := ρ1) with e4 | ⟨es, ρ2, e4⟩ <;> simp only [e4] at h
        · cases h
        · cases e5 : hh (.obj c ns ds :: es) with
          | none => simp only [e5] at h; cases h
          | some x => simp only [e5] at h; cases h; exact ⟨c, ns, ds, ρ1, hh, es, e1, e2, e3, e4, e5⟩
  · cases h
theorem zip_nolook {m : Str} : ∀ {ns : List Str} {xs : List V}, ns.contains m = false → (ns.zip xs).lookup m = none
  | [], xs, h => rfl
  | n :: ns, [], h => rfl
  | n :: ns, x :: xs, h => by
    rw [List.contains_cons, Bool.or_eq_false_iff] at h
    simp only [List.zip_cons_cons, List.lookup, h.1]
    exact zip_nolook h.2
theorem pe_methG0 {o : Expr} {ta : TE} {m : Str} {pos apos : Pos} {dvs : List V} {E : XK} {pl : Sem Bool} (T : Addr → Sp → Prop) (hT : ∀ C sp, T C sp → MOk X C m sp dvs E) (he : PE X o ta)
    (ht : eval (.Call (.Attribute o m apos) [] [] pos) X.env = (do
      let ov ← eval o X.env
      standAt apos.atName
      let (f, first) ← holding [ov] (getMethod ov m pl)
      callWith pos f first (backTo pos (starEach [] X.env)) (backToKw pos (keywordEach [] X.env))) := by rfl) :
    PE X (.Call (.Attribute o m apos) [] [] pos) (fun σ H Q => ta σ H fun x H1 => ∃ a C dx fs sp, x = .ref a ∧ H1 a = some (.ins C dx fs) ∧ T C sp ∧ fs.lookup m = none ∧ sp (x :: dvs) H1 Q E) := by
  intro pins s σ H Q I h
  refine PySem.W.methodCall_KW (pl := pl) (thn (he pins s σ H _ I h) fun u s1 ⟨x, H1, I1, rx, a, C, dx, fs, sp, ex, ea, ht, l, q⟩ => ?_) ht
  obtain ⟨k, f, fd, ps, ds, c, hm, F, hr, hb, hd, hx⟩ := hT C sp ht
  subst ex
  obtain rfl : u = Value.ref a := rx
  refine getmeth_ok I1 ea c hm l ?_
  exact PySem.W.callWith_K0 (first := [.ref a]) I1.kIn hm.kp (run_fn (us := [.ref a]) (vs := [.ref a]) F hr hb hd hx I1 (.cons rfl .nil) q)
/-- what a method of a class tells: by class -/
def MT (G : Bg) (g : Nat → Option (List D → Option D)) : Addr → Sp → Prop := fun C sp => ∃ c h, g c = some h ∧ C = G.ca c ∧ sp = spF G h
theorem pf_meth0 {o : Expr} {f : FE} {m : Str} {pos apos : Pos} {E : XK} {g : Nat → Option (List D → Option D)} (h : PE X (.Call (.Attribute o m apos) [] [] pos) (fun σ H Q => tF G f σ H fun x H1 => ∃ a' C dx fs sp, x = .ref a' ∧ H1 a' = some (.ins C dx fs) ∧ MT G g C sp ∧ fs.lookup m = none ∧ sp (x :: []) H1 Q E)) :
    PE X (.Call (.Attribute o m apos) [] [] pos) (tF G (cMeth g m f aNil)) := PE.weak h fun σ H Q hh => by
  obtain ⟨F, ρ, H0, d, ρ', R, e, k⟩ := hh
  obtain ⟨c, ns, ds, ρ1, hh, es', e1, e2, e3, e4, e5⟩ := cMeth_some e
  cases e4
  refine ⟨F, ρ, H0, _, _, R, e1, fun v H1 H1' s R' r => ?_⟩
  have r0 := r
  unfold Rep at r
  obtain ⟨a', dx, xs, rfl, h1, h2, h3⟩ := r
  refine ⟨a', _, dx, _, _, rfl, R'.sub _ _ h1, ⟨c, hh, e2, rfl, rfl⟩, zip_nolook e3, ?_⟩
  exact ⟨H1, _, d, R'.sub, reps_cons r0 reps_nil, e5, fun v H3 H3' t1 t2 t3 fr rv => k v H3 H3' (s.trans t1) (R'.grow t3 t1 t2 fr) rv⟩

/-! ### instances are made -/
/-- __init__: the new instance, then what is handed in; g: the fields' values -/
def spI (G : Bg) (c : Nat) (g : List D → Option (List Str × List D)) : Sp := fun vs H Q _ => ∃ (p dx : Addr) (us : List V) (H0 : Hp) (ds : List D) (ns : List Str) (es : List D), vs = .ref p :: us ∧ H p = some (.ins (G.ca c) dx []) ∧ H0 p = none ∧ Same H0 H ∧ Reps G H0 ds us ∧ g ds = some (ns, es) ∧
  ∀ ys dx' H0' H', Same H0 H0' → Same H0' H' → (∀ b o, H b = some o → b ≠ p → H' b = some o) → (∀ b o, H0' b = some o → H0 b = some o ∨ H b = none) → H0' p = none → H' p = some (.ins (G.ca c) dx' (ns.zip ys)) → ns.length = ys.length → Reps G H0' es ys → Q .non H'
def cMake (c : Nat) (g : List D → Option (List Str × List D)) (a : FA) : FE := fun ρ => match a ρ with
  | some (ds, ρ') => match g ds with
    | some (ns, es) => some (.obj c ns es, ρ')
    | none => none
  | none => none
theorem pf_make {e : Expr} {c : Nat} {g : List D → Option (List Str × List D)} {a : FA} {dvs : List V} {dds : List D} {E : XK} (hd : ∀ H, Reps G H dds dvs) (h : PE X e (tMake (G.ca c) (spI G c g) dvs E (tFA G a))) : PE X e (tF G (cMake c (fun ds => g (ds ++ dds)) a)) := PE.weak h fun σ H Q hh => by
  obtain ⟨F, ρ, H0, d, ρ', R, e, k⟩ := hh
  unfold cMake at e
  rcases fe_cases (f := a) (ρ := ρ) with e1 | ⟨ds, ρ1, e1⟩ <;> simp only [e1] at e
  · cases e
  · cases e2 : g (ds ++ dds) with
    | none => simp only [e2] at e; cases e
    | some q =>
      obtain ⟨ns, es⟩ := q
      simp only [e2] at e
      cases e
      refine ⟨F, ρ, H0, ds, ρ', R, e1, fun xs H1 H1' s R' rs x dx hx hdx ne => ?_⟩
      have hx2 : (upd H1' dx (.own x)) x = none := by rw [upd_ne (fun z => ne z.symm)]; exact hx
      have sx : Same H1' (upd (upd H1' dx (.own x)) x (.ins (G.ca c) dx [])) := (same_new hdx _).trans (same_new hx2 _)
      refine ⟨x, dx, _, H1, ds ++ dds, ns, es, rfl, upd_same, R'.h0none hx, R'.sub.trans sx, reps_app rs (hd _), e2, fun ys dx' H2 H2' t1 t2 t3 fr h0 hp hl ry => ⟨rfl, ?_⟩⟩
      have t4 : Same H1' H2' := fun b o e => t3 b o (sx b o e) (ne_of_none e hx)
      have fr1 : ∀ b o, H2 b = some o → H1 b = some o ∨ H1' b = none := fun b o e => by
        rcases fr b o e with q | q
        · exact .inl q
        · cases z : H1' b with
          | none => exact .inr rfl
          | some u => rw [sx b u z] at q; cases q
      have R2 := R'.grow t4 t1 t2 fr1
      have hb : F.B x = none := R'.bNone hx
      have R3 := R2.freeze hp h0 hb (fun i t ei to z => R'.apart hx i t ei to z)
      refine k _ _ _ (s.trans (t1.trans (same_new h0 _))) R3 ?_
      unfold Rep
      exact ⟨x, dx', ys, rfl, upd_same, hl, Reps.mono (same_new h0 _) _ _ ry⟩
/-- self.f = e while an instance is made -/
def sFldO (c0 : Nat) (i : Nat) (f : Str) (ff : FE) : FS := fun ρ => match ff ρ with
  | some (d, ρ1) => match ρ1[i]? with
    | some (.ob c ns ds) => if c = c0 then if ns.contains f = true then none else if ds.length = ns.length then if ns.length < 900 then some (.nx (ρ1.set i (.ob c (ns ++ [f]) (ds ++ [d])))) else none else none else none
    | _ => none
  | none => none
theorem putF_new {f : Str} {v : V} : ∀ {ns : List Str} {xs : List V}, ns.contains f = false → ns.length = xs.length → putF f v (ns.zip xs) = (ns ++ [f]).zip (xs ++ [v])
  | [], [], h, l => rfl
  | [], x :: xs, h, l => by cases l
  | n :: ns, [], h, l => by cases l
  | n :: ns, x :: xs, h, l => by
    rw [List.contains_cons, Bool.or_eq_false_iff] at h
    have hn : ¬ n = f := fun z => by rw [z] at h; simp at h
    have ih := putF_new (f := f) (v := v) (ns := ns) (xs := xs) h.2 (by simpa using l)
    show putF f v ((n, x) :: ns.zip xs) = _
    rw [show putF f v ((n, x) :: ns.zip xs) = (if n = f then (n, v) :: ns.zip xs else (n, x) :: putF f v (ns.zip xs)) from rfl, if_neg hn, ih]
    rfl
theorem pfs_fld {st : Stmt} {c0 i : Nat} {f : Str} {ff : FE} (h : PS X st (sFld X.K (tVar i) (tF G ff) f)) (hc : Cls X.K (G.ca c0) ∧ NoAttr X.K (G.ca c0) f) : PS X st (tFS G (sFldO c0 i f ff)) := PS.weak h fun E σ H hh => by
  obtain ⟨F, ρ, H0, o, R, e, k, k2⟩ := hh
  unfold sFldO at e
  rcases fe_cases (f := ff) (ρ := ρ) with e1 | ⟨d, ρ1, e1⟩ <;> simp only [e1] at e
  · cases e
  · split at e
    · rename_i c ns ds e2
      split at e
      · rename_i hcc
        subst hcc
        split at e
        · cases e
        rename_i hnc
        split at e
        · rename_i hl
          split at e
          · rename_i h9
            cases e
            refine ⟨F, ρ, H0, d, ρ1, R, e1, fun v H1 H1' s R' r => ?_⟩
            obtain ⟨a, dx, xs, e3, e4, e5, e6, e7, e8⟩ := R'.sl i _ e2
            refine ⟨_, opt_join e3, a, _, dx, _, rfl, e4, hc.1, hc.2, by rw [List.length_zip]; omega, ?_⟩
            have hnf : ns.contains f = false := by simpa using hnc
            rw [putF_new hnf e7]
            refine k _ _ _ s (R'.mut e2 rfl e3 (fun H' hH => ?_) rfl)
            exact ⟨a, dx, xs ++ [v], rfl, hH, e5, e6, by rw [List.length_append, List.length_append, e7]; rfl, reps_app e8 (reps_cons r reps_nil)⟩
          · cases e
        · cases e
      · cases e
    · cases e
def stI (c n : Nat) (ds : List D) : List Sl := .ob c [] [] :: stE (n - 1) ds
/-- an __init__ with np parameters beside self, n names -/
def fnI (c np n : Nat) (f : FS) : List D → Option (List Str × List D) := fun ds => if ds.length = np then match f (stI c n ds) with
  | some (.nx ρ) => match (ρ : List Sl)[0]? with
    | some (Sl.ob c' ns es) => if c' = c then if ns.length = es.length then some (ns, es) else none else none
    | _ => none
  | _ => none
  else none
theorem fnI_some {c np n : Nat} {f : FS} {ds : List D} {q : List Str × List D} (h : fnI c np n f ds = some q) : ds.length = np ∧ ∃ ρ, f (stI c n ds) = some (.nx ρ) ∧ ρ[0]? = some (.ob c q.1 q.2) ∧ q.1.length = q.2.length := by
  unfold fnI at h
  split at h
  · rename_i hl
    refine ⟨hl, ?_⟩
    split at h
    · rename_i ρ e
      split at h
      · rename_i c' ns es e2
        split at h
        · rename_i hc
          split at h
          · rename_i h3
            subst hc
            cases h
            exact ⟨ρ, e, e2, h3⟩
          · cases h
        · cases h
      · cases h
    · cases h
  · cases h
theorem entry_I {c np : Nat} {N : List Str} {f : FS} {vs : List V} {H : Hp} {Q : VK} {E : XK} (hN : np + 1 ≤ N.length) (h : spI G c (fnI c np N.length f) vs H Q E) : tFS G f { nx := fun _ H' => Q .non H', rt := Q } (L2.start N vs) H := by
  obtain ⟨p, dx, us, H0, ds, ns, es, rfl, hp, h0, s, r, e, k⟩ := h
  obtain ⟨hl, ρ, e1, e2, e3⟩ := fnI_some e
  have hul : us.length = np := by rw [← reps_len r]; exact hl
  have gets : ∀ {i : Nat} {t : Sl}, (stI c N.length ds)[i]? = some t → (i = 0 ∧ t = .ob c [] []) ∨ t = .un ∨ ∃ (j : Nat) (d : D), i = j + 1 ∧ ds[j]? = some d ∧ t = .im d := fun {i t} e => by
    cases i with
    | zero => cases e; exact .inl ⟨rfl, rfl⟩
    | succ j =>
      have e' : (stE (N.length - 1) ds)[j]? = some t := e
      rcases stE_get e' with rfl | ⟨d, e1, rfl⟩
      · exact .inr (.inl rfl)
      · exact .inr (.inr ⟨j, d, rfl, e1, rfl⟩)
  have R : RelE G ⟨H0, H, [p]⟩ (L2.start N (.ref p :: us)) (stI c N.length ds) H0 H := {
    sub := s
    g0 := Same.refl _
    keep := fun b o e _ => e
    fr := fun b o e => .inl e
    am := fun a ha => by
      have ea : a = p := by simpa using ha
      subst ea
      exact ⟨_, hp⟩
    len := by
      unfold L2.start stI stE
      simp only [List.length_append, List.length_map, List.length_replicate, List.length_cons]
      have := reps_len r
      omega
    sl := fun i t e => by
      rcases gets e with ⟨rfl, rfl⟩ | rfl | ⟨j, d, rfl, e1, rfl⟩
      · exact ⟨p, dx, [], start_get rfl, hp, h0, by simp, rfl, reps_nil⟩
      · trivial
      · obtain ⟨v, e2, e3⟩ := reps_get r e1
        exact ⟨v, start_get (by simpa using e2), e3⟩
    ap := fun i j t u a hij ei ej ht hu => by
      rcases gets ei with ⟨rfl, rfl⟩ | rfl | ⟨_, _, _, _, rfl⟩
      · rcases gets ej with ⟨rfl, rfl⟩ | rfl | ⟨_, _, _, _, rfl⟩
        · exact absurd rfl hij
        · cases hu
        · cases hu
      · cases ht
      · cases ht }
  refine ⟨_, _, H0, _, R, e1, fun σ' H0' H' s' R' => ?_, fun _ => rfl⟩
  obtain ⟨a, dx', ys, q1, q2, q3, q4, q5, q6⟩ := R'.sl 0 _ e2
  have ea : a = p := by simpa using q4
  subst ea
  exact k ys dx' H0' H' s' R'.sub (fun b o e n => R'.keep b o e (by simpa using n)) R'.fr q3 q2 q5 q6
end
end L4

set_option Elab.async false
set_option linter.all false
set_option maxRecDepth 100000
set_option maxHeartbeats 4000000
namespace L4
open PySem PySem.Spec PyProof.Rows L2 L3

/-! ### own lists -/
def Sl.L : Sl → Option (List D)
  | .ls ds => some ds
  | .pm ds => some ds
  | _ => none
def Sl.putL : Sl → List D → Sl
  | .pm _, ds => .pm ds
  | _, ds => .ls ds
theorem Sl.L_own {s : Sl} {ds : List D} (h : s.L = some ds) : s.own = true := by cases s <;> first | rfl | cases h
theorem Sl.putL_L {s : Sl} {ds : List D} : (s.putL ds).L = some ds := by cases s <;> rfl
section
variable {G : Bg} {F : Fr} {σ : St} {ρ : List Sl} {H0 H : Hp}
theorem SlOk.lst {o : Option V} {s : Sl} {ds : List D} (h : SlOk G F H0 H o s) (e : s.L = some ds) : ∃ a xs, o = some (.ref a) ∧ H a = some (.lst xs) ∧ H0 a = none ∧ Reps G H0 ds xs := by
  cases s with
  | ls ds' => cases e; obtain ⟨a, xs, h1, h2, h3, h4, h5⟩ := h; exact ⟨a, xs, h1, h2, h3, h5⟩
  | pm ds' => cases e; obtain ⟨a, xs, h1, h2, h3, h4, h5⟩ := h; exact ⟨a, xs, h1, h2, h3, h5⟩
  | _ => cases e
theorem RelE.mutL (R : RelE G F σ ρ H0 H) {i : Nat} {a : Addr} {s : Sl} {ds ds' : List D} {xs' : List V} (hi : ρ[i]? = some s) (hs : s.L = some ds) (ha : (σ[i]?).join = some (.ref a)) (r : Reps G H0 ds' xs') :
    RelE G F σ (ρ.set i (s.putL ds')) H0 (upd H a (.lst xs')) := by
  have ok := R.sl i s hi
  rw [ha] at ok
  refine R.mut hi (Sl.L_own hs) ha (fun H' hH => ?_) (Sl.L_own Sl.putL_L)
  cases s with
  | ls ds0 => obtain ⟨b, xs, h1, h2, h3, h4, h5⟩ := ok; cases h1; exact ⟨a, xs', rfl, hH, h3, h4, r⟩
  | pm ds0 => obtain ⟨b, xs, h1, h2, h3, h4, h5⟩ := ok; cases h1; exact ⟨a, xs', rfl, hH, h3, h4, r⟩
  | _ => cases hs
end
/-- the own list in slot i -/
def lsAt (ρ : List Sl) (i : Nat) : Option (List D) := match ρ[i]? with
  | some s => s.L
  | none => none
theorem lsAt_some {ρ : List Sl} {i : Nat} {ds : List D} (h : lsAt ρ i = some ds) : ∃ s, ρ[i]? = some s ∧ s.L = some ds := by
  unfold lsAt at h
  cases e : ρ[i]? with
  | none => rw [e] at h; cases h
  | some s => rw [e] at h; exact ⟨s, rfl, h⟩
def putAt (ρ : List Sl) (i : Nat) (ds : List D) : List Sl := match ρ[i]? with
  | some s => ρ.set i (s.putL ds)
  | none => ρ
/-- xs.append(e) -/
def cApp (i : Nat) (f : FE) : FE := fun ρ => match lsAt ρ i with
  | some _ => match f ρ with
    | some (d, ρ1) => match lsAt ρ1 i with
      | some ds => if ds.length < 1000 then some (.non, putAt ρ1 i (ds ++ [d])) else none
      | none => none
    | none => none
  | none => none
section
variable {X : Cx} {G : Bg}
theorem rel_lsAt {F : Fr} {σ : St} {ρ : List Sl} {H0 H : Hp} (R : RelE G F σ ρ H0 H) {i : Nat} {ds : List D} (h : lsAt ρ i = some ds) : ∃ a xs, σ[i]? = some (some (.ref a)) ∧ H a = some (.lst xs) ∧ Reps G H0 ds xs ∧
    (∀ ds' xs', Reps G H0 ds' xs' → RelE G F σ (putAt ρ i ds') H0 (upd H a (.lst xs'))) := by
  obtain ⟨s, e1, e2⟩ := lsAt_some h
  obtain ⟨a, xs, e3, e4, e5, e6⟩ := (R.sl i s e1).lst e2
  refine ⟨a, xs, opt_join e3, e4, e6, fun ds' xs' r => ?_⟩
  unfold putAt
  rw [e1]
  exact R.mutL e1 e2 e3 r
theorem pf_append {e : Expr} {i : Nat} {f : FE} (h : PE X e (tBM G.K "list" rAppend (tVar i) (tFA G (aCons f aNil)))) : PE X e (tF G (cApp i f)) := PE.weak h fun σ H Q hh => by
  obtain ⟨F, ρ, H0, d, ρ', R, e, k⟩ := hh
  unfold cApp at e
  cases e0 : lsAt ρ i with
  | none => simp only [e0] at e; cases e
  | some ds0 =>
    simp only [e0] at e
    rcases fe_cases (f := f) (ρ := ρ) with e1 | ⟨x, ρ1, e1⟩ <;> simp only [e1] at e
    · cases e
    · cases e2 : lsAt ρ1 i with
      | none => simp only [e2] at e; cases e
      | some ds =>
        simp only [e2] at e
        split at e
        · rename_i hl
          cases e
          obtain ⟨a, xs, s1, s2, s3, _⟩ := rel_lsAt R e0
          refine ⟨.ref a, s1, .inl ⟨rfl, xs, SqL.of s2⟩, F, ρ, H0, [x], ρ1, R, by unfold aCons; rw [e1]; rfl, fun ys H1 H1' s R' rs => ?_⟩
          unfold Reps at rs
          obtain ⟨v, r0, rfl, rv, rn⟩ := rs
          unfold Reps at rn
          subst rn
          obtain ⟨a', xs', t1, t2, t3, t4⟩ := rel_lsAt R' e2
          rw [s1] at t1
          cases t1
          exact ⟨a, xs', v, rfl, rfl, t2, by rw [← reps_len t3]; exact small1000 (by omega), k _ _ _ s (t4 _ _ (reps_app t3 (reps_cons rv reps_nil))) rep_non⟩
        · cases e
/-- xs.extend(new list) -/
def cExt (i : Nat) (f : FA) : FE := fun ρ => match lsAt ρ i with
  | some _ => match f ρ with
    | some (es, ρ1) => match lsAt ρ1 i with
      | some ds => if ds.length + es.length ≤ 1000 then some (.non, putAt ρ1 i (ds ++ es)) else none
      | none => none
    | none => none
  | none => none
theorem pf_extend {e : Expr} {i : Nat} {f : FA} (h : PE X e (tBM G.K "list" rExtend (tVar i) (tCons (tFN G f) tNil))) : PE X e (tF G (cExt i f)) := PE.weak h fun σ H Q hh => by
  obtain ⟨F, ρ, H0, d, ρ', R, e, k⟩ := hh
  unfold cExt at e
  cases e0 : lsAt ρ i with
  | none => simp only [e0] at e; cases e
  | some ds0 =>
    simp only [e0] at e
    rcases fe_cases (f := f) (ρ := ρ) with e1 | ⟨x, ρ1, e1⟩ <;> simp only [e1] at e
    · cases e
    · cases e2 : lsAt ρ1 i with
      | none => simp only [e2] at e; cases e
      | some ds =>
        simp only [e2] at e
        split at e
        · rename_i hl
          cases e
          obtain ⟨a, xs, s1, s2, s3, _⟩ := rel_lsAt R e0
          refine ⟨.ref a, s1, .inl ⟨rfl, xs, SqL.of s2⟩, F, ρ, H0, x, ρ1, R, e1, fun p ys H1 H1' s R' hp h0 hb ap rs => ?_⟩
          obtain ⟨a', xs', t1, t2, t3, t4⟩ := rel_lsAt R' e2
          rw [s1] at t1
          cases t1
          refine ⟨a, p, xs', ys, rfl, rfl, t2, hp, ?_, k _ _ _ s (t4 _ _ (reps_app t3 rs)) rep_non⟩
          rw [← reps_len t3, ← reps_len rs]
          exact small_line hl
        · cases e
/-- xs.clear() -/
def cClr (i : Nat) : FE := fun ρ => match lsAt ρ i with
  | some _ => some (.non, putAt ρ i [])
  | none => none
theorem pf_clear {e : Expr} {i : Nat} (h : PE X e (tBM0 G.K "list" rClear (tVar i))) : PE X e (tF G (cClr i)) := PE.weak h fun σ H Q hh => by
  obtain ⟨F, ρ, H0, d, ρ', R, e, k⟩ := hh
  unfold cClr at e
  cases e0 : lsAt ρ i with
  | none => simp only [e0] at e; cases e
  | some ds0 =>
    simp only [e0] at e
    cases e
    obtain ⟨a, xs, s1, s2, s3, s4⟩ := rel_lsAt R e0
    exact ⟨.ref a, s1, .inl ⟨rfl, xs, SqL.of s2⟩, a, xs, rfl, rfl, s2, k _ _ _ (Same.refl _) (s4 _ _ reps_nil) rep_non⟩
/-- xs.pop(0) -/
def cPop0 (i : Nat) : FE := fun ρ => match lsAt ρ i with
  | some (d :: ds) => some (d, putAt ρ i ds)
  | _ => none
/-- len(xs), xs[e] of an own list -/
def cLenS (i : Nat) : FE := fun ρ => match lsAt ρ i with
  | some ds => some (.int ds.length, ρ)
  | none => none
theorem atI_reps {H0 : Hp} {ds : List D} {xs : List V} {i : Int} {d : D} (r : Reps G H0 ds xs) (h : atI ds i = some d) : ∃ v, atI xs i = some v ∧ Rep G H0 d v := by
  unfold atI at h ⊢
  rw [← reps_len r]
  cases e : ixN ds.length i with
  | none => rw [e] at h; cases h
  | some j =>
    rw [e] at h
    exact reps_get r h
def cIxS (i : Nat) (f : FE) : FE := fun ρ => match lsAt ρ i with
  | some _ => match f ρ with
    | some (.int j, ρ1) => match lsAt ρ1 i with
      | some ds => match atI ds j with
        | some d => some (d, ρ1)
        | none => none
      | none => none
    | _ => none
  | none => none
/-- an own list is let be read for good -/
def cFz (i : Nat) : FE := fun ρ => match ρ[i]? with
  | some (.ls ds) => some (.lst ds, ρ.set i (.im (.lst ds)))
  | some (.dk ks ds) => some (.dic ks ds, ρ.set i (.im (.dic ks ds)))
  | some (.im d) => some (d, ρ)
  | _ => none
theorem RelE.toIm {F : Fr} {σ : St} {ρ : List Sl} {H0 H : Hp} (R : RelE G F σ ρ H0 H) {i : Nat} {s : Sl} {p : Addr} {o : HO} {d : D} (hi : ρ[i]? = some s) (hs : (σ[i]?).join = some (.ref p)) (so : s.own = true) (hp : H p = some o) (h0 : H0 p = none) (hb : F.B p = none) (r : Rep G (upd H0 p o) d (.ref p)) :
    RelE G F σ (ρ.set i (.im d)) (upd H0 p o) H where
  sub := fun b u e => by
    by_cases hb : b = p
    · subst hb; rw [upd_same] at e; cases e; exact hp
    · rw [upd_ne hb] at e; exact R.sub _ _ e
  g0 := R.g0.trans (same_new h0 o)
  keep := R.keep
  fr := fun b u e => by
    by_cases hb' : b = p
    · subst hb'; exact .inr hb
    · rw [upd_ne hb'] at e; exact R.fr _ _ e
  am := R.am
  len := by rw [List.length_set]; exact R.len
  sl := fun j t e => by
    rw [List.getElem?_set] at e
    by_cases h : i = j
    · subst h
      rw [if_pos rfl] at e
      split at e
      · cases e; exact ⟨_, hs, r⟩
      · cases e
    · rw [if_neg h] at e
      refine (R.sl j t e).grow (same_new h0 o) (fun a u _ _ q => q) fun a u z to q q0 => ?_
      rw [upd_ne (fun y => by subst y; exact R.ap j i t s a (fun y => h y.symm) e hi to so z hs)]
      exact q0
  ap := fun j k t u b hjk ej ek tj tk vj vk => by
    have gen : ∀ {m : Nat} {x : Sl}, (ρ.set i (.im d))[m]? = some x → x.own = true → ρ[m]? = some x := fun {m x} e xo => by
      rw [List.getElem?_set] at e
      by_cases h : i = m
      · subst h
        rw [if_pos rfl] at e
        split at e
        · cases e; cases xo
        · cases e
      · rw [if_neg h] at e; exact e
    exact R.ap j k t u b hjk (gen ej tj) (gen ek tk) tj tk vj vk
theorem pf_fz {e : Expr} {i : Nat} (h : PE X e (tVar i)) : PE X e (tF G (cFz i)) := PE.weak h fun σ H Q hh => by
  obtain ⟨F, ρ, H0, d, ρ', R, e, k⟩ := hh
  unfold cFz at e
  split at e
  · rename_i ds e0
    cases e
    obtain ⟨a, xs, h1, h2, h3, h4, h5⟩ := R.sl i _ e0
    have rr : Rep G (upd H0 a (.lst xs)) (.lst ds) (.ref a) := rep_lst upd_same (Reps.mono (same_new h3 _) _ _ h5)
    exact ⟨_, opt_join h1, k _ _ _ (same_new h3 _) (R.toIm e0 h1 rfl h2 h3 h4 rr) rr⟩
  · rename_i ks ds e0
    cases e
    obtain ⟨a, xs, h1, h2, h3, h4, h5, h6⟩ := R.sl i _ e0
    have rr : Rep G (upd H0 a (.dK (ks.zip xs))) (.dic ks ds) (.ref a) := by unfold Rep; exact ⟨a, xs, rfl, upd_same, h5, Reps.mono (same_new h3 _) _ _ h6⟩
    exact ⟨_, opt_join h1, k _ _ _ (same_new h3 _) (R.toIm e0 h1 rfl h2 h3 h4 rr) rr⟩
  · rename_i d' e0
    cases e
    obtain ⟨v, e2, e3⟩ := R.sl i _ e0
    exact ⟨v, opt_join e2, k _ _ _ (Same.refl _) R e3⟩
  · cases e
/-- an own list is given back -/
def cOwn (i : Nat) : FA := fun ρ => match ρ[i]? with
  | some (.ls ds) => some (ds, ρ.set i .un)
  | _ => none
theorem pfn_own {e : Expr} {i : Nat} (h : PE X e (tVar i)) : PE X e (tFN G (cOwn i)) := PE.weak h fun σ H Q hh => by
  obtain ⟨F, ρ, H0, d, ρ', R, e, k⟩ := hh
  unfold cOwn at e
  split at e
  · rename_i ds e0
    cases e
    obtain ⟨a, xs, h1, h2, h3, h4, h5⟩ := R.sl i _ e0
    have gen : ∀ {m : Nat} {x : Sl}, (ρ.set i .un)[m]? = some x → x.own = true → m ≠ i ∧ ρ[m]? = some x := fun {m x} e xo => by
      rw [List.getElem?_set] at e
      by_cases h : i = m
      · subst h
        rw [if_pos rfl] at e
        split at e
        · cases e; cases xo
        · cases e
      · rw [if_neg h] at e; exact ⟨fun z => h z.symm, e⟩
    have R' : RelE G F σ (ρ.set i .un) H0 H := {
      sub := R.sub, g0 := R.g0, keep := R.keep, fr := R.fr, am := R.am
      len := by rw [List.length_set]; exact R.len
      sl := fun j t e => by
        rw [List.getElem?_set] at e
        by_cases h : i = j
        · subst h
          rw [if_pos rfl] at e
          split at e
          · cases e; trivial
          · cases e
        · rw [if_neg h] at e; exact R.sl j t e
      ap := fun j k t u b hjk ej ek tj tk vj vk => R.ap j k t u b hjk (gen ej tj).2 (gen ek tk).2 tj tk vj vk }
    refine ⟨_, opt_join h1, k a xs _ _ (Same.refl _) R' h2 h3 h4 (fun j t ej to z => ?_) h5⟩
    obtain ⟨nj, ej'⟩ := gen ej to
    exact R.ap j i t _ a nj ej' e0 to rfl z h1
  · cases e
end
end L4

set_option Elab.async false
set_option linter.all false
set_option maxRecDepth 100000
set_option maxHeartbeats 4000000
namespace L4
open PySem PySem.Spec PyProof.Rows L2 L3

/-! ### defs that change a list that was handed in (the first parameter) -/
def spM (G : Bg) (g : List D → List D → Option (D × List D)) : Sp := fun vs H Q _ => ∃ (a : Addr) (us xs : List V) (H0 : Hp) (es ds : List D) (d : D) (es' : List D), vs = .ref a :: us ∧ H a = some (.lst xs) ∧ H0 a = none ∧ Same H0 H ∧ Reps G H0 es xs ∧ Reps G H0 ds us ∧ g es ds = some (d, es') ∧
  ∀ v xs' H0' H', Same H0 H0' → Same H0' H' → (∀ b o, H b = some o → b ≠ a → H' b = some o) → (∀ b o, H0' b = some o → H0 b = some o ∨ H b = none) → H0' a = none → H' a = some (.lst xs') → Reps G H0' es' xs' → Rep G H0' d v → Q v H'
def stM (n : Nat) (es ds : List D) : List Sl := .pm es :: stE (n - 1) ds
def pmAt0 (ρ : List Sl) : Option (List D) := match ρ with
  | .pm es :: _ => some es
  | _ => none
def fnM (np n : Nat) (f : FS) : List D → List D → Option (D × List D) := fun es ds => if ds.length = np then match f (stM n es ds) with
  | some (.rt d ρ) => match pmAt0 ρ with
    | some es' => some (d, es')
    | none => none
  | some (.rn xs ρ) => match pmAt0 ρ with
    | some es' => some (.lst xs, es')
    | none => none
  | _ => none
  else none
theorem pmAt0_some {ρ : List Sl} {es : List D} (h : pmAt0 ρ = some es) : ρ[0]? = some (.pm es) := by
  unfold pmAt0 at h
  split at h
  · cases h; rfl
  · cases h
theorem fnM_some {np n : Nat} {f : FS} {es ds es' : List D} {d : D} (h : fnM np n f es ds = some (d, es')) : ds.length = np ∧ ((∃ ρ, f (stM n es ds) = some (.rt d ρ) ∧ ρ[0]? = some (.pm es')) ∨ ∃ xs ρ, f (stM n es ds) = some (.rn xs ρ) ∧ ρ[0]? = some (.pm es') ∧ d = .lst xs) := by
  unfold fnM at h
  split at h
  · rename_i hl
    refine ⟨hl, ?_⟩
    split at h
    · rename_i x ρ e
      cases e2 : pmAt0 ρ with
      | none => simp only [e2] at h; cases h
      | some q => simp only [e2] at h; cases h; exact .inl ⟨ρ, e, pmAt0_some e2⟩
    · rename_i x ρ e
      cases e2 : pmAt0 ρ with
      | none => simp only [e2] at h; cases h
      | some q => simp only [e2] at h; cases h; exact .inr ⟨x, ρ, e, pmAt0_some e2, rfl⟩
    · cases h
  · cases h
section
variable {X : Cx} {G : Bg}
theorem entry_M {np : Nat} {N : List Str} {f : FS} {vs : List V} {H : Hp} {Q : VK} {E : XK} (hN : np + 1 ≤ N.length) (h : spM G (fnM np N.length f) vs H Q E) : tFS G f { nx := fun _ H' => Q .non H', rt := Q } (L2.start N vs) H := by
  obtain ⟨a, us, xs, H0, es, ds, d, es', rfl, ha, h0, s, r1, r, e, k⟩ := h
  obtain ⟨hl, e1⟩ := fnM_some e
  have hul : us.length = np := by rw [← reps_len r]; exact hl
  have gets : ∀ {i : Nat} {t : Sl}, (stM N.length es ds)[i]? = some t → (i = 0 ∧ t = .pm es) ∨ t = .un ∨ ∃ (j : Nat) (d : D), i = j + 1 ∧ ds[j]? = some d ∧ t = .im d := fun {i t} e => by
    cases i with
    | zero => cases e; exact .inl ⟨rfl, rfl⟩
    | succ j =>
      have e' : (stE (N.length - 1) ds)[j]? = some t := e
      rcases stE_get e' with rfl | ⟨d, e1, rfl⟩
      · exact .inr (.inl rfl)
      · exact .inr (.inr ⟨j, d, rfl, e1, rfl⟩)
  have R : RelE G ⟨H0, H, [a]⟩ (L2.start N (.ref a :: us)) (stM N.length es ds) H0 H := {
    sub := s
    g0 := Same.refl _
    keep := fun b o e _ => e
    fr := fun b o e => .inl e
    am := fun b hb => by
      have eb : b = a := by simpa using hb
      subst eb
      exact ⟨_, ha⟩
    len := by
      unfold L2.start stM stE
      simp only [List.length_append, List.length_map, List.length_replicate, List.length_cons]
      have := reps_len r
      omega
    sl := fun i t e => by
      rcases gets e with ⟨rfl, rfl⟩ | rfl | ⟨j, d, rfl, e1, rfl⟩
      · exact ⟨a, xs, start_get rfl, ha, h0, by simp, r1⟩
      · trivial
      · obtain ⟨v, e2, e3⟩ := reps_get r e1
        exact ⟨v, start_get (by simpa using e2), e3⟩
    ap := fun i j t u b hij ei ej ht hu => by
      rcases gets ei with ⟨rfl, rfl⟩ | rfl | ⟨_, _, _, _, rfl⟩
      · rcases gets ej with ⟨rfl, rfl⟩ | rfl | ⟨_, _, _, _, rfl⟩
        · exact absurd rfl hij
        · cases hu
        · cases hu
      · cases ht
      · cases ht }
  have fin : ∀ {v : V} {σ' : St} {ρ' : List Sl} {H0' H' : Hp}, Same H0 H0' → RelE G ⟨H0, H, [a]⟩ σ' ρ' H0' H' → ρ'[0]? = some (.pm es') → Rep G H0' d v → Q v H' := fun s' R' e2 rv => by
    obtain ⟨a', ys, q1, q2, q3, q4, q5⟩ := R'.sl 0 _ e2
    have ea : a' = a := by simpa using q4
    subst ea
    exact k _ ys _ _ s' R'.sub (fun b o e n => R'.keep b o e (by simpa using n)) R'.fr q3 q2 q5 rv
  rcases e1 with ⟨ρ, e1, e2⟩ | ⟨zs, ρ, e1, e2, rfl⟩
  · exact ⟨_, _, H0, _, R, e1, fun v σ' H0' H' s' R' rv => fin s' R' e2 rv, fun _ => rfl⟩
  · refine ⟨_, _, H0, _, R, e1, fun p ys σ' H0' H' s' R' hp hp0 hb ap rs => ?_, fun _ => rfl⟩
    exact fin (s'.trans (same_new hp0 _)) (R'.freeze hp hp0 hb ap) e2 (rep_lst upd_same (Reps.mono (same_new hp0 _) _ _ rs))
theorem len_M {g : List D → List D → Option (D × List D)} {np : Nat} (hg : ∀ es ds d, g es ds = some d → ds.length = np) : ∀ vs H Q E, spM G g vs H Q E → vs.length = np + 1 := fun vs H Q E h => by
  obtain ⟨a, us, xs, H0, es, ds, d, es', rfl, _, _, _, _, r, e, _⟩ := h
  rw [List.length_cons, ← reps_len r, hg _ _ _ e]
theorem fnM_len {np n : Nat} {f : FS} : ∀ es ds d, fnM np n f es ds = some d → ds.length = np := fun _ _ d h => (fnM_some (d := d.1) (es' := d.2) h).1
/-- behind a call that changed the list of slot i -/
theorem RelE.call1 {F : Fr} {σ : St} {ρ : List Sl} {H0 H H0' H' : Hp} (R : RelE G F σ ρ H0 H) {i : Nat} {s : Sl} {es es' : List D} {b : Addr} {zs : List V} (hi : ρ[i]? = some s) (hs : s.L = some es) (hb : (σ[i]?).join = some (.ref b))
    (s1 : Same H0 H0') (s2 : Same H0' H') (s3 : ∀ c o, H c = some o → c ≠ b → H' c = some o) (fr : ∀ c o, H0' c = some o → H0 c = some o ∨ H c = none) (h0 : H0' b = none) (hz : H' b = some (.lst zs)) (r : Reps G H0' es' zs) :
    RelE G F σ (ρ.set i (s.putL es')) H0' H' := by
  have so := Sl.L_own hs
  obtain ⟨b', u, e1, e2, e3, e4⟩ := (R.sl i s hi).at so
  rw [hb] at e1
  cases e1
  exact {
    sub := s2
    g0 := R.g0.trans s1
    keep := fun c o e n => by
      refine s3 c o (R.keep c o e n) fun z => ?_
      subst z
      rcases e4 with q | q
      · rw [q] at e; cases e
      · exact n q
    fr := fun c o e => by
      rcases fr c o e with q | q
      · exact R.fr c o q
      · exact .inr (R.bNone q)
    am := fun c hc => by
      by_cases z : c = b
      · subst z; exact ⟨_, hz⟩
      · obtain ⟨o, q⟩ := R.am c hc; exact ⟨o, s3 c o q z⟩
    len := by rw [List.length_set]; exact R.len
    sl := fun j t e => by
      rw [List.getElem?_set] at e
      by_cases h : i = j
      · subst h
        rw [if_pos rfl] at e
        split at e
        · cases e
          rw [hb]
          have ok := R.sl i s hi
          rw [hb] at ok
          cases s with
          | ls ds0 => obtain ⟨c, xs, h1, h2, h3, h4, h5⟩ := ok; cases h1; exact ⟨b, zs, rfl, hz, h0, h4, r⟩
          | pm ds0 => obtain ⟨c, xs, h1, h2, h3, h4, h5⟩ := ok; cases h1; exact ⟨b, zs, rfl, hz, h0, h4, r⟩
          | _ => cases hs
        · cases e
      · rw [if_neg h] at e
        refine (R.sl j t e).grow s1 (fun c w z to q => s3 c w q fun y => ?_) fun c w z to q q0 => ?_
        · subst y; exact R.ap j i t s c (fun y => h y.symm) e hi to so z hb
        · cases y : H0' c with
          | none => rfl
          | some o =>
            rcases fr c o y with x | x
            · rw [x] at q0; cases q0
            · rw [x] at q; cases q
    ap := fun j k t u c hjk ej ek tj tk vj vk => by
      have gen : ∀ {m : Nat} {x : Sl}, (ρ.set i (s.putL es'))[m]? = some x → ∃ y, ρ[m]? = some y ∧ (x.own = true → y.own = true) := fun {m x} e => by
        rw [List.getElem?_set] at e
        by_cases h : i = m
        · subst h; exact ⟨s, hi, fun _ => so⟩
        · rw [if_neg h] at e; exact ⟨x, e, fun q => q⟩
      obtain ⟨y, ey, oy⟩ := gen ej
      obtain ⟨z, ez, oz⟩ := gen ek
      exact R.ap j k y z c hjk ey ez (oy tj) (oz tk) vj vk }
def cMut (g : List D → List D → Option (D × List D)) (i : Nat) (a : FA) : FE := fun ρ => match lsAt ρ i with
  | some _ => match a ρ with
    | some (ds, ρ1) => match lsAt ρ1 i with
      | some es => match g es ds with
        | some (d, es') => some (d, putAt ρ1 i es')
        | none => none
      | none => none
    | none => none
  | none => none
theorem pf_mut {e : Expr} {g : List D → List D → Option (D × List D)} {i : Nat} {a : FA} {E : XK} (h : PE X e (tCall (spM G g) [] E (tCons (tVar i) (tFA G a)))) : PE X e (tF G (cMut g i a)) := PE.weak h fun σ H Q hh => by
  obtain ⟨F, ρ, H0, d, ρ', R, e, k⟩ := hh
  unfold cMut at e
  cases e0 : lsAt ρ i with
  | none => simp only [e0] at e; cases e
  | some ds0 =>
    simp only [e0] at e
    rcases fe_cases (f := a) (ρ := ρ) with e1 | ⟨ds, ρ1, e1⟩ <;> simp only [e1] at e
    · cases e
    · cases e2 : lsAt ρ1 i with
      | none => simp only [e2] at e; cases e
      | some es =>
        simp only [e2] at e
        cases e3 : g es ds with
        | none => simp only [e3] at e; cases e
        | some q =>
          obtain ⟨d1, es'⟩ := q
          simp only [e3] at e
          cases e
          obtain ⟨b, xs, s1, s2, s3, _⟩ := rel_lsAt R e0
          refine ⟨.ref b, s1, F, ρ, H0, ds, ρ1, R, e1, fun ys H1 H1' s R' rs => ?_⟩
          obtain ⟨s, es0, es1⟩ := lsAt_some e2
          obtain ⟨b', xs', t1, t2, t3, t4⟩ := (R'.sl i s es0).lst es1
          rw [opt_join t1] at s1
          cases s1
          refine ⟨b, ys, xs', H1, es, ds, d, es', ?_, t2, t3, R'.sub, t4, rs, e3, fun v zs H2 H2' u1 u2 u3 fr w0 w1 w2 w3 => ?_⟩
          · show V.ref b :: ys ++ [] = _
            rw [List.append_nil]
          · refine k _ _ _ (Same.trans ‹Same H0 H1› u1) ?_ w3
            unfold putAt
            rw [es0]
            exact R'.call1 es0 es1 t1 u1 u2 u3 fr w0 w1 w2

/-! ### what loops walk -/
def Walk (G : Bg) (J : It) (ds : List D) (H0 : Hp) : Prop := ∀ (i : Nat) (H1 H1' : Hp), Same H0 H1 → Same H1 H1' →
  (∀ d, ds[i]? = some d → J.go i H1' ∧ ∀ x H2', J.yld i H1' x H2' → ∃ H2, Same H1 H2 ∧ Same H2 H2' ∧ Same H1' H2' ∧ (∀ b o, H2 b = some o → H1 b = some o ∨ H1' b = none) ∧ Rep G H2 d x) ∧ (i = ds.length → J.stop i H1')
def tFI (G : Bg) (f : FA) : TI := fun σ H R => ∃ F ρ H0 ds ρ', RelE G F σ ρ H0 H ∧ f ρ = some (ds, ρ') ∧ ∀ J H0' H', Same H0 H0' → RelE G F σ ρ' H0' H' → Walk G J ds H0' → R J H'
theorem PI.weak {tg e : Expr} {t t' : TI} (h : PI X tg e t) (w : ∀ σ H R, t' σ H R → t σ H R) : PI X tg e t' := fun pins s σ H R I hq => h pins s σ H R I (w _ _ _ hq)
theorem walk_list' {a : Addr} {xs : List V} {ds : List D} {H0 : Hp} (h : SqL G.K H0 a xs) (r : Reps G H0 ds xs) : Walk G (Itl G.K a) ds H0 := fun i H1 H1' s s' => by
  have h1 : SqL G.K H1' a xs := (s.trans s').seq h
  refine ⟨fun d e => ?_, fun hl => ⟨xs, h1, by rw [← reps_len r, hl]; exact Nat.le_refl _⟩⟩
  obtain ⟨v, e1, e2⟩ := reps_get r e
  refine ⟨⟨xs, v, h1, e1⟩, fun x H2' y => ?_⟩
  obtain ⟨e3, e4⟩ := y
  have e5 := e4 xs h1
  rw [e1] at e5
  cases e5
  subst e3
  exact ⟨H1, Same.refl _, s', Same.refl _, fun b o e => .inl e, Rep.mono s _ _ e2⟩
theorem walk_tup {a : Addr} {xs : List V} {ds : List D} {H0 : Hp} (h : SqT G.K H0 a xs) (r : Reps G H0 ds xs) : Walk G (Itt G.K a) ds H0 := fun i H1 H1' s s' => by
  have h1 : SqT G.K H1' a xs := SqT.mono (s.trans s') h
  refine ⟨fun d e => ?_, fun hl => ⟨xs, h1, by rw [← reps_len r, hl]; exact Nat.le_refl _⟩⟩
  obtain ⟨v, e1, e2⟩ := reps_get r e
  refine ⟨⟨xs, v, h1, e1⟩, fun x H2' y => ?_⟩
  obtain ⟨e3, e4⟩ := y
  have e5 := e4 xs h1
  rw [e1] at e5
  cases e5
  subst e3
  exact ⟨H1, Same.refl _, s', Same.refl _, fun b o e => .inl e, Rep.mono s _ _ e2⟩
/-- a list's items, a tuple's -/
def iL (f : FE) : FA := fun ρ => match f ρ with
  | some (.lst ds, ρ') => some (ds, ρ')
  | some (.fzl ds, ρ') => some (ds, ρ')
  | _ => none
def iT (f : FE) : FA := fun ρ => match f ρ with
  | some (.tup ds, ρ') => some (ds, ρ')
  | _ => none
theorem pfi_list {tg e : Expr} {f : FE} (h : PI X tg e (iList G.K (tF G f))) : PI X tg e (tFI G (iL f)) := PI.weak h fun σ H R hh => by
  obtain ⟨F, ρ, H0, ds, ρ', R, e, k⟩ := hh
  unfold iL at e
  split at e
  · rename_i ds' ρ1 e1
    cases e
    refine ⟨F, ρ, H0, _, _, R, e1, fun v H1 H1' s R' r => ?_⟩
    unfold Rep at r
    obtain ⟨a, xs, rfl, r1, r2⟩ := r
    exact ⟨a, rfl, ⟨xs, R'.sub.seq (SqL.of r1)⟩, k _ _ _ s R' (walk_list' (SqL.of r1) r2)⟩
  · rename_i ds' ρ1 e1
    cases e
    refine ⟨F, ρ, H0, _, _, R, e1, fun v H1 H1' s R' r => ?_⟩
    unfold Rep at r
    obtain ⟨a, xs, rfl, r1, r2⟩ := r
    exact ⟨a, rfl, ⟨xs, R'.sub.seq r1⟩, k _ _ _ s R' (walk_list' r1 r2)⟩
  · cases e
theorem pfi_tup {tg e : Expr} {f : FE} (h : PI X tg e (iTup G.K (tF G f))) : PI X tg e (tFI G (iT f)) := PI.weak h fun σ H R hh => by
  obtain ⟨F, ρ, H0, ds, ρ', R, e, k⟩ := hh
  unfold iT at e
  split at e
  · rename_i ds' ρ1 e1
    cases e
    refine ⟨F, ρ, H0, _, _, R, e1, fun v H1 H1' s R' r => ?_⟩
    unfold Rep at r
    obtain ⟨a, xs, rfl, r1, r2⟩ := r
    exact ⟨a, rfl, ⟨xs, SqT.mono R'.sub r1⟩, k _ _ _ s R' (walk_tup r1 r2)⟩
  · cases e
def rngD (lo : Int) (n : Nat) : List D := (List.range n).map fun (i : Nat) => D.int (lo + (i : Int))
theorem walk_rng {lo : Int} {n : Nat} {H0 : Hp} : Walk G (Itr lo n) (rngD lo n) H0 := fun i H1 H1' s s' => by
  refine ⟨fun d e => ?_, fun hl => by show n ≤ i; rw [hl]; simp [rngD]⟩
  unfold rngD at e
  rw [List.getElem?_map] at e
  by_cases hi : i < n
  · rw [List.getElem?_range hi] at e
    cases e
    refine ⟨hi, fun x H2' y => ?_⟩
    obtain ⟨e3, rfl⟩ := y
    subst e3
    exact ⟨H1, Same.refl _, s', Same.refl _, fun b o e => .inl e, rep_int _⟩
  · rw [List.getElem?_eq_none (by simpa using hi)] at e
    cases e
def iR1 (f : FE) : FA := fun ρ => match f ρ with
  | some (.int n, ρ') => if -1000000 ≤ n ∧ n ≤ 1000000 then some (rngD 0 n.toNat, ρ') else none
  | _ => none
theorem pfi_range1 {tg e : Expr} {f : FE} (h : PI X tg e (iRng1 (tFA G (aCons f aNil)))) : PI X tg e (tFI G (iR1 f)) := PI.weak h fun σ H R hh => by
  obtain ⟨F, ρ, H0, ds, ρ', R, e, k⟩ := hh
  unfold iR1 at e
  split at e
  · rename_i n ρ1 e1
    split at e
    · rename_i hn
      cases e
      refine ⟨F, ρ, H0, [.int n], _, R, by unfold aCons; rw [e1]; rfl, fun xs H1 H1' s R' rs => ?_⟩
      unfold Reps at rs
      obtain ⟨v, r0, rfl, rv, rn⟩ := rs
      unfold Reps at rn
      unfold Rep at rv
      subst rn rv
      exact ⟨n, rfl, by omega, by omega, k _ _ _ s R' walk_rng⟩
    · cases e
  · cases e

/-! ### for -/
def forL (g : FG) (b : FS) : List D → FS
  | [], ρ => some (.nx ρ)
  | d :: r, ρ => match g d ρ with
    | none => none
    | some ρ1 => match b ρ1 with
      | some (.nx ρ2) => forL g b r ρ2
      | some (.ct ρ2) => forL g b r ρ2
      | some (.bk ρ2) => some (.nx ρ2)
      | some (.rt d ρ2) => some (.rt d ρ2)
      | some (.rn d ρ2) => some (.rn d ρ2)
      | none => none
def sFor (s : FA) (g : FG) (b : FS) : FS := fun ρ => match s ρ with
  | some (ds, ρ') => forL g b ds ρ'
  | none => none
theorem pfs_for {st : Stmt} {n : Nat} {s : FA} {g : FG} {b : FS} (h : PS X st (tFor (tFI G s) (tFG G n g) (tFS G b))) : PS X st (tFS G (sFor s g b)) := PS.weak h fun E σ H hh => by
  obtain ⟨F, ρ, H0, o, R, e, k, k2⟩ := hh
  unfold sFor at e
  rcases fe_cases (f := s) (ρ := ρ) with e1 | ⟨ds, ρ1, e1⟩ <;> simp only [e1] at e
  · cases e
  · refine ⟨F, ρ, H0, ds, ρ1, R, e1, fun J H1 H1' s1 R1 wk => ?_⟩
    refine ⟨fun i m σ H => m = ds.length - i ∧ i ≤ ds.length ∧ ∃ ρi Hi, Same H1 Hi ∧ RelE G F σ ρi Hi H ∧ forL g b (ds.drop i) ρi = some o, ⟨_, rfl, Nat.zero_le _, ρ1, H1, Same.refl _, R1, e⟩, ?_⟩
    rintro i m σi Hi' ⟨rfl, hi, ρi, Hi, si, Ri, ei⟩
    by_cases hlt : i < ds.length
    · have ed : ds.drop i = ds[i] :: ds.drop (i + 1) := List.drop_eq_getElem_cons hlt
      rw [ed] at ei
      unfold forL at ei
      obtain ⟨go, yl⟩ := (wk i Hi Hi' si Ri.sub).1 ds[i] (List.getElem?_eq_getElem hlt)
      refine .inr ⟨go, fun σ' H' => ∃ ρi Hi, Same H1 Hi ∧ RelE G F σ' ρi Hi H' ∧ forL g b (ds.drop (i + 1)) ρi = some o, fun σ' H' q => ⟨ds.length - (i + 1), by omega, rfl, hlt, q⟩, fun x H' y => ?_⟩
      obtain ⟨H2, t1, t2, t3, t4, t5⟩ := yl x H' y
      have R2 := Ri.grow t3 t1 t2 t4
      cases e2 : g ds[i] ρi with
      | none => simp only [e2] at ei; cases ei
      | some ρ2 =>
        simp only [e2] at ei
        refine ⟨F, ρi, H2, _, ρ2, R2, t5, e2, fun σ3 _ R3 => ?_⟩
        have kk := k.back (s1.trans (si.trans t1))
        cases e3 : b ρ2 with
        | none => simp only [e3] at ei; cases ei
        | some q =>
          refine ⟨F, ρ2, H2, q, R3, e3, ?_, fun _ => rfl⟩
          cases q with
          | nx ρ3 => simp only [e3] at ei; exact fun σ' H0' H' s' R' => ⟨ρ3, H0', si.trans (t1.trans s'), R', ei⟩
          | ct ρ3 => simp only [e3] at ei; exact fun σ' H0' H' s' R' => ⟨ρ3, H0', si.trans (t1.trans s'), R', ei⟩
          | bk ρ3 => simp only [e3] at ei; cases ei; exact kk
          | rt d ρ3 => simp only [e3] at ei; cases ei; exact kk
          | rn d ρ3 => simp only [e3] at ei; cases ei; exact kk
    · have ez : ds.drop i = [] := List.drop_eq_nil_of_le (by omega)
      rw [ez] at ei
      unfold forL at ei
      cases ei
      exact .inl ⟨(wk i Hi Hi' si Ri.sub).2 (by omega), k _ _ _ (s1.trans si) Ri⟩
/-! ### while -/
def whL (c : FT) (b : FS) : Nat → FS
  | 0, _ => none
  | n + 1, ρ => match c ρ with
    | some (false, ρ1) => some (.nx ρ1)
    | some (true, ρ1) => match b ρ1 with
      | some (.nx ρ2) => whL c b n ρ2
      | some (.ct ρ2) => whL c b n ρ2
      | some (.bk ρ2) => some (.nx ρ2)
      | some (.rt d ρ2) => some (.rt d ρ2)
      | some (.rn d ρ2) => some (.rn d ρ2)
      | none => none
    | none => none
end
end L4

set_option Elab.async false
set_option linter.all false
set_option maxRecDepth 100000
set_option maxHeartbeats 4000000
namespace L4
open PySem PySem.Spec PyProof.Rows L2 L3

/-! ### comprehensions -/
/-- a slot as the block takes it: own lists as lists to be changed -/
def Sl.cap : Sl → Sl
  | .im d => .im d
  | .ls ds => .pm ds
  | .pm ds => .pm ds
  | _ => .un
def capR (k : Nat) (cap : List Nat) (ρ : List Sl) : List Sl := List.replicate k .un ++ cap.map fun j => ((ρ[j]?).getD .un).cap
/-- what the block left of them -/
def unCap : List Nat → List Sl → List Sl → Option (List Sl)
  | [], _, ρ => some ρ
  | j :: cap, t :: ts, ρ => match lsAt ρ j with
    | some _ => match t with
      | .pm ds => unCap cap ts (putAt ρ j ds)
      | _ => none
    | none => unCap cap ts ρ
  | _ :: _, [], _ => none
def compL (k : Nat) (cap : List Nat) (g : FG) (ft : FT) (fe : FE) : List D → List Sl → Option (List D × List Sl)
  | [], ρ => some ([], ρ)
  | d :: r, ρ => match g d (capR k cap ρ) with
    | none => none
    | some ρ1 => match ft ρ1 with
      | some (true, ρ2) => match fe ρ2 with
        | some (x, ρ3) => match unCap cap (ρ3.drop k) ρ with
          | some ρ' => match compL k cap g ft fe r ρ' with
            | some (xs, ρ'') => some (x :: xs, ρ'')
            | none => none
          | none => none
        | none => none
      | some (false, ρ2) => match unCap cap (ρ2.drop k) ρ with
        | some ρ' => compL k cap g ft fe r ρ'
        | none => none
      | none => none
def cComp (k : Nat) (cap : List Nat) (s : FA) (g : FG) (ft : FT) (fe : FE) : FA := fun ρ => match s ρ with
  | some (ds, ρ') => if ds.length ≤ 1000 then compL k cap g ft fe ds ρ' else none
  | none => none
/-- without a test -/
def tYes : FT := fun ρ => some (true, ρ)
theorem unCap_spec : ∀ {cap : List Nat} {ts ρ ρ' : List Sl}, unCap cap ts ρ = some ρ' → ρ'.length = ρ.length ∧
    (∀ (j : Nat) (s' : Sl), ρ'[j]? = some s' → ∃ s, ρ[j]? = some s ∧ ((s' = s ∧ (s.L ≠ none → j ∉ cap)) ∨ ∃ (m : Nat) (ds ds0 : List D), cap[m]? = some j ∧ ts[m]? = some (Sl.pm ds) ∧ s.L = some ds0 ∧ s' = s.putL ds))
  | [], ts, ρ, ρ', h => by
    cases h
    exact ⟨rfl, fun j s' e => ⟨s', e, .inl ⟨rfl, fun _ z => by cases z⟩⟩⟩
  | j0 :: cap, [], ρ, ρ', h => by cases h
  | j0 :: cap, t :: ts, ρ, ρ', h => by
    unfold unCap at h
    cases e0 : lsAt ρ j0 with
    | none =>
      simp only [e0] at h
      obtain ⟨h1, h2⟩ := unCap_spec h
      refine ⟨h1, fun j s' e => ?_⟩
      obtain ⟨s, e1, q⟩ := h2 j s' e
      refine ⟨s, e1, ?_⟩
      rcases q with ⟨rfl, q⟩ | ⟨m, ds, ds0, q1, q2, q3, q4⟩
      · refine .inl ⟨rfl, fun z y => ?_⟩
        rcases List.mem_cons.mp y with y | y
        · subst y
          unfold lsAt at e0
          rw [e1] at e0
          exact z e0
        · exact q z y
      · exact .inr ⟨m + 1, ds, ds0, q1, q2, q3, q4⟩
    | some ds1 =>
      simp only [e0] at h
      cases t with
      | pm ds =>
        simp only at h
        obtain ⟨s0, e1, e2⟩ := lsAt_some e0
        unfold putAt at h
        rw [e1] at h
        simp only at h
        obtain ⟨h1, h2⟩ := unCap_spec h
        refine ⟨by rw [h1, List.length_set], fun j s' e => ?_⟩
        obtain ⟨s, e3, q⟩ := h2 j s' e
        by_cases hj : j0 = j
        · subst hj
          rw [List.getElem?_set, if_pos rfl] at e3
          split at e3
          · cases e3
            refine ⟨s0, e1, .inr ?_⟩
            rcases q with ⟨rfl, q⟩ | ⟨m, ds', ds0, q1, q2, q3, q4⟩
            · exact ⟨0, ds, ds1, rfl, rfl, e2, rfl⟩
            · refine ⟨m + 1, ds', ds1, q1, q2, e2, ?_⟩
              rw [q4]
              cases s0 <;> rfl
          · cases e3
        · rw [List.getElem?_set, if_neg hj] at e3
          refine ⟨s, e3, ?_⟩
          rcases q with ⟨rfl, q⟩ | ⟨m, ds', ds0, q1, q2, q3, q4⟩
          · refine .inl ⟨rfl, fun z y => ?_⟩
            rcases List.mem_cons.mp y with y | y
            · exact hj y.symm
            · exact q z y
          · exact .inr ⟨m + 1, ds', ds0, q1, q2, q3, q4⟩
      | _ => cases h
/-- where the lists stand that the block may change -/
def capA (cap : List Nat) (σ : St) (ρ : List Sl) : List Addr := cap.filterMap fun j => match lsAt ρ j, (σ[j]?).join with
  | some _, some (.ref a) => some a
  | _, _ => none
theorem capA_mem {cap : List Nat} {σ : St} {ρ : List Sl} {a : Addr} : a ∈ capA cap σ ρ ↔ ∃ j ∈ cap, (∃ ds, lsAt ρ j = some ds) ∧ (σ[j]?).join = some (.ref a) := by
  unfold capA
  rw [List.mem_filterMap]
  constructor
  · rintro ⟨j, hj, e⟩
    refine ⟨j, hj, ?_⟩
    split at e
    · rename_i ds a' e1 e2; cases e; exact ⟨⟨ds, e1⟩, e2⟩
    · cases e
  · rintro ⟨j, hj, ⟨ds, e1⟩, e2⟩
    refine ⟨j, hj, ?_⟩
    rw [e1, e2]
section
variable {X : Cx} {G : Bg} {F : Fr} {σ : St} {ρ : List Sl} {H0 H : Hp}
theorem capR_get {k : Nat} {cap : List Nat} {i : Nat} {s : Sl} (h : (capR k cap ρ)[i]? = some s) : s = .un ∨ ∃ m j, i = k + m ∧ cap[m]? = some j ∧ s = ((ρ[j]?).getD .un).cap := by
  unfold capR at h
  by_cases hi : i < k
  · rw [List.getElem?_append_left (by simpa using hi), List.getElem?_replicate, if_pos hi] at h
    cases h; exact .inl rfl
  · rw [List.getElem?_append_right (by simpa using Nat.le_of_not_lt hi), List.length_replicate, List.getElem?_map] at h
    cases e : cap[i - k]? with
    | none => rw [e] at h; cases h
    | some j => rw [e] at h; cases h; exact .inr ⟨i - k, j, by omega, e, rfl⟩
theorem capSt_at {k : Nat} {cap : List Nat} {m j : Nat} (h : cap[m]? = some j) : ((capSt k cap σ)[k + m]?).join = (σ[j]?).join := by
  unfold capSt
  rw [List.getElem?_append_right (by simp), List.length_replicate, show k + m - k = m by omega, List.getElem?_map, h]
  rfl
/-- the block's slots at a turn's start -/
theorem RelE.cap (R : RelE G F σ ρ H0 H) (k : Nat) (cap : List Nat) (nd : cap.Nodup) : RelE G ⟨H0, H, capA cap σ ρ⟩ (capSt k cap σ) (capR k cap ρ) H0 H where
  sub := R.sub
  g0 := Same.refl _
  keep := fun b o e _ => e
  fr := fun b o e => .inl e
  am := fun a ha => by
    obtain ⟨j, hj, ⟨ds, e1⟩, e2⟩ := capA_mem.mp ha
    obtain ⟨s, e3, e4⟩ := lsAt_some e1
    obtain ⟨a', xs, h1, h2, _⟩ := (R.sl j s e3).lst e4
    rw [e2] at h1
    cases h1
    exact ⟨_, h2⟩
  len := by
    unfold capSt capR
    rw [List.length_append, List.length_append, List.length_replicate, List.length_replicate, List.length_map, List.length_map]
  sl := fun i s e => by
    rcases capR_get e with rfl | ⟨m, j, rfl, e1, rfl⟩
    · trivial
    · rw [capSt_at e1]
      cases e2 : ρ[j]? with
      | none => trivial
      | some s =>
        have ok := R.sl j s e2
        have mem : ∀ {a : Addr} {ds : List D}, s.L = some ds → (σ[j]?).join = some (.ref a) → a ∈ capA cap σ ρ := fun h1 h2 => capA_mem.mpr ⟨j, List.mem_of_getElem? e1, ⟨_, by unfold lsAt; rw [e2]; exact h1⟩, h2⟩
        cases s with
        | un => trivial
        | im d => exact ok
        | ls ds => obtain ⟨a, xs, h1, h2, h3, h4, h5⟩ := ok; exact ⟨a, xs, h1, h2, h3, mem rfl h1, h5⟩
        | pm ds => obtain ⟨a, xs, h1, h2, h3, h4, h5⟩ := ok; exact ⟨a, xs, h1, h2, h3, mem rfl h1, h5⟩
        | dk ks ds => trivial
        | ob c ns ds => trivial
  ap := fun i i' s t a hii e e' so to v v' => by
    rcases capR_get e with rfl | ⟨m, j, rfl, e1, rfl⟩
    · cases so
    rcases capR_get e' with rfl | ⟨m', j', rfl, e1', rfl⟩
    · cases to
    rw [capSt_at e1] at v
    rw [capSt_at e1'] at v'
    have own : ∀ {j : Nat}, (((ρ[j]?).getD Sl.un).cap).own = true → ∃ s, ρ[j]? = some s ∧ s.own = true := fun {j} h => by
      cases z : ρ[j]? with
      | none => rw [z] at h; cases h
      | some s => rw [z] at h; refine ⟨s, rfl, ?_⟩; cases s <;> first | rfl | cases h
    obtain ⟨s, z, zo⟩ := own so
    obtain ⟨s', z', zo'⟩ := own to
    by_cases hj : j = j'
    · subst hj
      have : m = m' := (List.getElem?_inj (List.getElem?_eq_some_iff.mp e1).1 nd).mp (e1.trans e1'.symm)
      exact hii (by rw [this])
    · exact R.ap j j' s s' a hj z z' zo zo' v v'
/-- behind a turn: the outer slots -/
theorem RelE.uncap (R : RelE G F σ ρ H0 H) {k : Nat} {cap : List Nat} {σ4 : St} {ρ4 ρ' : List Sl} {H1 H1' : Hp} (R4 : RelE G ⟨H0, H, capA cap σ ρ⟩ σ4 ρ4 H1 H1') (hd : σ4.drop k = (capSt k cap σ).drop k) (hu : unCap cap (ρ4.drop k) ρ = some ρ') : RelE G F σ ρ' H1 H1' := by
  obtain ⟨hl, hc⟩ := unCap_spec hu
  have at4 : ∀ {m j : Nat}, cap[m]? = some j → (σ4[k + m]?).join = (σ[j]?).join := fun {m j} e => by
    have q : (σ4.drop k)[m]? = ((capSt k cap σ).drop k)[m]? := by rw [hd]
    rw [List.getElem?_drop, List.getElem?_drop] at q
    rw [q]
    exact capSt_at e
  have nA : ∀ {j : Nat} {s : Sl} {a : Addr}, ρ[j]? = some s → s.own = true → (σ[j]?).join = some (.ref a) → (s.L ≠ none → j ∉ cap) → a ∉ capA cap σ ρ := fun {j s a} e so z hn ha => by
    obtain ⟨i, hi, ⟨ds, e1⟩, e2⟩ := capA_mem.mp ha
    obtain ⟨t, e3, e4⟩ := lsAt_some e1
    by_cases hij : i = j
    · subst hij
      rw [e] at e3
      cases e3
      exact hn (by rw [e4]; simp) hi
    · exact R.ap i j t s a hij e3 e (Sl.L_own e4) so e2 z
  have hA : ∀ a ∈ capA cap σ ρ, F.B a = none ∨ a ∈ F.A := fun a ha => by
    obtain ⟨i, hi, ⟨ds, e1⟩, e2⟩ := capA_mem.mp ha
    obtain ⟨t, e3, e4⟩ := lsAt_some e1
    obtain ⟨a', u, h1, h2, h3, h4⟩ := (R.sl i t e3).at (Sl.L_own e4)
    rw [e2] at h1
    cases h1
    exact h4
  have own' : ∀ {j : Nat} {s' : Sl}, ρ'[j]? = some s' → s'.own = true → ∃ s, ρ[j]? = some s ∧ s.own = true := fun {j s'} e so => by
    obtain ⟨s, e1, q⟩ := hc j s' e
    rcases q with ⟨rfl, q⟩ | ⟨m, ds, ds0, q1, q2, q3, q4⟩
    · exact ⟨s', e1, so⟩
    · exact ⟨s, e1, Sl.L_own q3⟩
  exact {
    sub := R4.sub
    g0 := R.g0.trans R4.g0
    keep := fun b o e n => by
      refine R4.keep b o (R.keep b o e n) fun ha => ?_
      rcases hA b ha with q | q
      · rw [q] at e; cases e
      · exact n q
    fr := fun b o e => by
      rcases R4.fr b o e with q | q
      · exact R.fr b o q
      · exact .inr (R.bNone q)
    am := fun a ha => by
      obtain ⟨o, q⟩ := R.am a ha
      by_cases z : a ∈ capA cap σ ρ
      · exact R4.am a z
      · exact ⟨o, R4.keep a o q z⟩
    len := by rw [hl]; exact R.len
    sl := fun j s' e => by
      obtain ⟨s, e1, q⟩ := hc j s' e
      rcases q with ⟨rfl, q⟩ | ⟨m, ds, ds0, q1, q2, q3, q4⟩
      · refine (R.sl j s' e1).grow R4.g0 (fun a u z so y => R4.keep a u y (nA e1 so z q)) fun a u z so y y0 => ?_
        cases w : H1 a with
        | none => rfl
        | some o =>
          rcases R4.fr a o w with x | x
          · have x' : H0 a = some o := x
            rw [x'] at y0; cases y0
          · have x' : H a = none := x
            rw [x'] at y; cases y
      · rw [List.getElem?_drop] at q2
        obtain ⟨a, xs, h1, h2, h3, h4, h5⟩ := R4.sl _ _ q2
        rw [at4 q1] at h1
        have ok := R.sl j s e1
        subst q4
        cases s with
        | ls ds1 => obtain ⟨a', xs', g1, g2, g3, g4, g5⟩ := ok; rw [h1] at g1; cases g1; exact ⟨a, xs, h1, h2, h3, g4, h5⟩
        | pm ds1 => obtain ⟨a', xs', g1, g2, g3, g4, g5⟩ := ok; rw [h1] at g1; cases g1; exact ⟨a, xs, h1, h2, h3, g4, h5⟩
        | _ => cases q3
    ap := fun i j s t a hij ei ej so to v v' => by
      obtain ⟨s0, z, zo⟩ := own' ei so
      obtain ⟨t0, y, yo⟩ := own' ej to
      exact R.ap i j s0 t0 a hij z y zo yo v v' }
theorem apart_uncap {k : Nat} {cap : List Nat} {ts ρ' : List Sl} {p : Addr} (h : Apart σ ρ p) (hu : unCap cap ts ρ = some ρ') : Apart σ ρ' p := fun i s' e so => by
  obtain ⟨s, e1, q⟩ := (unCap_spec hu).2 i s' e
  rcases q with ⟨rfl, q⟩ | ⟨m, ds, ds0, q1, q2, q3, q4⟩
  · exact h i s' e1 so
  · exact h i s e1 (Sl.L_own q3)
theorem tComp_N {k : Nat} {cap : List Nat} {s : FA} {g : FG} {ft : FT} {fe : FE} (nd : cap.Nodup) : ∀ σ H Q, tFN G (cComp k cap s g ft fe) σ H Q → tComp (tFI G s) (tFG G k g) (tFT G ft) (tF G fe) k cap σ H Q := fun σ H Q hh => by
  obtain ⟨F, ρ, H0, es, ρ', R, e, kk⟩ := hh
  unfold cComp at e
  rcases fe_cases (f := s) (ρ := ρ) with e1 | ⟨ds, ρ1, e1⟩ <;> simp only [e1] at e
  · cases e
  · split at e
    · rename_i hlen
      refine ⟨F, ρ, H0, ds, ρ1, R, e1, fun J H1 H1' s1 R1 wk p hp => ?_⟩
      refine ⟨fun i m acc H2 => m = ds.length - i ∧ i ≤ ds.length ∧ ∃ ρi Hi dn rest, Same H1 Hi ∧ RelE G F σ ρi Hi H2 ∧ H2 p = some (.lst acc) ∧ Hi p = none ∧ Apart σ ρi p ∧ Reps G Hi dn acc ∧ dn.length ≤ i ∧ compL k cap g ft fe (ds.drop i) ρi = some (rest, ρ') ∧ es = dn ++ rest,
        ⟨_, rfl, Nat.zero_le _, ρ1, H1, [], es, Same.refl _, R1.newOwn hp _, upd_same, R1.h0none hp, R1.apart hp, reps_nil, Nat.le_refl _, e, rfl⟩, ?_⟩
      rintro i m acc H2 ⟨rfl, hi, ρi, Hi, dn, rest, si, Ri, hp2, hp0, apt, rs, hdn, ei, rfl⟩
      by_cases hlt : i < ds.length
      · have ed : ds.drop i = ds[i] :: ds.drop (i + 1) := List.drop_eq_getElem_cons hlt
        rw [ed] at ei
        unfold compL at ei
        obtain ⟨go, yl⟩ := (wk i Hi H2 si Ri.sub).1 ds[i] (List.getElem?_eq_getElem hlt)
        refine .inr ⟨go, fun x H3 y => ?_⟩
        obtain ⟨Hj, t1, t2, t3, t4, t5⟩ := yl x H3 y
        have R2 := Ri.grow t3 t1 t2 t4
        have hp3 : H3 p = some (.lst acc) := t3 _ _ hp2
        have hpj : Hj p = none := by
          cases w : Hj p with
          | none => rfl
          | some o =>
            rcases t4 p o w with z | z
            · rw [hp0] at z; cases z
            · rw [hp2] at z; cases z
        have RC := R2.cap k cap nd
        have npA : p ∉ capA cap σ ρi := fun z => by
          obtain ⟨j, _, ⟨ds', q1⟩, q2⟩ := capA_mem.mp z
          obtain ⟨t, q3, q4⟩ := lsAt_some q1
          exact apt j t q3 (Sl.L_own q4) q2
        cases e2 : g ds[i] (capR k cap ρi) with
        | none => simp only [e2] at ei; cases ei
        | some ρ2 =>
          simp only [e2] at ei
          refine ⟨_, _, Hj, ds[i], ρ2, RC, t5, e2, fun σ4 hd4 R4 => ⟨hd4, ?_⟩⟩
          rcases fe_cases (f := ft) (ρ := ρ2) with e3 | ⟨b, ρ3, e3⟩
          · simp only [e3] at ei; cases ei
          · refine ⟨_, ρ2, Hj, b, ρ3, R4, e3, fun H5 H5' s5 R5 => ?_⟩
            have keepP : ∀ {σ' : St} {ρ'' : List Sl} {Ha Ha' : Hp}, RelE G ⟨Hj, H3, capA cap σ ρi⟩ σ' ρ'' Ha Ha' → Ha' p = some (.lst acc) ∧ Ha p = none := fun Rz => by
              refine ⟨Rz.keep p _ hp3 npA, ?_⟩
              refine Option.eq_none_iff_forall_ne_some.mpr fun o w2 => ?_
              rcases Rz.fr p o w2 with z | z
              · have z' : Hj p = some o := z
                rw [hpj] at z'; cases z'
              · have z' : H3 p = none := z
                rw [hp3] at z'; cases z'
            cases b with
            | false =>
              simp only [e3] at ei
              refine iteF ?_
              cases e4 : unCap cap (ρ3.drop k) ρi with
              | none => simp only [e4] at ei; cases ei
              | some ρn =>
                simp only [e4] at ei
                obtain ⟨w1, w2⟩ := keepP R5
                exact ⟨ds.length - (i + 1), by omega, rfl, hlt, ρn, H5, dn, rest, si.trans (t1.trans s5), R2.uncap R5 hd4 e4, w1, w2, apart_uncap (k := k) apt e4, Reps.mono (t1.trans s5) _ _ rs, by omega, ei, rfl⟩
            | true =>
              simp only [e3] at ei
              refine iteT ?_
              rcases fe_cases (f := fe) (ρ := ρ3) with e5 | ⟨x5, ρ5, e5⟩
              · simp only [e5] at ei; cases ei
              · simp only [e5] at ei
                refine ⟨_, ρ3, H5, x5, ρ5, R5, e5, fun v H6 H6' s6 R6 rv => ?_⟩
                obtain ⟨w1, w2⟩ := keepP R6
                cases e4 : unCap cap (ρ5.drop k) ρi with
                | none => simp only [e4] at ei; cases ei
                | some ρn =>
                  simp only [e4] at ei
                  cases e6 : compL k cap g ft fe (ds.drop (i + 1)) ρn with
                  | none => simp only [e6] at ei; cases ei
                  | some q =>
                    obtain ⟨rest', ρz⟩ := q
                    simp only [e6] at ei
                    cases ei
                    have Rn := R2.uncap R6 hd4 e4
                    have lacc : acc.length = dn.length := (reps_len rs).symm
                    refine ⟨acc, w1, small1000 (by omega), ds.length - (i + 1), by omega, rfl, hlt, ρn, H6, dn ++ [x5], rest', si.trans (t1.trans (s5.trans s6)), ?_, upd_same, w2, apart_uncap (k := k) apt e4, reps_app (Reps.mono (t1.trans (s5.trans s6)) _ _ rs) (reps_cons rv reps_nil), by rw [List.length_append, List.length_singleton]; omega, e6, by rw [List.append_assoc]; rfl⟩
                    -- the block's list grows: it is no slot's
                    exact {
                      sub := fun b o e => by rw [upd_ne (fun z => by rw [z, w2] at e; cases e)]; exact Rn.sub b o e
                      g0 := Rn.g0
                      keep := fun b o e n => by
                        rw [upd_ne (fun z => by subst z; rw [R1.bNone hp] at e; cases e)]
                        exact Rn.keep b o e n
                      fr := Rn.fr
                      am := fun b hb => by
                        by_cases z : b = p
                        · subst z; exact ⟨_, upd_same⟩
                        · rw [upd_ne z]; exact Rn.am b hb
                      len := Rn.len
                      sl := fun j t ej => (Rn.sl j t ej).grow (Same.refl _) (fun b u z to q => by rw [upd_ne (fun y => apart_uncap (k := k) apt e4 j t ej to (by rw [z, y]))]; exact q) fun b u _ _ _ q => q
                      ap := Rn.ap }
      · have ez : ds.drop i = [] := List.drop_eq_nil_of_le (by omega)
        rw [ez] at ei
        unfold compL at ei
        cases ei
        rw [List.append_nil] at kk
        exact .inl ⟨(wk i Hi H2 si Ri.sub).2 (by omega), kk p acc Hi H2 (s1.trans si) Ri hp2 hp0 (R1.bNone hp) apt rs⟩
    · cases e
theorem pfn_comp {e : Expr} {k : Nat} {cap : List Nat} {s : FA} {g : FG} {ft : FT} {fe : FE} (nd : cap.Nodup) (h : PE X e (tComp (tFI G s) (tFG G k g) (tFT G ft) (tF G fe) k cap)) : PE X e (tFN G (cComp k cap s g ft fe)) := PE.weak h (tComp_N nd)
theorem pift_yes : PIf X [] (tFT G tYes) := fun pins s σ H Q I h => by
  obtain ⟨F, ρ, H0, b, ρ', R, e, k⟩ := h
  cases e
  exact pif_nil pins s σ H Q I (k _ _ (Same.refl _) R)
end
end L4

set_option Elab.async false
set_option linter.all false
set_option maxRecDepth 100000
set_option maxHeartbeats 4000000
namespace L4
open PySem PySem.Spec PyProof.Rows L2 L3

/-! ### flat data -/
def flatD : D → Bool
  | .non => true | .bl _ => true | .int _ => true | .str _ => true | _ => false
def vD : D → V
  | .non => .non | .bl b => .bl b | .int i => .int i | .str x => .str x | _ => .non
section
variable {X : Cx} {G : Bg} {H : Hp}
theorem rep_flat {d : D} {v : V} (h : Rep G H d v) (f : flatD d = true) : v = vD d := by
  cases d <;> first | (unfold Rep at h; exact h) | cases f
theorem flat_rep {d : D} (f : flatD d = true) : ∀ H, Rep G H d (vD d) := fun H => by
  cases d <;> first | (unfold Rep; rfl) | cases f
theorem OpR.or {f : Value → Value → Sem Value} {r r' : R2} (h : OpR X f r) (h' : OpR X f r') : OpR X f (fun x y H Q => r x y H Q ∨ r' x y H Q) := fun pins s σ H x y v u Q I rx ry q => q.elim (h pins s σ H x y v u Q I rx ry) (h' pins s σ H x y v u Q I rx ry)
theorem OpD.or {r r' : R2} {g g' : D → D → Option D} (h : OpD G r g) (h' : OpD G r' g') : OpD G (fun x y H Q => r x y H Q ∨ r' x y H Q) (fun x y => match g x y with | some z => some z | none => g' x y) := fun x y z H0 H v u Q e s rx ry k => by
  cases e1 : g x y with
  | some w => simp only [e1] at e; cases e; exact .inl (h x y _ H0 H v u Q e1 s rx ry k)
  | none => simp only [e1] at e; exact .inr (h' x y z H0 H v u Q e s rx ry k)
/-! ### numbers -/
def dI (C : Int → Int → Bool) (g : Int → Int → D) : D → D → Option D
  | .int a, .int b => if C a b = true then some (g a b) else none
  | _, _ => none
theorem opD_I {C : Int → Int → Bool} {C' : Int → Int → Prop} {g : Int → Int → D} {g' : Int → Int → V} (hC : ∀ a b, C a b = true → C' a b) (hf : ∀ a b, flatD (g a b) = true ∧ vD (g a b) = g' a b) : OpD G (rI C' g') (dI C g) := fun x y z H0 H v u Q e s rx ry k => by
  unfold dI at e
  split at e
  · rename_i a b
    split at e
    · rename_i hc
      cases e
      unfold Rep at rx ry
      exact ⟨a, b, rx, ry, hC _ _ hc, by rw [← (hf a b).2]; exact k _ fun H0' _ => flat_rep (hf a b).1 H0'⟩
    · cases e
  · cases e
theorem opD_I0 {g : Int → Int → D} {g' : Int → Int → V} (hf : ∀ a b, flatD (g a b) = true ∧ vD (g a b) = g' a b) : OpD G (rI0 g') (dI (fun _ _ => true) g) := fun x y z H0 H v u Q e s rx ry k => by
  unfold dI at e
  split at e
  · rename_i a b
    split at e
    · cases e
      unfold Rep at rx ry
      exact ⟨a, b, rx, ry, by rw [← (hf a b).2]; exact k _ fun H0' _ => flat_rep (hf a b).1 H0'⟩
    · cases e
  · cases e
def dAddI := dI (fun _ _ => true) fun a b => .int (a + b)
def dSubI := dI (fun _ _ => true) fun a b => .int (a - b)
def smallI (a : Int) : Bool := decide (-(2 ^ 64) < a) && decide (a < 2 ^ 64)
def dMulI := dI (fun a b => smallI a || smallI b) fun a b => .int (a * b)
def dModI := dI (fun _ b => decide (0 < b)) fun a b => .int (a % b)
def dDivI := dI (fun _ b => decide (0 < b) && decide (b < 1073741824)) fun a b => .int (a / b)
def dPowI := dI (fun a b => decide (0 ≤ b) && decide (b ≤ 1000000) && decide (a.natAbs < 2 ^ 64)) fun a b => .int (a ^ b.toNat)
def dLtI := dI (fun _ _ => true) fun a b => .bl (decide (a < b))
def dLeI := dI (fun _ _ => true) fun a b => .bl (decide (a ≤ b))
def dGtI := dI (fun _ _ => true) fun a b => .bl (decide (b < a))
def dGeI := dI (fun _ _ => true) fun a b => .bl (decide (b ≤ a))
theorem od_add : OpD G (rI0 fun i j => .int (i + j)) dAddI := opD_I0 fun _ _ => ⟨rfl, rfl⟩
theorem od_mul : OpD G (rI CMul fun i j => .int (i * j)) dMulI := opD_I (fun a b h => by
  unfold smallI at h
  simp only [Bool.or_eq_true, Bool.and_eq_true, decide_eq_true_eq] at h
  exact h) fun _ _ => ⟨rfl, rfl⟩
theorem od_mod : OpD G (rI (fun _ j => 0 < j) fun i j => .int (i % j)) dModI := opD_I (fun a b h => by simpa using h) fun _ _ => ⟨rfl, rfl⟩
theorem od_div : OpD G (rI CDiv fun i j => .int (i / j)) dDivI := opD_I (fun a b h => by unfold CDiv; simpa using h) fun _ _ => ⟨rfl, rfl⟩
theorem od_pow : OpD G (rI CPow fun i j => .int (i ^ j.toNat)) dPowI := opD_I (fun a b h => by
  simp only [Bool.and_eq_true, decide_eq_true_eq] at h
  exact ⟨h.1.1, h.1.2, h.2⟩) fun _ _ => ⟨rfl, rfl⟩
theorem od_gt : OpD G (rI0 fun i j => .bl (decide (j < i))) dGtI := opD_I0 fun _ _ => ⟨rfl, rfl⟩
theorem od_ge : OpD G (rI0 fun i j => .bl (decide (j ≤ i))) dGeI := opD_I0 fun _ _ => ⟨rfl, rfl⟩
/-! ### texts -/
def dAddS : D → D → Option D
  | .str a, .str b => if a.length + b.length ≤ 100000 then some (.str (a ++ b)) else none
  | _, _ => none
theorem line_big {n : Nat} (h : n ≤ 100000) : n ≤ sizeLine := Nat.le_trans h (by rw [sizeLine_eq]; decide)
theorem od_addS : OpD G (fun x y H Q => ∃ i j, x = .str i ∧ y = .str j ∧ i.length + j.length ≤ sizeLine ∧ Q (.str (i ++ j)) H) dAddS := fun x y z H0 H v u Q e s rx ry k => by
  unfold dAddS at e
  split at e
  · rename_i a b
    split at e
    · rename_i hl
      cases e
      unfold Rep at rx ry
      exact ⟨a, b, rx, ry, line_big hl, k _ fun _ _ => rep_str _⟩
    · cases e
  · cases e
def dLeS : D → D → Option D
  | .str a, .str b => some (.bl (!decide (b.cps.toList < a.cps.toList)))
  | _, _ => none
/-! ### is None -/
def dIsN : D → D → Option D
  | .non, .non => some (.bl true)
  | _, .non => some (.bl false)
  | _, _ => none
def dNotN : D → D → Option D
  | .non, .non => some (.bl false)
  | _, .non => some (.bl true)
  | _, _ => none
theorem rep_isN {d : D} {v : V} (h : Rep G H d v) : decide (v = .non) = (match d with | .non => true | _ => false) := by
  cases d <;> unfold Rep at h
  · subst h; rfl
  · subst h; rfl
  · subst h; rfl
  · subst h; rfl
  · obtain ⟨a, xs, rfl, _⟩ := h; rfl
  · obtain ⟨a, xs, rfl, _⟩ := h; rfl
  · obtain ⟨a, xs, rfl, _⟩ := h; rfl
  · obtain ⟨a, dx, xs, rfl, _⟩ := h; rfl
  · obtain ⟨a, xs, rfl, _⟩ := h; rfl
theorem od_isN : OpD G (fun x y H Q => y = .non ∧ Q (.bl (decide (x = .non))) H) dIsN := fun x y z H0 H v u Q e s rx ry k => by
  have e0 := rep_isN rx
  cases y <;> first | (cases x <;> cases e) | skip
  all_goals (unfold Rep at ry; refine ⟨ry, ?_⟩; rw [e0]; exact k _ fun _ _ => rep_bl _)
theorem od_notN : OpD G (fun x y H Q => y = .non ∧ Q (.bl (!decide (x = .non))) H) dNotN := fun x y z H0 H v u Q e s rx ry k => by
  have e0 := rep_isN rx
  cases y <;> first | (cases x <;> cases e) | skip
  all_goals (unfold Rep at ry; refine ⟨ry, ?_⟩; rw [e0]; exact k _ fun _ _ => rep_bl _)
def dIsNotB : D → D → Option D
  | .bl a, .bl b => some (.bl (a != b))
  | _, _ => none
/-! ### == of data -/
mutual
def toD : D → Option L3.D
  | .non => some .non
  | .bl b => some (.bl b)
  | .int i => some (.int i)
  | .str x => some (.str x)
  | .tup ds => match toDs ds with
    | some l => some (.tup l)
    | none => none
  | .lst ds => match toDs ds with
    | some l => some (.lst l)
    | none => none
  | .fzl _ => none
  | .obj _ _ _ => none
  | .dic _ _ => none
def toDs : List D → Option (List L3.D)
  | [] => some []
  | d :: ds => match toD d with
    | some x => match toDs ds with
      | some l => some (x :: l)
      | none => none
    | none => none
end
mutual
theorem rep_toD : ∀ (d : D) (v : V) (x : L3.D), Rep G H d v → toD d = some x → L3.Rep G.K H x v
  | .non, v, x, h, e => by unfold toD at e; cases e; unfold Rep at h; unfold L3.Rep; exact h
  | .bl b, v, x, h, e => by unfold toD at e; cases e; unfold Rep at h; unfold L3.Rep; exact h
  | .int b, v, x, h, e => by unfold toD at e; cases e; unfold Rep at h; unfold L3.Rep; exact h
  | .str b, v, x, h, e => by unfold toD at e; cases e; unfold Rep at h; unfold L3.Rep; exact h
  | .tup ds, v, x, h, e => by
    unfold toD at e
    cases e1 : toDs ds with
    | none => simp only [e1] at e; cases e
    | some l =>
      simp only [e1] at e
      cases e
      unfold Rep at h
      obtain ⟨a, xs, rfl, h1, h2⟩ := h
      unfold L3.Rep
      exact ⟨a, xs, rfl, h1, reps_toD ds xs l h2 e1⟩
  | .lst ds, v, x, h, e => by
    unfold toD at e
    cases e1 : toDs ds with
    | none => simp only [e1] at e; cases e
    | some l =>
      simp only [e1] at e
      cases e
      unfold Rep at h
      obtain ⟨a, xs, rfl, h1, h2⟩ := h
      unfold L3.Rep
      exact ⟨a, xs, rfl, SqL.of h1, reps_toD ds xs l h2 e1⟩
  | .fzl _, v, x, h, e => by unfold toD at e; cases e
  | .obj _ _ _, v, x, h, e => by unfold toD at e; cases e
  | .dic _ _, v, x, h, e => by unfold toD at e; cases e
theorem reps_toD : ∀ (ds : List D) (xs : List V) (l : List L3.D), Reps G H ds xs → toDs ds = some l → L3.Reps G.K H l xs
  | [], xs, l, h, e => by unfold toDs at e; cases e; unfold Reps at h; unfold L3.Reps; exact h
  | d :: ds, xs, l, h, e => by
    unfold toDs at e
    cases e1 : toD d with
    | none => simp only [e1] at e; cases e
    | some x =>
      simp only [e1] at e
      cases e2 : toDs ds with
      | none => simp only [e2] at e; cases e
      | some l' =>
        simp only [e2] at e
        cases e
        unfold Reps at h
        obtain ⟨v, r, rfl, h1, h2⟩ := h
        unfold L3.Reps
        exact ⟨v, r, rfl, rep_toD d v x h1 e1, reps_toD ds r l' h2 e2⟩
end
def dEq0 (neg : Bool) : D → D → Option D := fun x y => match flatD x && flatD y && scal (vD x) (vD y) with
  | true => some (.bl (if neg then !decide (vD x = vD y) else decide (vD x = vD y)))
  | false => none
def dEq1 (neg : Bool) : D → D → Option D := fun x y => match toD x, toD y with
  | some a, some b => if likeD a b && decide (dpt a ≤ 20) && decide (dpt b ≤ 20) then some (.bl (if neg then !eqD a b else eqD a b)) else none
  | _, _ => none
def dEq (neg : Bool) : D → D → Option D := fun x y => match dEq0 neg x y with
  | some z => some z
  | none => dEq1 neg x y
theorem od_eq0 : OpD G rEq (dEq0 false) := fun x y z H0 H v u Q e s rx ry k => by
  unfold dEq0 at e
  cases e1 : flatD x && flatD y && scal (vD x) (vD y) with
  | false => simp only [e1] at e; cases e
  | true =>
    simp only [e1] at e
    cases e
    simp only [Bool.and_eq_true] at e1
    rw [rep_flat rx e1.1.1, rep_flat ry e1.1.2]
    exact ⟨e1.2, k _ fun _ _ => rep_bl _⟩
theorem od_ne0 : OpD G rNe (dEq0 true) := fun x y z H0 H v u Q e s rx ry k => by
  unfold dEq0 at e
  cases e1 : flatD x && flatD y && scal (vD x) (vD y) with
  | false => simp only [e1] at e; cases e
  | true =>
    simp only [e1] at e
    cases e
    simp only [Bool.and_eq_true] at e1
    rw [rep_flat rx e1.1.1, rep_flat ry e1.1.2]
    exact ⟨e1.2, k _ fun _ _ => rep_bl _⟩
theorem od_eq1 {neg : Bool} : OpD G (rEqD G.K neg) (dEq1 neg) := fun x y z H0 H v u Q e s rx ry k => by
  unfold dEq1 at e
  cases e1 : toD x with
  | none => simp only [e1] at e; cases e
  | some a =>
    cases e2 : toD y with
    | none => simp only [e1, e2] at e; cases e
    | some b =>
      simp only [e1, e2] at e
      split at e
      · rename_i hc
        cases e
        simp only [Bool.and_eq_true, decide_eq_true_eq] at hc
        exact ⟨a, b, rep_toD x v a (Rep.mono s _ _ rx) e1, rep_toD y u b (Rep.mono s _ _ ry) e2, hc.1.1, hc.1.2, hc.2, k _ fun _ _ => rep_bl _⟩
      · cases e
theorem op_eqX (hu : X.A.units + 64 < cLine) (hK : X.K = G.K := by rfl) : OpR X (compareOp .Eq) (fun x y H Q => rEq x y H Q ∨ rEqD G.K false x y H Q) := by rw [← hK]; exact OpR.or op_eq (op_eqD hu)
theorem op_neX (hu : X.A.units + 64 < cLine) (hK : X.K = G.K := by rfl) : OpR X (compareOp .NotEq) (fun x y H Q => rNe x y H Q ∨ rEqD G.K true x y H Q) := by rw [← hK]; exact OpR.or op_ne (op_neD hu)
theorem od_eq : OpD G (fun x y H Q => rEq x y H Q ∨ rEqD G.K false x y H Q) (dEq false) := OpD.or od_eq0 od_eq1
theorem od_ne : OpD G (fun x y H Q => rNe x y H Q ∨ rEqD G.K true x y H Q) (dEq true) := OpD.or od_ne0 od_eq1
/-! ### in -/
def seqD : D → Option (List D)
  | .tup ds => some ds
  | .lst ds => some ds
  | .fzl ds => some ds
  | _ => none
theorem rep_seq {d : D} {ds : List D} {v : V} (h : Rep G H d v) (e : seqD d = some ds) : ∃ p xs, v = .ref p ∧ (SqL G.K H p xs ∨ SqT G.K H p xs) ∧ Reps G H ds xs := by
  cases d with
  | tup l => cases e; unfold Rep at h; obtain ⟨a, xs, rfl, h1, h2⟩ := h; exact ⟨a, xs, rfl, .inr h1, h2⟩
  | lst l => cases e; unfold Rep at h; obtain ⟨a, xs, rfl, h1, h2⟩ := h; exact ⟨a, xs, rfl, .inl (SqL.of h1), h2⟩
  | fzl l => cases e; unfold Rep at h; obtain ⟨a, xs, rfl, h1, h2⟩ := h; exact ⟨a, xs, rfl, .inl h1, h2⟩
  | _ => cases e
def dIn (neg : Bool) : D → D → Option D := fun x y => match seqD y with
  | some ds => if flatD x && ds.all flatD then some (.bl (if neg then !inV (vD x) (ds.map vD) else inV (vD x) (ds.map vD))) else none
  | none => none
theorem sq_mono {K : PySem.W.Frag} {H H' : Hp} {p : Addr} {xs : List V} (s : Same H H') (h : SqL K H p xs ∨ SqT K H p xs) : SqL K H' p xs ∨ SqT K H' p xs := h.imp s.seq (SqT.mono s)
/-! ### indexes -/
def dIx : D → D → Option D
  | .tup ds, .int i => atI ds i
  | .lst ds, .int i => atI ds i
  | .fzl ds, .int i => atI ds i
  | .str x, .int i => if x.length ≤ 100000 then (atI x.cps.toList i).map fun c => .str ⟨#[c]⟩ else none
  | _, _ => none
theorem od_ix : OpD G (rIx G.K) dIx := fun x y z H0 H v u Q e s rx ry k => by
  cases y with
  | int i =>
    unfold Rep at ry
    subst ry
    cases x with
    | tup ds =>
      unfold Rep at rx
      obtain ⟨a, xs, rfl, h1, h2⟩ := rx
      obtain ⟨w, w1, w2⟩ := atI_reps h2 (show atI ds i = some z from e)
      exact .inr (.inl ⟨a, xs, i, w, rfl, rfl, SqT.mono s h1, w1, k _ fun H0' s' => Rep.mono s' _ _ w2⟩)
    | lst ds =>
      unfold Rep at rx
      obtain ⟨a, xs, rfl, h1, h2⟩ := rx
      obtain ⟨w, w1, w2⟩ := atI_reps h2 (show atI ds i = some z from e)
      exact .inl ⟨a, xs, i, w, rfl, rfl, s.seq (SqL.of h1), w1, k _ fun H0' s' => Rep.mono s' _ _ w2⟩
    | fzl ds =>
      unfold Rep at rx
      obtain ⟨a, xs, rfl, h1, h2⟩ := rx
      obtain ⟨w, w1, w2⟩ := atI_reps h2 (show atI ds i = some z from e)
      exact .inl ⟨a, xs, i, w, rfl, rfl, s.seq h1, w1, k _ fun H0' s' => Rep.mono s' _ _ w2⟩
    | str t =>
      unfold Rep at rx
      subst rx
      unfold dIx at e
      simp only at e
      split at e
      · rename_i hl
        cases e1 : atI t.cps.toList i with
        | none => rw [e1] at e; cases e
        | some c => rw [e1] at e; cases e; exact .inr (.inr ⟨t, i, c, rfl, rfl, line_big hl, e1, k _ fun _ _ => rep_str _⟩)
      · cases e
    | _ => cases e
  | _ => cases x <;> cases e
theorem ix_X (hK : X.K = G.K := by rfl) : IxR X (rIx G.K) := by rw [← hK]; exact ix_seq
/-! ### calls of Python's own, of one value -/
def CallD (G : Bg) (r : List V → Hp → VK → Prop) (g : D → Option D) : Prop := ∀ x z H0 H v (Q : VK), g x = some z → Same H0 H → Rep G H0 x v → (∀ w, (∀ H0', Same H0 H0' → Rep G H0' z w) → Q w H) → r [v] H Q
theorem pf_b1 {e : Expr} {r : List V → Hp → VK → Prop} {g : D → Option D} {f : FE} (hr : CallD G r g) (h : PE X e (tCB r (tFA G (aCons f aNil)))) : PE X e (tF G (c1 g f)) := PE.weak h fun σ H Q hh => by
  obtain ⟨F, ρ, H0, d, ρ', R, e, k⟩ := hh
  obtain ⟨x, e1, e2⟩ := c1_some e
  refine ⟨F, ρ, H0, [x], ρ', R, by unfold aCons; rw [e1]; rfl, fun ys H1 H1' s R' rs => ?_⟩
  unfold Reps at rs
  obtain ⟨v, r0, rfl, rv, rn⟩ := rs
  unfold Reps at rn
  subst rn
  exact hr x d H1 H1' v Q e2 R'.sub rv fun w hw => k _ _ _ s R' (hw _ (Same.refl _))
theorem CallR.or {f : Value} {r r' : List V → Hp → VK → Prop} (h : CallR X f r) (h' : CallR X f r') : CallR X f (fun x H Q => r x H Q ∨ r' x H Q) := fun pins s σ H xs us Q I rv q => q.elim (h pins s σ H xs us Q I rv) (h' pins s σ H xs us Q I rv)
def dLen : D → Option D
  | .tup ds => some (.int ds.length)
  | .lst ds => some (.int ds.length)
  | .fzl ds => some (.int ds.length)
  | .str x => if x.length ≤ 100000 then some (.int x.length) else none
  | .dic ks ds => some (.int ks.length)
  | _ => none
def rLenX (K : PySem.W.Frag) : List V → Hp → VK → Prop := fun xs H Q => (∃ p ys, xs = [.ref p] ∧ (SqL K H p ys ∨ SqT K H p ys) ∧ Q (.int ys.length) H) ∨ ((∃ z, xs = [.str z] ∧ z.length ≤ sizeLine ∧ Q (.int z.length) H) ∨ (∃ a kvs, xs = [V.ref a] ∧ H a = some (.dK kvs) ∧ Q (.int kvs.length) H))
theorem call_lenX (hK : X.K = G.K := by rfl) : CallR X (.builtin "len") (rLenX G.K) := by rw [← hK]; exact CallR.or call_len_seq (CallR.or call_len_str call_lenD)
theorem cd_len : CallD G (rLenX G.K) dLen := fun x z H0 H v Q e s rx k => by
  cases x with
  | tup ds =>
    cases e
    unfold Rep at rx
    obtain ⟨a, xs, rfl, h1, h2⟩ := rx
    refine .inl ⟨a, xs, rfl, .inr (SqT.mono s h1), ?_⟩
    rw [← reps_len h2]; exact k _ fun _ _ => rep_int _
  | lst ds =>
    cases e
    unfold Rep at rx
    obtain ⟨a, xs, rfl, h1, h2⟩ := rx
    refine .inl ⟨a, xs, rfl, .inl (s.seq (SqL.of h1)), ?_⟩
    rw [← reps_len h2]; exact k _ fun _ _ => rep_int _
  | fzl ds =>
    cases e
    unfold Rep at rx
    obtain ⟨a, xs, rfl, h1, h2⟩ := rx
    refine .inl ⟨a, xs, rfl, .inl (s.seq h1), ?_⟩
    rw [← reps_len h2]; exact k _ fun _ _ => rep_int _
  | str t =>
    unfold dLen at e
    simp only at e
    split at e
    · rename_i hl
      cases e
      unfold Rep at rx
      exact .inr (.inl ⟨t, by rw [rx], line_big hl, k _ fun _ _ => rep_int _⟩)
    · cases e
  | dic ks ds =>
    cases e
    unfold Rep at rx
    obtain ⟨a, xs, rfl, h1, h2, h3⟩ := rx
    refine .inr (.inr ⟨a, _, rfl, s _ _ h1, ?_⟩)
    rw [List.length_zip, ← h2, Nat.min_self]; exact k _ fun _ _ => rep_int _
  | _ => cases e
def dInt : D → Option D
  | .int i => some (.int i)
  | .bl b => some (.int (if b then 1 else 0))
  | _ => none
theorem cd_int : CallD G (fun xs H Q => (∃ i, xs = [.int i] ∧ Q (.int i) H) ∨ ∃ k, xs = [.bl k] ∧ Q (.int (if k then 1 else 0)) H) dInt := fun x z H0 H v Q e s rx k => by
  cases x with
  | int i => cases e; unfold Rep at rx; subst rx; exact .inl ⟨i, rfl, k _ fun _ _ => rep_int _⟩
  | bl b => cases e; unfold Rep at rx; subst rx; exact .inr ⟨b, rfl, k _ fun _ _ => rep_int _⟩
  | _ => cases e
/-- all, any of a list of truths -/
def blsD : List D → Option (List Bool)
  | [] => some []
  | .bl b :: r => (blsD r).map (b :: ·)
  | _ => none
def dAll : D → Option D
  | .lst ds => (blsD ds).map fun bs => .bl (bs.all id)
  | _ => none
/-! ### isinstance -/
inductive Ty where
  | b (n : String) | c (k : Nat)
def Ty.val (G : Bg) : Ty → Value
  | .b n => .type n
  | .c k => .ref (G.ca k)
def Ty.v (G : Bg) : Ty → V
  | .b n => .ty n
  | .c k => .ref (G.ca k)
def tyD : D → Ty
  | .non => .b "NoneType" | .bl _ => .b "bool" | .int _ => .b "int" | .str _ => .b "str" | .tup _ => .b "tuple" | .lst _ => .b "list" | .fzl _ => .b "list" | .dic _ _ => .b "dict" | .obj c _ _ => .c c
/-- an own class: what isinstance asks of it -/
structure ClsI (K : PySem.W.Frag) (C : Addr) : Prop where
  cl : Cls K C
  ha : PySem.W.findIn K (.ref C) "__class__" = some (some (.builtin "object.__class__"))
  hn : PySem.W.specialIn K (.builtin "object.__class__") "__get__" = some (some (.builtin "getset_descriptor.__get__"))
  htk : PySem.W.takesIn K (.builtin "object.__class__") = some true
  hm : PySem.W.mroIn K C (.type "object") = some true
theorem isinst_D {pins : List (Addr × Obj)} {σ : St} {s : Shared} {A : Around} {E : Value → Shared → Prop} {Q : Value → Shared → Prop} {c : Value} {b : Bool} {d : D} {v : V} {u : Value} (I : Inv X pins σ H s) (hK : X.K = G.K) (hd : Rep G H d v) (rv : RelV v u) (hc : ∀ k ns ds, d = .obj k ns ds → ClsI X.K (G.ca k))
    (e : PySem.W.kitOne X.K ((tyD d).val G) c = some b) (h : ∀ tk, Q (.bool b) { s with toks := tk }) : wpAny (model X.prog X.w) A (call (.builtin "isinstance") [u, c]) Q E s := by
  cases d with
  | non => unfold Rep at hd; subst hd; exact isinst_ok I rv .non e h
  | bl x => unfold Rep at hd; subst hd; exact isinst_ok I rv (.bl x) e h
  | int x => unfold Rep at hd; subst hd; exact isinst_ok I rv (.int x) e h
  | str x => unfold Rep at hd; subst hd; exact isinst_ok I rv (.str x) e h
  | tup ds =>
    unfold Rep at hd
    obtain ⟨a, xs, rfl, h1, h2⟩ := hd
    cases rv
    rw [← hK] at h1
    obtain ⟨its, _, p, _⟩ := I.tuple h1
    obtain ⟨o, q1, q2, _⟩ := p
    exact PySem.W.kia_one PySem.W.kitx_tuple I.kIn ⟨o, q1, q2⟩ e (fun z => nomatch z) h
  | lst ds =>
    unfold Rep at hd
    obtain ⟨a, xs, rfl, h1, h2⟩ := hd
    exact isinst_ok I rv (.lst h1) e h
  | fzl ds =>
    unfold Rep at hd
    obtain ⟨a, xs, rfl, h1, h2⟩ := hd
    cases rv
    rw [← hK] at h1
    obtain ⟨its, _, p, _⟩ := I.list h1
    obtain ⟨o, n, q1, q2, _⟩ := p
    exact PySem.W.kia_one PySem.W.kitx_list I.kIn ⟨o, q1, q2⟩ e (fun z => nomatch z) h
  | dic ks ds =>
    unfold Rep at hd
    obtain ⟨a, xs, rfl, h1, h2, h3⟩ := hd
    exact isinst_ok I rv (.dK h1) e h
  | obj k ns ds =>
    have ci := hc k ns ds rfl
    unfold Rep at hd
    obtain ⟨a, dx, xs, rfl, h1, h2, h3⟩ := hd
    exact isinst_ok I rv (.ins h1 ci.cl ci.ha ci.hn ci.htk ci.hm) e h
/-- isinstance(x, T): t tells it by the value's own kind -/
def dInst (t : Ty → Option Bool) : D → Option D := fun d => (t (tyD d)).map .bl
theorem call_inst (c : Ty) {t : Ty → Option Bool} (ht : ∀ y b, t y = some b → PySem.W.kitOne X.K (y.val G) (c.val G) = some b) (hc : ∀ k b, t (.c k) = some b → ClsI X.K (G.ca k)) (hK : X.K = G.K := by rfl) :
    CallR X (.builtin "isinstance") (fun xs H Q => ∃ d x b, xs = [x, c.v G] ∧ Rep G H d x ∧ t (tyD d) = some b ∧ Q (.bl b) H) := by
  intro pins s σ H xs us Q I r h
  obtain ⟨d, x, b, rfl, hd, e, q⟩ := h
  obtain ⟨u, w', rfl, ru, rw'⟩ := vals2 r
  have ew : w' = c.val G := by cases c <;> exact rw'
  subst ew
  exact isinst_D I hK hd ru (fun k ns ds z => by subst z; exact hc k b e) (ht _ _ e) fun tk => ⟨.bl b, H, I.tok _, rfl, q⟩
theorem pf_inst {e : Expr} {c : Ty} {t : Ty → Option Bool} {f : FE} (h : PE X e (tCB (fun xs H Q => ∃ d x b, xs = [x, c.v G] ∧ Rep G H d x ∧ t (tyD d) = some b ∧ Q (.bl b) H) (tCons (tF G f) (tCons (tC (c.v G)) tNil)))) : PE X e (tF G (c1 (dInst t) f)) := PE.weak h fun σ H Q hh => by
  obtain ⟨F, ρ, H0, d, ρ', R, e, k⟩ := hh
  obtain ⟨x, e1, e2⟩ := c1_some e
  unfold dInst at e2
  cases e3 : t (tyD x) with
  | none => rw [e3] at e2; cases e2
  | some b =>
    rw [e3] at e2
    cases e2
    exact ⟨F, ρ, H0, x, ρ', R, e1, fun v H1 H1' s R' r => ⟨x, v, b, rfl, Rep.mono R'.sub _ _ r, e3, k _ _ _ s R' (rep_bl b)⟩⟩
/-! ### new lists -/
/-- a + b of lists -/
def cCat (f g : FE) : FA := fun ρ => match f ρ with
  | some (.lst xs, ρ1) => match g ρ1 with
    | some (.lst ys, ρ2) => if xs.length + ys.length ≤ 1000 then some (xs ++ ys, ρ2) else none
    | _ => none
  | _ => none
theorem pfn_cat {a b : Expr} {f g : FE} {pos : Pos} (ha : PE X a (tF G f)) (hb : PE X b (tF G g)) : PE X (.BinOp a .Add b pos) (tFN G (cCat f g)) := PE.weak (pe_op op_cat ha hb) fun σ H Q hh => by
  obtain ⟨F, ρ, H0, d, ρ', R, e, k⟩ := hh
  unfold cCat at e
  split at e
  · rename_i xs ρ1 e1
    split at e
    · rename_i ys ρ2 e2
      split at e
      · rename_i hl
        cases e
        refine ⟨F, ρ, H0, _, ρ1, R, e1, fun v H1 H1' s R' r => ⟨F, ρ1, H1, _, _, R', e2, fun u H2 H2' s2 R2 r2 => ?_⟩⟩
        have r' := Rep.mono s2 _ _ r
        unfold Rep at r' r2
        obtain ⟨a1, xs1, rfl, h1, h2⟩ := r'
        obtain ⟨a2, xs2, rfl, h3, h4⟩ := r2
        refine ⟨a1, a2, xs1, xs2, rfl, rfl, R2.sub _ _ h1, R2.sub _ _ h3, by rw [← reps_len h2, ← reps_len h4]; exact small_line hl, fun p hp => ?_⟩
        exact k p _ _ _ (s.trans s2) (R2.newOwn hp _) upd_same (R2.h0none hp) (R2.bNone hp) (R2.apart hp) (reps_app h2 h4)
      · cases e
    · cases e
  · cases e
/-- list(x) -/
def cList (f : FE) : FA := fun ρ => match f ρ with
  | some (d, ρ1) => match seqD d with
    | some ds => some (ds, ρ1)
    | none => none
  | none => none
theorem pfn_list {e : Expr} {f : FE} (h : PE X e (tCB (fun xs H Q => ∃ p ys, xs = [.ref p] ∧ (SqL G.K H p ys ∨ SqT G.K H p ys) ∧ ∀ l, H l = none → Q (.ref l) (upd H l (.lst ys))) (tFA G (aCons f aNil)))) : PE X e (tFN G (cList f)) := PE.weak h fun σ H Q hh => by
  obtain ⟨F, ρ, H0, ds, ρ', R, e, k⟩ := hh
  unfold cList at e
  rcases fe_cases (f := f) (ρ := ρ) with e1 | ⟨d, ρ1, e1⟩ <;> simp only [e1] at e
  · cases e
  · cases e2 : seqD d with
    | none => simp only [e2] at e; cases e
    | some ds' =>
      simp only [e2] at e
      cases e
      refine ⟨F, ρ, H0, [d], _, R, by unfold aCons; rw [e1]; rfl, fun ys H1 H1' s R' rs => ?_⟩
      unfold Reps at rs
      obtain ⟨v, r0, rfl, rv, rn⟩ := rs
      unfold Reps at rn
      subst rn
      obtain ⟨p, xs, rfl, h1, h2⟩ := rep_seq rv e2
      exact ⟨p, xs, rfl, sq_mono R'.sub h1, fun l hl => k l _ _ _ s (R'.newOwn hl _) upd_same (R'.h0none hl) (R'.bNone hl) (R'.apart hl) h2⟩
theorem call_listX (hK : X.K = G.K := by rfl) : CallR X (.type "list") (fun xs H Q => ∃ p ys, xs = [.ref p] ∧ (SqL G.K H p ys ∨ SqT G.K H p ys) ∧ ∀ l, H l = none → Q (.ref l) (upd H l (.lst ys))) := by rw [← hK]; exact call_list_of
/-- tuple(list) -/
def dTupL (f : FE) : FE := fun ρ => match f ρ with
  | some (.lst ds, ρ1) => some (.tup ds, ρ1)
  | some (.tup ds, ρ1) => some (.tup ds, ρ1)
  | _ => none
/-- xs[:n] of a list -/
def cutD (xs : List D) (lo hi : Option Int) : List D := (xs.drop (HT.sIx xs.length 0 lo)).take (HT.sIx xs.length xs.length hi - HT.sIx xs.length 0 lo)
theorem cut_reps {H0 : Hp} {ds : List D} {xs : List V} {lo hi : Option Int} (r : Reps G H0 ds xs) : Reps G H0 (cutD ds lo hi) (cutV xs lo hi) := by
  unfold cutD cutV
  rw [← reps_len r]
  exact reps_take _ (reps_drop _ r)
def cSl (f : FE) (lo hi : Option Int) : FA := fun ρ => match f ρ with
  | some (.lst ds, ρ1) => some (cutD ds lo hi, ρ1)
  | some (.fzl ds, ρ1) => some (cutD ds lo hi, ρ1)
  | _ => none
def tO (o : Option Int) : TO := fun _ H Q => Q o H
theorem pfn_slice {e : Expr} {f : FE} {lo hi : Option Int} (h : PE X e (tSl (rSlL G.K) (tF G f) (tO lo) (tO hi))) : PE X e (tFN G (cSl f lo hi)) := PE.weak h fun σ H Q hh => by
  obtain ⟨F, ρ, H0, ds, ρ', R, e, k⟩ := hh
  have gen : ∀ {a : Addr} {xs : List V} {ds' : List D} {H1 H1' : Hp}, Same H0 H1 → RelE G F σ ρ' H1 H1' → SqL G.K H1 a xs → Reps G H1 ds' xs → ds = cutD ds' lo hi → rSlL G.K (.ref a) lo hi H1' Q := fun {a xs ds' H1 H1'} s R' h1 h2 e => by
    subst e
    exact ⟨a, xs, rfl, R'.sub.seq h1, fun p hp => k p _ _ _ s (R'.newOwn hp _) upd_same (R'.h0none hp) (R'.bNone hp) (R'.apart hp) (cut_reps h2)⟩
  unfold cSl at e
  split at e
  · rename_i xs ρ1 e1
    cases e
    refine ⟨F, ρ, H0, _, _, R, e1, fun v H1 H1' s R' r => ?_⟩
    unfold Rep at r
    obtain ⟨a, ys, rfl, h1, h2⟩ := r
    exact gen s R' (SqL.of h1) h2 rfl
  · rename_i xs ρ1 e1
    cases e
    refine ⟨F, ρ, H0, _, _, R, e1, fun v H1 H1' s R' r => ?_⟩
    unfold Rep at r
    obtain ⟨a, ys, rfl, h1, h2⟩ := r
    exact gen s R' h1 h2 rfl
  · cases e
theorem po_const {n : Int} {j pos} : PO X (some (.Constant (.int n) j pos)) (tO (some n)) := fun pins s σ H Q I h => po_some pe_int pins s σ H Q I ⟨n, rfl, h⟩
theorem po_no : PO X none (tO none) := po_none
theorem sl_X (hK : X.K = G.K := by rfl) : SlR X (rSlL G.K) := by rw [← hK]; exact sl_list
end
end L4

set_option Elab.async false
set_option linter.all false
set_option maxRecDepth 100000
set_option maxHeartbeats 4000000
namespace L4
open PySem PySem.Spec PyProof.Rows L2 L3

/-! ### reading own things for a while: what is told is flat -/
def Sl.bor : Sl → Sl
  | .un => .un
  | .im d => .im d
  | .ls ds => .im (.lst ds)
  | .pm ds => .im (.lst ds)
  | .dk ks ds => .im (.dic ks ds)
  | .ob c ns ds => .im (.obj c ns ds)
section
variable {X : Cx} {G : Bg}
theorem RelE.bor {F : Fr} {σ : St} {ρ : List Sl} {H0 H : Hp} (R : RelE G F σ ρ H0 H) : RelE G ⟨H, H, []⟩ σ (ρ.map Sl.bor) H H where
  sub := Same.refl _
  g0 := Same.refl _
  keep := fun b o e _ => e
  fr := fun b o e => .inl e
  am := fun a h => by cases h
  len := by rw [List.length_map]; exact R.len
  sl := fun i s e => by
    rw [List.getElem?_map] at e
    cases e1 : ρ[i]? with
    | none => rw [e1] at e; cases e
    | some t =>
      rw [e1] at e
      cases e
      have ok := R.sl i t e1
      cases t with
      | un => trivial
      | im d => obtain ⟨v, h1, h2⟩ := ok; exact ⟨v, h1, Rep.mono R.sub _ _ h2⟩
      | ls ds => obtain ⟨a, xs, h1, h2, h3, h4, h5⟩ := ok; exact ⟨_, h1, rep_lst h2 (Reps.mono R.sub _ _ h5)⟩
      | pm ds => obtain ⟨a, xs, h1, h2, h3, h4, h5⟩ := ok; exact ⟨_, h1, rep_lst h2 (Reps.mono R.sub _ _ h5)⟩
      | dk ks ds => obtain ⟨a, xs, h1, h2, h3, h4, h5, h6⟩ := ok; exact ⟨_, h1, by unfold Rep; exact ⟨a, xs, rfl, h2, h5, Reps.mono R.sub _ _ h6⟩⟩
      | ob c ns ds => obtain ⟨a, dx, xs, h1, h2, h3, h4, h5, h6⟩ := ok; exact ⟨_, h1, by unfold Rep; exact ⟨a, dx, xs, rfl, h2, h5, Reps.mono R.sub _ _ h6⟩⟩
  ap := fun i j s t a _ e _ so => by
    rw [List.getElem?_map] at e
    cases e1 : ρ[i]? with
    | none => rw [e1] at e; cases e
    | some t => rw [e1] at e; cases e; cases t <;> cases so
theorem RelE.unbor {F : Fr} {σ σ' : St} {ρ ρ' : List Sl} {H0 H H1 H1' : Hp} (R : RelE G F σ ρ H0 H) (R' : RelE G ⟨H, H, []⟩ σ' ρ' H1 H1') : RelE G F σ ρ H0 H1' :=
  R.grow (fun b o e => R'.keep b o e (by simp)) (Same.refl _) (fun b o e => R'.keep b o (R.sub _ _ e) (by simp)) fun b o e => .inl e
def cBor (f : FE) : FE := fun ρ => match f (ρ.map Sl.bor) with
  | some (d, _) => if flatD d = true then some (d, ρ) else none
  | none => none
def cBorT (f : FT) : FT := fun ρ => match f (ρ.map Sl.bor) with
  | some (d, _) => some (d, ρ)
  | none => none
theorem pf_bor {e : Expr} {f : FE} (h : PE X e (tF G f)) : PE X e (tF G (cBor f)) := PE.weak h fun σ H Q hh => by
  obtain ⟨F, ρ, H0, d, ρ', R, e, k⟩ := hh
  unfold cBor at e
  rcases fe_cases (f := f) (ρ := ρ.map Sl.bor) with e1 | ⟨x, ρ1, e1⟩ <;> simp only [e1] at e
  · cases e
  · split at e
    · rename_i hf
      cases e
      refine ⟨_, _, H, d, ρ1, R.bor, e1, fun v H1 H1' s R' r => ?_⟩
      rw [rep_flat r hf]
      exact k _ _ _ (Same.refl _) (R.unbor R') (flat_rep hf _)
    · cases e
theorem pft_bor {e : Expr} {f : FT} (h : PT X e (tFT G f)) : PT X e (tFT G (cBorT f)) := PT.weak h fun σ H Q hh => by
  obtain ⟨F, ρ, H0, d, ρ', R, e, k⟩ := hh
  unfold cBorT at e
  rcases fe_cases (f := f) (ρ := ρ.map Sl.bor) with e1 | ⟨x, ρ1, e1⟩ <;> simp only [e1] at e
  · cases e
  · cases e
    exact ⟨_, _, H, d, ρ1, R.bor, e1, fun H1 H1' s R' => k _ _ (Same.refl _) (R.unbor R')⟩

/-! ### chains of two comparisons -/
def cChain (g g' : D → D → Option D) (fa fb fc : FE) : FE := fun ρ => match fa ρ with
  | some (x, ρ1) => match fb ρ1 with
    | some (y, ρ2) => match g x y with
      | some (.bl true) => match fc ρ2 with
        | some (z, ρ3) => match g' y z with
          | some w => some (w, ρ3)
          | none => none
        | none => none
      | some (.bl false) => some (.bl false, ρ2)
      | _ => none
    | none => none
  | none => none
end

/-! ### the text's defs, told by what they promise -/
def DefOk (P : Program) (w : World) (K : PySem.W.Frag) (mg : Str → Option Value) (base : Heap) (k : Nat) (x : Str) (ps : List Str) (sp : Sp) : Prop :=
  ∃ (f : Addr) (fd : FuncData), mg x = some (.ref f) ∧ PySem.W.keepIn K (.ref f) = true ∧ Binds K fd ps [] ∧ FnOk P w K mg base CX0 k f fd ps sp
/-- an own class: it is made by its name -/
def CtorOk (G : Bg) (P : Program) (w : World) (mg : Str → Option Value) (base : Heap) (k : Nat) (x : Str) (c : Nat) (ps : List Str) (dvs : List V) (g : List D → Option (List Str × List D)) : Prop :=
  ∃ (f : Addr) (fd : FuncData) (ds : List Value), Mk G.K (G.ca c) f ∧ mg x = some (.ref (G.ca c)) ∧ Binds G.K fd ps ds ∧ Vals dvs ds ∧ FnOk P w G.K mg base CX0 k f fd ps (spI G c g)
def MethOk (G : Bg) (P : Program) (w : World) (mg : Str → Option Value) (base : Heap) (k : Nat) (m : Str) (c : Nat) (h : List D → Option D) : Prop :=
  ∃ (f : Addr) (fd : FuncData) (ps : List Str), Cls G.K (G.ca c) ∧ Meth G.K (G.ca c) m f ∧ Binds G.K fd ps [] ∧ FnOk P w G.K mg base CX0 k f fd ps (spF G h)
section
variable {X : Cx} {G : Bg} {k : Nat} {x m : Str} {p pos apos : Pos} {e o : Expr} {es : List Expr} {a : FA} {ps : List Str}
theorem app_nil_fun {α : Type} (g : List D → α) : (fun ds => g (ds ++ [])) = g := funext fun ds => by rw [List.append_nil]
theorem pf_def {g : List D → Option D} (D : DefOk X.prog X.w X.K X.mg X.base k x ps (spF G g)) (hr : Room k X.A) (ha : PA X (e :: es) (tFA G a)) (hg : Gl X x := by rfl) (hdb : (x == ("__debug__" : Str)) = false := by decide) (he : starEach (e :: es) X.env = (false, eval e X.env) :: starEach es X.env := by rfl) (hpl : (backTo pos (starEach es X.env)).any (·.1) = false := by rfl) :
    PE X (.Call (.Name x p) (e :: es) [] pos) (tF G (cCall g a)) := by
  obtain ⟨f, fd, h1, h2, h3, h4⟩ := D
  have q := pf_call (dvs := []) (dds := []) (fun _ => reps_nil) (pe_call (p := p) (pos := pos) h4 hr hg h1 h2 h3 .nil pass0 ha hdb he hpl)
  rw [app_nil_fun] at q
  exact q
theorem pfn_def {g : List D → Option (List D)} (D : DefOk X.prog X.w X.K X.mg X.base k x ps (spN G g)) (hr : Room k X.A) (ha : PA X (e :: es) (tFA G a)) (hg : Gl X x := by rfl) (hdb : (x == ("__debug__" : Str)) = false := by decide) (he : starEach (e :: es) X.env = (false, eval e X.env) :: starEach es X.env := by rfl) (hpl : (backTo pos (starEach es X.env)).any (·.1) = false := by rfl) :
    PE X (.Call (.Name x p) (e :: es) [] pos) (tFN G (cCallN g a)) := by
  obtain ⟨f, fd, h1, h2, h3, h4⟩ := D
  have q := pfn_call (dvs := []) (dds := []) (fun _ => reps_nil) (pe_call (p := p) (pos := pos) h4 hr hg h1 h2 h3 .nil pass0 ha hdb he hpl)
  rw [app_nil_fun] at q
  exact q
theorem pfn_def0 {g : List D → Option (List D)} (D : DefOk X.prog X.w X.K X.mg X.base k x ps (spN G g)) (hr : Room k X.A) (hg : Gl X x := by rfl) (hdb : (x == ("__debug__" : Str)) = false := by decide) : PE X (.Call (.Name x p) [] [] pos) (tFN G (cCallN g aNil)) := by
  obtain ⟨f, fd, h1, h2, h3, h4⟩ := D
  exact pfn_call0 (pe_call0 h4 hr hg h1 h2 h3 .nil pass0 hdb)
/-- a def that changes the list in slot i -/
theorem pf_defM {g : List D → List D → Option (D × List D)} {i : Nat} (D : DefOk X.prog X.w X.K X.mg X.base k x ps (spM G g)) (hr : Room k X.A) (hv : PE X e (tVar i)) (ha : PA X es (tFA G a)) (hg : Gl X x := by rfl) (hdb : (x == ("__debug__" : Str)) = false := by decide) (he : starEach (e :: es) X.env = (false, eval e X.env) :: starEach es X.env := by rfl) (hpl : (backTo pos (starEach es X.env)).any (·.1) = false := by rfl) :
    PE X (.Call (.Name x p) (e :: es) [] pos) (tF G (cMut g i a)) := by
  obtain ⟨f, fd, h1, h2, h3, h4⟩ := D
  exact pf_mut (pe_call (p := p) (pos := pos) h4 hr hg h1 h2 h3 .nil pass0 (pa_cons hv ha he) hdb he hpl)
theorem pf_ctor {c : Nat} {dvs : List V} {dds : List D} {g : List D → Option (List Str × List D)} (M : CtorOk G X.prog X.w X.mg X.base k x c ps dvs g) (hd : ∀ H, Reps G H dds dvs) (hr : Room (k + 1) X.A) (ha : PA X (e :: es) (tFA G a)) (hK : X.K = G.K := by rfl) (hg : Gl X x := by rfl) (hdb : (x == ("__debug__" : Str)) = false := by decide)
    (he : starEach (e :: es) X.env = (false, eval e X.env) :: starEach es X.env := by rfl) (hpl : (backTo pos (starEach es X.env)).any (·.1) = false := by rfl) :
    PE X (.Call (.Name x p) (e :: es) [] pos) (tF G (cMake c (fun ds => g (ds ++ dds)) a)) := by
  obtain ⟨f, fd, ds, h1, h2, h3, h4, h5⟩ := M
  rw [← hK] at h1 h3 h5
  exact pf_make hd (pe_make (p := p) (pos := pos) h1 h5 hr hg h2 h3 h4 pass0 ha hdb he hpl)
theorem methT {g : Nat → Option (List D → Option D)} (M : ∀ c h, g c = some h → MethOk G X.prog X.w X.mg X.base k m c h) (hr : Room k X.A) (hK : X.K = G.K) : ∀ C sp, MT G g C sp → MOk X C m sp [] E0 := fun C sp h => by
  obtain ⟨c, h, e, rfl, rfl⟩ := h
  obtain ⟨f, fd, ps, q1, q2, q3, q4⟩ := M c h e
  rw [← hK] at q1 q2 q3 q4
  exact ⟨k, f, fd, ps, [], q1, q2, q4, hr, q3, .nil, pass0⟩
theorem pf_method0 {f : FE} {g : Nat → Option (List D → Option D)} {pl : Sem Bool} (M : ∀ c h, g c = some h → MethOk G X.prog X.w X.mg X.base k m c h) (hr : Room k X.A) (ho : PE X o (tF G f)) (hK : X.K = G.K := by rfl)
    (ht : eval (.Call (.Attribute o m apos) [] [] pos) X.env = (do
      let ov ← eval o X.env
      standAt apos.atName
      let (f, first) ← holding [ov] (getMethod ov m pl)
      callWith pos f first (backTo pos (starEach [] X.env)) (backToKw pos (keywordEach [] X.env))) := by rfl) :
    PE X (.Call (.Attribute o m apos) [] [] pos) (tF G (cMeth g m f aNil)) := pf_meth0 (E := E0) (pe_methG0 (dvs := []) (MT G g) (methT M hr hK) ho ht)
end
/-! ### a def by its body -/
section
variable {P : Program} {w : World} {K : PySem.W.Frag} {mg : Str → Option Value} {base : Heap} {x qual : Str} {st : Stmt} {f T : Addr} {fd : FuncData} {N ps : List Str} {k : Nat} {G : Bg}
abbrev bodyX (P : Program) (w : World) (K : PySem.W.Frag) (mg : Str → Option Value) (base : Heap) (N : List Str) (qual : Str) (st : Stmt) (f : Addr) (cdv : Value) (A : Around) (outer : List Env) (s : Shared) (H : Hp) (E : XK) : Cx := (cxOf CX0 P w K mg base N qual (defScope st) f cdv A outer s H E).nox
theorem fun_F {np n : Nat} {g : List D → Option D} {b : FS} (hg : g = fnD np n b) (hp : ps.length = np) (hN : N.length = n) (F : Fun K x qual st f fd) (S : FnScope N ps (defScope st)) (body : ∀ (cdv : Value) (A : Around) (outer : List Env) (s : Shared) (H : Hp) (E : XK), Room k (A.deeper (envOfC qual (defScope st) s.heap.objs.size f cdv)) → PSs (bodyX P w K mg base N qual st f cdv A outer s H E) (defBody st) (tFS G b)) :
    FnOk P w K mg base CX0 (k + 1) f fd ps (spF G g) := by
  subst hg hp hN
  exact F.ok S (len_F fnD_len) fun cdv A outer s H vs Q E hr h => ⟨_, body cdv A outer s H E hr, entry_F (by have := congrArg List.length S.pre; rw [List.length_take] at this; omega) h⟩
theorem fun_N {np n : Nat} {g : List D → Option (List D)} {b : FS} (hg : g = fnN np n b) (hp : ps.length = np) (hN : N.length = n) (F : Fun K x qual st f fd) (S : FnScope N ps (defScope st)) (body : ∀ (cdv : Value) (A : Around) (outer : List Env) (s : Shared) (H : Hp) (E : XK), Room k (A.deeper (envOfC qual (defScope st) s.heap.objs.size f cdv)) → PSs (bodyX P w K mg base N qual st f cdv A outer s H E) (defBody st) (tFS G b)) :
    FnOk P w K mg base CX0 (k + 1) f fd ps (spN G g) := by
  subst hg hp hN
  exact F.ok S (len_N fnN_len) fun cdv A outer s H vs Q E hr h => ⟨_, body cdv A outer s H E hr, entry_N (by have := congrArg List.length S.pre; rw [List.length_take] at this; omega) h⟩
theorem fun_M {np n : Nat} {g : List D → List D → Option (D × List D)} {b : FS} {p : Str} {ps : List Str} (hg : g = fnM np n b) (hp : ps.length = np) (hN : N.length = n) (F : Fun K x qual st f fd) (S : FnScope N (p :: ps) (defScope st)) (body : ∀ (cdv : Value) (A : Around) (outer : List Env) (s : Shared) (H : Hp) (E : XK), Room k (A.deeper (envOfC qual (defScope st) s.heap.objs.size f cdv)) → PSs (bodyX P w K mg base N qual st f cdv A outer s H E) (defBody st) (tFS G b)) :
    FnOk P w K mg base CX0 (k + 1) f fd (p :: ps) (spM G g) := by
  subst hg hp hN
  exact F.ok S (len_M fnM_len) fun cdv A outer s H vs Q E hr h => ⟨_, body cdv A outer s H E hr, entry_M (by have := congrArg List.length S.pre; rw [List.length_take, List.length_cons] at this; omega) h⟩
theorem len_I {c np : Nat} {g : List D → Option (List Str × List D)} (hg : ∀ ds q, g ds = some q → ds.length = np) : ∀ vs H Q E, spI G c g vs H Q E → vs.length = np + 1 := fun vs H Q E h => by
  obtain ⟨p, dx, us, H0, ds, ns, es, rfl, _, _, _, r, e, _⟩ := h
  rw [List.length_cons, ← reps_len r, hg _ _ e]
theorem fun_I {np n : Nat} {g : List D → Option (List Str × List D)} {b : FS} {c : Nat} {p : Str} {ps : List Str} (hg : g = fnI c np n b) (hp : ps.length = np) (hN : N.length = n) (F : Fun K x qual st f fd) (S : FnScope N (p :: ps) (defScope st)) (body : ∀ (cdv : Value) (A : Around) (outer : List Env) (s : Shared) (H : Hp) (E : XK), Room k (A.deeper (envOfC qual (defScope st) s.heap.objs.size f cdv)) → PSs (bodyX P w K mg base N qual st f cdv A outer s H E) (defBody st) (tFS G b)) :
    FnOk P w K mg base CX0 (k + 1) f fd (p :: ps) (spI G c g) := by
  subst hg hp hN
  exact F.ok S (len_I fun ds q h => (fnI_some h).1) fun cdv A outer s H vs Q E hr h => ⟨_, body cdv A outer s H E hr, entry_I (by have := congrArg List.length S.pre; rw [List.length_take, List.length_cons] at this; omega) h⟩
theorem fund_I {np n : Nat} {g : List D → Option (List Str × List D)} {b : FS} {c : Nat} {p : Str} {ps : List Str} (hg : g = fnI c np n b) (hp : ps.length = np) (hN : N.length = n) (F : FunD K x qual st f fd T) (S : FnScope N (p :: ps) (defScope st)) (body : ∀ (cdv : Value) (A : Around) (outer : List Env) (s : Shared) (H : Hp) (E : XK), Room k (A.deeper (envOfC qual (defScope st) s.heap.objs.size f cdv)) → PSs (bodyX P w K mg base N qual st f cdv A outer s H E) (defBody st) (tFS G b)) :
    FnOk P w K mg base CX0 (k + 1) f fd (p :: ps) (spI G c g) := by
  subst hg hp hN
  exact F.ok S (len_I fun ds q h => (fnI_some h).1) fun cdv A outer s H vs Q E hr h => ⟨_, body cdv A outer s H E hr, entry_I (by have := congrArg List.length S.pre; rw [List.length_take, List.length_cons] at this; omega) h⟩
end
end L4

set_option Elab.async false
set_option linter.all false
set_option maxRecDepth 100000
set_option maxHeartbeats 4000000
namespace L4
open PySem PySem.Spec PyProof.Rows L2 L3
section
variable {X : Cx} {G : Bg}
/-- a name of the module that stands for data -/
def ConstOk (G : Bg) (mg : Str → Option Value) (x : Str) (d : D) : Prop := ∃ (v : V) (u : Value), mg x = some u ∧ RelV v u ∧ ∀ H, Rep G H d v
def sBad : FS := fun _ => none
/-- xs[j] = e of an own list -/
def sIxSet (i : Nat) (j : Int) (f : FE) : FS := fun ρ => match f ρ with
  | some (d, ρ1) => match lsAt ρ1 i with
    | some ds => match ixN ds.length j with
      | some k => some (.nx (putAt ρ1 i (ds.set k d)))
      | none => none
    | none => none
  | none => none
theorem pfs_ixset {st : Stmt} {i : Nat} {j : Int} {f : FE} (h : PS X st (tAsg (tF G f) (gSub (tVar i) (tC (.int j)) rSetL))) : PS X st (tFS G (sIxSet i j f)) := PS.weak h fun E σ H hh => by
  obtain ⟨F, ρ, H0, o, R, e, k, k2⟩ := hh
  unfold sIxSet at e
  rcases fe_cases (f := f) (ρ := ρ) with e1 | ⟨d, ρ1, e1⟩ <;> simp only [e1] at e
  · cases e
  cases e2 : lsAt ρ1 i with
  | none => simp only [e2] at e; cases e
  | some ds =>
    simp only [e2] at e
    cases e3 : ixN ds.length j with
    | none => simp only [e3] at e; cases e
    | some m =>
      simp only [e3] at e
      cases e
      refine ⟨F, ρ, H0, d, ρ1, R, e1, fun v H1 H1' s R' r => ?_⟩
      obtain ⟨a, xs, s1, s2, s3, s4⟩ := rel_lsAt R' e2
      exact ⟨.ref a, s1, a, xs, j, m, rfl, rfl, s2, by rw [← reps_len s3]; exact e3, k _ _ _ s (s4 _ _ (reps_set m s3 r))⟩
/-! isinstance of Python's own kinds -/
def instB (T : String) : Ty → Option Bool
  | .b n => if n = "NoneType" then some false else if n = "bool" then some (T == "bool" || T == "int") else if n = "int" then some (T == "int") else if n = "str" then some (T == "str") else if n = "tuple" then some (T == "tuple") else if n = "list" then some (T == "list") else if n = "dict" then some (T == "dict") else none
  | .c _ => none
theorem instB_no {T : String} : ∀ k b, instB T (.c k) = some b → ClsI X.K (G.ca k) := fun k b h => by cases h
theorem kit_list : ∀ y b, instB "list" y = some b → PySem.W.kitOne X.K (y.val G) (.type "list") = some b := fun y b h => by
  cases y with
  | c k => cases h
  | b n =>
    unfold instB at h
    simp only at h
    split at h
    · rename_i e; subst e; cases h; first | rfl | kernel_rfl
    split at h
    · rename_i e; subst e; cases h; first | rfl | kernel_rfl
    split at h
    · rename_i e; subst e; cases h; first | rfl | kernel_rfl
    split at h
    · rename_i e; subst e; cases h; first | rfl | kernel_rfl
    split at h
    · rename_i e; subst e; cases h; first | rfl | kernel_rfl
    split at h
    · rename_i e; subst e; cases h; first | rfl | kernel_rfl
    split at h
    · rename_i e; subst e; cases h; first | rfl | kernel_rfl
    · cases h
end
end L4

set_option Elab.async false
set_option linter.all false
set_option maxRecDepth 100000
set_option maxHeartbeats 4000000
/-! a comprehension that is given a name: the store comes ahead of the block's end -/
namespace L3
open PySem PySem.Spec PyProof.Rows L2
abbrev St' := L2.St
theorem ps_comp {X : Cx} {i : Nat} {y : Str} {py spos : Pos} {elt iter tg : Expr} {ifs : List Expr} {scope : Scope} {pos : Pos} {N' : List Str} {k : Nat} {cap : List Nat} {wi : TI} {g : TG} {tt : TT} {te : TE}
    (hc : X.calm = true) (hN : X.N.Nodup) (hy : X.N[i]? = some y) (hyl : Loc X.env.scope y) (hi : PI X tg iter wi)
    (body : ∀ (cl : List (Str × Addr)) (C : Addr) (fp : List Addr) (s : Shared) (H : Hp), PG (compCx X N' scope cl C fp s H) tg g ∧ PIf (compCx X N' scope cl C fp s H) ifs tt ∧ PE (compCx X N' scope cl C fp s H) elt te)
    (hkind : scope.kind = .function := by rfl) (hcell : (scope.names.all fun y => y.2 != .cell) = true := by rfl)
    (hloc : (scope.names.all fun y => y.2 != .local || scope.names.lookup y.1 == some .local) = true := by rfl)
    (hfree : (scope.names.all fun y => y.2 != .free || (X.env.kindOf y.1 == some .cell || X.env.kindOf y.1 == some .free)) = true := by rfl)
    (hlen : N'.length = k + cap.length := by rfl) (hcap : (N'.drop k).map some = cap.map fun j => X.N[j]? := by rfl)
    (hcf : ((N'.drop k).all fun x => scope.names.lookup x == some .free) = true := by rfl)
    (hs : ∀ x, foldedSetIterable iter X.env x = pure x := by intro _; rfl)
    (hsw : swapsWith (.ListComp elt [⟨tg, iter, ifs, 0⟩] scope pos) (some (.Name y py)) spos.line X.env = pure true := by rfl)
    (hfy : X.fn y = true ∨ X.env.scope.names.lookup y = some .local := by first | exact .inl rfl | exact .inr rfl | assumption) :
    PS X (.Assign [.Name y py] (.ListComp elt [⟨tg, iter, ifs, 0⟩] scope pos) spos) (tAsg (tComp wi g tt te k cap) (gName i)) := by
  intro pins s σ H D I h
  have hcell' : ∀ y ∈ scope.names, y.2 ≠ .cell := fun y hy e => by
    have z := List.all_eq_true.mp hcell y hy
    rw [e] at z
    exact absurd z (by decide)
  have hloc' : ∀ y ∈ scope.names, y.2 = .local → scope.names.lookup y.1 = some .local := fun y hy e => by
    have z := List.all_eq_true.mp hloc y hy
    rw [e] at z
    simpa using z
  have hfree' : ∀ y ∈ scope.names, y.2 = .free → X.env.kindOf y.1 = some .cell ∨ X.env.kindOf y.1 = some .free := fun y hy e => by
    have z := List.all_eq_true.mp hfree y hy
    rw [e] at z
    simpa using z
  have hcl : ∀ y ∈ scope.names, y.2 = .free → ∃ c, X.env.cells.lookup y.1 = some c := fun y hy e => I.ok.has y.1 (hfree' y hy e)
  rw [exec_Assign_Name_used _ _ _ _ hsw]
  refine wpAny_bind (wpAny_standAt (wpAny_bind ?_))
  show wpAny _ X.A (do let _ ← comprehension (.ListComp elt [⟨tg, iter, ifs, 0⟩] scope pos) scope X.env _ (newList []) false (eval iter X.env) (some (assign (.Name y py) X.env))) _ _ s
  refine wpAny_bind (wpAny_mono (wpAny_comprehension_free (use := some (assign (.Name y py) X.env)) (Q := fun _ s' => SP X pins D .next s') rfl hs (closureFor_of hcl) hkind hloc' (thn (hi pins s σ H _ I h) fun xv s₁ h₁ => thn h₁ fun it s₂ h₂ => ?_)) (fun _ s' hq => wpAny_pure (wpAny_pure hq)) fun _ _ e => e)
  obtain ⟨ita, fp, tn, J, H2, e, I2, T, st2, f2, R2⟩ := h₂
  subst e
  obtain ⟨W, ⟨m0, w0⟩, turn⟩ := R2 s₂.heap.objs.size (I2.hok.fresh (Nat.le_refl _))
  refine wpAny_newObj_type (wpAny_newFunctionEnv hcell' (by intro y hy; simp at hy) (fun h₁ hns₁ hsb₁ => ?_) hkind)
  dsimp only at hns₁ hsb₁ ⊢
  generalize hp : s₂.heap.push { cls := .type "list", dict := none, data := .seq ([] : List Value).toArray } = hpL at hns₁ hsb₁ ⊢
  have hsz : hpL.objs.size = s₂.heap.objs.size + 1 := by rw [← hp, Heap.size_push]
  have I3 : Inv X pins σ (upd H2 s₂.heap.objs.size (.lst [])) { s₂ with heap := hpL } := by
    rw [← hp]
    exact I2.laid (t' := s₂.toks) (fun b u e => Heap.get?_push_of_some _ e) (Nat.le_refl _) ⟨Nat.zero_le _, [], 0, .nil, Heap.get?_push_size _ rfl⟩
  have old : ∀ b o, hpL.get? b = some o → h₁.get? b = some o := fun b o e => hsb₁.extBut b o (Nat.ne_of_lt (Heap.lt_size e)) (Heap.get?_push_of_some _ e)
  have older : ∀ b o, s₂.heap.get? b = some o → hpL.get? b = some o := fun b o e => by rw [← hp]; exact Heap.get?_push_of_some _ e
  have hfpS : ∀ b ∈ fp, b < s₂.heap.objs.size := fun b hb => let ⟨o, e, _⟩ := T.obj _ _ st2 b hb; Heap.lt_size e
  have sub : ∀ x c, (closOf X.env.cells scope.names).lookup x = some c → X.env.cells.lookup x = some c := clos_sub scope.names [] hcl (fun x c e => by cases e)
  have ok' : (compCx X N' scope (closOf X.env.cells scope.names) hpL.objs.size fp { s₂ with heap := hpL } (upd H2 s₂.heap.objs.size (.lst []))).Ok := {
    mod := I3.ok.mod
    kind := hkind
    glob := I3.ok.glob
    blt := I3.ok.blt
    above := Nat.le_refl _
    inj := fun x y c h1 h2 => I3.ok.inj x y c (sub x c h1) (sub y c h2)
    has := fun x hx => clos_has scope.names [] x (relab_free hcell' hx)
    cab := fun x c hf _ => absurd (show false = true from hf) Bool.false_ne_true
    hd := I3.ok.hd
    frames := I3.ok.frames
    stk := .inl rfl
    exf := fun b hb => ⟨(by
      show b ≠ hpL.objs.size
      rw [hsz]
      exact Nat.ne_of_lt (Nat.lt_succ_of_lt (hfpS b hb))), fun x c e => (f2 b hb).2.2.2.2.1 x c (sub x c e)⟩
    bs := I3.bs
    bsz := Nat.le_trans I3.ok.bsz I3.sz
    noex := fun b o e hb => by
      rcases (f2 b hb).2.2.2.1 with z | z
      · exact I3.ok.noex b o e z
      · exact absurd (Nat.lt_of_lt_of_le (Heap.lt_size e) (Nat.le_trans I3.ok.bsz z)) (Nat.lt_irrefl _)
    exfs := fun b hb z => (List.mem_cons.mp (I3.stkSub b z)).elim (f2 b hb).2.1 (f2 b hb).2.2.1
    funs := I3.stack
    frf := I3.stkFree }
  have IX : Inv (compCx X N' scope (closOf X.env.cells scope.names) hpL.objs.size fp { s₂ with heap := hpL } (upd H2 s₂.heap.objs.size (.lst []))) [] (capSt k cap σ) (upd H2 s₂.heap.objs.size (.lst []))
      { s₂ with heap := h₁, toks := s₂.toks + ([] : List (Str × Value)).length } := {
    ok := ok'
    os := rfl
    bare := I3.bare
    base := Un.kept old
    loc := ⟨_, hns₁, fun i x v e1 e2 _ => by
      obtain ⟨j, hj, hσ, hm⟩ := capSt_get hcap e1 e2
      have hx : scope.names.lookup x = some .free := by simpa using List.all_eq_true.mp hcf x hm
      have hk := hfree' (x, .free) (mem_of_lookup hx) rfl
      obtain ⟨m, hn, hl⟩ := I3.loc
      obtain ⟨u, r, lk⟩ := hl j x v hj hσ (hk.elim (fun z => .inr (.inl z)) fun z => .inr (.inr z))
      refine ⟨u, r, .inr ⟨relab_of_free hx, ?_⟩⟩
      rcases lk with ⟨z, _⟩ | ⟨_, c, e, o, ho, hd⟩
      · rcases hk with y | y
        · rw [y] at z; cases z
        · rw [y] at z; cases z
      · obtain ⟨c', e'⟩ := clos_has (cells := X.env.cells) scope.names [] x (mem_of_lookup hx)
        have ec := sub x c' e'
        rw [e] at ec
        have ec' : c = c' := Option.some.inj ec
        subst ec'
        exact ⟨c, e', o, old _ _ ho, hd⟩⟩
    cell := fun x c e => by
      obtain ⟨v, o, ho, hd⟩ := I3.cell x c (sub x c e)
      exact ⟨v, o, old _ _ ho, hd⟩
    free := I3.hok.fresh (Nat.le_refl _)
    freeC := fun x c e => I3.freeC x c (sub x c e)
    pin := fun p hp => absurd (show p ∈ ([] : List (Addr × Obj)) from hp) (by simp)
    hok := I3.hok.kept old
    len := by
      show (capSt k cap σ).length = N'.length
      rw [hlen]
      unfold capSt
      rw [List.length_append, List.length_replicate, List.length_map] }
  have stat : ∀ {H' : Hp}, (∀ b ∈ fp, H' b = none) → ∀ b ∈ fp, FpOk (compCx X N' scope (closOf X.env.cells scope.names) hpL.objs.size fp { s₂ with heap := hpL } (upd H2 s₂.heap.objs.size (.lst []))) [] H' b := fun hn b hb =>
    ⟨hn b hb, (ok'.exf b hb).1, ok'.exfs b hb, .inl hb, (ok'.exf b hb).2, fun p hp => absurd (show p ∈ ([] : List (Addr × Obj)) from hp) (by simp)⟩
  have st4 : tn 0 h₁ := T.keep _ _ _ st2 fun b _ o e => old b o (older b o e)
  have loop : codeAny (model X.prog X.w) X.A (.compLoop (.ListComp elt [⟨tg, iter, ifs, 0⟩] scope pos) 0 (.ref ita) (.ref s₂.heap.objs.size) (compEnvC scope (closOf X.env.cells scope.names) hpL.objs.size X.env))
      (compPost (model X.prog X.w) X.A X.xe (some (assign (.Name y py) X.env)) (fun _ s' => SP X pins D .next s') (.ref s₂.heap.objs.size) hpL.objs.size) { s₂ with heap := h₁, toks := s₂.toks + ([] : List (Str × Value)).length } := by
    refine compLoop_gen (fun n s' => ∃ i acc H', Inv (compCx X N' scope (closOf X.env.cells scope.names) hpL.objs.size fp { s₂ with heap := hpL } (upd H2 s₂.heap.objs.size (.lst []))) [] (capSt k cap σ) H' s' ∧ tn i s'.heap ∧ (∀ b ∈ fp, H' b = none) ∧ W i n acc H')
      ?_ m0 ⟨0, [], _, IX, st4, fun b hb => ?_, w0⟩
    · rintro n s3 ⟨i, acc, H3, I4, st3, fr3, w3⟩
      rcases turn i n acc H3 w3 with ⟨stop, qn⟩ | ⟨go, step⟩
      · refine thn (T.done (compCx X N' scope (closOf X.env.cells scope.names) hpL.objs.size fp { s₂ with heap := hpL } (upd H2 s₂.heap.objs.size (.lst []))) rfl rfl rfl hc i [] s3 _ H3 _ I4 (stat fr3) st3 stop) fun r s4 ⟨hr, I5⟩ => ?_
        subst hr
        obtain ⟨m, hn, _⟩ := id I5.loc
        have U := I5.base
        have neC : ∀ b o, hpL.get? b = some o → b ≠ hpL.objs.size := fun b o e => Nat.ne_of_lt (Heap.lt_size e)
        have back : Inv X pins σ H3 s4 := ?back
        · have fpC : FpOk X pins H3 hpL.objs.size := I3.fpOk (Nat.le_refl _) I5.free
          obtain ⟨oC, esC, nC, gC, dC, rC⟩ := id hn
          have I7 := back.pinned (fp := [hpL.objs.size]) (fun b hb => by
            have e : b = hpL.objs.size := by simpa using hb
            subst e; exact fpC) (fun b hb => by
            have e : b = hpL.objs.size := by simpa using hb
            subst e; exact ⟨oC, gC, fun v z => by rw [dC] at z; cases z⟩)
          show wpAny _ X.A (assign (.Name y py) X.env (.ref s₂.heap.objs.size)) _ _ s4
          refine thn (pg_name (pos := py) hN hy hyl hfy _ s4 σ H3 (.ref s₂.heap.objs.size) (.ref s₂.heap.objs.size) (fun σ' H' => D.nx σ' H') I7 rfl qn) fun _ s6 ⟨σ6, H6, I8, q6⟩ => ?_
          obtain ⟨p1, p2, _⟩ := I8.pin (hpL.objs.size, oC) (List.mem_append_right _ (List.mem_append_right _ (mem_pinsAt (by simp) gC)))
          refine ⟨m, ⟨oC, esC, nC, p1, dC, rC⟩, fun h' hs' => ⟨σ6, H6, ?_, q6⟩⟩
          exact I8.unpinned.turned (t' := s6.toks) (fun b o hb e => (hs'.2 b hb).trans e) p2 fpC.2.1 fpC.2.2.2.1 fpC.2.2.2.2.1 fpC.2.2.2.2.2
        refine I3.call' (s' := s4) (ch := fp) I5.os ⟨fun b o e n hb hx => U.keep b o e n hb hx, fun b o e n hb hx => ?_, U.free, fun b o e hx => ?_, U.tups, U.frzs, U.tbls⟩ (fun b ob e => ?_) I5.bare
          fun b hb => ⟨(f2 b hb).2.2.2.1, (f2 b hb).2.1, (f2 b hb).2.2.2.2.1, (f2 b hb).2.2.2.2.2⟩
        · obtain ⟨sl, e'⟩ := U.slot b o e n hb hx
          exact ⟨sl, e'⟩
        · obtain ⟨o', e'⟩ := U.there b o e hx
          exact ⟨o', e'⟩
        · exact I5.hok b ob e
      · refine thn (T.item (compCx X N' scope (closOf X.env.cells scope.names) hpL.objs.size fp { s₂ with heap := hpL } (upd H2 s₂.heap.objs.size (.lst []))) rfl rfl rfl hc i [] s3 _ H3 _ I4 (stat fr3) st3 go) fun r s4 ⟨u, hr, h4⟩ => ?_
        subst hr
        refine thn h4 fun _ s5 ⟨x, H5, I5, r5, y5, st5, fr5⟩ => ?_
        have I5' := I5.pinned (stat fr5) (T.obj _ _ st5)
        have again : ∀ {H8 : Hp} {s8 : Shared} {σ8 : L2.St} {acc8 : List V} {m' : Nat}, Inv (compCx X N' scope (closOf X.env.cells scope.names) hpL.objs.size fp { s₂ with heap := hpL } (upd H2 s₂.heap.objs.size (.lst []))) ([] ++ pinsAt fp s5.heap) σ8 H8 s8 → σ8.drop k = (capSt k cap σ).drop k → m' < n → W (i + 1) m' acc8 H8 →
            ∃ m, m < n ∧ ∃ i acc H', Inv (compCx X N' scope (closOf X.env.cells scope.names) hpL.objs.size fp { s₂ with heap := hpL } (upd H2 s₂.heap.objs.size (.lst []))) [] (capSt k cap σ) H' s8 ∧ tn i s8.heap ∧ (∀ b ∈ fp, H' b = none) ∧ W i m acc H' := fun {H8 s8 σ8 acc8 m'} I8 hd8 hm8 w8 => by
          refine ⟨m', hm8, i + 1, acc8, H8, I8.unpinned.weak (IX.len.trans I8.len.symm) (fun j v e => ?_), T.keep _ _ _ st5 fun b hb o e => (I8.pin (b, o) (List.mem_append_right _ (List.mem_append_right _ (mem_pinsAt hb e)))).1, fun b hb => ?_, w8⟩
          · have hj := capSt_low e
            have q : (σ8.drop k)[j - k]? = ((capSt k cap σ).drop k)[j - k]? := by rw [hd8]
            rw [List.getElem?_drop, List.getElem?_drop, show k + (j - k) = j by omega] at q
            rw [q]; exact e
          · obtain ⟨o, e, d⟩ := T.obj _ _ st5 b hb
            exact (I8.pin (b, o) (List.mem_append_right _ (List.mem_append_right _ (mem_pinsAt hb e)))).2.1
        refine wpAny_mono ((body _ _ _ _ _).1 _ s5 _ H5 x u _ I5' r5 (step x H5 y5)) (fun _ s6 h6 => ?_) fun _ _ f => f.elim
        obtain ⟨σ6, H6, I6, hd6, q6⟩ := h6
        refine wpAny_mono ((body _ _ _ _ _).2.1 _ s6 σ6 H6 _ I6 q6) (fun b s7 h7 => ?_) fun _ _ f => f.elim
        obtain ⟨H7, I7, q7⟩ := h7
        cases b with
        | false =>
          rw [if_neg Bool.false_ne_true] at q7
          rw [if_neg Bool.false_ne_true]
          obtain ⟨m', hm', w7⟩ := q7
          exact again I7 hd6 hm' w7
        | true =>
          rw [if_pos rfl] at q7
          rw [if_pos rfl]
          refine wpAny_mono ((body _ _ _ _ _).2.2 _ s7 σ6 H7 _ I7 q7) (fun yv s8 h8 => ?_) fun _ _ f => f.elim
          obtain ⟨y, H8, I8, r8, acc', hp8, hl8, m', hm', w8⟩ := h8
          refine wpAny_mono (mt_append (X := compCx X N' scope (closOf X.env.cells scope.names) hpL.objs.size fp { s₂ with heap := hpL } (upd H2 s₂.heap.objs.size (.lst []))) _ s8 σ6 H8 (.ref s₂.heap.objs.size) [y] (.ref s₂.heap.objs.size) [yv] (fun _ Hx => Hx = upd H8 s₂.heap.objs.size (.lst (acc' ++ [y]))) I8 rfl (.cons r8 .nil) ⟨_, acc', y, rfl, rfl, hp8, hl8, rfl⟩) (fun _ s9 h9 => ?_) fun _ _ f => f.elim
          obtain ⟨_, H9, I9, _, e9⟩ := h9
          subst e9
          exact again I9 hd6 hm' w8
    · have z : b ≠ s₂.heap.objs.size := Nat.ne_of_lt (hfpS b hb)
      rw [upd_ne z]
      exact (f2 b hb).1
  exact codeAny_compStart_list loop (T.self _ 0 _ _ _ st4 loop)
end L3
namespace L4
open PySem PySem.Spec PyProof.Rows L2 L3
section
variable {X : Cx} {G : Bg}
theorem nodup_at (l : List Str) (h : l.Nodup) : l.Nodup := h
theorem pas_weak {st : Stmt} {te te' : TE} {g : TG} (h : PS X st (tAsg te g)) (w : ∀ σ H Q, te' σ H Q → te σ H Q) : PS X st (tAsg te' g) := PS.weak h fun E σ H hh => w _ _ _ hh
theorem pfs_comp {st : Stmt} {i k : Nat} {cap : List Nat} {s : FA} {g : FG} {ft : FT} {fe : FE} (nd : cap.Nodup) (h : PS X st (tAsg (tComp (tFI G s) (tFG G k g) (tFT G ft) (tF G fe) k cap) (gName i))) : PS X st (tFS G (sSet i (cL (cComp k cap s g ft fe)))) := pfs_set (pas_weak (pas_weak h (tComp_N nd)) tN_F)
end
end L4

set_option Elab.async false
set_option linter.all false
set_option maxRecDepth 100000
set_option maxHeartbeats 4000000
/-! HOW THE FUNCTIONS ARE REASONED ABOUT: a step at a time, loops and comprehensions by their lists. -/
namespace L4
open PySem PySem.Spec PyProof.Rows L2 L3
section
variable {f g h : FS} {c : FT} {e e' e2 : FE} {a a' : FA} {ρ ρ' ρ1 ρ2 ρ3 : List Sl} {d x y z : D} {o : Out} {ds xs ys : List D}
theorem ev_seq (h : f ρ = some (.nx ρ')) : sSeq f g ρ = g ρ' := by unfold sSeq; rw [h]
theorem ev_seq_rt (h : f ρ = some (.rt d ρ')) : sSeq f g ρ = some (.rt d ρ') := by unfold sSeq; rw [h]
theorem ev_if_t (h : c ρ = some (true, ρ')) : sIf c f g ρ = f ρ' := by unfold sIf; rw [h]
theorem ev_if_f (h : c ρ = some (false, ρ')) : sIf c f g ρ = g ρ' := by unfold sIf; rw [h]
theorem ev_set {i : Nat} (h : e ρ = some (d, ρ')) : sSet i e ρ = some (.nx (ρ'.set i (.im d))) := by unfold sSet; rw [h]
theorem ev_setN {i : Nat} (h : a ρ = some (ds, ρ')) : sSetN i a ρ = some (.nx (ρ'.set i (.ls ds))) := by unfold sSetN; rw [h]
theorem ev_ret (h : e ρ = some (d, ρ')) : sRet e ρ = some (.rt d ρ') := by unfold sRet; rw [h]
theorem ev_retN (h : a ρ = some (ds, ρ')) : sRetN a ρ = some (.rn ds ρ') := by unfold sRetN; rw [h]
theorem ev_expr (h : e ρ = some (d, ρ')) : sExpr e ρ = some (.nx ρ') := by unfold sExpr; rw [h]
theorem ev_ixset {i k : Nat} {j : Int} (h : e ρ = some (d, ρ1)) (h1 : lsAt ρ1 i = some ds) (h2 : ixN ds.length j = some k) : sIxSet i j e ρ = some (.nx (putAt ρ1 i (ds.set k d))) := by
  unfold sIxSet; rw [h]; simp only [h1, h2]
theorem ev_c2 {g : D → D → Option D} (h1 : e ρ = some (x, ρ1)) (h2 : e' ρ1 = some (y, ρ2)) (h3 : g x y = some z) : c2 g e e' ρ = some (z, ρ2) := by unfold c2; rw [h1]; simp only [h2, h3]
theorem ev_bor (h1 : e (ρ.map Sl.bor) = some (d, ρ1)) (hf : flatD d = true) : cBor e ρ = some (d, ρ) := by unfold cBor; rw [h1]; simp only [hf, if_true]
theorem ev_borT {b : Bool} (h1 : c (ρ.map Sl.bor) = some (b, ρ1)) : cBorT c ρ = some (b, ρ) := by unfold cBorT; rw [h1]
theorem ev_T {b : Bool} (h1 : e ρ = some (.bl b, ρ1)) : cT e ρ = some (b, ρ1) := by unfold cT; rw [h1]
theorem ev_orT {b : Bool} {c' : FT} (h1 : c ρ = some (false, ρ1)) (h2 : c' ρ1 = some (b, ρ2)) : cOrT c c' ρ = some (b, ρ2) := by unfold cOrT; rw [h1]; exact h2
theorem ev_cons (h1 : e ρ = some (d, ρ1)) (h2 : a ρ1 = some (ds, ρ2)) : aCons e a ρ = some (d :: ds, ρ2) := by unfold aCons; rw [h1]; simp only [h2]
theorem ev_call {α : Type} {g : List D → Option α} {r : α} (h1 : a ρ = some (ds, ρ1)) (h2 : g ds = some r) : cCallG g a ρ = some (r, ρ1) := by unfold cCallG; rw [h1]; simp only [h2]
theorem ev_L (h1 : a ρ = some (ds, ρ1)) : cL a ρ = some (.lst ds, ρ1) := by unfold cL; rw [h1]
theorem ev_lst (h1 : a ρ = some (ds, ρ1)) (hl : ds.length ≤ 1000) : cLst a ρ = some (ds, ρ1) := by unfold cLst; rw [h1]; simp only [hl, if_true]
theorem ev_tup (h1 : a ρ = some (ds, ρ1)) (hl : ds.length ≤ 1000) : cTup a ρ = some (.tup ds, ρ1) := by unfold cTup; rw [h1]; simp only [hl, if_true]
theorem ev_cat (h1 : e ρ = some (.lst xs, ρ1)) (h2 : e' ρ1 = some (.lst ys, ρ2)) (hl : xs.length + ys.length ≤ 1000) : cCat e e' ρ = some (xs ++ ys, ρ2) := by unfold cCat; rw [h1]; simp only [h2, hl, if_true]
theorem ev_mut {g : List D → List D → Option (D × List D)} {i : Nat} {es es0 es' : List D} (h0 : lsAt ρ i = some es0) (h1 : a ρ = some (ds, ρ1)) (h2 : lsAt ρ1 i = some es) (h3 : g es ds = some (d, es')) : cMut g i a ρ = some (d, putAt ρ1 i es') := by
  unfold cMut; rw [h0]; simp only [h1, h2, h3]
theorem ev_app {i : Nat} {es es0 : List D} (h0 : lsAt ρ i = some es0) (h1 : e ρ = some (d, ρ1)) (h2 : lsAt ρ1 i = some es) (hl : es.length < 1000) : cApp i e ρ = some (.non, putAt ρ1 i (es ++ [d])) := by
  unfold cApp; rw [h0]; simp only [h1, h2, hl, if_true]
theorem ev_for {s : FA} {g : FG} (h1 : s ρ = some (ds, ρ1)) : sFor s g f ρ = forL g f ds ρ1 := by unfold sFor; rw [h1]
theorem ev_comp {k : Nat} {cap : List Nat} {s : FA} {g : FG} {ft : FT} {fe : FE} (h1 : s ρ = some (ds, ρ1)) (hl : ds.length ≤ 1000) : cComp k cap s g ft fe ρ = compL k cap g ft fe ds ρ1 := by unfold cComp; rw [h1]; simp only [hl, if_true]
theorem forL_inv' {g : FG} (P : List D → List Sl → Prop) (all : List D) : ∀ (ds dn : List D) (ρ : List Sl), dn ++ ds = all → P dn ρ → (∀ dn d rest ρ, dn ++ d :: rest = all → P dn ρ → ∃ ρ1 ρ2, g d ρ = some ρ1 ∧ f ρ1 = some (.nx ρ2) ∧ P (dn ++ [d]) ρ2) → ∃ ρ', forL g f ds ρ = some (.nx ρ') ∧ P all ρ'
  | [], dn, ρ, e, p, _ => ⟨ρ, rfl, by rw [← e, List.append_nil]; exact p⟩
  | d :: ds, dn, ρ, e, p, st => by
    obtain ⟨ρ1, ρ2, h1, h2, h3⟩ := st dn d ds ρ e p
    obtain ⟨ρ', h4, h5⟩ := forL_inv' P all ds (dn ++ [d]) ρ2 (by rw [List.append_assoc]; exact e) h3 st
    refine ⟨ρ', ?_, h5⟩
    unfold forL
    rw [h1]
    simp only [h2]
    exact h4
theorem fnM_rt {np n : Nat} {b : FS} {es es' : List D} (hl : ds.length = np) (h : b (L4.stM n es ds) = some (.rt d ρ)) (h0 : pmAt0 ρ = some es') : fnM np n b es ds = some (d, es') := by unfold fnM; rw [if_pos hl, h]; simp only [h0]
theorem fnN_rn {np n : Nat} {b : FS} (hl : ds.length = np) (h : b (L4.stE n ds) = some (.rn xs ρ)) : fnN np n b ds = some xs := by unfold fnN; rw [if_pos hl, h]
theorem fnD_rt {np n : Nat} {b : FS} (hl : ds.length = np) (h : b (L4.stE n ds) = some (.rt d ρ)) : fnD np n b ds = some d := by unfold fnD; rw [if_pos hl, h]
theorem dEq_refl_lst {l : List L3.D} {neg : Bool} (h : toDs ds = some l) (hd : dpts l ≤ 19) : dEq neg (.lst ds) (.lst ds) = some (.bl (!neg)) := by
  have e0 : dEq0 neg (.lst ds) (.lst ds) = none := rfl
  have e1 : toD (.lst ds) = some (.lst l) := by unfold toD; rw [h]
  have e2 : dpt (.lst l) = dpts l + 1 := by rw [dpt]
  unfold dEq
  rw [e0]
  simp only
  unfold dEq1
  rw [e1]
  simp only
  rw [if_pos (by simp only [Bool.and_eq_true, decide_eq_true_eq]; exact ⟨⟨rfl, by omega⟩, by omega⟩), L3.eqD_refl]
  cases neg <;> rfl
end
/-! the digits of a number -/
def DStD (es : List D) : Prop := (∃ c, es = [.int c]) ∨ ∃ q r n, es = [.int q, .int r, .int n]
theorem small_mul {a b : Int} (h : smallI a = true ∨ smallI b = true) : dMulI (.int a) (.int b) = some (.int (a * b)) := by
  unfold dMulI dI
  simp only
  rw [if_pos (by simpa using h)]
theorem mod_pos {a b : Int} (h : 0 < b) : dModI (.int a) (.int b) = some (.int (a % b)) := by
  unfold dModI dI
  simp only
  rw [if_pos (by simpa using h)]
theorem div_pos {a b : Int} (h : 0 < b) (h' : b < 1073741824) : dDivI (.int a) (.int b) = some (.int (a / b)) := by
  unfold dDivI dI
  simp only
  rw [if_pos (by simp [h, h'])]
theorem small_of {a : Int} (h : 0 ≤ a) (h' : a < 2147483647) : smallI a = true := by
  unfold smallI
  simp only [Bool.and_eq_true, decide_eq_true_eq]
  omega
end L4

set_option Elab.async false
set_option linter.all false
set_option maxRecDepth 100000
set_option maxHeartbeats 4000000
namespace K33
open PySem L2 L3 L4
abbrev D := L4.D
def top (i : Nat) : Stmt := PySem.Challenge.pw_tellworld_k33_common_verbs_and_rules.main.body.getD i (.Pass ⟨0, 0, 0, 0⟩)
def okf_term : Nat → Bool := fun c => c == 0 || c == 1 || c == 2 || c == 3 || c == 6 || c == 7
def okf_place : Nat → Bool := fun c => c == 0 || c == 6
def okf_value : Nat → Bool := fun c => c == 2 || c == 7
def okf_kind : Nat → Bool := fun c => c == 3
def okf_word : Nat → Bool := fun c => c == 4
def okf_inner : Nat → Bool := fun c => c == 5
def okf_name : Nat → Bool := fun c => c == 8
def okf_others : Nat → Bool := fun c => c == 8
def okf_form : Nat → Bool := fun c => c == 8
def okf_joining : Nat → Bool := fun c => c == 8
def okf_verb : Nat → Bool := fun c => c == 9
def okf_tests : Nat → Bool := fun c => c == 9
def okf_deeds : Nat → Bool := fun c => c == 9
def okf_text : Nat → Bool := fun c => c == 9
def okf_refuses : Nat → Bool := fun c => c == 9
section
variable {P : Program} {w : World} {mg : Str → Option Value} {base : Heap} {G : Bg}
abbrev s_own_list : Stmt := top 28
theorem sc_own_list : FnScope ["thing"] ["thing"] (defScope s_own_list) := ⟨rfl, rfl, rfl, by decide +kernel, rfl, by decide +kernel, by decide +kernel⟩
def b_own_list : FS := (sRet (cIf (cT (c1 (dInst (instB "list")) (cV 0))) (cL (cList (cV 0))) (cV 0)))
def f_own_list : List D → Option D := fnD 1 1 b_own_list
theorem ok_own_list {f : Addr} {fd : FuncData} (b_isinstance : mg "isinstance" = none) (b_list : mg "list" = none) (F : Fun G.K "own_list" "own_list" s_own_list f fd) : FnOk P w G.K mg base CX0 1 f fd ["thing"] (spF G f_own_list) :=
  fun_F (k := 0) (g := f_own_list) (b := b_own_list) rfl rfl rfl F sc_own_list fun cdv A outer s H E hr =>
  (@pfs_one _ _ _ _ (@pfs_ret _ _ _ _ _ (@pf_if _ _ _ _ _ _ _ _ _ (@pft_val _ _ _ _ (@pf_inst _ _ _ _ _ _ (@pe_callB _ _ _ _ _ _ _ _ _ (@call_inst _ _ (.b "list") _ (@kit_list _ _) (@instB_no _ _ _) rfl) (by rfl) b_isinstance PyProof.Rows.boot_isinstance (@pa_cons _ _ _ _ _ (@pf_var _ _ _ _ (@pv _ 0 _ _ rfl (by first | exact Or.inl rfl | exact Or.inr (Or.inl rfl) | exact Or.inr (Or.inr rfl)) (by decide) (by decide))) (@pa_cons _ _ _ _ _ (@pe_bltn _ _ (.ty "list") _ _ (by rfl) b_list PySem.Pv.boot_list rfl (by decide) (by decide)) (@pa_nil _) rfl) rfl) (by decide) (by decide) rfl rfl)) (by intro _; rfl)) (@pf_new _ _ _ _ (@pfn_list _ _ _ _ (@pe_callTy _ _ _ _ _ _ _ _ _ (@call_listX _ _ rfl) (by rfl) b_list PySem.Pv.boot_list (@pfa_cons _ _ _ _ _ _ (@pf_var _ _ _ _ (@pv _ 0 _ _ rfl (by first | exact Or.inl rfl | exact Or.inr (Or.inl rfl) | exact Or.inr (Or.inr rfl)) (by decide) (by decide))) (@pfa_nil _ _) rfl) (by decide) (by decide) rfl rfl))) (@pf_var _ _ _ _ (@pv _ 0 _ _ rfl (by first | exact Or.inl rfl | exact Or.inr (Or.inl rfl) | exact Or.inr (Or.inr rfl)) (by decide) (by decide))))))
abbrev s_At_init : Stmt := inClass (top 11) 0
theorem sc_At_init : FnScope ["self", "term", "place"] ["self", "term", "place"] (defScope s_At_init) := ⟨rfl, rfl, rfl, by decide +kernel, rfl, by decide +kernel, by decide +kernel⟩
def b_At_init : FS := (sSeq (sFldO 0 0 "term" (cV 1))
  (sFldO 0 0 "place" (cV 2)))
def f_At_init : List D → Option (List Str × List D) := fnI 0 2 3 b_At_init
theorem ok_At_init {f : Addr} {fd : FuncData} (at_At_term : Cls G.K (G.ca 0) ∧ NoAttr G.K (G.ca 0) "term") (at_At_place : Cls G.K (G.ca 0) ∧ NoAttr G.K (G.ca 0) "place") (F : Fun G.K "__init__" "At.__init__" s_At_init f fd) : FnOk P w G.K mg base CX0 1 f fd ["self", "term", "place"] (spI G 0 f_At_init) :=
  fun_I (k := 0) (g := f_At_init) (b := b_At_init) rfl rfl rfl F sc_At_init fun cdv A outer s H E hr =>
  (@pfs_cons _ _ _ _ _ _ (@pfs_fld _ _ _ _ _ _ _ (@ps_fld _ _ _ _ _ _ _ _ (@pv _ 0 _ _ rfl (by first | exact Or.inl rfl | exact Or.inr (Or.inl rfl) | exact Or.inr (Or.inr rfl)) (by decide) (by decide)) (@pf_var _ _ _ _ (@pv _ 1 _ _ rfl (by first | exact Or.inl rfl | exact Or.inr (Or.inl rfl) | exact Or.inr (Or.inr rfl)) (by decide) (by decide))) rfl) at_At_term) (@pfs_one _ _ _ _ (@pfs_fld _ _ _ _ _ _ _ (@ps_fld _ _ _ _ _ _ _ _ (@pv _ 0 _ _ rfl (by first | exact Or.inl rfl | exact Or.inr (Or.inl rfl) | exact Or.inr (Or.inr rfl)) (by decide) (by decide)) (@pf_var _ _ _ _ (@pv _ 2 _ _ rfl (by first | exact Or.inl rfl | exact Or.inr (Or.inl rfl) | exact Or.inr (Or.inr rfl)) (by decide) (by decide))) rfl) at_At_place)))
abbrev s_Has_init : Stmt := inClass (top 12) 0
theorem sc_Has_init : FnScope ["self", "term"] ["self", "term"] (defScope s_Has_init) := ⟨rfl, rfl, rfl, by decide +kernel, rfl, by decide +kernel, by decide +kernel⟩
def b_Has_init : FS := (sFldO 1 0 "term" (cV 1))
def f_Has_init : List D → Option (List Str × List D) := fnI 1 1 2 b_Has_init
theorem ok_Has_init {f : Addr} {fd : FuncData} (at_Has_term : Cls G.K (G.ca 1) ∧ NoAttr G.K (G.ca 1) "term") (F : Fun G.K "__init__" "Has.__init__" s_Has_init f fd) : FnOk P w G.K mg base CX0 1 f fd ["self", "term"] (spI G 1 f_Has_init) :=
  fun_I (k := 0) (g := f_Has_init) (b := b_Has_init) rfl rfl rfl F sc_Has_init fun cdv A outer s H E hr =>
  (@pfs_one _ _ _ _ (@pfs_fld _ _ _ _ _ _ _ (@ps_fld _ _ _ _ _ _ _ _ (@pv _ 0 _ _ rfl (by first | exact Or.inl rfl | exact Or.inr (Or.inl rfl) | exact Or.inr (Or.inr rfl)) (by decide) (by decide)) (@pf_var _ _ _ _ (@pv _ 1 _ _ rfl (by first | exact Or.inl rfl | exact Or.inr (Or.inl rfl) | exact Or.inr (Or.inr rfl)) (by decide) (by decide))) rfl) at_Has_term))
abbrev s_Marked_init : Stmt := inClass (top 13) 0
theorem sc_Marked_init : FnScope ["self", "term", "value"] ["self", "term", "value"] (defScope s_Marked_init) := ⟨rfl, rfl, rfl, by decide +kernel, rfl, by decide +kernel, by decide +kernel⟩
def b_Marked_init : FS := (sSeq (sFldO 2 0 "term" (cV 1))
  (sFldO 2 0 "value" (cV 2)))
def f_Marked_init : List D → Option (List Str × List D) := fnI 2 2 3 b_Marked_init
theorem ok_Marked_init {f : Addr} {fd : FuncData} (at_Marked_term : Cls G.K (G.ca 2) ∧ NoAttr G.K (G.ca 2) "term") (at_Marked_value : Cls G.K (G.ca 2) ∧ NoAttr G.K (G.ca 2) "value") (F : Fun G.K "__init__" "Marked.__init__" s_Marked_init f fd) : FnOk P w G.K mg base CX0 1 f fd ["self", "term", "value"] (spI G 2 f_Marked_init) :=
  fun_I (k := 0) (g := f_Marked_init) (b := b_Marked_init) rfl rfl rfl F sc_Marked_init fun cdv A outer s H E hr =>
  (@pfs_cons _ _ _ _ _ _ (@pfs_fld _ _ _ _ _ _ _ (@ps_fld _ _ _ _ _ _ _ _ (@pv _ 0 _ _ rfl (by first | exact Or.inl rfl | exact Or.inr (Or.inl rfl) | exact Or.inr (Or.inr rfl)) (by decide) (by decide)) (@pf_var _ _ _ _ (@pv _ 1 _ _ rfl (by first | exact Or.inl rfl | exact Or.inr (Or.inl rfl) | exact Or.inr (Or.inr rfl)) (by decide) (by decide))) rfl) at_Marked_term) (@pfs_one _ _ _ _ (@pfs_fld _ _ _ _ _ _ _ (@ps_fld _ _ _ _ _ _ _ _ (@pv _ 0 _ _ rfl (by first | exact Or.inl rfl | exact Or.inr (Or.inl rfl) | exact Or.inr (Or.inr rfl)) (by decide) (by decide)) (@pf_var _ _ _ _ (@pv _ 2 _ _ rfl (by first | exact Or.inl rfl | exact Or.inr (Or.inl rfl) | exact Or.inr (Or.inr rfl)) (by decide) (by decide))) rfl) at_Marked_value)))
abbrev s_Kind_init : Stmt := inClass (top 14) 0
theorem sc_Kind_init : FnScope ["self", "term", "kind"] ["self", "term", "kind"] (defScope s_Kind_init) := ⟨rfl, rfl, rfl, by decide +kernel, rfl, by decide +kernel, by decide +kernel⟩
def b_Kind_init : FS := (sSeq (sFldO 3 0 "term" (cV 1))
  (sFldO 3 0 "kind" (cV 2)))
def f_Kind_init : List D → Option (List Str × List D) := fnI 3 2 3 b_Kind_init
theorem ok_Kind_init {f : Addr} {fd : FuncData} (at_Kind_term : Cls G.K (G.ca 3) ∧ NoAttr G.K (G.ca 3) "term") (at_Kind_kind : Cls G.K (G.ca 3) ∧ NoAttr G.K (G.ca 3) "kind") (F : Fun G.K "__init__" "Kind.__init__" s_Kind_init f fd) : FnOk P w G.K mg base CX0 1 f fd ["self", "term", "kind"] (spI G 3 f_Kind_init) :=
  fun_I (k := 0) (g := f_Kind_init) (b := b_Kind_init) rfl rfl rfl F sc_Kind_init fun cdv A outer s H E hr =>
  (@pfs_cons _ _ _ _ _ _ (@pfs_fld _ _ _ _ _ _ _ (@ps_fld _ _ _ _ _ _ _ _ (@pv _ 0 _ _ rfl (by first | exact Or.inl rfl | exact Or.inr (Or.inl rfl) | exact Or.inr (Or.inr rfl)) (by decide) (by decide)) (@pf_var _ _ _ _ (@pv _ 1 _ _ rfl (by first | exact Or.inl rfl | exact Or.inr (Or.inl rfl) | exact Or.inr (Or.inr rfl)) (by decide) (by decide))) rfl) at_Kind_term) (@pfs_one _ _ _ _ (@pfs_fld _ _ _ _ _ _ _ (@ps_fld _ _ _ _ _ _ _ _ (@pv _ 0 _ _ rfl (by first | exact Or.inl rfl | exact Or.inr (Or.inl rfl) | exact Or.inr (Or.inr rfl)) (by decide) (by decide)) (@pf_var _ _ _ _ (@pv _ 2 _ _ rfl (by first | exact Or.inl rfl | exact Or.inr (Or.inl rfl) | exact Or.inr (Or.inr rfl)) (by decide) (by decide))) rfl) at_Kind_kind)))
abbrev s_Word_init : Stmt := inClass (top 15) 0
theorem sc_Word_init : FnScope ["self", "word"] ["self", "word"] (defScope s_Word_init) := ⟨rfl, rfl, rfl, by decide +kernel, rfl, by decide +kernel, by decide +kernel⟩
def b_Word_init : FS := (sFldO 4 0 "word" (cV 1))
def f_Word_init : List D → Option (List Str × List D) := fnI 4 1 2 b_Word_init
theorem ok_Word_init {f : Addr} {fd : FuncData} (at_Word_word : Cls G.K (G.ca 4) ∧ NoAttr G.K (G.ca 4) "word") (F : Fun G.K "__init__" "Word.__init__" s_Word_init f fd) : FnOk P w G.K mg base CX0 1 f fd ["self", "word"] (spI G 4 f_Word_init) :=
  fun_I (k := 0) (g := f_Word_init) (b := b_Word_init) rfl rfl rfl F sc_Word_init fun cdv A outer s H E hr =>
  (@pfs_one _ _ _ _ (@pfs_fld _ _ _ _ _ _ _ (@ps_fld _ _ _ _ _ _ _ _ (@pv _ 0 _ _ rfl (by first | exact Or.inl rfl | exact Or.inr (Or.inl rfl) | exact Or.inr (Or.inr rfl)) (by decide) (by decide)) (@pf_var _ _ _ _ (@pv _ 1 _ _ rfl (by first | exact Or.inl rfl | exact Or.inr (Or.inl rfl) | exact Or.inr (Or.inr rfl)) (by decide) (by decide))) rfl) at_Word_word))
abbrev s_Not_init : Stmt := inClass (top 16) 0
theorem sc_Not_init : FnScope ["self", "inner"] ["self", "inner"] (defScope s_Not_init) := ⟨rfl, rfl, rfl, by decide +kernel, rfl, by decide +kernel, by decide +kernel⟩
def b_Not_init : FS := (sFldO 5 0 "inner" (cV 1))
def f_Not_init : List D → Option (List Str × List D) := fnI 5 1 2 b_Not_init
theorem ok_Not_init {f : Addr} {fd : FuncData} (at_Not_inner : Cls G.K (G.ca 5) ∧ NoAttr G.K (G.ca 5) "inner") (F : Fun G.K "__init__" "Not.__init__" s_Not_init f fd) : FnOk P w G.K mg base CX0 1 f fd ["self", "inner"] (spI G 5 f_Not_init) :=
  fun_I (k := 0) (g := f_Not_init) (b := b_Not_init) rfl rfl rfl F sc_Not_init fun cdv A outer s H E hr =>
  (@pfs_one _ _ _ _ (@pfs_fld _ _ _ _ _ _ _ (@ps_fld _ _ _ _ _ _ _ _ (@pv _ 0 _ _ rfl (by first | exact Or.inl rfl | exact Or.inr (Or.inl rfl) | exact Or.inr (Or.inr rfl)) (by decide) (by decide)) (@pf_var _ _ _ _ (@pv _ 1 _ _ rfl (by first | exact Or.inl rfl | exact Or.inr (Or.inl rfl) | exact Or.inr (Or.inr rfl)) (by decide) (by decide))) rfl) at_Not_inner))
abbrev s_Move_init : Stmt := inClass (top 22) 0
theorem sc_Move_init : FnScope ["self", "term", "place"] ["self", "term", "place"] (defScope s_Move_init) := ⟨rfl, rfl, rfl, by decide +kernel, rfl, by decide +kernel, by decide +kernel⟩
def b_Move_init : FS := (sSeq (sFldO 6 0 "term" (cV 1))
  (sFldO 6 0 "place" (cV 2)))
def f_Move_init : List D → Option (List Str × List D) := fnI 6 2 3 b_Move_init
theorem ok_Move_init {f : Addr} {fd : FuncData} (at_Move_term : Cls G.K (G.ca 6) ∧ NoAttr G.K (G.ca 6) "term") (at_Move_place : Cls G.K (G.ca 6) ∧ NoAttr G.K (G.ca 6) "place") (F : Fun G.K "__init__" "Move.__init__" s_Move_init f fd) : FnOk P w G.K mg base CX0 1 f fd ["self", "term", "place"] (spI G 6 f_Move_init) :=
  fun_I (k := 0) (g := f_Move_init) (b := b_Move_init) rfl rfl rfl F sc_Move_init fun cdv A outer s H E hr =>
  (@pfs_cons _ _ _ _ _ _ (@pfs_fld _ _ _ _ _ _ _ (@ps_fld _ _ _ _ _ _ _ _ (@pv _ 0 _ _ rfl (by first | exact Or.inl rfl | exact Or.inr (Or.inl rfl) | exact Or.inr (Or.inr rfl)) (by decide) (by decide)) (@pf_var _ _ _ _ (@pv _ 1 _ _ rfl (by first | exact Or.inl rfl | exact Or.inr (Or.inl rfl) | exact Or.inr (Or.inr rfl)) (by decide) (by decide))) rfl) at_Move_term) (@pfs_one _ _ _ _ (@pfs_fld _ _ _ _ _ _ _ (@ps_fld _ _ _ _ _ _ _ _ (@pv _ 0 _ _ rfl (by first | exact Or.inl rfl | exact Or.inr (Or.inl rfl) | exact Or.inr (Or.inr rfl)) (by decide) (by decide)) (@pf_var _ _ _ _ (@pv _ 2 _ _ rfl (by first | exact Or.inl rfl | exact Or.inr (Or.inl rfl) | exact Or.inr (Or.inr rfl)) (by decide) (by decide))) rfl) at_Move_place)))
abbrev s_Put_init : Stmt := inClass (top 23) 0
theorem sc_Put_init : FnScope ["self", "term", "value"] ["self", "term", "value"] (defScope s_Put_init) := ⟨rfl, rfl, rfl, by decide +kernel, rfl, by decide +kernel, by decide +kernel⟩
def b_Put_init : FS := (sSeq (sFldO 7 0 "term" (cV 1))
  (sFldO 7 0 "value" (cV 2)))
def f_Put_init : List D → Option (List Str × List D) := fnI 7 2 3 b_Put_init
theorem ok_Put_init {f : Addr} {fd : FuncData} (at_Put_term : Cls G.K (G.ca 7) ∧ NoAttr G.K (G.ca 7) "term") (at_Put_value : Cls G.K (G.ca 7) ∧ NoAttr G.K (G.ca 7) "value") (F : Fun G.K "__init__" "Put.__init__" s_Put_init f fd) : FnOk P w G.K mg base CX0 1 f fd ["self", "term", "value"] (spI G 7 f_Put_init) :=
  fun_I (k := 0) (g := f_Put_init) (b := b_Put_init) rfl rfl rfl F sc_Put_init fun cdv A outer s H E hr =>
  (@pfs_cons _ _ _ _ _ _ (@pfs_fld _ _ _ _ _ _ _ (@ps_fld _ _ _ _ _ _ _ _ (@pv _ 0 _ _ rfl (by first | exact Or.inl rfl | exact Or.inr (Or.inl rfl) | exact Or.inr (Or.inr rfl)) (by decide) (by decide)) (@pf_var _ _ _ _ (@pv _ 1 _ _ rfl (by first | exact Or.inl rfl | exact Or.inr (Or.inl rfl) | exact Or.inr (Or.inr rfl)) (by decide) (by decide))) rfl) at_Put_term) (@pfs_one _ _ _ _ (@pfs_fld _ _ _ _ _ _ _ (@ps_fld _ _ _ _ _ _ _ _ (@pv _ 0 _ _ rfl (by first | exact Or.inl rfl | exact Or.inr (Or.inl rfl) | exact Or.inr (Or.inr rfl)) (by decide) (by decide)) (@pf_var _ _ _ _ (@pv _ 2 _ _ rfl (by first | exact Or.inl rfl | exact Or.inr (Or.inl rfl) | exact Or.inr (Or.inr rfl)) (by decide) (by decide))) rfl) at_Put_value)))
abbrev s_Verb_init : Stmt := inClass (top 25) 0
theorem sc_Verb_init : FnScope ["self", "name", "others", "form", "joining"] ["self", "name", "others", "form", "joining"] (defScope s_Verb_init) := ⟨rfl, rfl, rfl, by decide +kernel, rfl, by decide +kernel, by decide +kernel⟩
def b_Verb_init : FS := (sSeq (sFldO 8 0 "name" (cV 1))
  (sSeq (sFldO 8 0 "others" (cIf (cT (c2 dIsN (cV 2) (cC L4.D.non))) (cTup aNil) (cV 2)))
  (sSeq (sFldO 8 0 "form" (cV 3))
  (sFldO 8 0 "joining" (cV 4)))))
def f_Verb_init : List D → Option (List Str × List D) := fnI 8 4 5 b_Verb_init
theorem ok_Verb_init {f : Addr} {fd : FuncData} {T : Addr} (at_Verb_name : Cls G.K (G.ca 8) ∧ NoAttr G.K (G.ca 8) "name") (at_Verb_others : Cls G.K (G.ca 8) ∧ NoAttr G.K (G.ca 8) "others") (at_Verb_form : Cls G.K (G.ca 8) ∧ NoAttr G.K (G.ca 8) "form") (at_Verb_joining : Cls G.K (G.ca 8) ∧ NoAttr G.K (G.ca 8) "joining") (F : FunD G.K "__init__" "Verb.__init__" s_Verb_init f fd T) : FnOk P w G.K mg base CX0 1 f fd ["self", "name", "others", "form", "joining"] (spI G 8 f_Verb_init) :=
  fund_I (k := 0) (g := f_Verb_init) (b := b_Verb_init) rfl rfl rfl F sc_Verb_init fun cdv A outer s H E hr =>
  (@pfs_cons _ _ _ _ _ _ (@pfs_fld _ _ _ _ _ _ _ (@ps_fld _ _ _ _ _ _ _ _ (@pv _ 0 _ _ rfl (by first | exact Or.inl rfl | exact Or.inr (Or.inl rfl) | exact Or.inr (Or.inr rfl)) (by decide) (by decide)) (@pf_var _ _ _ _ (@pv _ 1 _ _ rfl (by first | exact Or.inl rfl | exact Or.inr (Or.inl rfl) | exact Or.inr (Or.inr rfl)) (by decide) (by decide))) rfl) at_Verb_name) (@pfs_cons _ _ _ _ _ _ (@pfs_fld _ _ _ _ _ _ _ (@ps_fld _ _ _ _ _ _ _ _ (@pv _ 0 _ _ rfl (by first | exact Or.inl rfl | exact Or.inr (Or.inl rfl) | exact Or.inr (Or.inr rfl)) (by decide) (by decide)) (@pf_if _ _ _ _ _ _ _ _ _ (@pft_cmp _ _ _ _ _ _ _ _ _ _ (@op_isN _) od_isN (@pf_var _ _ _ _ (@pv _ 2 _ _ rfl (by first | exact Or.inl rfl | exact Or.inr (Or.inl rfl) | exact Or.inr (Or.inr rfl)) (by decide) (by decide))) (@pf_non _ _ _ _) (nomark _)) (@pf_tup _ _ _ _ _ _ (@pfa_nil _ _)) (@pf_var _ _ _ _ (@pv _ 2 _ _ rfl (by first | exact Or.inl rfl | exact Or.inr (Or.inl rfl) | exact Or.inr (Or.inr rfl)) (by decide) (by decide)))) rfl) at_Verb_others) (@pfs_cons _ _ _ _ _ _ (@pfs_fld _ _ _ _ _ _ _ (@ps_fld _ _ _ _ _ _ _ _ (@pv _ 0 _ _ rfl (by first | exact Or.inl rfl | exact Or.inr (Or.inl rfl) | exact Or.inr (Or.inr rfl)) (by decide) (by decide)) (@pf_var _ _ _ _ (@pv _ 3 _ _ rfl (by first | exact Or.inl rfl | exact Or.inr (Or.inl rfl) | exact Or.inr (Or.inr rfl)) (by decide) (by decide))) rfl) at_Verb_form) (@pfs_one _ _ _ _ (@pfs_fld _ _ _ _ _ _ _ (@ps_fld _ _ _ _ _ _ _ _ (@pv _ 0 _ _ rfl (by first | exact Or.inl rfl | exact Or.inr (Or.inl rfl) | exact Or.inr (Or.inr rfl)) (by decide) (by decide)) (@pf_var _ _ _ _ (@pv _ 4 _ _ rfl (by first | exact Or.inl rfl | exact Or.inr (Or.inl rfl) | exact Or.inr (Or.inr rfl)) (by decide) (by decide))) rfl) at_Verb_joining)))))
abbrev s_Rule_init : Stmt := inClass (top 27) 0
theorem sc_Rule_init : FnScope ["self", "verb", "tests", "deeds", "text", "refuses"] ["self", "verb", "tests", "deeds", "text", "refuses"] (defScope s_Rule_init) := ⟨rfl, rfl, rfl, by decide +kernel, rfl, by decide +kernel, by decide +kernel⟩
def b_Rule_init : FS := (sSeq (sFldO 9 0 "verb" (cV 1))
  (sSeq (sFldO 9 0 "tests" (cCall f_own_list (aCons (cV 2) aNil)))
  (sSeq (sFldO 9 0 "deeds" (cCall f_own_list (aCons (cV 3) aNil)))
  (sSeq (sFldO 9 0 "text" (cV 4))
  (sFldO 9 0 "refuses" (cV 5))))))
def f_Rule_init : List D → Option (List Str × List D) := fnI 9 5 6 b_Rule_init
theorem ok_Rule_init {f : Addr} {fd : FuncData} {T : Addr} (at_Rule_verb : Cls G.K (G.ca 9) ∧ NoAttr G.K (G.ca 9) "verb") (d_own_list : DefOk P w G.K mg base 1 "own_list" ["thing"] (spF G f_own_list)) (at_Rule_tests : Cls G.K (G.ca 9) ∧ NoAttr G.K (G.ca 9) "tests") (at_Rule_deeds : Cls G.K (G.ca 9) ∧ NoAttr G.K (G.ca 9) "deeds") (at_Rule_text : Cls G.K (G.ca 9) ∧ NoAttr G.K (G.ca 9) "text") (at_Rule_refuses : Cls G.K (G.ca 9) ∧ NoAttr G.K (G.ca 9) "refuses") (F : FunD G.K "__init__" "Rule.__init__" s_Rule_init f fd T) : FnOk P w G.K mg base CX0 2 f fd ["self", "verb", "tests", "deeds", "text", "refuses"] (spI G 9 f_Rule_init) :=
  fund_I (k := 1) (g := f_Rule_init) (b := b_Rule_init) rfl rfl rfl F sc_Rule_init fun cdv A outer s H E hr =>
  (@pfs_cons _ _ _ _ _ _ (@pfs_fld _ _ _ _ _ _ _ (@ps_fld _ _ _ _ _ _ _ _ (@pv _ 0 _ _ rfl (by first | exact Or.inl rfl | exact Or.inr (Or.inl rfl) | exact Or.inr (Or.inr rfl)) (by decide) (by decide)) (@pf_var _ _ _ _ (@pv _ 1 _ _ rfl (by first | exact Or.inl rfl | exact Or.inr (Or.inl rfl) | exact Or.inr (Or.inr rfl)) (by decide) (by decide))) rfl) at_Rule_verb) (@pfs_cons _ _ _ _ _ _ (@pfs_fld _ _ _ _ _ _ _ (@ps_fld _ _ _ _ _ _ _ _ (@pv _ 0 _ _ rfl (by first | exact Or.inl rfl | exact Or.inr (Or.inl rfl) | exact Or.inr (Or.inr rfl)) (by decide) (by decide)) (@pf_def _ _ _ _ _ _ _ _ _ _ _ d_own_list (hr.mono (by decide : 1 ≤ 1)) (@pfa_cons _ _ _ _ _ _ (@pf_var _ _ _ _ (@pv _ 2 _ _ rfl (by first | exact Or.inl rfl | exact Or.inr (Or.inl rfl) | exact Or.inr (Or.inr rfl)) (by decide) (by decide))) (@pfa_nil _ _) rfl) rfl (by decide) rfl rfl) rfl) at_Rule_tests) (@pfs_cons _ _ _ _ _ _ (@pfs_fld _ _ _ _ _ _ _ (@ps_fld _ _ _ _ _ _ _ _ (@pv _ 0 _ _ rfl (by first | exact Or.inl rfl | exact Or.inr (Or.inl rfl) | exact Or.inr (Or.inr rfl)) (by decide) (by decide)) (@pf_def _ _ _ _ _ _ _ _ _ _ _ d_own_list (hr.mono (by decide : 1 ≤ 1)) (@pfa_cons _ _ _ _ _ _ (@pf_var _ _ _ _ (@pv _ 3 _ _ rfl (by first | exact Or.inl rfl | exact Or.inr (Or.inl rfl) | exact Or.inr (Or.inr rfl)) (by decide) (by decide))) (@pfa_nil _ _) rfl) rfl (by decide) rfl rfl) rfl) at_Rule_deeds) (@pfs_cons _ _ _ _ _ _ (@pfs_fld _ _ _ _ _ _ _ (@ps_fld _ _ _ _ _ _ _ _ (@pv _ 0 _ _ rfl (by first | exact Or.inl rfl | exact Or.inr (Or.inl rfl) | exact Or.inr (Or.inr rfl)) (by decide) (by decide)) (@pf_var _ _ _ _ (@pv _ 4 _ _ rfl (by first | exact Or.inl rfl | exact Or.inr (Or.inl rfl) | exact Or.inr (Or.inr rfl)) (by decide) (by decide))) rfl) at_Rule_text) (@pfs_one _ _ _ _ (@pfs_fld _ _ _ _ _ _ _ (@ps_fld _ _ _ _ _ _ _ _ (@pv _ 0 _ _ rfl (by first | exact Or.inl rfl | exact Or.inr (Or.inl rfl) | exact Or.inr (Or.inr rfl)) (by decide) (by decide)) (@pf_var _ _ _ _ (@pv _ 5 _ _ rfl (by first | exact Or.inl rfl | exact Or.inr (Or.inl rfl) | exact Or.inr (Or.inr rfl)) (by decide) (by decide))) rfl) at_Rule_refuses))))))
abbrev s_At_told : Stmt := inClass (top 11) 3
theorem sc_At_told : FnScope ["self"] ["self"] (defScope s_At_told) := ⟨rfl, rfl, rfl, by decide +kernel, rfl, by decide +kernel, by decide +kernel⟩
def b_At_told : FS := (sRet (cTup (aCons (cC (L4.D.str "at")) (aCons (c1 (dFld okf_term "term") (cV 0)) (aCons (c1 (dFld okf_place "place") (cV 0)) aNil)))))
def f_At_told : List D → Option D := fnD 1 1 b_At_told
theorem ok_At_told {f : Addr} {fd : FuncData} (fld_place : ∀ c, okf_place c = true → Cls G.K (G.ca c) ∧ NoAttr G.K (G.ca c) "place") (fld_term : ∀ c, okf_term c = true → Cls G.K (G.ca c) ∧ NoAttr G.K (G.ca c) "term") (F : Fun G.K "told" "At.told" s_At_told f fd) : FnOk P w G.K mg base CX0 1 f fd ["self"] (spF G f_At_told) :=
  fun_F (k := 0) (g := f_At_told) (b := b_At_told) rfl rfl rfl F sc_At_told fun cdv A outer s H E hr =>
  (@pfs_one _ _ _ _ (@pfs_ret _ _ _ _ _ (@pf_tup _ _ _ _ _ _ (@pfa_cons _ _ _ _ _ _ (@pf_str _ _ _ _ _) (@pfa_cons _ _ _ _ _ _ (@pf_fld _ _ _ _ _ _ _ (@pf_var _ _ _ _ (@pv _ 0 _ _ rfl (by first | exact Or.inl rfl | exact Or.inr (Or.inl rfl) | exact Or.inr (Or.inr rfl)) (by decide) (by decide))) fld_term rfl) (@pfa_cons _ _ _ _ _ _ (@pf_fld _ _ _ _ _ _ _ (@pf_var _ _ _ _ (@pv _ 0 _ _ rfl (by first | exact Or.inl rfl | exact Or.inr (Or.inl rfl) | exact Or.inr (Or.inr rfl)) (by decide) (by decide))) fld_place rfl) (@pfa_nil _ _) rfl) rfl) rfl))))
abbrev s_Has_told : Stmt := inClass (top 12) 3
theorem sc_Has_told : FnScope ["self"] ["self"] (defScope s_Has_told) := ⟨rfl, rfl, rfl, by decide +kernel, rfl, by decide +kernel, by decide +kernel⟩
def b_Has_told : FS := (sRet (cTup (aCons (cC (L4.D.str "has")) (aCons (c1 (dFld okf_term "term") (cV 0)) aNil))))
def f_Has_told : List D → Option D := fnD 1 1 b_Has_told
theorem ok_Has_told {f : Addr} {fd : FuncData} (fld_term : ∀ c, okf_term c = true → Cls G.K (G.ca c) ∧ NoAttr G.K (G.ca c) "term") (F : Fun G.K "told" "Has.told" s_Has_told f fd) : FnOk P w G.K mg base CX0 1 f fd ["self"] (spF G f_Has_told) :=
  fun_F (k := 0) (g := f_Has_told) (b := b_Has_told) rfl rfl rfl F sc_Has_told fun cdv A outer s H E hr =>
  (@pfs_one _ _ _ _ (@pfs_ret _ _ _ _ _ (@pf_tup _ _ _ _ _ _ (@pfa_cons _ _ _ _ _ _ (@pf_str _ _ _ _ _) (@pfa_cons _ _ _ _ _ _ (@pf_fld _ _ _ _ _ _ _ (@pf_var _ _ _ _ (@pv _ 0 _ _ rfl (by first | exact Or.inl rfl | exact Or.inr (Or.inl rfl) | exact Or.inr (Or.inr rfl)) (by decide) (by decide))) fld_term rfl) (@pfa_nil _ _) rfl) rfl))))
abbrev s_Marked_told : Stmt := inClass (top 13) 3
theorem sc_Marked_told : FnScope ["self"] ["self"] (defScope s_Marked_told) := ⟨rfl, rfl, rfl, by decide +kernel, rfl, by decide +kernel, by decide +kernel⟩
def b_Marked_told : FS := (sRet (cTup (aCons (cC (L4.D.str "marked")) (aCons (c1 (dFld okf_term "term") (cV 0)) (aCons (c1 (dFld okf_value "value") (cV 0)) aNil)))))
def f_Marked_told : List D → Option D := fnD 1 1 b_Marked_told
theorem ok_Marked_told {f : Addr} {fd : FuncData} (fld_value : ∀ c, okf_value c = true → Cls G.K (G.ca c) ∧ NoAttr G.K (G.ca c) "value") (fld_term : ∀ c, okf_term c = true → Cls G.K (G.ca c) ∧ NoAttr G.K (G.ca c) "term") (F : Fun G.K "told" "Marked.told" s_Marked_told f fd) : FnOk P w G.K mg base CX0 1 f fd ["self"] (spF G f_Marked_told) :=
  fun_F (k := 0) (g := f_Marked_told) (b := b_Marked_told) rfl rfl rfl F sc_Marked_told fun cdv A outer s H E hr =>
  (@pfs_one _ _ _ _ (@pfs_ret _ _ _ _ _ (@pf_tup _ _ _ _ _ _ (@pfa_cons _ _ _ _ _ _ (@pf_str _ _ _ _ _) (@pfa_cons _ _ _ _ _ _ (@pf_fld _ _ _ _ _ _ _ (@pf_var _ _ _ _ (@pv _ 0 _ _ rfl (by first | exact Or.inl rfl | exact Or.inr (Or.inl rfl) | exact Or.inr (Or.inr rfl)) (by decide) (by decide))) fld_term rfl) (@pfa_cons _ _ _ _ _ _ (@pf_fld _ _ _ _ _ _ _ (@pf_var _ _ _ _ (@pv _ 0 _ _ rfl (by first | exact Or.inl rfl | exact Or.inr (Or.inl rfl) | exact Or.inr (Or.inr rfl)) (by decide) (by decide))) fld_value rfl) (@pfa_nil _ _) rfl) rfl) rfl))))
abbrev s_Kind_told : Stmt := inClass (top 14) 3
theorem sc_Kind_told : FnScope ["self"] ["self"] (defScope s_Kind_told) := ⟨rfl, rfl, rfl, by decide +kernel, rfl, by decide +kernel, by decide +kernel⟩
def b_Kind_told : FS := (sRet (cTup (aCons (cC (L4.D.str "kind")) (aCons (c1 (dFld okf_term "term") (cV 0)) (aCons (c1 (dFld okf_kind "kind") (cV 0)) aNil)))))
def f_Kind_told : List D → Option D := fnD 1 1 b_Kind_told
theorem ok_Kind_told {f : Addr} {fd : FuncData} (fld_kind : ∀ c, okf_kind c = true → Cls G.K (G.ca c) ∧ NoAttr G.K (G.ca c) "kind") (fld_term : ∀ c, okf_term c = true → Cls G.K (G.ca c) ∧ NoAttr G.K (G.ca c) "term") (F : Fun G.K "told" "Kind.told" s_Kind_told f fd) : FnOk P w G.K mg base CX0 1 f fd ["self"] (spF G f_Kind_told) :=
  fun_F (k := 0) (g := f_Kind_told) (b := b_Kind_told) rfl rfl rfl F sc_Kind_told fun cdv A outer s H E hr =>
  (@pfs_one _ _ _ _ (@pfs_ret _ _ _ _ _ (@pf_tup _ _ _ _ _ _ (@pfa_cons _ _ _ _ _ _ (@pf_str _ _ _ _ _) (@pfa_cons _ _ _ _ _ _ (@pf_fld _ _ _ _ _ _ _ (@pf_var _ _ _ _ (@pv _ 0 _ _ rfl (by first | exact Or.inl rfl | exact Or.inr (Or.inl rfl) | exact Or.inr (Or.inr rfl)) (by decide) (by decide))) fld_term rfl) (@pfa_cons _ _ _ _ _ _ (@pf_fld _ _ _ _ _ _ _ (@pf_var _ _ _ _ (@pv _ 0 _ _ rfl (by first | exact Or.inl rfl | exact Or.inr (Or.inl rfl) | exact Or.inr (Or.inr rfl)) (by decide) (by decide))) fld_kind rfl) (@pfa_nil _ _) rfl) rfl) rfl))))
abbrev s_Word_told : Stmt := inClass (top 15) 3
theorem sc_Word_told : FnScope ["self"] ["self"] (defScope s_Word_told) := ⟨rfl, rfl, rfl, by decide +kernel, rfl, by decide +kernel, by decide +kernel⟩
def b_Word_told : FS := (sRet (cTup (aCons (cC (L4.D.str "word")) (aCons (c1 (dFld okf_word "word") (cV 0)) aNil))))
def f_Word_told : List D → Option D := fnD 1 1 b_Word_told
theorem ok_Word_told {f : Addr} {fd : FuncData} (fld_word : ∀ c, okf_word c = true → Cls G.K (G.ca c) ∧ NoAttr G.K (G.ca c) "word") (F : Fun G.K "told" "Word.told" s_Word_told f fd) : FnOk P w G.K mg base CX0 1 f fd ["self"] (spF G f_Word_told) :=
  fun_F (k := 0) (g := f_Word_told) (b := b_Word_told) rfl rfl rfl F sc_Word_told fun cdv A outer s H E hr =>
  (@pfs_one _ _ _ _ (@pfs_ret _ _ _ _ _ (@pf_tup _ _ _ _ _ _ (@pfa_cons _ _ _ _ _ _ (@pf_str _ _ _ _ _) (@pfa_cons _ _ _ _ _ _ (@pf_fld _ _ _ _ _ _ _ (@pf_var _ _ _ _ (@pv _ 0 _ _ rfl (by first | exact Or.inl rfl | exact Or.inr (Or.inl rfl) | exact Or.inr (Or.inr rfl)) (by decide) (by decide))) fld_word rfl) (@pfa_nil _ _) rfl) rfl))))
abbrev s_Move_told : Stmt := inClass (top 22) 4
theorem sc_Move_told : FnScope ["self"] ["self"] (defScope s_Move_told) := ⟨rfl, rfl, rfl, by decide +kernel, rfl, by decide +kernel, by decide +kernel⟩
def b_Move_told : FS := (sRet (cTup (aCons (cC (L4.D.str "move")) (aCons (c1 (dFld okf_term "term") (cV 0)) (aCons (c1 (dFld okf_place "place") (cV 0)) aNil)))))
def f_Move_told : List D → Option D := fnD 1 1 b_Move_told
theorem ok_Move_told {f : Addr} {fd : FuncData} (fld_place : ∀ c, okf_place c = true → Cls G.K (G.ca c) ∧ NoAttr G.K (G.ca c) "place") (fld_term : ∀ c, okf_term c = true → Cls G.K (G.ca c) ∧ NoAttr G.K (G.ca c) "term") (F : Fun G.K "told" "Move.told" s_Move_told f fd) : FnOk P w G.K mg base CX0 1 f fd ["self"] (spF G f_Move_told) :=
  fun_F (k := 0) (g := f_Move_told) (b := b_Move_told) rfl rfl rfl F sc_Move_told fun cdv A outer s H E hr =>
  (@pfs_one _ _ _ _ (@pfs_ret _ _ _ _ _ (@pf_tup _ _ _ _ _ _ (@pfa_cons _ _ _ _ _ _ (@pf_str _ _ _ _ _) (@pfa_cons _ _ _ _ _ _ (@pf_fld _ _ _ _ _ _ _ (@pf_var _ _ _ _ (@pv _ 0 _ _ rfl (by first | exact Or.inl rfl | exact Or.inr (Or.inl rfl) | exact Or.inr (Or.inr rfl)) (by decide) (by decide))) fld_term rfl) (@pfa_cons _ _ _ _ _ _ (@pf_fld _ _ _ _ _ _ _ (@pf_var _ _ _ _ (@pv _ 0 _ _ rfl (by first | exact Or.inl rfl | exact Or.inr (Or.inl rfl) | exact Or.inr (Or.inr rfl)) (by decide) (by decide))) fld_place rfl) (@pfa_nil _ _) rfl) rfl) rfl))))
abbrev s_Put_told : Stmt := inClass (top 23) 4
theorem sc_Put_told : FnScope ["self"] ["self"] (defScope s_Put_told) := ⟨rfl, rfl, rfl, by decide +kernel, rfl, by decide +kernel, by decide +kernel⟩
def b_Put_told : FS := (sRet (cTup (aCons (cC (L4.D.str "put")) (aCons (c1 (dFld okf_term "term") (cV 0)) (aCons (c1 (dFld okf_value "value") (cV 0)) aNil)))))
def f_Put_told : List D → Option D := fnD 1 1 b_Put_told
theorem ok_Put_told {f : Addr} {fd : FuncData} (fld_value : ∀ c, okf_value c = true → Cls G.K (G.ca c) ∧ NoAttr G.K (G.ca c) "value") (fld_term : ∀ c, okf_term c = true → Cls G.K (G.ca c) ∧ NoAttr G.K (G.ca c) "term") (F : Fun G.K "told" "Put.told" s_Put_told f fd) : FnOk P w G.K mg base CX0 1 f fd ["self"] (spF G f_Put_told) :=
  fun_F (k := 0) (g := f_Put_told) (b := b_Put_told) rfl rfl rfl F sc_Put_told fun cdv A outer s H E hr =>
  (@pfs_one _ _ _ _ (@pfs_ret _ _ _ _ _ (@pf_tup _ _ _ _ _ _ (@pfa_cons _ _ _ _ _ _ (@pf_str _ _ _ _ _) (@pfa_cons _ _ _ _ _ _ (@pf_fld _ _ _ _ _ _ _ (@pf_var _ _ _ _ (@pv _ 0 _ _ rfl (by first | exact Or.inl rfl | exact Or.inr (Or.inl rfl) | exact Or.inr (Or.inr rfl)) (by decide) (by decide))) fld_term rfl) (@pfa_cons _ _ _ _ _ _ (@pf_fld _ _ _ _ _ _ _ (@pf_var _ _ _ _ (@pv _ 0 _ _ rfl (by first | exact Or.inl rfl | exact Or.inr (Or.inl rfl) | exact Or.inr (Or.inr rfl)) (by decide) (by decide))) fld_value rfl) (@pfa_nil _ _) rfl) rfl) rfl))))
def m_told0 : Nat → Option (List D → Option D) := fun c => match c with
  | 0 => some f_At_told
  | 1 => some f_Has_told
  | 2 => some f_Marked_told
  | 3 => some f_Kind_told
  | 4 => some f_Word_told
  | 6 => some f_Move_told
  | 7 => some f_Put_told
  | _ => none
abbrev s_Not_told : Stmt := inClass (top 16) 3
theorem sc_Not_told : FnScope ["self"] ["self"] (defScope s_Not_told) := ⟨rfl, rfl, rfl, by decide +kernel, rfl, by decide +kernel, by decide +kernel⟩
def b_Not_told : FS := (sRet (cTup (aCons (cC (L4.D.str "not")) (aCons (cMeth m_told0 "told" (c1 (dFld okf_inner "inner") (cV 0)) aNil) aNil))))
def f_Not_told : List D → Option D := fnD 1 1 b_Not_told
theorem ok_Not_told {f : Addr} {fd : FuncData} (m_told0_ : ∀ c h, m_told0 c = some h → MethOk G P w mg base 1 "told" c h) (fld_inner : ∀ c, okf_inner c = true → Cls G.K (G.ca c) ∧ NoAttr G.K (G.ca c) "inner") (F : Fun G.K "told" "Not.told" s_Not_told f fd) : FnOk P w G.K mg base CX0 2 f fd ["self"] (spF G f_Not_told) :=
  fun_F (k := 1) (g := f_Not_told) (b := b_Not_told) rfl rfl rfl F sc_Not_told fun cdv A outer s H E hr =>
  (@pfs_one _ _ _ _ (@pfs_ret _ _ _ _ _ (@pf_tup _ _ _ _ _ _ (@pfa_cons _ _ _ _ _ _ (@pf_str _ _ _ _ _) (@pfa_cons _ _ _ _ _ _ (@pf_method0 _ _ _ _ _ _ _ _ _ _ m_told0_ (hr.mono (by decide : 1 ≤ 1)) (@pf_fld _ _ _ _ _ _ _ (@pf_var _ _ _ _ (@pv _ 0 _ _ rfl (by first | exact Or.inl rfl | exact Or.inr (Or.inl rfl) | exact Or.inr (Or.inr rfl)) (by decide) (by decide))) fld_inner rfl) rfl rfl) (@pfa_nil _ _) rfl) rfl))))
def m_told1 : Nat → Option (List D → Option D) := fun c => match c with
  | 0 => some f_At_told
  | 1 => some f_Has_told
  | 2 => some f_Marked_told
  | 3 => some f_Kind_told
  | 4 => some f_Word_told
  | 6 => some f_Move_told
  | 7 => some f_Put_told
  | 5 => some f_Not_told
  | _ => none
abbrev s_does : Stmt := top 32
theorem sc_does : FnScope ["verb", "tests", "deeds", "text"] ["verb", "tests", "deeds", "text"] (defScope s_does) := ⟨rfl, rfl, rfl, by decide +kernel, rfl, by decide +kernel, by decide +kernel⟩
def b_does : FS := (sRet (cMake 9 (fun ds => f_Rule_init (ds ++ [])) (aCons (cV 0) (aCons (cV 1) (aCons (cV 2) (aCons (cV 3) (aCons (cC (L4.D.bl false)) aNil)))))))
def f_does : List D → Option D := fnD 4 4 b_does
theorem ok_does {f : Addr} {fd : FuncData} (k_Rule_5 : CtorOk G P w mg base 2 "Rule" 9 ["self", "verb", "tests", "deeds", "text", "refuses"] [] f_Rule_init) (F : Fun G.K "does" "does" s_does f fd) : FnOk P w G.K mg base CX0 4 f fd ["verb", "tests", "deeds", "text"] (spF G f_does) :=
  fun_F (k := 3) (g := f_does) (b := b_does) rfl rfl rfl F sc_does fun cdv A outer s H E hr =>
  (@pfs_one _ _ _ _ (@pfs_ret _ _ _ _ _ (@pf_ctor _ _ _ _ _ _ _ _ _ _ _ _ [] _ k_Rule_5 (fun _ => reps_nil) (hr.mono (by decide : 3 ≤ 3)) (@pfa_cons _ _ _ _ _ _ (@pf_var _ _ _ _ (@pv _ 0 _ _ rfl (by first | exact Or.inl rfl | exact Or.inr (Or.inl rfl) | exact Or.inr (Or.inr rfl)) (by decide) (by decide))) (@pfa_cons _ _ _ _ _ _ (@pf_var _ _ _ _ (@pv _ 1 _ _ rfl (by first | exact Or.inl rfl | exact Or.inr (Or.inl rfl) | exact Or.inr (Or.inr rfl)) (by decide) (by decide))) (@pfa_cons _ _ _ _ _ _ (@pf_var _ _ _ _ (@pv _ 2 _ _ rfl (by first | exact Or.inl rfl | exact Or.inr (Or.inl rfl) | exact Or.inr (Or.inr rfl)) (by decide) (by decide))) (@pfa_cons _ _ _ _ _ _ (@pf_var _ _ _ _ (@pv _ 3 _ _ rfl (by first | exact Or.inl rfl | exact Or.inr (Or.inl rfl) | exact Or.inr (Or.inr rfl)) (by decide) (by decide))) (@pfa_cons _ _ _ _ _ _ (@pf_bl _ _ _ _ _) (@pfa_nil _ _) rfl) rfl) rfl) rfl) rfl) rfl rfl (by decide) rfl rfl)))
abbrev s_refuses : Stmt := top 33
theorem sc_refuses : FnScope ["verb", "tests", "text"] ["verb", "tests", "text"] (defScope s_refuses) := ⟨rfl, rfl, rfl, by decide +kernel, rfl, by decide +kernel, by decide +kernel⟩
def b_refuses : FS := (sRet (cMake 9 (fun ds => f_Rule_init (ds ++ [])) (aCons (cV 0) (aCons (cV 1) (aCons (cL (cLst aNil)) (aCons (cV 2) (aCons (cC (L4.D.bl true)) aNil)))))))
def f_refuses : List D → Option D := fnD 3 3 b_refuses
theorem ok_refuses {f : Addr} {fd : FuncData} (k_Rule_5 : CtorOk G P w mg base 2 "Rule" 9 ["self", "verb", "tests", "deeds", "text", "refuses"] [] f_Rule_init) (F : Fun G.K "refuses" "refuses" s_refuses f fd) : FnOk P w G.K mg base CX0 4 f fd ["verb", "tests", "text"] (spF G f_refuses) :=
  fun_F (k := 3) (g := f_refuses) (b := b_refuses) rfl rfl rfl F sc_refuses fun cdv A outer s H E hr =>
  (@pfs_one _ _ _ _ (@pfs_ret _ _ _ _ _ (@pf_ctor _ _ _ _ _ _ _ _ _ _ _ _ [] _ k_Rule_5 (fun _ => reps_nil) (hr.mono (by decide : 3 ≤ 3)) (@pfa_cons _ _ _ _ _ _ (@pf_var _ _ _ _ (@pv _ 0 _ _ rfl (by first | exact Or.inl rfl | exact Or.inr (Or.inl rfl) | exact Or.inr (Or.inr rfl)) (by decide) (by decide))) (@pfa_cons _ _ _ _ _ _ (@pf_var _ _ _ _ (@pv _ 1 _ _ rfl (by first | exact Or.inl rfl | exact Or.inr (Or.inl rfl) | exact Or.inr (Or.inr rfl)) (by decide) (by decide))) (@pfa_cons _ _ _ _ _ _ (@pf_new _ _ _ _ (@pfn_lst _ _ _ _ _ (@pfa_nil _ _))) (@pfa_cons _ _ _ _ _ _ (@pf_var _ _ _ _ (@pv _ 2 _ _ rfl (by first | exact Or.inl rfl | exact Or.inr (Or.inl rfl) | exact Or.inr (Or.inr rfl)) (by decide) (by decide))) (@pfa_cons _ _ _ _ _ _ (@pf_bl _ _ _ _ _) (@pfa_nil _ _) rfl) rfl) rfl) rfl) rfl) rfl rfl (by decide) rfl rfl)))
abbrev s_hand_rules : Stmt := top 34
theorem sc_hand_rules : FnScope ["you"] ["you"] (defScope s_hand_rules) := ⟨rfl, rfl, rfl, by decide +kernel, rfl, by decide +kernel, by decide +kernel⟩
def b_hand_rules : FS := (sRetN (cLst (aCons (cCall f_refuses (aCons (cC (L4.D.str "take")) (aCons (cL (cLst (aCons (cMake 3 (fun ds => f_Kind_init (ds ++ [])) (aCons (cC (L4.D.str "it")) (aCons (cC (L4.D.str "fixed")) aNil))) aNil))) (aCons (cC (L4.D.str "That stays.")) aNil)))) (aCons (cCall f_refuses (aCons (cC (L4.D.str "take")) (aCons (cL (cLst (aCons (cMake 0 (fun ds => f_At_init (ds ++ [])) (aCons (cC (L4.D.str "it")) (aCons (cV 0) aNil))) aNil))) (aCons (cC (L4.D.str "You have that.")) aNil)))) (aCons (cCall f_does (aCons (cC (L4.D.str "take")) (aCons (cL (cLst aNil)) (aCons (cL (cLst (aCons (cMake 6 (fun ds => f_Move_init (ds ++ [])) (aCons (cC (L4.D.str "it")) (aCons (cV 0) aNil))) aNil))) (aCons (cC (L4.D.str "Taken.")) aNil))))) (aCons (cCall f_does (aCons (cC (L4.D.str "drop")) (aCons (cL (cLst (aCons (cMake 1 (fun ds => f_Has_init (ds ++ [])) (aCons (cC (L4.D.str "it")) aNil)) aNil))) (aCons (cL (cLst (aCons (cMake 6 (fun ds => f_Move_init (ds ++ [])) (aCons (cC (L4.D.str "it")) (aCons (cC (L4.D.str "here")) aNil))) aNil))) (aCons (cC (L4.D.str "Dropped.")) aNil))))) (aCons (cCall f_refuses (aCons (cC (L4.D.str "drop")) (aCons (cL (cLst aNil)) (aCons (cC (L4.D.str "You lack that.")) aNil)))) aNil)))))))
def f_hand_rules : List D → Option (List D) := fnN 1 1 b_hand_rules
theorem ok_hand_rules {f : Addr} {fd : FuncData} (d_refuses : DefOk P w G.K mg base 4 "refuses" ["verb", "tests", "text"] (spF G f_refuses)) (d_does : DefOk P w G.K mg base 4 "does" ["verb", "tests", "deeds", "text"] (spF G f_does)) (k_Move_2 : CtorOk G P w mg base 1 "Move" 6 ["self", "term", "place"] [] f_Move_init) (k_Has_1 : CtorOk G P w mg base 1 "Has" 1 ["self", "term"] [] f_Has_init) (k_At_2 : CtorOk G P w mg base 1 "At" 0 ["self", "term", "place"] [] f_At_init) (k_Kind_2 : CtorOk G P w mg base 1 "Kind" 3 ["self", "term", "kind"] [] f_Kind_init) (F : Fun G.K "hand_rules" "hand_rules" s_hand_rules f fd) : FnOk P w G.K mg base CX0 5 f fd ["you"] (spN G f_hand_rules) :=
  fun_N (k := 4) (g := f_hand_rules) (b := b_hand_rules) rfl rfl rfl F sc_hand_rules fun cdv A outer s H E hr =>
  (@pfs_one _ _ _ _ (@pfs_retN _ _ _ _ _ (@pfn_lst _ _ _ _ _ (@pfa_cons _ _ _ _ _ _ (@pf_def _ _ _ _ _ _ _ _ _ _ _ d_refuses (hr.mono (by decide : 4 ≤ 4)) (@pfa_cons _ _ _ _ _ _ (@pf_str _ _ _ _ _) (@pfa_cons _ _ _ _ _ _ (@pf_new _ _ _ _ (@pfn_lst _ _ _ _ _ (@pfa_cons _ _ _ _ _ _ (@pf_ctor _ _ _ _ _ _ _ _ _ _ _ _ [] _ k_Kind_2 (fun _ => reps_nil) (hr.mono (by decide : 2 ≤ 4)) (@pfa_cons _ _ _ _ _ _ (@pf_str _ _ _ _ _) (@pfa_cons _ _ _ _ _ _ (@pf_str _ _ _ _ _) (@pfa_nil _ _) rfl) rfl) rfl rfl (by decide) rfl rfl) (@pfa_nil _ _) rfl))) (@pfa_cons _ _ _ _ _ _ (@pf_str _ _ _ _ _) (@pfa_nil _ _) rfl) rfl) rfl) rfl (by decide) rfl rfl) (@pfa_cons _ _ _ _ _ _ (@pf_def _ _ _ _ _ _ _ _ _ _ _ d_refuses (hr.mono (by decide : 4 ≤ 4)) (@pfa_cons _ _ _ _ _ _ (@pf_str _ _ _ _ _) (@pfa_cons _ _ _ _ _ _ (@pf_new _ _ _ _ (@pfn_lst _ _ _ _ _ (@pfa_cons _ _ _ _ _ _ (@pf_ctor _ _ _ _ _ _ _ _ _ _ _ _ [] _ k_At_2 (fun _ => reps_nil) (hr.mono (by decide : 2 ≤ 4)) (@pfa_cons _ _ _ _ _ _ (@pf_str _ _ _ _ _) (@pfa_cons _ _ _ _ _ _ (@pf_var _ _ _ _ (@pv _ 0 _ _ rfl (by first | exact Or.inl rfl | exact Or.inr (Or.inl rfl) | exact Or.inr (Or.inr rfl)) (by decide) (by decide))) (@pfa_nil _ _) rfl) rfl) rfl rfl (by decide) rfl rfl) (@pfa_nil _ _) rfl))) (@pfa_cons _ _ _ _ _ _ (@pf_str _ _ _ _ _) (@pfa_nil _ _) rfl) rfl) rfl) rfl (by decide) rfl rfl) (@pfa_cons _ _ _ _ _ _ (@pf_def _ _ _ _ _ _ _ _ _ _ _ d_does (hr.mono (by decide : 4 ≤ 4)) (@pfa_cons _ _ _ _ _ _ (@pf_str _ _ _ _ _) (@pfa_cons _ _ _ _ _ _ (@pf_new _ _ _ _ (@pfn_lst _ _ _ _ _ (@pfa_nil _ _))) (@pfa_cons _ _ _ _ _ _ (@pf_new _ _ _ _ (@pfn_lst _ _ _ _ _ (@pfa_cons _ _ _ _ _ _ (@pf_ctor _ _ _ _ _ _ _ _ _ _ _ _ [] _ k_Move_2 (fun _ => reps_nil) (hr.mono (by decide : 2 ≤ 4)) (@pfa_cons _ _ _ _ _ _ (@pf_str _ _ _ _ _) (@pfa_cons _ _ _ _ _ _ (@pf_var _ _ _ _ (@pv _ 0 _ _ rfl (by first | exact Or.inl rfl | exact Or.inr (Or.inl rfl) | exact Or.inr (Or.inr rfl)) (by decide) (by decide))) (@pfa_nil _ _) rfl) rfl) rfl rfl (by decide) rfl rfl) (@pfa_nil _ _) rfl))) (@pfa_cons _ _ _ _ _ _ (@pf_str _ _ _ _ _) (@pfa_nil _ _) rfl) rfl) rfl) rfl) rfl (by decide) rfl rfl) (@pfa_cons _ _ _ _ _ _ (@pf_def _ _ _ _ _ _ _ _ _ _ _ d_does (hr.mono (by decide : 4 ≤ 4)) (@pfa_cons _ _ _ _ _ _ (@pf_str _ _ _ _ _) (@pfa_cons _ _ _ _ _ _ (@pf_new _ _ _ _ (@pfn_lst _ _ _ _ _ (@pfa_cons _ _ _ _ _ _ (@pf_ctor _ _ _ _ _ _ _ _ _ _ _ _ [] _ k_Has_1 (fun _ => reps_nil) (hr.mono (by decide : 2 ≤ 4)) (@pfa_cons _ _ _ _ _ _ (@pf_str _ _ _ _ _) (@pfa_nil _ _) rfl) rfl rfl (by decide) rfl rfl) (@pfa_nil _ _) rfl))) (@pfa_cons _ _ _ _ _ _ (@pf_new _ _ _ _ (@pfn_lst _ _ _ _ _ (@pfa_cons _ _ _ _ _ _ (@pf_ctor _ _ _ _ _ _ _ _ _ _ _ _ [] _ k_Move_2 (fun _ => reps_nil) (hr.mono (by decide : 2 ≤ 4)) (@pfa_cons _ _ _ _ _ _ (@pf_str _ _ _ _ _) (@pfa_cons _ _ _ _ _ _ (@pf_str _ _ _ _ _) (@pfa_nil _ _) rfl) rfl) rfl rfl (by decide) rfl rfl) (@pfa_nil _ _) rfl))) (@pfa_cons _ _ _ _ _ _ (@pf_str _ _ _ _ _) (@pfa_nil _ _) rfl) rfl) rfl) rfl) rfl (by decide) rfl rfl) (@pfa_cons _ _ _ _ _ _ (@pf_def _ _ _ _ _ _ _ _ _ _ _ d_refuses (hr.mono (by decide : 4 ≤ 4)) (@pfa_cons _ _ _ _ _ _ (@pf_str _ _ _ _ _) (@pfa_cons _ _ _ _ _ _ (@pf_new _ _ _ _ (@pfn_lst _ _ _ _ _ (@pfa_nil _ _))) (@pfa_cons _ _ _ _ _ _ (@pf_str _ _ _ _ _) (@pfa_nil _ _) rfl) rfl) rfl) rfl (by decide) rfl rfl) (@pfa_nil _ _) rfl) rfl) rfl) rfl) rfl))))
abbrev s_put_rules : Stmt := top 35
theorem sc_put_rules : FnScope [] [] (defScope s_put_rules) := ⟨rfl, rfl, rfl, by decide +kernel, rfl, by decide +kernel, by decide +kernel⟩
def b_put_rules : FS := (sRetN (cLst (aCons (cCall f_refuses (aCons (cC (L4.D.str "put")) (aCons (cL (cLst (aCons (cMake 5 (fun ds => f_Not_init (ds ++ [])) (aCons (cMake 1 (fun ds => f_Has_init (ds ++ [])) (aCons (cC (L4.D.str "it")) aNil)) aNil)) aNil))) (aCons (cC (L4.D.str "You lack that.")) aNil)))) (aCons (cCall f_refuses (aCons (cC (L4.D.str "put")) (aCons (cL (cLst (aCons (cMake 5 (fun ds => f_Not_init (ds ++ [])) (aCons (cMake 3 (fun ds => f_Kind_init (ds ++ [])) (aCons (cC (L4.D.str "other")) (aCons (cC (L4.D.str "box")) aNil))) aNil)) aNil))) (aCons (cC (L4.D.str "It holds nothing.")) aNil)))) (aCons (cCall f_refuses (aCons (cC (L4.D.str "put")) (aCons (cL (cLst (aCons (cMake 2 (fun ds => f_Marked_init (ds ++ [])) (aCons (cC (L4.D.str "other")) (aCons (cC (L4.D.int 0)) aNil))) aNil))) (aCons (cC (L4.D.str "It is shut.")) aNil)))) (aCons (cCall f_does (aCons (cC (L4.D.str "put")) (aCons (cL (cLst aNil)) (aCons (cL (cLst (aCons (cMake 6 (fun ds => f_Move_init (ds ++ [])) (aCons (cC (L4.D.str "it")) (aCons (cC (L4.D.str "other")) aNil))) aNil))) (aCons (cC (L4.D.str "Done.")) aNil))))) aNil))))))
def f_put_rules : List D → Option (List D) := fnN 0 0 b_put_rules
theorem ok_put_rules {f : Addr} {fd : FuncData} (d_does : DefOk P w G.K mg base 4 "does" ["verb", "tests", "deeds", "text"] (spF G f_does)) (k_Move_2 : CtorOk G P w mg base 1 "Move" 6 ["self", "term", "place"] [] f_Move_init) (d_refuses : DefOk P w G.K mg base 4 "refuses" ["verb", "tests", "text"] (spF G f_refuses)) (k_Marked_2 : CtorOk G P w mg base 1 "Marked" 2 ["self", "term", "value"] [] f_Marked_init) (k_Kind_2 : CtorOk G P w mg base 1 "Kind" 3 ["self", "term", "kind"] [] f_Kind_init) (k_Not_1 : CtorOk G P w mg base 1 "Not" 5 ["self", "inner"] [] f_Not_init) (k_Has_1 : CtorOk G P w mg base 1 "Has" 1 ["self", "term"] [] f_Has_init) (F : Fun G.K "put_rules" "put_rules" s_put_rules f fd) : FnOk P w G.K mg base CX0 5 f fd [] (spN G f_put_rules) :=
  fun_N (k := 4) (g := f_put_rules) (b := b_put_rules) rfl rfl rfl F sc_put_rules fun cdv A outer s H E hr =>
  (@pfs_one _ _ _ _ (@pfs_retN _ _ _ _ _ (@pfn_lst _ _ _ _ _ (@pfa_cons _ _ _ _ _ _ (@pf_def _ _ _ _ _ _ _ _ _ _ _ d_refuses (hr.mono (by decide : 4 ≤ 4)) (@pfa_cons _ _ _ _ _ _ (@pf_str _ _ _ _ _) (@pfa_cons _ _ _ _ _ _ (@pf_new _ _ _ _ (@pfn_lst _ _ _ _ _ (@pfa_cons _ _ _ _ _ _ (@pf_ctor _ _ _ _ _ _ _ _ _ _ _ _ [] _ k_Not_1 (fun _ => reps_nil) (hr.mono (by decide : 2 ≤ 4)) (@pfa_cons _ _ _ _ _ _ (@pf_ctor _ _ _ _ _ _ _ _ _ _ _ _ [] _ k_Has_1 (fun _ => reps_nil) (hr.mono (by decide : 2 ≤ 4)) (@pfa_cons _ _ _ _ _ _ (@pf_str _ _ _ _ _) (@pfa_nil _ _) rfl) rfl rfl (by decide) rfl rfl) (@pfa_nil _ _) rfl) rfl rfl (by decide) rfl rfl) (@pfa_nil _ _) rfl))) (@pfa_cons _ _ _ _ _ _ (@pf_str _ _ _ _ _) (@pfa_nil _ _) rfl) rfl) rfl) rfl (by decide) rfl rfl) (@pfa_cons _ _ _ _ _ _ (@pf_def _ _ _ _ _ _ _ _ _ _ _ d_refuses (hr.mono (by decide : 4 ≤ 4)) (@pfa_cons _ _ _ _ _ _ (@pf_str _ _ _ _ _) (@pfa_cons _ _ _ _ _ _ (@pf_new _ _ _ _ (@pfn_lst _ _ _ _ _ (@pfa_cons _ _ _ _ _ _ (@pf_ctor _ _ _ _ _ _ _ _ _ _ _ _ [] _ k_Not_1 (fun _ => reps_nil) (hr.mono (by decide : 2 ≤ 4)) (@pfa_cons _ _ _ _ _ _ (@pf_ctor _ _ _ _ _ _ _ _ _ _ _ _ [] _ k_Kind_2 (fun _ => reps_nil) (hr.mono (by decide : 2 ≤ 4)) (@pfa_cons _ _ _ _ _ _ (@pf_str _ _ _ _ _) (@pfa_cons _ _ _ _ _ _ (@pf_str _ _ _ _ _) (@pfa_nil _ _) rfl) rfl) rfl rfl (by decide) rfl rfl) (@pfa_nil _ _) rfl) rfl rfl (by decide) rfl rfl) (@pfa_nil _ _) rfl))) (@pfa_cons _ _ _ _ _ _ (@pf_str _ _ _ _ _) (@pfa_nil _ _) rfl) rfl) rfl) rfl (by decide) rfl rfl) (@pfa_cons _ _ _ _ _ _ (@pf_def _ _ _ _ _ _ _ _ _ _ _ d_refuses (hr.mono (by decide : 4 ≤ 4)) (@pfa_cons _ _ _ _ _ _ (@pf_str _ _ _ _ _) (@pfa_cons _ _ _ _ _ _ (@pf_new _ _ _ _ (@pfn_lst _ _ _ _ _ (@pfa_cons _ _ _ _ _ _ (@pf_ctor _ _ _ _ _ _ _ _ _ _ _ _ [] _ k_Marked_2 (fun _ => reps_nil) (hr.mono (by decide : 2 ≤ 4)) (@pfa_cons _ _ _ _ _ _ (@pf_str _ _ _ _ _) (@pfa_cons _ _ _ _ _ _ (@pf_int _ _ _ _ _) (@pfa_nil _ _) rfl) rfl) rfl rfl (by decide) rfl rfl) (@pfa_nil _ _) rfl))) (@pfa_cons _ _ _ _ _ _ (@pf_str _ _ _ _ _) (@pfa_nil _ _) rfl) rfl) rfl) rfl (by decide) rfl rfl) (@pfa_cons _ _ _ _ _ _ (@pf_def _ _ _ _ _ _ _ _ _ _ _ d_does (hr.mono (by decide : 4 ≤ 4)) (@pfa_cons _ _ _ _ _ _ (@pf_str _ _ _ _ _) (@pfa_cons _ _ _ _ _ _ (@pf_new _ _ _ _ (@pfn_lst _ _ _ _ _ (@pfa_nil _ _))) (@pfa_cons _ _ _ _ _ _ (@pf_new _ _ _ _ (@pfn_lst _ _ _ _ _ (@pfa_cons _ _ _ _ _ _ (@pf_ctor _ _ _ _ _ _ _ _ _ _ _ _ [] _ k_Move_2 (fun _ => reps_nil) (hr.mono (by decide : 2 ≤ 4)) (@pfa_cons _ _ _ _ _ _ (@pf_str _ _ _ _ _) (@pfa_cons _ _ _ _ _ _ (@pf_str _ _ _ _ _) (@pfa_nil _ _) rfl) rfl) rfl rfl (by decide) rfl rfl) (@pfa_nil _ _) rfl))) (@pfa_cons _ _ _ _ _ _ (@pf_str _ _ _ _ _) (@pfa_nil _ _) rfl) rfl) rfl) rfl) rfl (by decide) rfl rfl) (@pfa_nil _ _) rfl) rfl) rfl) rfl))))
abbrev s_lid_rules : Stmt := top 36
theorem sc_lid_rules : FnScope [] [] (defScope s_lid_rules) := ⟨rfl, rfl, rfl, by decide +kernel, rfl, by decide +kernel, by decide +kernel⟩
def b_lid_rules : FS := (sRetN (cLst (aCons (cCall f_refuses (aCons (cC (L4.D.str "open")) (aCons (cL (cLst (aCons (cMake 5 (fun ds => f_Not_init (ds ++ [])) (aCons (cMake 3 (fun ds => f_Kind_init (ds ++ [])) (aCons (cC (L4.D.str "it")) (aCons (cC (L4.D.str "box")) aNil))) aNil)) aNil))) (aCons (cC (L4.D.str "It has no lid.")) aNil)))) (aCons (cCall f_refuses (aCons (cC (L4.D.str "open")) (aCons (cL (cLst (aCons (cMake 2 (fun ds => f_Marked_init (ds ++ [])) (aCons (cC (L4.D.str "it")) (aCons (cC (L4.D.int 1)) aNil))) aNil))) (aCons (cC (L4.D.str "It is open.")) aNil)))) (aCons (cCall f_does (aCons (cC (L4.D.str "open")) (aCons (cL (cLst aNil)) (aCons (cL (cLst (aCons (cMake 7 (fun ds => f_Put_init (ds ++ [])) (aCons (cC (L4.D.str "it")) (aCons (cC (L4.D.int 1)) aNil))) aNil))) (aCons (cC (L4.D.str "Opened.")) aNil))))) (aCons (cCall f_refuses (aCons (cC (L4.D.str "shut")) (aCons (cL (cLst (aCons (cMake 5 (fun ds => f_Not_init (ds ++ [])) (aCons (cMake 3 (fun ds => f_Kind_init (ds ++ [])) (aCons (cC (L4.D.str "it")) (aCons (cC (L4.D.str "box")) aNil))) aNil)) aNil))) (aCons (cC (L4.D.str "It has no lid.")) aNil)))) (aCons (cCall f_refuses (aCons (cC (L4.D.str "shut")) (aCons (cL (cLst (aCons (cMake 2 (fun ds => f_Marked_init (ds ++ [])) (aCons (cC (L4.D.str "it")) (aCons (cC (L4.D.int 0)) aNil))) aNil))) (aCons (cC (L4.D.str "It is shut.")) aNil)))) (aCons (cCall f_does (aCons (cC (L4.D.str "shut")) (aCons (cL (cLst aNil)) (aCons (cL (cLst (aCons (cMake 7 (fun ds => f_Put_init (ds ++ [])) (aCons (cC (L4.D.str "it")) (aCons (cC (L4.D.int 0)) aNil))) aNil))) (aCons (cC (L4.D.str "Shut.")) aNil))))) aNil))))))))
def f_lid_rules : List D → Option (List D) := fnN 0 0 b_lid_rules
theorem ok_lid_rules {f : Addr} {fd : FuncData} (d_does : DefOk P w G.K mg base 4 "does" ["verb", "tests", "deeds", "text"] (spF G f_does)) (k_Put_2 : CtorOk G P w mg base 1 "Put" 7 ["self", "term", "value"] [] f_Put_init) (d_refuses : DefOk P w G.K mg base 4 "refuses" ["verb", "tests", "text"] (spF G f_refuses)) (k_Marked_2 : CtorOk G P w mg base 1 "Marked" 2 ["self", "term", "value"] [] f_Marked_init) (k_Kind_2 : CtorOk G P w mg base 1 "Kind" 3 ["self", "term", "kind"] [] f_Kind_init) (k_Not_1 : CtorOk G P w mg base 1 "Not" 5 ["self", "inner"] [] f_Not_init) (F : Fun G.K "lid_rules" "lid_rules" s_lid_rules f fd) : FnOk P w G.K mg base CX0 5 f fd [] (spN G f_lid_rules) :=
  fun_N (k := 4) (g := f_lid_rules) (b := b_lid_rules) rfl rfl rfl F sc_lid_rules fun cdv A outer s H E hr =>
  (@pfs_one _ _ _ _ (@pfs_retN _ _ _ _ _ (@pfn_lst _ _ _ _ _ (@pfa_cons _ _ _ _ _ _ (@pf_def _ _ _ _ _ _ _ _ _ _ _ d_refuses (hr.mono (by decide : 4 ≤ 4)) (@pfa_cons _ _ _ _ _ _ (@pf_str _ _ _ _ _) (@pfa_cons _ _ _ _ _ _ (@pf_new _ _ _ _ (@pfn_lst _ _ _ _ _ (@pfa_cons _ _ _ _ _ _ (@pf_ctor _ _ _ _ _ _ _ _ _ _ _ _ [] _ k_Not_1 (fun _ => reps_nil) (hr.mono (by decide : 2 ≤ 4)) (@pfa_cons _ _ _ _ _ _ (@pf_ctor _ _ _ _ _ _ _ _ _ _ _ _ [] _ k_Kind_2 (fun _ => reps_nil) (hr.mono (by decide : 2 ≤ 4)) (@pfa_cons _ _ _ _ _ _ (@pf_str _ _ _ _ _) (@pfa_cons _ _ _ _ _ _ (@pf_str _ _ _ _ _) (@pfa_nil _ _) rfl) rfl) rfl rfl (by decide) rfl rfl) (@pfa_nil _ _) rfl) rfl rfl (by decide) rfl rfl) (@pfa_nil _ _) rfl))) (@pfa_cons _ _ _ _ _ _ (@pf_str _ _ _ _ _) (@pfa_nil _ _) rfl) rfl) rfl) rfl (by decide) rfl rfl) (@pfa_cons _ _ _ _ _ _ (@pf_def _ _ _ _ _ _ _ _ _ _ _ d_refuses (hr.mono (by decide : 4 ≤ 4)) (@pfa_cons _ _ _ _ _ _ (@pf_str _ _ _ _ _) (@pfa_cons _ _ _ _ _ _ (@pf_new _ _ _ _ (@pfn_lst _ _ _ _ _ (@pfa_cons _ _ _ _ _ _ (@pf_ctor _ _ _ _ _ _ _ _ _ _ _ _ [] _ k_Marked_2 (fun _ => reps_nil) (hr.mono (by decide : 2 ≤ 4)) (@pfa_cons _ _ _ _ _ _ (@pf_str _ _ _ _ _) (@pfa_cons _ _ _ _ _ _ (@pf_int _ _ _ _ _) (@pfa_nil _ _) rfl) rfl) rfl rfl (by decide) rfl rfl) (@pfa_nil _ _) rfl))) (@pfa_cons _ _ _ _ _ _ (@pf_str _ _ _ _ _) (@pfa_nil _ _) rfl) rfl) rfl) rfl (by decide) rfl rfl) (@pfa_cons _ _ _ _ _ _ (@pf_def _ _ _ _ _ _ _ _ _ _ _ d_does (hr.mono (by decide : 4 ≤ 4)) (@pfa_cons _ _ _ _ _ _ (@pf_str _ _ _ _ _) (@pfa_cons _ _ _ _ _ _ (@pf_new _ _ _ _ (@pfn_lst _ _ _ _ _ (@pfa_nil _ _))) (@pfa_cons _ _ _ _ _ _ (@pf_new _ _ _ _ (@pfn_lst _ _ _ _ _ (@pfa_cons _ _ _ _ _ _ (@pf_ctor _ _ _ _ _ _ _ _ _ _ _ _ [] _ k_Put_2 (fun _ => reps_nil) (hr.mono (by decide : 2 ≤ 4)) (@pfa_cons _ _ _ _ _ _ (@pf_str _ _ _ _ _) (@pfa_cons _ _ _ _ _ _ (@pf_int _ _ _ _ _) (@pfa_nil _ _) rfl) rfl) rfl rfl (by decide) rfl rfl) (@pfa_nil _ _) rfl))) (@pfa_cons _ _ _ _ _ _ (@pf_str _ _ _ _ _) (@pfa_nil _ _) rfl) rfl) rfl) rfl) rfl (by decide) rfl rfl) (@pfa_cons _ _ _ _ _ _ (@pf_def _ _ _ _ _ _ _ _ _ _ _ d_refuses (hr.mono (by decide : 4 ≤ 4)) (@pfa_cons _ _ _ _ _ _ (@pf_str _ _ _ _ _) (@pfa_cons _ _ _ _ _ _ (@pf_new _ _ _ _ (@pfn_lst _ _ _ _ _ (@pfa_cons _ _ _ _ _ _ (@pf_ctor _ _ _ _ _ _ _ _ _ _ _ _ [] _ k_Not_1 (fun _ => reps_nil) (hr.mono (by decide : 2 ≤ 4)) (@pfa_cons _ _ _ _ _ _ (@pf_ctor _ _ _ _ _ _ _ _ _ _ _ _ [] _ k_Kind_2 (fun _ => reps_nil) (hr.mono (by decide : 2 ≤ 4)) (@pfa_cons _ _ _ _ _ _ (@pf_str _ _ _ _ _) (@pfa_cons _ _ _ _ _ _ (@pf_str _ _ _ _ _) (@pfa_nil _ _) rfl) rfl) rfl rfl (by decide) rfl rfl) (@pfa_nil _ _) rfl) rfl rfl (by decide) rfl rfl) (@pfa_nil _ _) rfl))) (@pfa_cons _ _ _ _ _ _ (@pf_str _ _ _ _ _) (@pfa_nil _ _) rfl) rfl) rfl) rfl (by decide) rfl rfl) (@pfa_cons _ _ _ _ _ _ (@pf_def _ _ _ _ _ _ _ _ _ _ _ d_refuses (hr.mono (by decide : 4 ≤ 4)) (@pfa_cons _ _ _ _ _ _ (@pf_str _ _ _ _ _) (@pfa_cons _ _ _ _ _ _ (@pf_new _ _ _ _ (@pfn_lst _ _ _ _ _ (@pfa_cons _ _ _ _ _ _ (@pf_ctor _ _ _ _ _ _ _ _ _ _ _ _ [] _ k_Marked_2 (fun _ => reps_nil) (hr.mono (by decide : 2 ≤ 4)) (@pfa_cons _ _ _ _ _ _ (@pf_str _ _ _ _ _) (@pfa_cons _ _ _ _ _ _ (@pf_int _ _ _ _ _) (@pfa_nil _ _) rfl) rfl) rfl rfl (by decide) rfl rfl) (@pfa_nil _ _) rfl))) (@pfa_cons _ _ _ _ _ _ (@pf_str _ _ _ _ _) (@pfa_nil _ _) rfl) rfl) rfl) rfl (by decide) rfl rfl) (@pfa_cons _ _ _ _ _ _ (@pf_def _ _ _ _ _ _ _ _ _ _ _ d_does (hr.mono (by decide : 4 ≤ 4)) (@pfa_cons _ _ _ _ _ _ (@pf_str _ _ _ _ _) (@pfa_cons _ _ _ _ _ _ (@pf_new _ _ _ _ (@pfn_lst _ _ _ _ _ (@pfa_nil _ _))) (@pfa_cons _ _ _ _ _ _ (@pf_new _ _ _ _ (@pfn_lst _ _ _ _ _ (@pfa_cons _ _ _ _ _ _ (@pf_ctor _ _ _ _ _ _ _ _ _ _ _ _ [] _ k_Put_2 (fun _ => reps_nil) (hr.mono (by decide : 2 ≤ 4)) (@pfa_cons _ _ _ _ _ _ (@pf_str _ _ _ _ _) (@pfa_cons _ _ _ _ _ _ (@pf_int _ _ _ _ _) (@pfa_nil _ _) rfl) rfl) rfl rfl (by decide) rfl rfl) (@pfa_nil _ _) rfl))) (@pfa_cons _ _ _ _ _ _ (@pf_str _ _ _ _ _) (@pfa_nil _ _) rfl) rfl) rfl) rfl) rfl (by decide) rfl rfl) (@pfa_nil _ _) rfl) rfl) rfl) rfl) rfl) rfl))))
abbrev s_flame_rules : Stmt := top 37
theorem sc_flame_rules : FnScope [] [] (defScope s_flame_rules) := ⟨rfl, rfl, rfl, by decide +kernel, rfl, by decide +kernel, by decide +kernel⟩
def b_flame_rules : FS := (sRetN (cLst (aCons (cCall f_refuses (aCons (cC (L4.D.str "light")) (aCons (cL (cLst (aCons (cMake 5 (fun ds => f_Not_init (ds ++ [])) (aCons (cMake 3 (fun ds => f_Kind_init (ds ++ [])) (aCons (cC (L4.D.str "it")) (aCons (cC (L4.D.str "lamp")) aNil))) aNil)) aNil))) (aCons (cC (L4.D.str "It burns not.")) aNil)))) (aCons (cCall f_refuses (aCons (cC (L4.D.str "light")) (aCons (cL (cLst (aCons (cMake 2 (fun ds => f_Marked_init (ds ++ [])) (aCons (cC (L4.D.str "it")) (aCons (cC (L4.D.int 1)) aNil))) aNil))) (aCons (cC (L4.D.str "It is lit.")) aNil)))) (aCons (cCall f_does (aCons (cC (L4.D.str "light")) (aCons (cL (cLst aNil)) (aCons (cL (cLst (aCons (cMake 7 (fun ds => f_Put_init (ds ++ [])) (aCons (cC (L4.D.str "it")) (aCons (cC (L4.D.int 1)) aNil))) aNil))) (aCons (cC (L4.D.str "Lit.")) aNil))))) (aCons (cCall f_refuses (aCons (cC (L4.D.str "douse")) (aCons (cL (cLst (aCons (cMake 5 (fun ds => f_Not_init (ds ++ [])) (aCons (cMake 3 (fun ds => f_Kind_init (ds ++ [])) (aCons (cC (L4.D.str "it")) (aCons (cC (L4.D.str "lamp")) aNil))) aNil)) aNil))) (aCons (cC (L4.D.str "It burns not.")) aNil)))) (aCons (cCall f_refuses (aCons (cC (L4.D.str "douse")) (aCons (cL (cLst (aCons (cMake 2 (fun ds => f_Marked_init (ds ++ [])) (aCons (cC (L4.D.str "it")) (aCons (cC (L4.D.int 0)) aNil))) aNil))) (aCons (cC (L4.D.str "It is out.")) aNil)))) (aCons (cCall f_does (aCons (cC (L4.D.str "douse")) (aCons (cL (cLst aNil)) (aCons (cL (cLst (aCons (cMake 7 (fun ds => f_Put_init (ds ++ [])) (aCons (cC (L4.D.str "it")) (aCons (cC (L4.D.int 0)) aNil))) aNil))) (aCons (cC (L4.D.str "Doused.")) aNil))))) aNil))))))))
def f_flame_rules : List D → Option (List D) := fnN 0 0 b_flame_rules
theorem ok_flame_rules {f : Addr} {fd : FuncData} (d_does : DefOk P w G.K mg base 4 "does" ["verb", "tests", "deeds", "text"] (spF G f_does)) (k_Put_2 : CtorOk G P w mg base 1 "Put" 7 ["self", "term", "value"] [] f_Put_init) (d_refuses : DefOk P w G.K mg base 4 "refuses" ["verb", "tests", "text"] (spF G f_refuses)) (k_Marked_2 : CtorOk G P w mg base 1 "Marked" 2 ["self", "term", "value"] [] f_Marked_init) (k_Kind_2 : CtorOk G P w mg base 1 "Kind" 3 ["self", "term", "kind"] [] f_Kind_init) (k_Not_1 : CtorOk G P w mg base 1 "Not" 5 ["self", "inner"] [] f_Not_init) (F : Fun G.K "flame_rules" "flame_rules" s_flame_rules f fd) : FnOk P w G.K mg base CX0 5 f fd [] (spN G f_flame_rules) :=
  fun_N (k := 4) (g := f_flame_rules) (b := b_flame_rules) rfl rfl rfl F sc_flame_rules fun cdv A outer s H E hr =>
  (@pfs_one _ _ _ _ (@pfs_retN _ _ _ _ _ (@pfn_lst _ _ _ _ _ (@pfa_cons _ _ _ _ _ _ (@pf_def _ _ _ _ _ _ _ _ _ _ _ d_refuses (hr.mono (by decide : 4 ≤ 4)) (@pfa_cons _ _ _ _ _ _ (@pf_str _ _ _ _ _) (@pfa_cons _ _ _ _ _ _ (@pf_new _ _ _ _ (@pfn_lst _ _ _ _ _ (@pfa_cons _ _ _ _ _ _ (@pf_ctor _ _ _ _ _ _ _ _ _ _ _ _ [] _ k_Not_1 (fun _ => reps_nil) (hr.mono (by decide : 2 ≤ 4)) (@pfa_cons _ _ _ _ _ _ (@pf_ctor _ _ _ _ _ _ _ _ _ _ _ _ [] _ k_Kind_2 (fun _ => reps_nil) (hr.mono (by decide : 2 ≤ 4)) (@pfa_cons _ _ _ _ _ _ (@pf_str _ _ _ _ _) (@pfa_cons _ _ _ _ _ _ (@pf_str _ _ _ _ _) (@pfa_nil _ _) rfl) rfl) rfl rfl (by decide) rfl rfl) (@pfa_nil _ _) rfl) rfl rfl (by decide) rfl rfl) (@pfa_nil _ _) rfl))) (@pfa_cons _ _ _ _ _ _ (@pf_str _ _ _ _ _) (@pfa_nil _ _) rfl) rfl) rfl) rfl (by decide) rfl rfl) (@pfa_cons _ _ _ _ _ _ (@pf_def _ _ _ _ _ _ _ _ _ _ _ d_refuses (hr.mono (by decide : 4 ≤ 4)) (@pfa_cons _ _ _ _ _ _ (@pf_str _ _ _ _ _) (@pfa_cons _ _ _ _ _ _ (@pf_new _ _ _ _ (@pfn_lst _ _ _ _ _ (@pfa_cons _ _ _ _ _ _ (@pf_ctor _ _ _ _ _ _ _ _ _ _ _ _ [] _ k_Marked_2 (fun _ => reps_nil) (hr.mono (by decide : 2 ≤ 4)) (@pfa_cons _ _ _ _ _ _ (@pf_str _ _ _ _ _) (@pfa_cons _ _ _ _ _ _ (@pf_int _ _ _ _ _) (@pfa_nil _ _) rfl) rfl) rfl rfl (by decide) rfl rfl) (@pfa_nil _ _) rfl))) (@pfa_cons _ _ _ _ _ _ (@pf_str _ _ _ _ _) (@pfa_nil _ _) rfl) rfl) rfl) rfl (by decide) rfl rfl) (@pfa_cons _ _ _ _ _ _ (@pf_def _ _ _ _ _ _ _ _ _ _ _ d_does (hr.mono (by decide : 4 ≤ 4)) (@pfa_cons _ _ _ _ _ _ (@pf_str _ _ _ _ _) (@pfa_cons _ _ _ _ _ _ (@pf_new _ _ _ _ (@pfn_lst _ _ _ _ _ (@pfa_nil _ _))) (@pfa_cons _ _ _ _ _ _ (@pf_new _ _ _ _ (@pfn_lst _ _ _ _ _ (@pfa_cons _ _ _ _ _ _ (@pf_ctor _ _ _ _ _ _ _ _ _ _ _ _ [] _ k_Put_2 (fun _ => reps_nil) (hr.mono (by decide : 2 ≤ 4)) (@pfa_cons _ _ _ _ _ _ (@pf_str _ _ _ _ _) (@pfa_cons _ _ _ _ _ _ (@pf_int _ _ _ _ _) (@pfa_nil _ _) rfl) rfl) rfl rfl (by decide) rfl rfl) (@pfa_nil _ _) rfl))) (@pfa_cons _ _ _ _ _ _ (@pf_str _ _ _ _ _) (@pfa_nil _ _) rfl) rfl) rfl) rfl) rfl (by decide) rfl rfl) (@pfa_cons _ _ _ _ _ _ (@pf_def _ _ _ _ _ _ _ _ _ _ _ d_refuses (hr.mono (by decide : 4 ≤ 4)) (@pfa_cons _ _ _ _ _ _ (@pf_str _ _ _ _ _) (@pfa_cons _ _ _ _ _ _ (@pf_new _ _ _ _ (@pfn_lst _ _ _ _ _ (@pfa_cons _ _ _ _ _ _ (@pf_ctor _ _ _ _ _ _ _ _ _ _ _ _ [] _ k_Not_1 (fun _ => reps_nil) (hr.mono (by decide : 2 ≤ 4)) (@pfa_cons _ _ _ _ _ _ (@pf_ctor _ _ _ _ _ _ _ _ _ _ _ _ [] _ k_Kind_2 (fun _ => reps_nil) (hr.mono (by decide : 2 ≤ 4)) (@pfa_cons _ _ _ _ _ _ (@pf_str _ _ _ _ _) (@pfa_cons _ _ _ _ _ _ (@pf_str _ _ _ _ _) (@pfa_nil _ _) rfl) rfl) rfl rfl (by decide) rfl rfl) (@pfa_nil _ _) rfl) rfl rfl (by decide) rfl rfl) (@pfa_nil _ _) rfl))) (@pfa_cons _ _ _ _ _ _ (@pf_str _ _ _ _ _) (@pfa_nil _ _) rfl) rfl) rfl) rfl (by decide) rfl rfl) (@pfa_cons _ _ _ _ _ _ (@pf_def _ _ _ _ _ _ _ _ _ _ _ d_refuses (hr.mono (by decide : 4 ≤ 4)) (@pfa_cons _ _ _ _ _ _ (@pf_str _ _ _ _ _) (@pfa_cons _ _ _ _ _ _ (@pf_new _ _ _ _ (@pfn_lst _ _ _ _ _ (@pfa_cons _ _ _ _ _ _ (@pf_ctor _ _ _ _ _ _ _ _ _ _ _ _ [] _ k_Marked_2 (fun _ => reps_nil) (hr.mono (by decide : 2 ≤ 4)) (@pfa_cons _ _ _ _ _ _ (@pf_str _ _ _ _ _) (@pfa_cons _ _ _ _ _ _ (@pf_int _ _ _ _ _) (@pfa_nil _ _) rfl) rfl) rfl rfl (by decide) rfl rfl) (@pfa_nil _ _) rfl))) (@pfa_cons _ _ _ _ _ _ (@pf_str _ _ _ _ _) (@pfa_nil _ _) rfl) rfl) rfl) rfl (by decide) rfl rfl) (@pfa_cons _ _ _ _ _ _ (@pf_def _ _ _ _ _ _ _ _ _ _ _ d_does (hr.mono (by decide : 4 ≤ 4)) (@pfa_cons _ _ _ _ _ _ (@pf_str _ _ _ _ _) (@pfa_cons _ _ _ _ _ _ (@pf_new _ _ _ _ (@pfn_lst _ _ _ _ _ (@pfa_nil _ _))) (@pfa_cons _ _ _ _ _ _ (@pf_new _ _ _ _ (@pfn_lst _ _ _ _ _ (@pfa_cons _ _ _ _ _ _ (@pf_ctor _ _ _ _ _ _ _ _ _ _ _ _ [] _ k_Put_2 (fun _ => reps_nil) (hr.mono (by decide : 2 ≤ 4)) (@pfa_cons _ _ _ _ _ _ (@pf_str _ _ _ _ _) (@pfa_cons _ _ _ _ _ _ (@pf_int _ _ _ _ _) (@pfa_nil _ _) rfl) rfl) rfl rfl (by decide) rfl rfl) (@pfa_nil _ _) rfl))) (@pfa_cons _ _ _ _ _ _ (@pf_str _ _ _ _ _) (@pfa_nil _ _) rfl) rfl) rfl) rfl) rfl (by decide) rfl rfl) (@pfa_nil _ _) rfl) rfl) rfl) rfl) rfl) rfl))))
abbrev s_way_tests : Stmt := top 39
theorem sc_way_tests : FnScope ["you", "way", "tests"] ["you", "way"] (defScope s_way_tests) := ⟨rfl, rfl, rfl, by decide +kernel, rfl, by decide +kernel, by decide +kernel⟩
def b_way_tests : FS := (sSeq (sSetN 2 (cLst (aCons (cMake 0 (fun ds => f_At_init (ds ++ [])) (aCons (cV 0) (aCons (c2 dIx (cV 1) (cC (L4.D.int 0))) aNil))) (aCons (cMake 4 (fun ds => f_Word_init (ds ++ [])) (aCons (c2 dIx (cV 1) (cC (L4.D.int 1))) aNil)) aNil))))
  (sSeq (sIf (cT (c2 dNotN (c2 dIx (cV 1) (cC (L4.D.int 3))) (cC L4.D.non))) (sExpr (cApp 2 (cMake 5 (fun ds => f_Not_init (ds ++ [])) (aCons (cMake 2 (fun ds => f_Marked_init (ds ++ [])) (aCons (c2 dIx (cV 1) (cC (L4.D.int 3))) (aCons (cC (L4.D.int 0)) aNil))) aNil)))) sNext)
  (sRetN (cOwn 2))))
def f_way_tests : List D → Option (List D) := fnN 2 3 b_way_tests
theorem ok_way_tests {f : Addr} {fd : FuncData} (k_Word_1 : CtorOk G P w mg base 1 "Word" 4 ["self", "word"] [] f_Word_init) (k_At_2 : CtorOk G P w mg base 1 "At" 0 ["self", "term", "place"] [] f_At_init) (k_Marked_2 : CtorOk G P w mg base 1 "Marked" 2 ["self", "term", "value"] [] f_Marked_init) (k_Not_1 : CtorOk G P w mg base 1 "Not" 5 ["self", "inner"] [] f_Not_init) (F : Fun G.K "way_tests" "way_tests" s_way_tests f fd) : FnOk P w G.K mg base CX0 3 f fd ["you", "way"] (spN G f_way_tests) :=
  fun_N (k := 2) (g := f_way_tests) (b := b_way_tests) rfl rfl rfl F sc_way_tests fun cdv A outer s H E hr =>
  (@pfs_cons _ _ _ _ _ _ (@pfs_setN _ _ _ _ _ (@ps_set _ _ 2 _ _ _ _ sc_way_tests.nd rfl (Or.inl rfl) (@pfn_lst _ _ _ _ _ (@pfa_cons _ _ _ _ _ _ (@pf_ctor _ _ _ _ _ _ _ _ _ _ _ _ [] _ k_At_2 (fun _ => reps_nil) (hr.mono (by decide : 2 ≤ 2)) (@pfa_cons _ _ _ _ _ _ (@pf_var _ _ _ _ (@pv _ 0 _ _ rfl (by first | exact Or.inl rfl | exact Or.inr (Or.inl rfl) | exact Or.inr (Or.inr rfl)) (by decide) (by decide))) (@pfa_cons _ _ _ _ _ _ (@pf_ix _ _ _ _ _ _ _ _ _ (@ix_X _ _ rfl) od_ix (@pf_var _ _ _ _ (@pv _ 1 _ _ rfl (by first | exact Or.inl rfl | exact Or.inr (Or.inl rfl) | exact Or.inr (Or.inr rfl)) (by decide) (by decide))) (@pf_int _ _ _ _ _) (fun _ _ => rfl)) (@pfa_nil _ _) rfl) rfl) rfl rfl (by decide) rfl rfl) (@pfa_cons _ _ _ _ _ _ (@pf_ctor _ _ _ _ _ _ _ _ _ _ _ _ [] _ k_Word_1 (fun _ => reps_nil) (hr.mono (by decide : 2 ≤ 2)) (@pfa_cons _ _ _ _ _ _ (@pf_ix _ _ _ _ _ _ _ _ _ (@ix_X _ _ rfl) od_ix (@pf_var _ _ _ _ (@pv _ 1 _ _ rfl (by first | exact Or.inl rfl | exact Or.inr (Or.inl rfl) | exact Or.inr (Or.inr rfl)) (by decide) (by decide))) (@pf_int _ _ _ _ _) (fun _ _ => rfl)) (@pfa_nil _ _) rfl) rfl rfl (by decide) rfl rfl) (@pfa_nil _ _) rfl) rfl)) rfl (by first | exact .inl rfl | exact .inr rfl))) (@pfs_cons _ _ _ _ _ _ (@pfs_if _ _ _ _ _ _ _ _ _ (@pft_cmp _ _ _ _ _ _ _ _ _ _ (@op_notN _) od_notN (@pf_ix _ _ _ _ _ _ _ _ _ (@ix_X _ _ rfl) od_ix (@pf_var _ _ _ _ (@pv _ 1 _ _ rfl (by first | exact Or.inl rfl | exact Or.inr (Or.inl rfl) | exact Or.inr (Or.inr rfl)) (by decide) (by decide))) (@pf_int _ _ _ _ _) (fun _ _ => rfl)) (@pf_non _ _ _ _) (nomark _)) (@pfs_one _ _ _ _ (@pfs_expr _ _ _ _ _ (@pf_append _ _ _ _ _ (@pe_bmK _ G.K _ _ _ _ _ _ _ _ _ _ _ PySem.F.plainAttrs_list PySem.F.slot_list_append PySem.F.type_list_append (@mt_append _) (@pv _ 2 _ _ rfl (by first | exact Or.inl rfl | exact Or.inr (Or.inl rfl) | exact Or.inr (Or.inr rfl)) (by decide) (by decide)) (@pfa_cons _ _ _ _ _ _ (@pf_ctor _ _ _ _ _ _ _ _ _ _ _ _ [] _ k_Not_1 (fun _ => reps_nil) (hr.mono (by decide : 2 ≤ 2)) (@pfa_cons _ _ _ _ _ _ (@pf_ctor _ _ _ _ _ _ _ _ _ _ _ _ [] _ k_Marked_2 (fun _ => reps_nil) (hr.mono (by decide : 2 ≤ 2)) (@pfa_cons _ _ _ _ _ _ (@pf_ix _ _ _ _ _ _ _ _ _ (@ix_X _ _ rfl) od_ix (@pf_var _ _ _ _ (@pv _ 1 _ _ rfl (by first | exact Or.inl rfl | exact Or.inr (Or.inl rfl) | exact Or.inr (Or.inr rfl)) (by decide) (by decide))) (@pf_int _ _ _ _ _) (fun _ _ => rfl)) (@pfa_cons _ _ _ _ _ _ (@pf_int _ _ _ _ _) (@pfa_nil _ _) rfl) rfl) rfl rfl (by decide) rfl rfl) (@pfa_nil _ _) rfl) rfl rfl (by decide) rfl rfl) (@pfa_nil _ _) rfl) rfl rfl rfl rfl rfl rfl)) rfl)) (@pfs_nil _ _)) (@pfs_one _ _ _ _ (@pfs_retN _ _ _ _ _ (@pfn_own _ _ _ _ (@pv _ 2 _ _ rfl (by first | exact Or.inl rfl | exact Or.inr (Or.inl rfl) | exact Or.inr (Or.inr rfl)) (by decide) (by decide)))))))
abbrev s_go_rules : Stmt := top 38
theorem sc_go_rules : FnScope ["you", "ways", "rules"] ["you", "ways"] (defScope s_go_rules) := ⟨rfl, rfl, rfl, by decide +kernel, rfl, by decide +kernel, by decide +kernel⟩
def b_go_rules : FS := (sSeq (sSet 2 (cL (cComp 1 [0] (iL (cV 1)) (gN 0) tYes (cCall f_does (aCons (cC (L4.D.str "go")) (aCons (cL (cCallN f_way_tests (aCons (cV 1) (aCons (cV 0) aNil)))) (aCons (cL (cLst (aCons (cMake 6 (fun ds => f_Move_init (ds ++ [])) (aCons (cV 1) (aCons (c2 dIx (cV 0) (cC (L4.D.int 2))) aNil))) aNil))) (aCons (cC (L4.D.str "You go.")) aNil))))))))
  (sRetN (cCat (cV 2) (cL (cLst (aCons (cCall f_refuses (aCons (cC (L4.D.str "go")) (aCons (cL (cLst aNil)) (aCons (cC (L4.D.str "No way there.")) aNil)))) aNil))))))
def f_go_rules : List D → Option (List D) := fnN 2 3 b_go_rules
theorem ok_go_rules {f : Addr} {fd : FuncData} (d_does : DefOk P w G.K mg base 4 "does" ["verb", "tests", "deeds", "text"] (spF G f_does)) (k_Move_2 : CtorOk G P w mg base 1 "Move" 6 ["self", "term", "place"] [] f_Move_init) (d_way_tests : DefOk P w G.K mg base 3 "way_tests" ["you", "way"] (spN G f_way_tests)) (d_refuses : DefOk P w G.K mg base 4 "refuses" ["verb", "tests", "text"] (spF G f_refuses)) (F : Fun G.K "go_rules" "go_rules" s_go_rules f fd) : FnOk P w G.K mg base CX0 5 f fd ["you", "ways"] (spN G f_go_rules) :=
  fun_N (k := 4) (g := f_go_rules) (b := b_go_rules) rfl rfl rfl F sc_go_rules fun cdv A outer s H E hr =>
  (@pfs_cons _ _ _ _ _ _ (@pfs_comp _ _ _ _ _ _ _ _ _ _ (by decide) (@ps_comp _ 2 _ _ _ _ _ _ _ _ _ ["way", "you"] 1 [0] _ _ _ _ rfl sc_go_rules.nd rfl (Or.inl rfl) (@pfi_list _ _ _ _ _ (@pi_listK _ G.K _ _ _ (@pf_var _ _ _ _ (@pv _ 1 _ _ rfl (by first | exact Or.inl rfl | exact Or.inr (Or.inl rfl) | exact Or.inr (Or.inr rfl)) (by decide) (by decide))) rfl)) (fun cl C fp s H => ⟨(@pfg_name _ _ _ _ 1 (@pg_name _ _ 0 _ (nodup_at ["way", "you"] (by decide +kernel)) rfl (Or.inl rfl) (by first | exact .inl rfl | exact .inr rfl)) (by decide)), (@pift_yes _ _), (@pf_def _ _ _ _ _ _ _ _ _ _ _ d_does (hr.mono (by decide : 4 ≤ 4)) (@pfa_cons _ _ _ _ _ _ (@pf_str _ _ _ _ _) (@pfa_cons _ _ _ _ _ _ (@pf_new _ _ _ _ (@pfn_def _ _ _ _ _ _ _ _ _ _ _ d_way_tests (hr.mono (by decide : 3 ≤ 4)) (@pfa_cons _ _ _ _ _ _ (@pf_var _ _ _ _ (@pv _ 1 _ _ rfl (by first | exact Or.inl rfl | exact Or.inr (Or.inl rfl) | exact Or.inr (Or.inr rfl)) (by decide) (by decide))) (@pfa_cons _ _ _ _ _ _ (@pf_var _ _ _ _ (@pv _ 0 _ _ rfl (by first | exact Or.inl rfl | exact Or.inr (Or.inl rfl) | exact Or.inr (Or.inr rfl)) (by decide) (by decide))) (@pfa_nil _ _) rfl) rfl) rfl (by decide) rfl rfl)) (@pfa_cons _ _ _ _ _ _ (@pf_new _ _ _ _ (@pfn_lst _ _ _ _ _ (@pfa_cons _ _ _ _ _ _ (@pf_ctor _ _ _ _ _ _ _ _ _ _ _ _ [] _ k_Move_2 (fun _ => reps_nil) (hr.mono (by decide : 2 ≤ 4)) (@pfa_cons _ _ _ _ _ _ (@pf_var _ _ _ _ (@pv _ 1 _ _ rfl (by first | exact Or.inl rfl | exact Or.inr (Or.inl rfl) | exact Or.inr (Or.inr rfl)) (by decide) (by decide))) (@pfa_cons _ _ _ _ _ _ (@pf_ix _ _ _ _ _ _ _ _ _ (@ix_X _ _ rfl) od_ix (@pf_var _ _ _ _ (@pv _ 0 _ _ rfl (by first | exact Or.inl rfl | exact Or.inr (Or.inl rfl) | exact Or.inr (Or.inr rfl)) (by decide) (by decide))) (@pf_int _ _ _ _ _) (fun _ _ => rfl)) (@pfa_nil _ _) rfl) rfl) rfl rfl (by decide) rfl rfl) (@pfa_nil _ _) rfl))) (@pfa_cons _ _ _ _ _ _ (@pf_str _ _ _ _ _) (@pfa_nil _ _) rfl) rfl) rfl) rfl) rfl (by decide) rfl rfl)⟩) rfl rfl rfl rfl rfl rfl rfl (by intro _; rfl) rfl (by first | exact .inl rfl | exact .inr rfl))) (@pfs_one _ _ _ _ (@pfs_retN _ _ _ _ _ (@pfn_cat _ _ _ _ _ _ _ (@pf_var _ _ _ _ (@pv _ 2 _ _ rfl (by first | exact Or.inl rfl | exact Or.inr (Or.inl rfl) | exact Or.inr (Or.inr rfl)) (by decide) (by decide))) (@pf_new _ _ _ _ (@pfn_lst _ _ _ _ _ (@pfa_cons _ _ _ _ _ _ (@pf_def _ _ _ _ _ _ _ _ _ _ _ d_refuses (hr.mono (by decide : 4 ≤ 4)) (@pfa_cons _ _ _ _ _ _ (@pf_str _ _ _ _ _) (@pfa_cons _ _ _ _ _ _ (@pf_new _ _ _ _ (@pfn_lst _ _ _ _ _ (@pfa_nil _ _))) (@pfa_cons _ _ _ _ _ _ (@pf_str _ _ _ _ _) (@pfa_nil _ _) rfl) rfl) rfl) rfl (by decide) rfl rfl) (@pfa_nil _ _) rfl)))))))
abbrev s_wait_rules : Stmt := top 40
theorem sc_wait_rules : FnScope [] [] (defScope s_wait_rules) := ⟨rfl, rfl, rfl, by decide +kernel, rfl, by decide +kernel, by decide +kernel⟩
def b_wait_rules : FS := (sRetN (cLst (aCons (cCall f_does (aCons (cC (L4.D.str "wait")) (aCons (cL (cLst aNil)) (aCons (cL (cLst aNil)) (aCons (cC (L4.D.str "Time goes by.")) aNil))))) aNil)))
def f_wait_rules : List D → Option (List D) := fnN 0 0 b_wait_rules
theorem ok_wait_rules {f : Addr} {fd : FuncData} (d_does : DefOk P w G.K mg base 4 "does" ["verb", "tests", "deeds", "text"] (spF G f_does)) (F : Fun G.K "wait_rules" "wait_rules" s_wait_rules f fd) : FnOk P w G.K mg base CX0 5 f fd [] (spN G f_wait_rules) :=
  fun_N (k := 4) (g := f_wait_rules) (b := b_wait_rules) rfl rfl rfl F sc_wait_rules fun cdv A outer s H E hr =>
  (@pfs_one _ _ _ _ (@pfs_retN _ _ _ _ _ (@pfn_lst _ _ _ _ _ (@pfa_cons _ _ _ _ _ _ (@pf_def _ _ _ _ _ _ _ _ _ _ _ d_does (hr.mono (by decide : 4 ≤ 4)) (@pfa_cons _ _ _ _ _ _ (@pf_str _ _ _ _ _) (@pfa_cons _ _ _ _ _ _ (@pf_new _ _ _ _ (@pfn_lst _ _ _ _ _ (@pfa_nil _ _))) (@pfa_cons _ _ _ _ _ _ (@pf_new _ _ _ _ (@pfn_lst _ _ _ _ _ (@pfa_nil _ _))) (@pfa_cons _ _ _ _ _ _ (@pf_str _ _ _ _ _) (@pfa_nil _ _) rfl) rfl) rfl) rfl) rfl (by decide) rfl rfl) (@pfa_nil _ _) rfl))))
abbrev s_common_rules : Stmt := top 31
theorem sc_common_rules : FnScope ["you", "ways"] ["you", "ways"] (defScope s_common_rules) := ⟨rfl, rfl, rfl, by decide +kernel, rfl, by decide +kernel, by decide +kernel⟩
def b_common_rules : FS := (sRetN (cCat (cL (cCat (cL (cCat (cL (cCat (cL (cCat (cL (cCallN f_hand_rules (aCons (cV 0) aNil))) (cL (cCallN f_put_rules aNil)))) (cL (cCallN f_lid_rules aNil)))) (cL (cCallN f_flame_rules aNil)))) (cL (cCallN f_go_rules (aCons (cV 0) (aCons (cV 1) aNil)))))) (cL (cCallN f_wait_rules aNil))))
def f_common_rules : List D → Option (List D) := fnN 2 2 b_common_rules
theorem ok_common_rules {f : Addr} {fd : FuncData} (d_hand_rules : DefOk P w G.K mg base 5 "hand_rules" ["you"] (spN G f_hand_rules)) (d_put_rules : DefOk P w G.K mg base 5 "put_rules" [] (spN G f_put_rules)) (d_lid_rules : DefOk P w G.K mg base 5 "lid_rules" [] (spN G f_lid_rules)) (d_flame_rules : DefOk P w G.K mg base 5 "flame_rules" [] (spN G f_flame_rules)) (d_go_rules : DefOk P w G.K mg base 5 "go_rules" ["you", "ways"] (spN G f_go_rules)) (d_wait_rules : DefOk P w G.K mg base 5 "wait_rules" [] (spN G f_wait_rules)) (F : Fun G.K "common_rules" "common_rules" s_common_rules f fd) : FnOk P w G.K mg base CX0 6 f fd ["you", "ways"] (spN G f_common_rules) :=
  fun_N (k := 5) (g := f_common_rules) (b := b_common_rules) rfl rfl rfl F sc_common_rules fun cdv A outer s H E hr =>
  (@pfs_one _ _ _ _ (@pfs_retN _ _ _ _ _ (@pfn_cat _ _ _ _ _ _ _ (@pf_new _ _ _ _ (@pfn_cat _ _ _ _ _ _ _ (@pf_new _ _ _ _ (@pfn_cat _ _ _ _ _ _ _ (@pf_new _ _ _ _ (@pfn_cat _ _ _ _ _ _ _ (@pf_new _ _ _ _ (@pfn_cat _ _ _ _ _ _ _ (@pf_new _ _ _ _ (@pfn_def _ _ _ _ _ _ _ _ _ _ _ d_hand_rules (hr.mono (by decide : 5 ≤ 5)) (@pfa_cons _ _ _ _ _ _ (@pf_var _ _ _ _ (@pv _ 0 _ _ rfl (by first | exact Or.inl rfl | exact Or.inr (Or.inl rfl) | exact Or.inr (Or.inr rfl)) (by decide) (by decide))) (@pfa_nil _ _) rfl) rfl (by decide) rfl rfl)) (@pf_new _ _ _ _ (@pfn_def0 _ _ _ _ _ _ _ _ d_put_rules (hr.mono (by decide : 5 ≤ 5)) rfl (by decide))))) (@pf_new _ _ _ _ (@pfn_def0 _ _ _ _ _ _ _ _ d_lid_rules (hr.mono (by decide : 5 ≤ 5)) rfl (by decide))))) (@pf_new _ _ _ _ (@pfn_def0 _ _ _ _ _ _ _ _ d_flame_rules (hr.mono (by decide : 5 ≤ 5)) rfl (by decide))))) (@pf_new _ _ _ _ (@pfn_def _ _ _ _ _ _ _ _ _ _ _ d_go_rules (hr.mono (by decide : 5 ≤ 5)) (@pfa_cons _ _ _ _ _ _ (@pf_var _ _ _ _ (@pv _ 0 _ _ rfl (by first | exact Or.inl rfl | exact Or.inr (Or.inl rfl) | exact Or.inr (Or.inr rfl)) (by decide) (by decide))) (@pfa_cons _ _ _ _ _ _ (@pf_var _ _ _ _ (@pv _ 1 _ _ rfl (by first | exact Or.inl rfl | exact Or.inr (Or.inl rfl) | exact Or.inr (Or.inr rfl)) (by decide) (by decide))) (@pfa_nil _ _) rfl) rfl) rfl (by decide) rfl rfl)))) (@pf_new _ _ _ _ (@pfn_def0 _ _ _ _ _ _ _ _ d_wait_rules (hr.mono (by decide : 5 ≤ 5)) rfl (by decide))))))
abbrev s_common_verbs : Stmt := top 30
theorem sc_common_verbs : FnScope [] [] (defScope s_common_verbs) := ⟨rfl, rfl, rfl, by decide +kernel, rfl, by decide +kernel, by decide +kernel⟩
def b_common_verbs : FS := (sRetN (cCat (cL (cComp 1 [] (iT (cTup (aCons (cC (L4.D.str "take")) (aCons (cC (L4.D.str "drop")) (aCons (cC (L4.D.str "open")) (aCons (cC (L4.D.str "shut")) (aCons (cC (L4.D.str "light")) (aCons (cC (L4.D.str "douse")) aNil)))))))) (gN 0) tYes (cMake 8 (fun ds => f_Verb_init (ds ++ [L4.D.non, (L4.D.str "one"), L4.D.non])) (aCons (cV 0) aNil)))) (cL (cLst (aCons (cMake 8 (fun ds => f_Verb_init (ds ++ [])) (aCons (cC (L4.D.str "put")) (aCons (cTup aNil) (aCons (cC (L4.D.str "two")) (aCons (cC (L4.D.str "in")) aNil))))) (aCons (cMake 8 (fun ds => f_Verb_init (ds ++ [L4.D.non])) (aCons (cC (L4.D.str "go")) (aCons (cTup aNil) (aCons (cC (L4.D.str "way")) aNil)))) (aCons (cMake 8 (fun ds => f_Verb_init (ds ++ [L4.D.non])) (aCons (cC (L4.D.str "wait")) (aCons (cTup aNil) (aCons (cC (L4.D.str "alone")) aNil)))) aNil)))))))
def f_common_verbs : List D → Option (List D) := fnN 0 0 b_common_verbs
theorem ok_common_verbs {f : Addr} {fd : FuncData} (k_Verb_1 : CtorOk G P w mg base 1 "Verb" 8 ["self", "name", "others", "form", "joining"] [V.non, (V.str "one"), V.non] f_Verb_init) (k_Verb_3 : CtorOk G P w mg base 1 "Verb" 8 ["self", "name", "others", "form", "joining"] [V.non] f_Verb_init) (k_Verb_4 : CtorOk G P w mg base 1 "Verb" 8 ["self", "name", "others", "form", "joining"] [] f_Verb_init) (F : Fun G.K "common_verbs" "common_verbs" s_common_verbs f fd) : FnOk P w G.K mg base CX0 3 f fd [] (spN G f_common_verbs) :=
  fun_N (k := 2) (g := f_common_verbs) (b := b_common_verbs) rfl rfl rfl F sc_common_verbs fun cdv A outer s H E hr =>
  (@pfs_one _ _ _ _ (@pfs_retN _ _ _ _ _ (@pfn_cat _ _ _ _ _ _ _ (@pf_new _ _ _ _ (@pfn_comp _ _ _ _ _ _ _ _ _ (by decide) (@pe_comp _ _ _ _ _ _ _ ["name"] 1 [] _ _ _ _ rfl (@pfi_tup _ _ _ _ _ (@pi_tupK _ G.K _ _ _ (@pf_tup _ _ _ _ _ _ (@pfa_cons _ _ _ _ _ _ (@pf_str _ _ _ _ _) (@pfa_cons _ _ _ _ _ _ (@pf_str _ _ _ _ _) (@pfa_cons _ _ _ _ _ _ (@pf_str _ _ _ _ _) (@pfa_cons _ _ _ _ _ _ (@pf_str _ _ _ _ _) (@pfa_cons _ _ _ _ _ _ (@pf_str _ _ _ _ _) (@pfa_cons _ _ _ _ _ _ (@pf_str _ _ _ _ _) (@pfa_nil _ _) rfl) rfl) rfl) rfl) rfl) rfl)) rfl)) (fun cl C fp s H => ⟨(@pfg_name _ _ _ _ 1 (@pg_name _ _ 0 _ (nodup_at ["name"] (by decide +kernel)) rfl (Or.inl rfl) (by first | exact .inl rfl | exact .inr rfl)) (by decide)), (@pift_yes _ _), (@pf_ctor _ _ _ _ _ _ _ _ _ _ _ _ [L4.D.non, (L4.D.str "one"), L4.D.non] _ k_Verb_1 (fun _ => (reps_cons (flat_rep (d := L4.D.non) rfl _) (reps_cons (flat_rep (d := (L4.D.str "one")) rfl _) (reps_cons (flat_rep (d := L4.D.non) rfl _) reps_nil)))) (hr.mono (by decide : 2 ≤ 2)) (@pfa_cons _ _ _ _ _ _ (@pf_var _ _ _ _ (@pv _ 0 _ _ rfl (by first | exact Or.inl rfl | exact Or.inr (Or.inl rfl) | exact Or.inr (Or.inr rfl)) (by decide) (by decide))) (@pfa_nil _ _) rfl) rfl rfl (by decide) rfl rfl)⟩) rfl rfl rfl rfl rfl rfl rfl (by intro _; rfl)))) (@pf_new _ _ _ _ (@pfn_lst _ _ _ _ _ (@pfa_cons _ _ _ _ _ _ (@pf_ctor _ _ _ _ _ _ _ _ _ _ _ _ [] _ k_Verb_4 (fun _ => reps_nil) (hr.mono (by decide : 2 ≤ 2)) (@pfa_cons _ _ _ _ _ _ (@pf_str _ _ _ _ _) (@pfa_cons _ _ _ _ _ _ (@pf_tup _ _ _ _ _ _ (@pfa_nil _ _)) (@pfa_cons _ _ _ _ _ _ (@pf_str _ _ _ _ _) (@pfa_cons _ _ _ _ _ _ (@pf_str _ _ _ _ _) (@pfa_nil _ _) rfl) rfl) rfl) rfl) rfl rfl (by decide) rfl rfl) (@pfa_cons _ _ _ _ _ _ (@pf_ctor _ _ _ _ _ _ _ _ _ _ _ _ [L4.D.non] _ k_Verb_3 (fun _ => (reps_cons (flat_rep (d := L4.D.non) rfl _) reps_nil)) (hr.mono (by decide : 2 ≤ 2)) (@pfa_cons _ _ _ _ _ _ (@pf_str _ _ _ _ _) (@pfa_cons _ _ _ _ _ _ (@pf_tup _ _ _ _ _ _ (@pfa_nil _ _)) (@pfa_cons _ _ _ _ _ _ (@pf_str _ _ _ _ _) (@pfa_nil _ _) rfl) rfl) rfl) rfl rfl (by decide) rfl rfl) (@pfa_cons _ _ _ _ _ _ (@pf_ctor _ _ _ _ _ _ _ _ _ _ _ _ [L4.D.non] _ k_Verb_3 (fun _ => (reps_cons (flat_rep (d := L4.D.non) rfl _) reps_nil)) (hr.mono (by decide : 2 ≤ 2)) (@pfa_cons _ _ _ _ _ _ (@pf_str _ _ _ _ _) (@pfa_cons _ _ _ _ _ _ (@pf_tup _ _ _ _ _ _ (@pfa_nil _ _)) (@pfa_cons _ _ _ _ _ _ (@pf_str _ _ _ _ _) (@pfa_nil _ _) rfl) rfl) rfl) rfl rfl (by decide) rfl rfl) (@pfa_nil _ _) rfl) rfl) rfl))))))
abbrev s__law_digit : Stmt := top 43
theorem sc__law_digit : FnScope ["_law_state", "_law_base", "_law_cell", "_law_found", "_law_number"] ["_law_state", "_law_base"] (defScope s__law_digit) := ⟨rfl, rfl, rfl, by decide +kernel, rfl, by decide +kernel, by decide +kernel⟩
def b__law_digit : FS := (sSeq (sIf (cBorT (cT (c2 (dEq false) (c1 dLen (cV 0)) (cC (L4.D.int 1))))) (sSeq (sSet 2 (cBor (c2 dIx (cV 0) (cC (L4.D.int 0)))))
  (sSeq (sIxSet 0 0 (c2 dMulI (cV 2) (c1 dInt (c2 dGeI (cV 2) (c2 dPowI (cC (L4.D.int 10)) (cC (L4.D.int 18)))))))
  (sExpr (cExt 0 (cLst (aCons (c2 dModI (cV 2) (cC (L4.D.int 2147483647))) (aCons (cC (L4.D.int 0)) aNil))))))) sNext)
  (sSeq (sIf (cBorT (cT (c2 dGtI (c2 dIx (cV 0) (cC (L4.D.int 0))) (cC (L4.D.int 0))))) (sSeq (sSet 3 (cBor (c2 dModI (c2 dIx (cV 0) (cC (L4.D.int 0))) (cV 1))))
  (sSeq (sIxSet 0 0 (cBor (c2 dDivI (c2 dIx (cV 0) (cC (L4.D.int 0))) (cV 1))))
  (sRet (cV 3)))) sNext)
  (sSeq (sIxSet 0 2 (cBor (c2 dAddI (c2 dIx (cV 0) (cC (L4.D.int 2))) (cC (L4.D.int 1)))))
  (sSeq (sSet 4 (cBor (c2 dModI (c2 dMulI (c2 dAddI (c2 dAddI (c2 dIx (cV 0) (cC (L4.D.int 1))) (c2 dMulI (cC (L4.D.int 7919)) (c2 dIx (cV 0) (cC (L4.D.int 2))))) (cC (L4.D.int 1))) (cC (L4.D.int 48271))) (cC (L4.D.int 2147483647)))))
  (sSeq (sSet 4 (c2 dModI (c2 dMulI (cV 4) (c2 dAddI (c2 dDivI (cV 4) (cC (L4.D.int 1009))) (cC (L4.D.int 69621)))) (cC (L4.D.int 2147483647))))
  (sRet (c2 dModI (c2 dModI (c2 dMulI (cV 4) (c2 dAddI (c2 dDivI (cV 4) (cC (L4.D.int 2003))) (cC (L4.D.int 40692)))) (cC (L4.D.int 2147483399))) (cV 1))))))))
def f__law_digit : List D → List D → Option (D × List D) := fnM 1 5 b__law_digit
theorem ok__law_digit {f : Addr} {fd : FuncData} (b_len : mg "len" = none) (b_int : mg "int" = none) (F : Fun G.K "_law_digit" "_law_digit" s__law_digit f fd) : FnOk P w G.K mg base CX0 1 f fd ["_law_state", "_law_base"] (spM G f__law_digit) :=
  fun_M (k := 0) (g := f__law_digit) (b := b__law_digit) rfl rfl rfl F sc__law_digit fun cdv A outer s H E hr =>
  (@pfs_cons _ _ _ _ _ _ (@pfs_if _ _ _ _ _ _ _ _ _ (@pft_bor _ _ _ _ (@pft_cmp _ _ _ _ _ _ _ _ _ _ (@op_eqX _ _ hr.units rfl) od_eq (@pf_b1 _ _ _ _ _ _ cd_len (@pe_callB _ _ _ _ _ _ _ _ _ (@call_lenX _ _ rfl) (by rfl) b_len PySem.boot_len (@pfa_cons _ _ _ _ _ _ (@pf_var _ _ _ _ (@pv _ 0 _ _ rfl (by first | exact Or.inl rfl | exact Or.inr (Or.inl rfl) | exact Or.inr (Or.inr rfl)) (by decide) (by decide))) (@pfa_nil _ _) rfl) (by decide) (by decide) rfl rfl)) (@pf_int _ _ _ _ _) (nomark _))) (@pfs_cons _ _ _ _ _ _ (@pfs_set _ _ _ _ _ (@ps_set _ _ 2 _ _ _ _ sc__law_digit.nd rfl (Or.inl rfl) (@pf_bor _ _ _ _ (@pf_ix _ _ _ _ _ _ _ _ _ (@ix_X _ _ rfl) od_ix (@pf_var _ _ _ _ (@pv _ 0 _ _ rfl (by first | exact Or.inl rfl | exact Or.inr (Or.inl rfl) | exact Or.inr (Or.inr rfl)) (by decide) (by decide))) (@pf_int _ _ _ _ _) (fun _ _ => rfl))) rfl (by first | exact .inl rfl | exact .inr rfl))) (@pfs_cons _ _ _ _ _ _ (@pfs_ixset _ _ _ _ _ _ (@ps_asg _ _ _ _ _ _ (@pf_op _ _ _ _ _ _ _ _ _ _ (@op_mul _) od_mul (@pf_var _ _ _ _ (@pv _ 2 _ _ rfl (by first | exact Or.inl rfl | exact Or.inr (Or.inl rfl) | exact Or.inr (Or.inr rfl)) (by decide) (by decide))) (@pf_b1 _ _ _ _ _ _ cd_int (@pe_callTy _ _ _ _ _ _ _ _ _ (@call_int1 _) (by rfl) b_int PySem.Pv.boot_int (@pfa_cons _ _ _ _ _ _ (@pf_cmp _ _ _ _ _ _ _ _ _ _ (@op_ge _) od_ge (@pf_var _ _ _ _ (@pv _ 2 _ _ rfl (by first | exact Or.inl rfl | exact Or.inr (Or.inl rfl) | exact Or.inr (Or.inr rfl)) (by decide) (by decide))) (@pf_op _ _ _ _ _ _ _ _ _ _ (@op_pow _) od_pow (@pf_int _ _ _ _ _) (@pf_int _ _ _ _ _)) (nomark _)) (@pfa_nil _ _) rfl) (by decide) (by decide) rfl rfl))) (@pg_sub _ _ _ _ _ _ _ (@pv _ 0 _ _ rfl (by first | exact Or.inl rfl | exact Or.inr (Or.inl rfl) | exact Or.inr (Or.inr rfl)) (by decide) (by decide)) (@pe_int _ _ _ _) (@set_list _) (by first | rfl | (intro _; rfl))) rfl rfl rfl)) (@pfs_one _ _ _ _ (@pfs_expr _ _ _ _ _ (@pf_extend _ _ _ _ _ (@pe_bmK _ G.K _ _ _ _ _ _ _ _ _ _ _ PySem.F.plainAttrs_list PySem.F.slot_list_extend PySem.F.type_list_extend (@mt_extend _) (@pv _ 0 _ _ rfl (by first | exact Or.inl rfl | exact Or.inr (Or.inl rfl) | exact Or.inr (Or.inr rfl)) (by decide) (by decide)) (@pa_cons _ _ _ _ _ (@pfn_lst _ _ _ _ _ (@pfa_cons _ _ _ _ _ _ (@pf_op _ _ _ _ _ _ _ _ _ _ (@op_mod _) od_mod (@pf_var _ _ _ _ (@pv _ 2 _ _ rfl (by first | exact Or.inl rfl | exact Or.inr (Or.inl rfl) | exact Or.inr (Or.inr rfl)) (by decide) (by decide))) (@pf_int _ _ _ _ _)) (@pfa_cons _ _ _ _ _ _ (@pf_int _ _ _ _ _) (@pfa_nil _ _) rfl) rfl)) (@pa_nil _) rfl) rfl rfl rfl rfl rfl rfl)) rfl)))) (@pfs_nil _ _)) (@pfs_cons _ _ _ _ _ _ (@pfs_if _ _ _ _ _ _ _ _ _ (@pft_bor _ _ _ _ (@pft_cmp _ _ _ _ _ _ _ _ _ _ (@op_gt _) od_gt (@pf_ix _ _ _ _ _ _ _ _ _ (@ix_X _ _ rfl) od_ix (@pf_var _ _ _ _ (@pv _ 0 _ _ rfl (by first | exact Or.inl rfl | exact Or.inr (Or.inl rfl) | exact Or.inr (Or.inr rfl)) (by decide) (by decide))) (@pf_int _ _ _ _ _) (fun _ _ => rfl)) (@pf_int _ _ _ _ _) (nomark _))) (@pfs_cons _ _ _ _ _ _ (@pfs_set _ _ _ _ _ (@ps_set _ _ 3 _ _ _ _ sc__law_digit.nd rfl (Or.inl rfl) (@pf_bor _ _ _ _ (@pf_op _ _ _ _ _ _ _ _ _ _ (@op_mod _) od_mod (@pf_ix _ _ _ _ _ _ _ _ _ (@ix_X _ _ rfl) od_ix (@pf_var _ _ _ _ (@pv _ 0 _ _ rfl (by first | exact Or.inl rfl | exact Or.inr (Or.inl rfl) | exact Or.inr (Or.inr rfl)) (by decide) (by decide))) (@pf_int _ _ _ _ _) (fun _ _ => rfl)) (@pf_var _ _ _ _ (@pv _ 1 _ _ rfl (by first | exact Or.inl rfl | exact Or.inr (Or.inl rfl) | exact Or.inr (Or.inr rfl)) (by decide) (by decide))))) rfl (by first | exact .inl rfl | exact .inr rfl))) (@pfs_cons _ _ _ _ _ _ (@pfs_ixset _ _ _ _ _ _ (@ps_asg _ _ _ _ _ _ (@pf_bor _ _ _ _ (@pf_op _ _ _ _ _ _ _ _ _ _ (@op_fdiv _) od_div (@pf_ix _ _ _ _ _ _ _ _ _ (@ix_X _ _ rfl) od_ix (@pf_var _ _ _ _ (@pv _ 0 _ _ rfl (by first | exact Or.inl rfl | exact Or.inr (Or.inl rfl) | exact Or.inr (Or.inr rfl)) (by decide) (by decide))) (@pf_int _ _ _ _ _) (fun _ _ => rfl)) (@pf_var _ _ _ _ (@pv _ 1 _ _ rfl (by first | exact Or.inl rfl | exact Or.inr (Or.inl rfl) | exact Or.inr (Or.inr rfl)) (by decide) (by decide))))) (@pg_sub _ _ _ _ _ _ _ (@pv _ 0 _ _ rfl (by first | exact Or.inl rfl | exact Or.inr (Or.inl rfl) | exact Or.inr (Or.inr rfl)) (by decide) (by decide)) (@pe_int _ _ _ _) (@set_list _) (by first | rfl | (intro _; rfl))) rfl rfl rfl)) (@pfs_one _ _ _ _ (@pfs_ret _ _ _ _ _ (@pf_var _ _ _ _ (@pv _ 3 _ _ rfl (by first | exact Or.inl rfl | exact Or.inr (Or.inl rfl) | exact Or.inr (Or.inr rfl)) (by decide) (by decide))))))) (@pfs_nil _ _)) (@pfs_cons _ _ _ _ _ _ (@pfs_ixset _ _ _ _ _ _ (@ps_asg _ _ _ _ _ _ (@pf_bor _ _ _ _ (@pf_op _ _ _ _ _ _ _ _ _ _ (@op_add _) od_add (@pf_ix _ _ _ _ _ _ _ _ _ (@ix_X _ _ rfl) od_ix (@pf_var _ _ _ _ (@pv _ 0 _ _ rfl (by first | exact Or.inl rfl | exact Or.inr (Or.inl rfl) | exact Or.inr (Or.inr rfl)) (by decide) (by decide))) (@pf_int _ _ _ _ _) (fun _ _ => rfl)) (@pf_int _ _ _ _ _))) (@pg_sub _ _ _ _ _ _ _ (@pv _ 0 _ _ rfl (by first | exact Or.inl rfl | exact Or.inr (Or.inl rfl) | exact Or.inr (Or.inr rfl)) (by decide) (by decide)) (@pe_int _ _ _ _) (@set_list _) (by first | rfl | (intro _; rfl))) rfl rfl rfl)) (@pfs_cons _ _ _ _ _ _ (@pfs_set _ _ _ _ _ (@ps_set _ _ 4 _ _ _ _ sc__law_digit.nd rfl (Or.inl rfl) (@pf_bor _ _ _ _ (@pf_op _ _ _ _ _ _ _ _ _ _ (@op_mod _) od_mod (@pf_op _ _ _ _ _ _ _ _ _ _ (@op_mul _) od_mul (@pf_op _ _ _ _ _ _ _ _ _ _ (@op_add _) od_add (@pf_op _ _ _ _ _ _ _ _ _ _ (@op_add _) od_add (@pf_ix _ _ _ _ _ _ _ _ _ (@ix_X _ _ rfl) od_ix (@pf_var _ _ _ _ (@pv _ 0 _ _ rfl (by first | exact Or.inl rfl | exact Or.inr (Or.inl rfl) | exact Or.inr (Or.inr rfl)) (by decide) (by decide))) (@pf_int _ _ _ _ _) (fun _ _ => rfl)) (@pf_op _ _ _ _ _ _ _ _ _ _ (@op_mul _) od_mul (@pf_int _ _ _ _ _) (@pf_ix _ _ _ _ _ _ _ _ _ (@ix_X _ _ rfl) od_ix (@pf_var _ _ _ _ (@pv _ 0 _ _ rfl (by first | exact Or.inl rfl | exact Or.inr (Or.inl rfl) | exact Or.inr (Or.inr rfl)) (by decide) (by decide))) (@pf_int _ _ _ _ _) (fun _ _ => rfl)))) (@pf_int _ _ _ _ _)) (@pf_int _ _ _ _ _)) (@pf_int _ _ _ _ _))) rfl (by first | exact .inl rfl | exact .inr rfl))) (@pfs_cons _ _ _ _ _ _ (@pfs_set _ _ _ _ _ (@ps_set _ _ 4 _ _ _ _ sc__law_digit.nd rfl (Or.inl rfl) (@pf_op _ _ _ _ _ _ _ _ _ _ (@op_mod _) od_mod (@pf_op _ _ _ _ _ _ _ _ _ _ (@op_mul _) od_mul (@pf_var _ _ _ _ (@pv _ 4 _ _ rfl (by first | exact Or.inl rfl | exact Or.inr (Or.inl rfl) | exact Or.inr (Or.inr rfl)) (by decide) (by decide))) (@pf_op _ _ _ _ _ _ _ _ _ _ (@op_add _) od_add (@pf_op _ _ _ _ _ _ _ _ _ _ (@op_fdiv _) od_div (@pf_var _ _ _ _ (@pv _ 4 _ _ rfl (by first | exact Or.inl rfl | exact Or.inr (Or.inl rfl) | exact Or.inr (Or.inr rfl)) (by decide) (by decide))) (@pf_int _ _ _ _ _)) (@pf_int _ _ _ _ _))) (@pf_int _ _ _ _ _)) rfl (by first | exact .inl rfl | exact .inr rfl))) (@pfs_one _ _ _ _ (@pfs_ret _ _ _ _ _ (@pf_op _ _ _ _ _ _ _ _ _ _ (@op_mod _) od_mod (@pf_op _ _ _ _ _ _ _ _ _ _ (@op_mod _) od_mod (@pf_op _ _ _ _ _ _ _ _ _ _ (@op_mul _) od_mul (@pf_var _ _ _ _ (@pv _ 4 _ _ rfl (by first | exact Or.inl rfl | exact Or.inr (Or.inl rfl) | exact Or.inr (Or.inr rfl)) (by decide) (by decide))) (@pf_op _ _ _ _ _ _ _ _ _ _ (@op_add _) od_add (@pf_op _ _ _ _ _ _ _ _ _ _ (@op_fdiv _) od_div (@pf_var _ _ _ _ (@pv _ 4 _ _ rfl (by first | exact Or.inl rfl | exact Or.inr (Or.inl rfl) | exact Or.inr (Or.inr rfl)) (by decide) (by decide))) (@pf_int _ _ _ _ _)) (@pf_int _ _ _ _ _))) (@pf_int _ _ _ _ _)) (@pf_var _ _ _ _ (@pv _ 1 _ _ rfl (by first | exact Or.inl rfl | exact Or.inr (Or.inl rfl) | exact Or.inr (Or.inr rfl)) (by decide) (by decide)))))))))))
abbrev s__law_name : Stmt := top 44
theorem sc__law_name : FnScope ["_law_state", "_law_word", "_law_k"] ["_law_state"] (defScope s__law_name) := ⟨rfl, rfl, rfl, by decide +kernel, rfl, by decide +kernel, by decide +kernel⟩
def b__law_name : FS := (sSeq (sSet 1 (cC (L4.D.str "")))
  (sSeq (sFor (iR1 (c2 dAddI (cC (L4.D.int 1)) (cMut f__law_digit 0 (aCons (cC (L4.D.int 8)) aNil)))) (gN 2) (sSet 1 (c2 dAddS (cV 1) (c2 dIx (cC (L4.D.str "bcdefghijklm")) (cMut f__law_digit 0 (aCons (cC (L4.D.int 12)) aNil))))))
  (sRet (cV 1))))
def f__law_name : List D → List D → Option (D × List D) := fnM 0 3 b__law_name
theorem ok__law_name {f : Addr} {fd : FuncData} (d__law_digit : DefOk P w G.K mg base 1 "_law_digit" ["_law_state", "_law_base"] (spM G f__law_digit)) (b_range : mg "range" = none) (F : Fun G.K "_law_name" "_law_name" s__law_name f fd) : FnOk P w G.K mg base CX0 2 f fd ["_law_state"] (spM G f__law_name) :=
  fun_M (k := 1) (g := f__law_name) (b := b__law_name) rfl rfl rfl F sc__law_name fun cdv A outer s H E hr =>
  (@pfs_cons _ _ _ _ _ _ (@pfs_set _ _ _ _ _ (@ps_set _ _ 1 _ _ _ _ sc__law_name.nd rfl (Or.inl rfl) (@pf_str _ _ _ _ _) rfl (by first | exact .inl rfl | exact .inr rfl))) (@pfs_cons _ _ _ _ _ _ (@pfs_for _ _ _ _ _ _ _ (@ps_for _ _ _ _ _ _ _ _ PassesOwn.never rfl (@pfi_range1 _ _ _ _ _ (@pi_range1 _ _ _ _ _ _ (by rfl) b_range (@pfa_cons _ _ _ _ _ _ (@pf_op _ _ _ _ _ _ _ _ _ _ (@op_add _) od_add (@pf_int _ _ _ _ _) (@pf_defM _ _ _ _ _ _ _ _ _ _ _ _ d__law_digit (hr.mono (by decide : 1 ≤ 1)) (@pv _ 0 _ _ rfl (by first | exact Or.inl rfl | exact Or.inr (Or.inl rfl) | exact Or.inr (Or.inr rfl)) (by decide) (by decide)) (@pfa_cons _ _ _ _ _ _ (@pf_int _ _ _ _ _) (@pfa_nil _ _) rfl) rfl (by decide) rfl rfl)) (@pfa_nil _ _) rfl) rfl)) (@pfg_name _ _ _ _ 3 (@pg_name _ _ 2 _ sc__law_name.nd rfl (Or.inl rfl) (by first | exact .inl rfl | exact .inr rfl)) (by decide)) (@pfs_one _ _ _ _ (@pfs_set _ _ _ _ _ (@ps_set _ _ 1 _ _ _ _ sc__law_name.nd rfl (Or.inl rfl) (@pf_op _ _ _ _ _ _ _ _ _ _ (@op_add_str _) od_addS (@pf_var _ _ _ _ (@pv _ 1 _ _ rfl (by first | exact Or.inl rfl | exact Or.inr (Or.inl rfl) | exact Or.inr (Or.inr rfl)) (by decide) (by decide))) (@pf_ix _ _ _ _ _ _ _ _ _ (@ix_X _ _ rfl) od_ix (@pf_str _ _ _ _ _) (@pf_defM _ _ _ _ _ _ _ _ _ _ _ _ d__law_digit (hr.mono (by decide : 1 ≤ 1)) (@pv _ 0 _ _ rfl (by first | exact Or.inl rfl | exact Or.inr (Or.inl rfl) | exact Or.inr (Or.inr rfl)) (by decide) (by decide)) (@pfa_cons _ _ _ _ _ _ (@pf_int _ _ _ _ _) (@pfa_nil _ _) rfl) rfl (by decide) rfl rfl) (fun _ _ => rfl))) rfl (by first | exact .inl rfl | exact .inr rfl)))) (by intro _; rfl))) (@pfs_one _ _ _ _ (@pfs_ret _ _ _ _ _ (@pf_var _ _ _ _ (@pv _ 1 _ _ rfl (by first | exact Or.inl rfl | exact Or.inr (Or.inl rfl) | exact Or.inr (Or.inr rfl)) (by decide) (by decide)))))))
abbrev s__law_ways : Stmt := top 45
theorem sc__law_ways : FnScope ["_law_state", "_law_ways_here", "_law_k", "_law_mark"] ["_law_state"] (defScope s__law_ways) := ⟨rfl, rfl, rfl, by decide +kernel, rfl, by decide +kernel, by decide +kernel⟩
def b__law_ways : FS := (sSeq (sSetN 1 (cLst aNil))
  (sSeq (sFor (iR1 (cMut f__law_digit 0 (aCons (cC (L4.D.int 11)) aNil))) (gN 2) (sSeq (sSet 3 (c2 dIx (cL (cLst (aCons (cC L4.D.non) (aCons (cMut f__law_name 0 aNil) aNil)))) (cMut f__law_digit 0 (aCons (cC (L4.D.int 2)) aNil))))
  (sExpr (cApp 1 (cTup (aCons (cMut f__law_name 0 aNil) (aCons (cMut f__law_name 0 aNil) (aCons (cMut f__law_name 0 aNil) (aCons (cV 3) aNil)))))))))
  (sRet (cFz 1))))
def f__law_ways : List D → List D → Option (D × List D) := fnM 0 4 b__law_ways
theorem ok__law_ways {f : Addr} {fd : FuncData} (d__law_digit : DefOk P w G.K mg base 1 "_law_digit" ["_law_state", "_law_base"] (spM G f__law_digit)) (b_range : mg "range" = none) (d__law_name : DefOk P w G.K mg base 2 "_law_name" ["_law_state"] (spM G f__law_name)) (F : Fun G.K "_law_ways" "_law_ways" s__law_ways f fd) : FnOk P w G.K mg base CX0 3 f fd ["_law_state"] (spM G f__law_ways) :=
  fun_M (k := 2) (g := f__law_ways) (b := b__law_ways) rfl rfl rfl F sc__law_ways fun cdv A outer s H E hr =>
  (@pfs_cons _ _ _ _ _ _ (@pfs_setN _ _ _ _ _ (@ps_set _ _ 1 _ _ _ _ sc__law_ways.nd rfl (Or.inl rfl) (@pfn_lst _ _ _ _ _ (@pfa_nil _ _)) rfl (by first | exact .inl rfl | exact .inr rfl))) (@pfs_cons _ _ _ _ _ _ (@pfs_for _ _ _ _ _ _ _ (@ps_for _ _ _ _ _ _ _ _ PassesOwn.never rfl (@pfi_range1 _ _ _ _ _ (@pi_range1 _ _ _ _ _ _ (by rfl) b_range (@pfa_cons _ _ _ _ _ _ (@pf_defM _ _ _ _ _ _ _ _ _ _ _ _ d__law_digit (hr.mono (by decide : 1 ≤ 2)) (@pv _ 0 _ _ rfl (by first | exact Or.inl rfl | exact Or.inr (Or.inl rfl) | exact Or.inr (Or.inr rfl)) (by decide) (by decide)) (@pfa_cons _ _ _ _ _ _ (@pf_int _ _ _ _ _) (@pfa_nil _ _) rfl) rfl (by decide) rfl rfl) (@pfa_nil _ _) rfl) rfl)) (@pfg_name _ _ _ _ 4 (@pg_name _ _ 2 _ sc__law_ways.nd rfl (Or.inl rfl) (by first | exact .inl rfl | exact .inr rfl)) (by decide)) (@pfs_cons _ _ _ _ _ _ (@pfs_set _ _ _ _ _ (@ps_set _ _ 3 _ _ _ _ sc__law_ways.nd rfl (Or.inl rfl) (@pf_ix _ _ _ _ _ _ _ _ _ (@ix_X _ _ rfl) od_ix (@pf_new _ _ _ _ (@pfn_lst _ _ _ _ _ (@pfa_cons _ _ _ _ _ _ (@pf_non _ _ _ _) (@pfa_cons _ _ _ _ _ _ (@pf_defM _ _ _ _ _ _ _ _ _ _ _ _ d__law_name (hr.mono (by decide : 2 ≤ 2)) (@pv _ 0 _ _ rfl (by first | exact Or.inl rfl | exact Or.inr (Or.inl rfl) | exact Or.inr (Or.inr rfl)) (by decide) (by decide)) (@pfa_nil _ _) rfl (by decide) rfl rfl) (@pfa_nil _ _) rfl) rfl))) (@pf_defM _ _ _ _ _ _ _ _ _ _ _ _ d__law_digit (hr.mono (by decide : 1 ≤ 2)) (@pv _ 0 _ _ rfl (by first | exact Or.inl rfl | exact Or.inr (Or.inl rfl) | exact Or.inr (Or.inr rfl)) (by decide) (by decide)) (@pfa_cons _ _ _ _ _ _ (@pf_int _ _ _ _ _) (@pfa_nil _ _) rfl) rfl (by decide) rfl rfl) (fun _ _ => rfl)) rfl (by first | exact .inl rfl | exact .inr rfl))) (@pfs_one _ _ _ _ (@pfs_expr _ _ _ _ _ (@pf_append _ _ _ _ _ (@pe_bmK _ G.K _ _ _ _ _ _ _ _ _ _ _ PySem.F.plainAttrs_list PySem.F.slot_list_append PySem.F.type_list_append (@mt_append _) (@pv _ 1 _ _ rfl (by first | exact Or.inl rfl | exact Or.inr (Or.inl rfl) | exact Or.inr (Or.inr rfl)) (by decide) (by decide)) (@pfa_cons _ _ _ _ _ _ (@pf_tup _ _ _ _ _ _ (@pfa_cons _ _ _ _ _ _ (@pf_defM _ _ _ _ _ _ _ _ _ _ _ _ d__law_name (hr.mono (by decide : 2 ≤ 2)) (@pv _ 0 _ _ rfl (by first | exact Or.inl rfl | exact Or.inr (Or.inl rfl) | exact Or.inr (Or.inr rfl)) (by decide) (by decide)) (@pfa_nil _ _) rfl (by decide) rfl rfl) (@pfa_cons _ _ _ _ _ _ (@pf_defM _ _ _ _ _ _ _ _ _ _ _ _ d__law_name (hr.mono (by decide : 2 ≤ 2)) (@pv _ 0 _ _ rfl (by first | exact Or.inl rfl | exact Or.inr (Or.inl rfl) | exact Or.inr (Or.inr rfl)) (by decide) (by decide)) (@pfa_nil _ _) rfl (by decide) rfl rfl) (@pfa_cons _ _ _ _ _ _ (@pf_defM _ _ _ _ _ _ _ _ _ _ _ _ d__law_name (hr.mono (by decide : 2 ≤ 2)) (@pv _ 0 _ _ rfl (by first | exact Or.inl rfl | exact Or.inr (Or.inl rfl) | exact Or.inr (Or.inr rfl)) (by decide) (by decide)) (@pfa_nil _ _) rfl (by decide) rfl rfl) (@pfa_cons _ _ _ _ _ _ (@pf_var _ _ _ _ (@pv _ 3 _ _ rfl (by first | exact Or.inl rfl | exact Or.inr (Or.inl rfl) | exact Or.inr (Or.inr rfl)) (by decide) (by decide))) (@pfa_nil _ _) rfl) rfl) rfl) rfl)) (@pfa_nil _ _) rfl) rfl rfl rfl rfl rfl rfl)) rfl))) (by intro _; rfl))) (@pfs_one _ _ _ _ (@pfs_ret _ _ _ _ _ (@pf_fz _ _ _ _ (@pv _ 1 _ _ rfl (by first | exact Or.inl rfl | exact Or.inr (Or.inl rfl) | exact Or.inr (Or.inr rfl)) (by decide) (by decide)))))))
abbrev s__law_turned : Stmt := top 46
theorem sc__law_turned : FnScope ["_law_verb", "_law_kind", "_law_value", "_law_texts", "_law_lacking", "_law_already", "_law_said", "_law_found"] ["_law_verb", "_law_kind", "_law_value", "_law_texts"] (defScope s__law_turned) := ⟨rfl, rfl, rfl, by decide +kernel, rfl, by decide +kernel, by decide +kernel⟩
def b__law_turned : FS := (sSeq (sAsg (cV 3) (gT (gsCons (gN 4) (gsCons (gN 5) (gsCons (gN 6) gsNil))) 3))
  (sSeq (sSetN 7 (cLst (aCons (cTup (aCons (cV 0) (aCons (cL (cLst (aCons (cTup (aCons (cC (L4.D.str "not")) (aCons (cTup (aCons (cC (L4.D.str "kind")) (aCons (cC (L4.D.str "it")) (aCons (cV 1) aNil)))) aNil))) aNil))) (aCons (cL (cLst aNil)) (aCons (cV 4) (aCons (cC (L4.D.bl true)) aNil)))))) aNil)))
  (sSeq (sExpr (cApp 7 (cTup (aCons (cV 0) (aCons (cL (cLst (aCons (cTup (aCons (cC (L4.D.str "marked")) (aCons (cC (L4.D.str "it")) (aCons (cV 2) aNil)))) aNil))) (aCons (cL (cLst aNil)) (aCons (cV 5) (aCons (cC (L4.D.bl true)) aNil))))))))
  (sRetN (cCat (cFz 7) (cL (cLst (aCons (cTup (aCons (cV 0) (aCons (cL (cLst aNil)) (aCons (cL (cLst (aCons (cTup (aCons (cC (L4.D.str "put")) (aCons (cC (L4.D.str "it")) (aCons (cV 2) aNil)))) aNil))) (aCons (cV 6) (aCons (cC (L4.D.bl false)) aNil)))))) aNil))))))))
def f__law_turned : List D → Option (List D) := fnN 4 8 b__law_turned
theorem ok__law_turned {f : Addr} {fd : FuncData}  (F : Fun G.K "_law_turned" "_law_turned" s__law_turned f fd) : FnOk P w G.K mg base CX0 1 f fd ["_law_verb", "_law_kind", "_law_value", "_law_texts"] (spN G f__law_turned) :=
  fun_N (k := 0) (g := f__law_turned) (b := b__law_turned) rfl rfl rfl F sc__law_turned fun cdv A outer s H E hr =>
  (@pfs_cons _ _ _ _ _ _ (@pfs_asg _ _ _ _ _ _ (@ps_asg _ _ _ _ _ _ (@pf_var _ _ _ _ (@pv _ 3 _ _ rfl (by first | exact Or.inl rfl | exact Or.inr (Or.inl rfl) | exact Or.inr (Or.inr rfl)) (by decide) (by decide))) (@pfg_tup _ _ _ _ _ _ _ _ (@pg_tupK _ G.K _ _ _ _ _ rfl (@pfg_cons _ _ _ _ _ _ _ (@pgs_cons _ _ _ _ _ (@pfg_name _ _ _ _ 8 (@pg_name _ _ 4 _ sc__law_turned.nd rfl (Or.inl rfl) (by first | exact .inl rfl | exact .inr rfl)) (by decide)) (@pfg_cons _ _ _ _ _ _ _ (@pgs_cons _ _ _ _ _ (@pfg_name _ _ _ _ 8 (@pg_name _ _ 5 _ sc__law_turned.nd rfl (Or.inl rfl) (by first | exact .inl rfl | exact .inr rfl)) (by decide)) (@pfg_cons _ _ _ _ _ _ _ (@pgs_cons _ _ _ _ _ (@pfg_name _ _ _ _ 8 (@pg_name _ _ 6 _ sc__law_turned.nd rfl (Or.inl rfl) (by first | exact .inl rfl | exact .inr rfl)) (by decide)) (@pfg_nil _ _ _ (@pgs_nil _)) rfl)) rfl)) rfl)) rfl rfl rfl)) rfl rfl rfl)) (@pfs_cons _ _ _ _ _ _ (@pfs_setN _ _ _ _ _ (@ps_set _ _ 7 _ _ _ _ sc__law_turned.nd rfl (Or.inl rfl) (@pfn_lst _ _ _ _ _ (@pfa_cons _ _ _ _ _ _ (@pf_tup _ _ _ _ _ _ (@pfa_cons _ _ _ _ _ _ (@pf_var _ _ _ _ (@pv _ 0 _ _ rfl (by first | exact Or.inl rfl | exact Or.inr (Or.inl rfl) | exact Or.inr (Or.inr rfl)) (by decide) (by decide))) (@pfa_cons _ _ _ _ _ _ (@pf_new _ _ _ _ (@pfn_lst _ _ _ _ _ (@pfa_cons _ _ _ _ _ _ (@pf_tup _ _ _ _ _ _ (@pfa_cons _ _ _ _ _ _ (@pf_str _ _ _ _ _) (@pfa_cons _ _ _ _ _ _ (@pf_tup _ _ _ _ _ _ (@pfa_cons _ _ _ _ _ _ (@pf_str _ _ _ _ _) (@pfa_cons _ _ _ _ _ _ (@pf_str _ _ _ _ _) (@pfa_cons _ _ _ _ _ _ (@pf_var _ _ _ _ (@pv _ 1 _ _ rfl (by first | exact Or.inl rfl | exact Or.inr (Or.inl rfl) | exact Or.inr (Or.inr rfl)) (by decide) (by decide))) (@pfa_nil _ _) rfl) rfl) rfl)) (@pfa_nil _ _) rfl) rfl)) (@pfa_nil _ _) rfl))) (@pfa_cons _ _ _ _ _ _ (@pf_new _ _ _ _ (@pfn_lst _ _ _ _ _ (@pfa_nil _ _))) (@pfa_cons _ _ _ _ _ _ (@pf_var _ _ _ _ (@pv _ 4 _ _ rfl (by first | exact Or.inl rfl | exact Or.inr (Or.inl rfl) | exact Or.inr (Or.inr rfl)) (by decide) (by decide))) (@pfa_cons _ _ _ _ _ _ (@pf_bl _ _ _ _ _) (@pfa_nil _ _) rfl) rfl) rfl) rfl) rfl)) (@pfa_nil _ _) rfl)) rfl (by first | exact .inl rfl | exact .inr rfl))) (@pfs_cons _ _ _ _ _ _ (@pfs_expr _ _ _ _ _ (@pf_append _ _ _ _ _ (@pe_bmK _ G.K _ _ _ _ _ _ _ _ _ _ _ PySem.F.plainAttrs_list PySem.F.slot_list_append PySem.F.type_list_append (@mt_append _) (@pv _ 7 _ _ rfl (by first | exact Or.inl rfl | exact Or.inr (Or.inl rfl) | exact Or.inr (Or.inr rfl)) (by decide) (by decide)) (@pfa_cons _ _ _ _ _ _ (@pf_tup _ _ _ _ _ _ (@pfa_cons _ _ _ _ _ _ (@pf_var _ _ _ _ (@pv _ 0 _ _ rfl (by first | exact Or.inl rfl | exact Or.inr (Or.inl rfl) | exact Or.inr (Or.inr rfl)) (by decide) (by decide))) (@pfa_cons _ _ _ _ _ _ (@pf_new _ _ _ _ (@pfn_lst _ _ _ _ _ (@pfa_cons _ _ _ _ _ _ (@pf_tup _ _ _ _ _ _ (@pfa_cons _ _ _ _ _ _ (@pf_str _ _ _ _ _) (@pfa_cons _ _ _ _ _ _ (@pf_str _ _ _ _ _) (@pfa_cons _ _ _ _ _ _ (@pf_var _ _ _ _ (@pv _ 2 _ _ rfl (by first | exact Or.inl rfl | exact Or.inr (Or.inl rfl) | exact Or.inr (Or.inr rfl)) (by decide) (by decide))) (@pfa_nil _ _) rfl) rfl) rfl)) (@pfa_nil _ _) rfl))) (@pfa_cons _ _ _ _ _ _ (@pf_new _ _ _ _ (@pfn_lst _ _ _ _ _ (@pfa_nil _ _))) (@pfa_cons _ _ _ _ _ _ (@pf_var _ _ _ _ (@pv _ 5 _ _ rfl (by first | exact Or.inl rfl | exact Or.inr (Or.inl rfl) | exact Or.inr (Or.inr rfl)) (by decide) (by decide))) (@pfa_cons _ _ _ _ _ _ (@pf_bl _ _ _ _ _) (@pfa_nil _ _) rfl) rfl) rfl) rfl) rfl)) (@pfa_nil _ _) rfl) rfl rfl rfl rfl rfl rfl)) rfl) (@pfs_one _ _ _ _ (@pfs_retN _ _ _ _ _ (@pfn_cat _ _ _ _ _ _ _ (@pf_fz _ _ _ _ (@pv _ 7 _ _ rfl (by first | exact Or.inl rfl | exact Or.inr (Or.inl rfl) | exact Or.inr (Or.inr rfl)) (by decide) (by decide))) (@pf_new _ _ _ _ (@pfn_lst _ _ _ _ _ (@pfa_cons _ _ _ _ _ _ (@pf_tup _ _ _ _ _ _ (@pfa_cons _ _ _ _ _ _ (@pf_var _ _ _ _ (@pv _ 0 _ _ rfl (by first | exact Or.inl rfl | exact Or.inr (Or.inl rfl) | exact Or.inr (Or.inr rfl)) (by decide) (by decide))) (@pfa_cons _ _ _ _ _ _ (@pf_new _ _ _ _ (@pfn_lst _ _ _ _ _ (@pfa_nil _ _))) (@pfa_cons _ _ _ _ _ _ (@pf_new _ _ _ _ (@pfn_lst _ _ _ _ _ (@pfa_cons _ _ _ _ _ _ (@pf_tup _ _ _ _ _ _ (@pfa_cons _ _ _ _ _ _ (@pf_str _ _ _ _ _) (@pfa_cons _ _ _ _ _ _ (@pf_str _ _ _ _ _) (@pfa_cons _ _ _ _ _ _ (@pf_var _ _ _ _ (@pv _ 2 _ _ rfl (by first | exact Or.inl rfl | exact Or.inr (Or.inl rfl) | exact Or.inr (Or.inr rfl)) (by decide) (by decide))) (@pfa_nil _ _) rfl) rfl) rfl)) (@pfa_nil _ _) rfl))) (@pfa_cons _ _ _ _ _ _ (@pf_var _ _ _ _ (@pv _ 6 _ _ rfl (by first | exact Or.inl rfl | exact Or.inr (Or.inl rfl) | exact Or.inr (Or.inr rfl)) (by decide) (by decide))) (@pfa_cons _ _ _ _ _ _ (@pf_bl _ _ _ _ _) (@pfa_nil _ _) rfl) rfl) rfl) rfl) rfl)) (@pfa_nil _ _) rfl)))))))))
abbrev s__law_due : Stmt := top 47
theorem sc__law_due : FnScope ["_law_you", "_law_ways_here", "_law_found", "_law_room", "_law_word", "_law_goal", "_law_mark", "_law_tests"] ["_law_you", "_law_ways_here"] (defScope s__law_due) := ⟨rfl, rfl, rfl, by decide +kernel, rfl, by decide +kernel, by decide +kernel⟩
def b__law_due : FS := (sSeq (sSetN 2 (cLst (aCons (cTup (aCons (cC (L4.D.str "take")) (aCons (cL (cLst (aCons (cTup (aCons (cC (L4.D.str "kind")) (aCons (cC (L4.D.str "it")) (aCons (cC (L4.D.str "fixed")) aNil)))) aNil))) (aCons (cL (cLst aNil)) (aCons (cC (L4.D.str "That stays.")) (aCons (cC (L4.D.bl true)) aNil)))))) aNil)))
  (sSeq (sExpr (cApp 2 (cTup (aCons (cC (L4.D.str "take")) (aCons (cL (cLst (aCons (cTup (aCons (cC (L4.D.str "at")) (aCons (cC (L4.D.str "it")) (aCons (cV 0) aNil)))) aNil))) (aCons (cL (cLst aNil)) (aCons (cC (L4.D.str "You have that.")) (aCons (cC (L4.D.bl true)) aNil))))))))
  (sSeq (sExpr (cApp 2 (cTup (aCons (cC (L4.D.str "take")) (aCons (cL (cLst aNil)) (aCons (cL (cLst (aCons (cTup (aCons (cC (L4.D.str "move")) (aCons (cC (L4.D.str "it")) (aCons (cV 0) aNil)))) aNil))) (aCons (cC (L4.D.str "Taken.")) (aCons (cC (L4.D.bl false)) aNil))))))))
  (sSeq (sExpr (cApp 2 (cTup (aCons (cC (L4.D.str "drop")) (aCons (cL (cLst (aCons (cTup (aCons (cC (L4.D.str "has")) (aCons (cC (L4.D.str "it")) aNil))) aNil))) (aCons (cL (cLst (aCons (cTup (aCons (cC (L4.D.str "move")) (aCons (cC (L4.D.str "it")) (aCons (cC (L4.D.str "here")) aNil)))) aNil))) (aCons (cC (L4.D.str "Dropped.")) (aCons (cC (L4.D.bl false)) aNil))))))))
  (sSeq (sExpr (cApp 2 (cTup (aCons (cC (L4.D.str "drop")) (aCons (cL (cLst aNil)) (aCons (cL (cLst aNil)) (aCons (cC (L4.D.str "You lack that.")) (aCons (cC (L4.D.bl true)) aNil))))))))
  (sSeq (sExpr (cApp 2 (cTup (aCons (cC (L4.D.str "put")) (aCons (cL (cLst (aCons (cTup (aCons (cC (L4.D.str "not")) (aCons (cTup (aCons (cC (L4.D.str "has")) (aCons (cC (L4.D.str "it")) aNil))) aNil))) aNil))) (aCons (cL (cLst aNil)) (aCons (cC (L4.D.str "You lack that.")) (aCons (cC (L4.D.bl true)) aNil))))))))
  (sSeq (sExpr (cApp 2 (cTup (aCons (cC (L4.D.str "put")) (aCons (cL (cLst (aCons (cTup (aCons (cC (L4.D.str "not")) (aCons (cTup (aCons (cC (L4.D.str "kind")) (aCons (cC (L4.D.str "other")) (aCons (cC (L4.D.str "box")) aNil)))) aNil))) aNil))) (aCons (cL (cLst aNil)) (aCons (cC (L4.D.str "It holds nothing.")) (aCons (cC (L4.D.bl true)) aNil))))))))
  (sSeq (sExpr (cApp 2 (cTup (aCons (cC (L4.D.str "put")) (aCons (cL (cLst (aCons (cTup (aCons (cC (L4.D.str "marked")) (aCons (cC (L4.D.str "other")) (aCons (cC (L4.D.int 0)) aNil)))) aNil))) (aCons (cL (cLst aNil)) (aCons (cC (L4.D.str "It is shut.")) (aCons (cC (L4.D.bl true)) aNil))))))))
  (sSeq (sExpr (cApp 2 (cTup (aCons (cC (L4.D.str "put")) (aCons (cL (cLst aNil)) (aCons (cL (cLst (aCons (cTup (aCons (cC (L4.D.str "move")) (aCons (cC (L4.D.str "it")) (aCons (cC (L4.D.str "other")) aNil)))) aNil))) (aCons (cC (L4.D.str "Done.")) (aCons (cC (L4.D.bl false)) aNil))))))))
  (sSeq (sSetN 2 (cCat (cFz 2) (cL (cCallN f__law_turned (aCons (cC (L4.D.str "open")) (aCons (cC (L4.D.str "box")) (aCons (cC (L4.D.int 1)) (aCons (cTup (aCons (cC (L4.D.str "It has no lid.")) (aCons (cC (L4.D.str "It is open.")) (aCons (cC (L4.D.str "Opened.")) aNil)))) aNil))))))))
  (sSeq (sSetN 2 (cCat (cFz 2) (cL (cCallN f__law_turned (aCons (cC (L4.D.str "shut")) (aCons (cC (L4.D.str "box")) (aCons (cC (L4.D.int 0)) (aCons (cTup (aCons (cC (L4.D.str "It has no lid.")) (aCons (cC (L4.D.str "It is shut.")) (aCons (cC (L4.D.str "Shut.")) aNil)))) aNil))))))))
  (sSeq (sSetN 2 (cCat (cFz 2) (cL (cCallN f__law_turned (aCons (cC (L4.D.str "light")) (aCons (cC (L4.D.str "lamp")) (aCons (cC (L4.D.int 1)) (aCons (cTup (aCons (cC (L4.D.str "It burns not.")) (aCons (cC (L4.D.str "It is lit.")) (aCons (cC (L4.D.str "Lit.")) aNil)))) aNil))))))))
  (sSeq (sSetN 2 (cCat (cFz 2) (cL (cCallN f__law_turned (aCons (cC (L4.D.str "douse")) (aCons (cC (L4.D.str "lamp")) (aCons (cC (L4.D.int 0)) (aCons (cTup (aCons (cC (L4.D.str "It burns not.")) (aCons (cC (L4.D.str "It is out.")) (aCons (cC (L4.D.str "Doused.")) aNil)))) aNil))))))))
  (sSeq (sFor (iL (cV 1)) (gT (gsCons (gN 3) (gsCons (gN 4) (gsCons (gN 5) (gsCons (gN 6) gsNil)))) 4) (sSeq (sSetN 7 (cLst (aCons (cTup (aCons (cC (L4.D.str "at")) (aCons (cV 0) (aCons (cV 3) aNil)))) (aCons (cTup (aCons (cC (L4.D.str "word")) (aCons (cV 4) aNil))) aNil))))
  (sSeq (sIf (cT (c2 dNotN (cV 6) (cC L4.D.non))) (sExpr (cApp 7 (cTup (aCons (cC (L4.D.str "not")) (aCons (cTup (aCons (cC (L4.D.str "marked")) (aCons (cV 6) (aCons (cC (L4.D.int 0)) aNil)))) aNil))))) sNext)
  (sExpr (cApp 2 (cTup (aCons (cC (L4.D.str "go")) (aCons (cFz 7) (aCons (cL (cLst (aCons (cTup (aCons (cC (L4.D.str "move")) (aCons (cV 0) (aCons (cV 5) aNil)))) aNil))) (aCons (cC (L4.D.str "You go.")) (aCons (cC (L4.D.bl false)) aNil)))))))))))
  (sSeq (sExpr (cApp 2 (cTup (aCons (cC (L4.D.str "go")) (aCons (cL (cLst aNil)) (aCons (cL (cLst aNil)) (aCons (cC (L4.D.str "No way there.")) (aCons (cC (L4.D.bl true)) aNil))))))))
  (sRetN (cCat (cFz 2) (cL (cLst (aCons (cTup (aCons (cC (L4.D.str "wait")) (aCons (cL (cLst aNil)) (aCons (cL (cLst aNil)) (aCons (cC (L4.D.str "Time goes by.")) (aCons (cC (L4.D.bl false)) aNil)))))) aNil))))))))))))))))))))
def f__law_due : List D → Option (List D) := fnN 2 8 b__law_due
theorem ok__law_due {f : Addr} {fd : FuncData} (d__law_turned : DefOk P w G.K mg base 1 "_law_turned" ["_law_verb", "_law_kind", "_law_value", "_law_texts"] (spN G f__law_turned)) (F : Fun G.K "_law_due" "_law_due" s__law_due f fd) : FnOk P w G.K mg base CX0 2 f fd ["_law_you", "_law_ways_here"] (spN G f__law_due) :=
  fun_N (k := 1) (g := f__law_due) (b := b__law_due) rfl rfl rfl F sc__law_due fun cdv A outer s H E hr =>
  (@pfs_cons _ _ _ _ _ _ (@pfs_setN _ _ _ _ _ (@ps_set _ _ 2 _ _ _ _ sc__law_due.nd rfl (Or.inl rfl) (@pfn_lst _ _ _ _ _ (@pfa_cons _ _ _ _ _ _ (@pf_tup _ _ _ _ _ _ (@pfa_cons _ _ _ _ _ _ (@pf_str _ _ _ _ _) (@pfa_cons _ _ _ _ _ _ (@pf_new _ _ _ _ (@pfn_lst _ _ _ _ _ (@pfa_cons _ _ _ _ _ _ (@pf_tup _ _ _ _ _ _ (@pfa_cons _ _ _ _ _ _ (@pf_str _ _ _ _ _) (@pfa_cons _ _ _ _ _ _ (@pf_str _ _ _ _ _) (@pfa_cons _ _ _ _ _ _ (@pf_str _ _ _ _ _) (@pfa_nil _ _) rfl) rfl) rfl)) (@pfa_nil _ _) rfl))) (@pfa_cons _ _ _ _ _ _ (@pf_new _ _ _ _ (@pfn_lst _ _ _ _ _ (@pfa_nil _ _))) (@pfa_cons _ _ _ _ _ _ (@pf_str _ _ _ _ _) (@pfa_cons _ _ _ _ _ _ (@pf_bl _ _ _ _ _) (@pfa_nil _ _) rfl) rfl) rfl) rfl) rfl)) (@pfa_nil _ _) rfl)) rfl (by first | exact .inl rfl | exact .inr rfl))) (@pfs_cons _ _ _ _ _ _ (@pfs_expr _ _ _ _ _ (@pf_append _ _ _ _ _ (@pe_bmK _ G.K _ _ _ _ _ _ _ _ _ _ _ PySem.F.plainAttrs_list PySem.F.slot_list_append PySem.F.type_list_append (@mt_append _) (@pv _ 2 _ _ rfl (by first | exact Or.inl rfl | exact Or.inr (Or.inl rfl) | exact Or.inr (Or.inr rfl)) (by decide) (by decide)) (@pfa_cons _ _ _ _ _ _ (@pf_tup _ _ _ _ _ _ (@pfa_cons _ _ _ _ _ _ (@pf_str _ _ _ _ _) (@pfa_cons _ _ _ _ _ _ (@pf_new _ _ _ _ (@pfn_lst _ _ _ _ _ (@pfa_cons _ _ _ _ _ _ (@pf_tup _ _ _ _ _ _ (@pfa_cons _ _ _ _ _ _ (@pf_str _ _ _ _ _) (@pfa_cons _ _ _ _ _ _ (@pf_str _ _ _ _ _) (@pfa_cons _ _ _ _ _ _ (@pf_var _ _ _ _ (@pv _ 0 _ _ rfl (by first | exact Or.inl rfl | exact Or.inr (Or.inl rfl) | exact Or.inr (Or.inr rfl)) (by decide) (by decide))) (@pfa_nil _ _) rfl) rfl) rfl)) (@pfa_nil _ _) rfl))) (@pfa_cons _ _ _ _ _ _ (@pf_new _ _ _ _ (@pfn_lst _ _ _ _ _ (@pfa_nil _ _))) (@pfa_cons _ _ _ _ _ _ (@pf_str _ _ _ _ _) (@pfa_cons _ _ _ _ _ _ (@pf_bl _ _ _ _ _) (@pfa_nil _ _) rfl) rfl) rfl) rfl) rfl)) (@pfa_nil _ _) rfl) rfl rfl rfl rfl rfl rfl)) rfl) (@pfs_cons _ _ _ _ _ _ (@pfs_expr _ _ _ _ _ (@pf_append _ _ _ _ _ (@pe_bmK _ G.K _ _ _ _ _ _ _ _ _ _ _ PySem.F.plainAttrs_list PySem.F.slot_list_append PySem.F.type_list_append (@mt_append _) (@pv _ 2 _ _ rfl (by first | exact Or.inl rfl | exact Or.inr (Or.inl rfl) | exact Or.inr (Or.inr rfl)) (by decide) (by decide)) (@pfa_cons _ _ _ _ _ _ (@pf_tup _ _ _ _ _ _ (@pfa_cons _ _ _ _ _ _ (@pf_str _ _ _ _ _) (@pfa_cons _ _ _ _ _ _ (@pf_new _ _ _ _ (@pfn_lst _ _ _ _ _ (@pfa_nil _ _))) (@pfa_cons _ _ _ _ _ _ (@pf_new _ _ _ _ (@pfn_lst _ _ _ _ _ (@pfa_cons _ _ _ _ _ _ (@pf_tup _ _ _ _ _ _ (@pfa_cons _ _ _ _ _ _ (@pf_str _ _ _ _ _) (@pfa_cons _ _ _ _ _ _ (@pf_str _ _ _ _ _) (@pfa_cons _ _ _ _ _ _ (@pf_var _ _ _ _ (@pv _ 0 _ _ rfl (by first | exact Or.inl rfl | exact Or.inr (Or.inl rfl) | exact Or.inr (Or.inr rfl)) (by decide) (by decide))) (@pfa_nil _ _) rfl) rfl) rfl)) (@pfa_nil _ _) rfl))) (@pfa_cons _ _ _ _ _ _ (@pf_str _ _ _ _ _) (@pfa_cons _ _ _ _ _ _ (@pf_bl _ _ _ _ _) (@pfa_nil _ _) rfl) rfl) rfl) rfl) rfl)) (@pfa_nil _ _) rfl) rfl rfl rfl rfl rfl rfl)) rfl) (@pfs_cons _ _ _ _ _ _ (@pfs_expr _ _ _ _ _ (@pf_append _ _ _ _ _ (@pe_bmK _ G.K _ _ _ _ _ _ _ _ _ _ _ PySem.F.plainAttrs_list PySem.F.slot_list_append PySem.F.type_list_append (@mt_append _) (@pv _ 2 _ _ rfl (by first | exact Or.inl rfl | exact Or.inr (Or.inl rfl) | exact Or.inr (Or.inr rfl)) (by decide) (by decide)) (@pfa_cons _ _ _ _ _ _ (@pf_tup _ _ _ _ _ _ (@pfa_cons _ _ _ _ _ _ (@pf_str _ _ _ _ _) (@pfa_cons _ _ _ _ _ _ (@pf_new _ _ _ _ (@pfn_lst _ _ _ _ _ (@pfa_cons _ _ _ _ _ _ (@pf_tup _ _ _ _ _ _ (@pfa_cons _ _ _ _ _ _ (@pf_str _ _ _ _ _) (@pfa_cons _ _ _ _ _ _ (@pf_str _ _ _ _ _) (@pfa_nil _ _) rfl) rfl)) (@pfa_nil _ _) rfl))) (@pfa_cons _ _ _ _ _ _ (@pf_new _ _ _ _ (@pfn_lst _ _ _ _ _ (@pfa_cons _ _ _ _ _ _ (@pf_tup _ _ _ _ _ _ (@pfa_cons _ _ _ _ _ _ (@pf_str _ _ _ _ _) (@pfa_cons _ _ _ _ _ _ (@pf_str _ _ _ _ _) (@pfa_cons _ _ _ _ _ _ (@pf_str _ _ _ _ _) (@pfa_nil _ _) rfl) rfl) rfl)) (@pfa_nil _ _) rfl))) (@pfa_cons _ _ _ _ _ _ (@pf_str _ _ _ _ _) (@pfa_cons _ _ _ _ _ _ (@pf_bl _ _ _ _ _) (@pfa_nil _ _) rfl) rfl) rfl) rfl) rfl)) (@pfa_nil _ _) rfl) rfl rfl rfl rfl rfl rfl)) rfl) (@pfs_cons _ _ _ _ _ _ (@pfs_expr _ _ _ _ _ (@pf_append _ _ _ _ _ (@pe_bmK _ G.K _ _ _ _ _ _ _ _ _ _ _ PySem.F.plainAttrs_list PySem.F.slot_list_append PySem.F.type_list_append (@mt_append _) (@pv _ 2 _ _ rfl (by first | exact Or.inl rfl | exact Or.inr (Or.inl rfl) | exact Or.inr (Or.inr rfl)) (by decide) (by decide)) (@pfa_cons _ _ _ _ _ _ (@pf_tup _ _ _ _ _ _ (@pfa_cons _ _ _ _ _ _ (@pf_str _ _ _ _ _) (@pfa_cons _ _ _ _ _ _ (@pf_new _ _ _ _ (@pfn_lst _ _ _ _ _ (@pfa_nil _ _))) (@pfa_cons _ _ _ _ _ _ (@pf_new _ _ _ _ (@pfn_lst _ _ _ _ _ (@pfa_nil _ _))) (@pfa_cons _ _ _ _ _ _ (@pf_str _ _ _ _ _) (@pfa_cons _ _ _ _ _ _ (@pf_bl _ _ _ _ _) (@pfa_nil _ _) rfl) rfl) rfl) rfl) rfl)) (@pfa_nil _ _) rfl) rfl rfl rfl rfl rfl rfl)) rfl) (@pfs_cons _ _ _ _ _ _ (@pfs_expr _ _ _ _ _ (@pf_append _ _ _ _ _ (@pe_bmK _ G.K _ _ _ _ _ _ _ _ _ _ _ PySem.F.plainAttrs_list PySem.F.slot_list_append PySem.F.type_list_append (@mt_append _) (@pv _ 2 _ _ rfl (by first | exact Or.inl rfl | exact Or.inr (Or.inl rfl) | exact Or.inr (Or.inr rfl)) (by decide) (by decide)) (@pfa_cons _ _ _ _ _ _ (@pf_tup _ _ _ _ _ _ (@pfa_cons _ _ _ _ _ _ (@pf_str _ _ _ _ _) (@pfa_cons _ _ _ _ _ _ (@pf_new _ _ _ _ (@pfn_lst _ _ _ _ _ (@pfa_cons _ _ _ _ _ _ (@pf_tup _ _ _ _ _ _ (@pfa_cons _ _ _ _ _ _ (@pf_str _ _ _ _ _) (@pfa_cons _ _ _ _ _ _ (@pf_tup _ _ _ _ _ _ (@pfa_cons _ _ _ _ _ _ (@pf_str _ _ _ _ _) (@pfa_cons _ _ _ _ _ _ (@pf_str _ _ _ _ _) (@pfa_nil _ _) rfl) rfl)) (@pfa_nil _ _) rfl) rfl)) (@pfa_nil _ _) rfl))) (@pfa_cons _ _ _ _ _ _ (@pf_new _ _ _ _ (@pfn_lst _ _ _ _ _ (@pfa_nil _ _))) (@pfa_cons _ _ _ _ _ _ (@pf_str _ _ _ _ _) (@pfa_cons _ _ _ _ _ _ (@pf_bl _ _ _ _ _) (@pfa_nil _ _) rfl) rfl) rfl) rfl) rfl)) (@pfa_nil _ _) rfl) rfl rfl rfl rfl rfl rfl)) rfl) (@pfs_cons _ _ _ _ _ _ (@pfs_expr _ _ _ _ _ (@pf_append _ _ _ _ _ (@pe_bmK _ G.K _ _ _ _ _ _ _ _ _ _ _ PySem.F.plainAttrs_list PySem.F.slot_list_append PySem.F.type_list_append (@mt_append _) (@pv _ 2 _ _ rfl (by first | exact Or.inl rfl | exact Or.inr (Or.inl rfl) | exact Or.inr (Or.inr rfl)) (by decide) (by decide)) (@pfa_cons _ _ _ _ _ _ (@pf_tup _ _ _ _ _ _ (@pfa_cons _ _ _ _ _ _ (@pf_str _ _ _ _ _) (@pfa_cons _ _ _ _ _ _ (@pf_new _ _ _ _ (@pfn_lst _ _ _ _ _ (@pfa_cons _ _ _ _ _ _ (@pf_tup _ _ _ _ _ _ (@pfa_cons _ _ _ _ _ _ (@pf_str _ _ _ _ _) (@pfa_cons _ _ _ _ _ _ (@pf_tup _ _ _ _ _ _ (@pfa_cons _ _ _ _ _ _ (@pf_str _ _ _ _ _) (@pfa_cons _ _ _ _ _ _ (@pf_str _ _ _ _ _) (@pfa_cons _ _ _ _ _ _ (@pf_str _ _ _ _ _) (@pfa_nil _ _) rfl) rfl) rfl)) (@pfa_nil _ _) rfl) rfl)) (@pfa_nil _ _) rfl))) (@pfa_cons _ _ _ _ _ _ (@pf_new _ _ _ _ (@pfn_lst _ _ _ _ _ (@pfa_nil _ _))) (@pfa_cons _ _ _ _ _ _ (@pf_str _ _ _ _ _) (@pfa_cons _ _ _ _ _ _ (@pf_bl _ _ _ _ _) (@pfa_nil _ _) rfl) rfl) rfl) rfl) rfl)) (@pfa_nil _ _) rfl) rfl rfl rfl rfl rfl rfl)) rfl) (@pfs_cons _ _ _ _ _ _ (@pfs_expr _ _ _ _ _ (@pf_append _ _ _ _ _ (@pe_bmK _ G.K _ _ _ _ _ _ _ _ _ _ _ PySem.F.plainAttrs_list PySem.F.slot_list_append PySem.F.type_list_append (@mt_append _) (@pv _ 2 _ _ rfl (by first | exact Or.inl rfl | exact Or.inr (Or.inl rfl) | exact Or.inr (Or.inr rfl)) (by decide) (by decide)) (@pfa_cons _ _ _ _ _ _ (@pf_tup _ _ _ _ _ _ (@pfa_cons _ _ _ _ _ _ (@pf_str _ _ _ _ _) (@pfa_cons _ _ _ _ _ _ (@pf_new _ _ _ _ (@pfn_lst _ _ _ _ _ (@pfa_cons _ _ _ _ _ _ (@pf_tup _ _ _ _ _ _ (@pfa_cons _ _ _ _ _ _ (@pf_str _ _ _ _ _) (@pfa_cons _ _ _ _ _ _ (@pf_str _ _ _ _ _) (@pfa_cons _ _ _ _ _ _ (@pf_int _ _ _ _ _) (@pfa_nil _ _) rfl) rfl) rfl)) (@pfa_nil _ _) rfl))) (@pfa_cons _ _ _ _ _ _ (@pf_new _ _ _ _ (@pfn_lst _ _ _ _ _ (@pfa_nil _ _))) (@pfa_cons _ _ _ _ _ _ (@pf_str _ _ _ _ _) (@pfa_cons _ _ _ _ _ _ (@pf_bl _ _ _ _ _) (@pfa_nil _ _) rfl) rfl) rfl) rfl) rfl)) (@pfa_nil _ _) rfl) rfl rfl rfl rfl rfl rfl)) rfl) (@pfs_cons _ _ _ _ _ _ (@pfs_expr _ _ _ _ _ (@pf_append _ _ _ _ _ (@pe_bmK _ G.K _ _ _ _ _ _ _ _ _ _ _ PySem.F.plainAttrs_list PySem.F.slot_list_append PySem.F.type_list_append (@mt_append _) (@pv _ 2 _ _ rfl (by first | exact Or.inl rfl | exact Or.inr (Or.inl rfl) | exact Or.inr (Or.inr rfl)) (by decide) (by decide)) (@pfa_cons _ _ _ _ _ _ (@pf_tup _ _ _ _ _ _ (@pfa_cons _ _ _ _ _ _ (@pf_str _ _ _ _ _) (@pfa_cons _ _ _ _ _ _ (@pf_new _ _ _ _ (@pfn_lst _ _ _ _ _ (@pfa_nil _ _))) (@pfa_cons _ _ _ _ _ _ (@pf_new _ _ _ _ (@pfn_lst _ _ _ _ _ (@pfa_cons _ _ _ _ _ _ (@pf_tup _ _ _ _ _ _ (@pfa_cons _ _ _ _ _ _ (@pf_str _ _ _ _ _) (@pfa_cons _ _ _ _ _ _ (@pf_str _ _ _ _ _) (@pfa_cons _ _ _ _ _ _ (@pf_str _ _ _ _ _) (@pfa_nil _ _) rfl) rfl) rfl)) (@pfa_nil _ _) rfl))) (@pfa_cons _ _ _ _ _ _ (@pf_str _ _ _ _ _) (@pfa_cons _ _ _ _ _ _ (@pf_bl _ _ _ _ _) (@pfa_nil _ _) rfl) rfl) rfl) rfl) rfl)) (@pfa_nil _ _) rfl) rfl rfl rfl rfl rfl rfl)) rfl) (@pfs_cons _ _ _ _ _ _ (@pfs_setN _ _ _ _ _ (@ps_set _ _ 2 _ _ _ _ sc__law_due.nd rfl (Or.inl rfl) (@pfn_cat _ _ _ _ _ _ _ (@pf_fz _ _ _ _ (@pv _ 2 _ _ rfl (by first | exact Or.inl rfl | exact Or.inr (Or.inl rfl) | exact Or.inr (Or.inr rfl)) (by decide) (by decide))) (@pf_new _ _ _ _ (@pfn_def _ _ _ _ _ _ _ _ _ _ _ d__law_turned (hr.mono (by decide : 1 ≤ 1)) (@pfa_cons _ _ _ _ _ _ (@pf_str _ _ _ _ _) (@pfa_cons _ _ _ _ _ _ (@pf_str _ _ _ _ _) (@pfa_cons _ _ _ _ _ _ (@pf_int _ _ _ _ _) (@pfa_cons _ _ _ _ _ _ (@pf_tup _ _ _ _ _ _ (@pfa_cons _ _ _ _ _ _ (@pf_str _ _ _ _ _) (@pfa_cons _ _ _ _ _ _ (@pf_str _ _ _ _ _) (@pfa_cons _ _ _ _ _ _ (@pf_str _ _ _ _ _) (@pfa_nil _ _) rfl) rfl) rfl)) (@pfa_nil _ _) rfl) rfl) rfl) rfl) rfl (by decide) rfl rfl))) rfl (by first | exact .inl rfl | exact .inr rfl))) (@pfs_cons _ _ _ _ _ _ (@pfs_setN _ _ _ _ _ (@ps_set _ _ 2 _ _ _ _ sc__law_due.nd rfl (Or.inl rfl) (@pfn_cat _ _ _ _ _ _ _ (@pf_fz _ _ _ _ (@pv _ 2 _ _ rfl (by first | exact Or.inl rfl | exact Or.inr (Or.inl rfl) | exact Or.inr (Or.inr rfl)) (by decide) (by decide))) (@pf_new _ _ _ _ (@pfn_def _ _ _ _ _ _ _ _ _ _ _ d__law_turned (hr.mono (by decide : 1 ≤ 1)) (@pfa_cons _ _ _ _ _ _ (@pf_str _ _ _ _ _) (@pfa_cons _ _ _ _ _ _ (@pf_str _ _ _ _ _) (@pfa_cons _ _ _ _ _ _ (@pf_int _ _ _ _ _) (@pfa_cons _ _ _ _ _ _ (@pf_tup _ _ _ _ _ _ (@pfa_cons _ _ _ _ _ _ (@pf_str _ _ _ _ _) (@pfa_cons _ _ _ _ _ _ (@pf_str _ _ _ _ _) (@pfa_cons _ _ _ _ _ _ (@pf_str _ _ _ _ _) (@pfa_nil _ _) rfl) rfl) rfl)) (@pfa_nil _ _) rfl) rfl) rfl) rfl) rfl (by decide) rfl rfl))) rfl (by first | exact .inl rfl | exact .inr rfl))) (@pfs_cons _ _ _ _ _ _ (@pfs_setN _ _ _ _ _ (@ps_set _ _ 2 _ _ _ _ sc__law_due.nd rfl (Or.inl rfl) (@pfn_cat _ _ _ _ _ _ _ (@pf_fz _ _ _ _ (@pv _ 2 _ _ rfl (by first | exact Or.inl rfl | exact Or.inr (Or.inl rfl) | exact Or.inr (Or.inr rfl)) (by decide) (by decide))) (@pf_new _ _ _ _ (@pfn_def _ _ _ _ _ _ _ _ _ _ _ d__law_turned (hr.mono (by decide : 1 ≤ 1)) (@pfa_cons _ _ _ _ _ _ (@pf_str _ _ _ _ _) (@pfa_cons _ _ _ _ _ _ (@pf_str _ _ _ _ _) (@pfa_cons _ _ _ _ _ _ (@pf_int _ _ _ _ _) (@pfa_cons _ _ _ _ _ _ (@pf_tup _ _ _ _ _ _ (@pfa_cons _ _ _ _ _ _ (@pf_str _ _ _ _ _) (@pfa_cons _ _ _ _ _ _ (@pf_str _ _ _ _ _) (@pfa_cons _ _ _ _ _ _ (@pf_str _ _ _ _ _) (@pfa_nil _ _) rfl) rfl) rfl)) (@pfa_nil _ _) rfl) rfl) rfl) rfl) rfl (by decide) rfl rfl))) rfl (by first | exact .inl rfl | exact .inr rfl))) (@pfs_cons _ _ _ _ _ _ (@pfs_setN _ _ _ _ _ (@ps_set _ _ 2 _ _ _ _ sc__law_due.nd rfl (Or.inl rfl) (@pfn_cat _ _ _ _ _ _ _ (@pf_fz _ _ _ _ (@pv _ 2 _ _ rfl (by first | exact Or.inl rfl | exact Or.inr (Or.inl rfl) | exact Or.inr (Or.inr rfl)) (by decide) (by decide))) (@pf_new _ _ _ _ (@pfn_def _ _ _ _ _ _ _ _ _ _ _ d__law_turned (hr.mono (by decide : 1 ≤ 1)) (@pfa_cons _ _ _ _ _ _ (@pf_str _ _ _ _ _) (@pfa_cons _ _ _ _ _ _ (@pf_str _ _ _ _ _) (@pfa_cons _ _ _ _ _ _ (@pf_int _ _ _ _ _) (@pfa_cons _ _ _ _ _ _ (@pf_tup _ _ _ _ _ _ (@pfa_cons _ _ _ _ _ _ (@pf_str _ _ _ _ _) (@pfa_cons _ _ _ _ _ _ (@pf_str _ _ _ _ _) (@pfa_cons _ _ _ _ _ _ (@pf_str _ _ _ _ _) (@pfa_nil _ _) rfl) rfl) rfl)) (@pfa_nil _ _) rfl) rfl) rfl) rfl) rfl (by decide) rfl rfl))) rfl (by first | exact .inl rfl | exact .inr rfl))) (@pfs_cons _ _ _ _ _ _ (@pfs_for _ _ _ _ _ _ _ (@ps_for _ _ _ _ _ _ _ _ PassesOwn.never rfl (@pfi_list _ _ _ _ _ (@pi_listK _ G.K _ _ _ (@pf_var _ _ _ _ (@pv _ 1 _ _ rfl (by first | exact Or.inl rfl | exact Or.inr (Or.inl rfl) | exact Or.inr (Or.inr rfl)) (by decide) (by decide))) rfl)) (@pfg_tup _ _ _ _ _ _ _ _ (@pg_tupK _ G.K _ _ _ _ _ rfl (@pfg_cons _ _ _ _ _ _ _ (@pgs_cons _ _ _ _ _ (@pfg_name _ _ _ _ 8 (@pg_name _ _ 3 _ sc__law_due.nd rfl (Or.inl rfl) (by first | exact .inl rfl | exact .inr rfl)) (by decide)) (@pfg_cons _ _ _ _ _ _ _ (@pgs_cons _ _ _ _ _ (@pfg_name _ _ _ _ 8 (@pg_name _ _ 4 _ sc__law_due.nd rfl (Or.inl rfl) (by first | exact .inl rfl | exact .inr rfl)) (by decide)) (@pfg_cons _ _ _ _ _ _ _ (@pgs_cons _ _ _ _ _ (@pfg_name _ _ _ _ 8 (@pg_name _ _ 5 _ sc__law_due.nd rfl (Or.inl rfl) (by first | exact .inl rfl | exact .inr rfl)) (by decide)) (@pfg_cons _ _ _ _ _ _ _ (@pgs_cons _ _ _ _ _ (@pfg_name _ _ _ _ 8 (@pg_name _ _ 6 _ sc__law_due.nd rfl (Or.inl rfl) (by first | exact .inl rfl | exact .inr rfl)) (by decide)) (@pfg_nil _ _ _ (@pgs_nil _)) rfl)) rfl)) rfl)) rfl)) rfl rfl rfl)) (@pfs_cons _ _ _ _ _ _ (@pfs_setN _ _ _ _ _ (@ps_set _ _ 7 _ _ _ _ sc__law_due.nd rfl (Or.inl rfl) (@pfn_lst _ _ _ _ _ (@pfa_cons _ _ _ _ _ _ (@pf_tup _ _ _ _ _ _ (@pfa_cons _ _ _ _ _ _ (@pf_str _ _ _ _ _) (@pfa_cons _ _ _ _ _ _ (@pf_var _ _ _ _ (@pv _ 0 _ _ rfl (by first | exact Or.inl rfl | exact Or.inr (Or.inl rfl) | exact Or.inr (Or.inr rfl)) (by decide) (by decide))) (@pfa_cons _ _ _ _ _ _ (@pf_var _ _ _ _ (@pv _ 3 _ _ rfl (by first | exact Or.inl rfl | exact Or.inr (Or.inl rfl) | exact Or.inr (Or.inr rfl)) (by decide) (by decide))) (@pfa_nil _ _) rfl) rfl) rfl)) (@pfa_cons _ _ _ _ _ _ (@pf_tup _ _ _ _ _ _ (@pfa_cons _ _ _ _ _ _ (@pf_str _ _ _ _ _) (@pfa_cons _ _ _ _ _ _ (@pf_var _ _ _ _ (@pv _ 4 _ _ rfl (by first | exact Or.inl rfl | exact Or.inr (Or.inl rfl) | exact Or.inr (Or.inr rfl)) (by decide) (by decide))) (@pfa_nil _ _) rfl) rfl)) (@pfa_nil _ _) rfl) rfl)) rfl (by first | exact .inl rfl | exact .inr rfl))) (@pfs_cons _ _ _ _ _ _ (@pfs_if _ _ _ _ _ _ _ _ _ (@pft_cmp _ _ _ _ _ _ _ _ _ _ (@op_notN _) od_notN (@pf_var _ _ _ _ (@pv _ 6 _ _ rfl (by first | exact Or.inl rfl | exact Or.inr (Or.inl rfl) | exact Or.inr (Or.inr rfl)) (by decide) (by decide))) (@pf_non _ _ _ _) (nomark _)) (@pfs_one _ _ _ _ (@pfs_expr _ _ _ _ _ (@pf_append _ _ _ _ _ (@pe_bmK _ G.K _ _ _ _ _ _ _ _ _ _ _ PySem.F.plainAttrs_list PySem.F.slot_list_append PySem.F.type_list_append (@mt_append _) (@pv _ 7 _ _ rfl (by first | exact Or.inl rfl | exact Or.inr (Or.inl rfl) | exact Or.inr (Or.inr rfl)) (by decide) (by decide)) (@pfa_cons _ _ _ _ _ _ (@pf_tup _ _ _ _ _ _ (@pfa_cons _ _ _ _ _ _ (@pf_str _ _ _ _ _) (@pfa_cons _ _ _ _ _ _ (@pf_tup _ _ _ _ _ _ (@pfa_cons _ _ _ _ _ _ (@pf_str _ _ _ _ _) (@pfa_cons _ _ _ _ _ _ (@pf_var _ _ _ _ (@pv _ 6 _ _ rfl (by first | exact Or.inl rfl | exact Or.inr (Or.inl rfl) | exact Or.inr (Or.inr rfl)) (by decide) (by decide))) (@pfa_cons _ _ _ _ _ _ (@pf_int _ _ _ _ _) (@pfa_nil _ _) rfl) rfl) rfl)) (@pfa_nil _ _) rfl) rfl)) (@pfa_nil _ _) rfl) rfl rfl rfl rfl rfl rfl)) rfl)) (@pfs_nil _ _)) (@pfs_one _ _ _ _ (@pfs_expr _ _ _ _ _ (@pf_append _ _ _ _ _ (@pe_bmK _ G.K _ _ _ _ _ _ _ _ _ _ _ PySem.F.plainAttrs_list PySem.F.slot_list_append PySem.F.type_list_append (@mt_append _) (@pv _ 2 _ _ rfl (by first | exact Or.inl rfl | exact Or.inr (Or.inl rfl) | exact Or.inr (Or.inr rfl)) (by decide) (by decide)) (@pfa_cons _ _ _ _ _ _ (@pf_tup _ _ _ _ _ _ (@pfa_cons _ _ _ _ _ _ (@pf_str _ _ _ _ _) (@pfa_cons _ _ _ _ _ _ (@pf_fz _ _ _ _ (@pv _ 7 _ _ rfl (by first | exact Or.inl rfl | exact Or.inr (Or.inl rfl) | exact Or.inr (Or.inr rfl)) (by decide) (by decide))) (@pfa_cons _ _ _ _ _ _ (@pf_new _ _ _ _ (@pfn_lst _ _ _ _ _ (@pfa_cons _ _ _ _ _ _ (@pf_tup _ _ _ _ _ _ (@pfa_cons _ _ _ _ _ _ (@pf_str _ _ _ _ _) (@pfa_cons _ _ _ _ _ _ (@pf_var _ _ _ _ (@pv _ 0 _ _ rfl (by first | exact Or.inl rfl | exact Or.inr (Or.inl rfl) | exact Or.inr (Or.inr rfl)) (by decide) (by decide))) (@pfa_cons _ _ _ _ _ _ (@pf_var _ _ _ _ (@pv _ 5 _ _ rfl (by first | exact Or.inl rfl | exact Or.inr (Or.inl rfl) | exact Or.inr (Or.inr rfl)) (by decide) (by decide))) (@pfa_nil _ _) rfl) rfl) rfl)) (@pfa_nil _ _) rfl))) (@pfa_cons _ _ _ _ _ _ (@pf_str _ _ _ _ _) (@pfa_cons _ _ _ _ _ _ (@pf_bl _ _ _ _ _) (@pfa_nil _ _) rfl) rfl) rfl) rfl) rfl)) (@pfa_nil _ _) rfl) rfl rfl rfl rfl rfl rfl)) rfl)))) (by intro _; rfl))) (@pfs_cons _ _ _ _ _ _ (@pfs_expr _ _ _ _ _ (@pf_append _ _ _ _ _ (@pe_bmK _ G.K _ _ _ _ _ _ _ _ _ _ _ PySem.F.plainAttrs_list PySem.F.slot_list_append PySem.F.type_list_append (@mt_append _) (@pv _ 2 _ _ rfl (by first | exact Or.inl rfl | exact Or.inr (Or.inl rfl) | exact Or.inr (Or.inr rfl)) (by decide) (by decide)) (@pfa_cons _ _ _ _ _ _ (@pf_tup _ _ _ _ _ _ (@pfa_cons _ _ _ _ _ _ (@pf_str _ _ _ _ _) (@pfa_cons _ _ _ _ _ _ (@pf_new _ _ _ _ (@pfn_lst _ _ _ _ _ (@pfa_nil _ _))) (@pfa_cons _ _ _ _ _ _ (@pf_new _ _ _ _ (@pfn_lst _ _ _ _ _ (@pfa_nil _ _))) (@pfa_cons _ _ _ _ _ _ (@pf_str _ _ _ _ _) (@pfa_cons _ _ _ _ _ _ (@pf_bl _ _ _ _ _) (@pfa_nil _ _) rfl) rfl) rfl) rfl) rfl)) (@pfa_nil _ _) rfl) rfl rfl rfl rfl rfl rfl)) rfl) (@pfs_one _ _ _ _ (@pfs_retN _ _ _ _ _ (@pfn_cat _ _ _ _ _ _ _ (@pf_fz _ _ _ _ (@pv _ 2 _ _ rfl (by first | exact Or.inl rfl | exact Or.inr (Or.inl rfl) | exact Or.inr (Or.inr rfl)) (by decide) (by decide))) (@pf_new _ _ _ _ (@pfn_lst _ _ _ _ _ (@pfa_cons _ _ _ _ _ _ (@pf_tup _ _ _ _ _ _ (@pfa_cons _ _ _ _ _ _ (@pf_str _ _ _ _ _) (@pfa_cons _ _ _ _ _ _ (@pf_new _ _ _ _ (@pfn_lst _ _ _ _ _ (@pfa_nil _ _))) (@pfa_cons _ _ _ _ _ _ (@pf_new _ _ _ _ (@pfn_lst _ _ _ _ _ (@pfa_nil _ _))) (@pfa_cons _ _ _ _ _ _ (@pf_str _ _ _ _ _) (@pfa_cons _ _ _ _ _ _ (@pf_bl _ _ _ _ _) (@pfa_nil _ _) rfl) rfl) rfl) rfl) rfl)) (@pfa_nil _ _) rfl)))))))))))))))))))))
abbrev s__law_told : Stmt := top 48
theorem sc__law_told : FnScope ["_law_rules", "_law_found", "_law_rule", "_law_tests"] ["_law_rules"] (defScope s__law_told) := ⟨rfl, rfl, rfl, by decide +kernel, rfl, by decide +kernel, by decide +kernel⟩
def b__law_told : FS := (sSeq (sSetN 1 (cLst aNil))
  (sSeq (sFor (iL (cV 0)) (gN 2) (sSeq (sSet 3 (cL (cComp 1 [] (iL (c1 (dFld okf_tests "tests") (cV 2))) (gN 0) tYes (cMeth m_told1 "told" (cV 0) aNil))))
  (sExpr (cApp 1 (cTup (aCons (c1 (dFld okf_verb "verb") (cV 2)) (aCons (cV 3) (aCons (cL (cComp 1 [] (iL (c1 (dFld okf_deeds "deeds") (cV 2))) (gN 0) tYes (cMeth m_told1 "told" (cV 0) aNil))) (aCons (c1 (dFld okf_text "text") (cV 2)) (aCons (c1 (dFld okf_refuses "refuses") (cV 2)) aNil))))))))))
  (sRetN (cOwn 1))))
def f__law_told : List D → Option (List D) := fnN 1 4 b__law_told
theorem ok__law_told {f : Addr} {fd : FuncData} (fld_tests : ∀ c, okf_tests c = true → Cls G.K (G.ca c) ∧ NoAttr G.K (G.ca c) "tests") (m_told1_ : ∀ c h, m_told1 c = some h → MethOk G P w mg base 2 "told" c h) (fld_refuses : ∀ c, okf_refuses c = true → Cls G.K (G.ca c) ∧ NoAttr G.K (G.ca c) "refuses") (fld_text : ∀ c, okf_text c = true → Cls G.K (G.ca c) ∧ NoAttr G.K (G.ca c) "text") (fld_deeds : ∀ c, okf_deeds c = true → Cls G.K (G.ca c) ∧ NoAttr G.K (G.ca c) "deeds") (fld_verb : ∀ c, okf_verb c = true → Cls G.K (G.ca c) ∧ NoAttr G.K (G.ca c) "verb") (F : Fun G.K "_law_told" "_law_told" s__law_told f fd) : FnOk P w G.K mg base CX0 3 f fd ["_law_rules"] (spN G f__law_told) :=
  fun_N (k := 2) (g := f__law_told) (b := b__law_told) rfl rfl rfl F sc__law_told fun cdv A outer s H E hr =>
  (@pfs_cons _ _ _ _ _ _ (@pfs_setN _ _ _ _ _ (@ps_set _ _ 1 _ _ _ _ sc__law_told.nd rfl (Or.inl rfl) (@pfn_lst _ _ _ _ _ (@pfa_nil _ _)) rfl (by first | exact .inl rfl | exact .inr rfl))) (@pfs_cons _ _ _ _ _ _ (@pfs_for _ _ _ _ _ _ _ (@ps_for _ _ _ _ _ _ _ _ PassesOwn.never rfl (@pfi_list _ _ _ _ _ (@pi_listK _ G.K _ _ _ (@pf_var _ _ _ _ (@pv _ 0 _ _ rfl (by first | exact Or.inl rfl | exact Or.inr (Or.inl rfl) | exact Or.inr (Or.inr rfl)) (by decide) (by decide))) rfl)) (@pfg_name _ _ _ _ 4 (@pg_name _ _ 2 _ sc__law_told.nd rfl (Or.inl rfl) (by first | exact .inl rfl | exact .inr rfl)) (by decide)) (@pfs_cons _ _ _ _ _ _ (@pfs_comp _ _ _ _ _ _ _ _ _ _ (by decide) (@ps_comp _ 3 _ _ _ _ _ _ _ _ _ ["_law_test"] 1 [] _ _ _ _ rfl sc__law_told.nd rfl (Or.inl rfl) (@pfi_list _ _ _ _ _ (@pi_listK _ G.K _ _ _ (@pf_fld _ _ _ _ _ _ _ (@pf_var _ _ _ _ (@pv _ 2 _ _ rfl (by first | exact Or.inl rfl | exact Or.inr (Or.inl rfl) | exact Or.inr (Or.inr rfl)) (by decide) (by decide))) fld_tests rfl) rfl)) (fun cl C fp s H => ⟨(@pfg_name _ _ _ _ 1 (@pg_name _ _ 0 _ (nodup_at ["_law_test"] (by decide +kernel)) rfl (Or.inl rfl) (by first | exact .inl rfl | exact .inr rfl)) (by decide)), (@pift_yes _ _), (@pf_method0 _ _ _ _ _ _ _ _ _ _ m_told1_ (hr.mono (by decide : 2 ≤ 2)) (@pf_var _ _ _ _ (@pv _ 0 _ _ rfl (by first | exact Or.inl rfl | exact Or.inr (Or.inl rfl) | exact Or.inr (Or.inr rfl)) (by decide) (by decide))) rfl rfl)⟩) rfl rfl rfl rfl rfl rfl rfl (by intro _; rfl) rfl (by first | exact .inl rfl | exact .inr rfl))) (@pfs_one _ _ _ _ (@pfs_expr _ _ _ _ _ (@pf_append _ _ _ _ _ (@pe_bmK _ G.K _ _ _ _ _ _ _ _ _ _ _ PySem.F.plainAttrs_list PySem.F.slot_list_append PySem.F.type_list_append (@mt_append _) (@pv _ 1 _ _ rfl (by first | exact Or.inl rfl | exact Or.inr (Or.inl rfl) | exact Or.inr (Or.inr rfl)) (by decide) (by decide)) (@pfa_cons _ _ _ _ _ _ (@pf_tup _ _ _ _ _ _ (@pfa_cons _ _ _ _ _ _ (@pf_fld _ _ _ _ _ _ _ (@pf_var _ _ _ _ (@pv _ 2 _ _ rfl (by first | exact Or.inl rfl | exact Or.inr (Or.inl rfl) | exact Or.inr (Or.inr rfl)) (by decide) (by decide))) fld_verb rfl) (@pfa_cons _ _ _ _ _ _ (@pf_var _ _ _ _ (@pv _ 3 _ _ rfl (by first | exact Or.inl rfl | exact Or.inr (Or.inl rfl) | exact Or.inr (Or.inr rfl)) (by decide) (by decide))) (@pfa_cons _ _ _ _ _ _ (@pf_new _ _ _ _ (@pfn_comp _ _ _ _ _ _ _ _ _ (by decide) (@pe_comp _ _ _ _ _ _ _ ["_law_deed"] 1 [] _ _ _ _ rfl (@pfi_list _ _ _ _ _ (@pi_listK _ G.K _ _ _ (@pf_fld _ _ _ _ _ _ _ (@pf_var _ _ _ _ (@pv _ 2 _ _ rfl (by first | exact Or.inl rfl | exact Or.inr (Or.inl rfl) | exact Or.inr (Or.inr rfl)) (by decide) (by decide))) fld_deeds rfl) rfl)) (fun cl C fp s H => ⟨(@pfg_name _ _ _ _ 1 (@pg_name _ _ 0 _ (nodup_at ["_law_deed"] (by decide +kernel)) rfl (Or.inl rfl) (by first | exact .inl rfl | exact .inr rfl)) (by decide)), (@pift_yes _ _), (@pf_method0 _ _ _ _ _ _ _ _ _ _ m_told1_ (hr.mono (by decide : 2 ≤ 2)) (@pf_var _ _ _ _ (@pv _ 0 _ _ rfl (by first | exact Or.inl rfl | exact Or.inr (Or.inl rfl) | exact Or.inr (Or.inr rfl)) (by decide) (by decide))) rfl rfl)⟩) rfl rfl rfl rfl rfl rfl rfl (by intro _; rfl)))) (@pfa_cons _ _ _ _ _ _ (@pf_fld _ _ _ _ _ _ _ (@pf_var _ _ _ _ (@pv _ 2 _ _ rfl (by first | exact Or.inl rfl | exact Or.inr (Or.inl rfl) | exact Or.inr (Or.inr rfl)) (by decide) (by decide))) fld_text rfl) (@pfa_cons _ _ _ _ _ _ (@pf_fld _ _ _ _ _ _ _ (@pf_var _ _ _ _ (@pv _ 2 _ _ rfl (by first | exact Or.inl rfl | exact Or.inr (Or.inl rfl) | exact Or.inr (Or.inr rfl)) (by decide) (by decide))) fld_refuses rfl) (@pfa_nil _ _) rfl) rfl) rfl) rfl) rfl)) (@pfa_nil _ _) rfl) rfl rfl rfl rfl rfl rfl)) rfl))) (by intro _; rfl))) (@pfs_one _ _ _ _ (@pfs_retN _ _ _ _ _ (@pfn_own _ _ _ _ (@pv _ 1 _ _ rfl (by first | exact Or.inl rfl | exact Or.inr (Or.inl rfl) | exact Or.inr (Or.inr rfl)) (by decide) (by decide)))))))
abbrev s_law : Stmt := top 49
theorem sc_law : FnScope ["_law_script", "_law_due_here", "_law_some", "_law_cell", "_law_state", "_law_you", "_law_ways_here", "_law_handed", "_law_found"] ["_law_script"] (defScope s_law) := ⟨rfl, rfl, rfl, by decide +kernel, rfl, by decide +kernel, by decide +kernel⟩
def b_law : FS := (sSeq (sSet 1 (cL (cComp 1 [] (iL (cL (cLst (aCons (cC (L4.D.str "take")) (aCons (cC (L4.D.str "drop")) (aCons (cC (L4.D.str "open")) (aCons (cC (L4.D.str "shut")) (aCons (cC (L4.D.str "light")) (aCons (cC (L4.D.str "douse")) aNil))))))))) (gN 0) tYes (cTup (aCons (cV 0) (aCons (cC (L4.D.str "one")) (aCons (cC L4.D.non) aNil)))))))
  (sSeq (sSet 1 (cL (cCat (cV 1) (cL (cLst (aCons (cTup (aCons (cC (L4.D.str "put")) (aCons (cC (L4.D.str "two")) (aCons (cC (L4.D.str "in")) aNil)))) (aCons (cTup (aCons (cC (L4.D.str "go")) (aCons (cC (L4.D.str "way")) (aCons (cC L4.D.non) aNil)))) (aCons (cTup (aCons (cC (L4.D.str "wait")) (aCons (cC (L4.D.str "alone")) (aCons (cC L4.D.non) aNil)))) aNil))))))))
  (sSeq (sSetN 2 (cCallN f_common_verbs aNil))
  (sSeq (sIf (cBorT (cT (c2 (dEq true) (cL (cComp 1 [] (iL (cV 2)) (gN 0) tYes (cTup (aCons (c1 (dFld okf_name "name") (cV 0)) (aCons (c1 (dFld okf_form "form") (cV 0)) (aCons (c1 (dFld okf_joining "joining") (cV 0)) aNil)))))) (cV 1)))) (sRet (cC (L4.D.bl false))) sNext)
  (sSeq (sIf (cBorT (cT (c2 (dEq true) (cL (cComp 1 [] (iL (cV 2)) (gN 0) (cT (c2 (dEq true) (c1 (dFld okf_others "others") (cV 0)) (cTup aNil))) (cV 0))) (cL (cLst aNil))))) (sRet (cC (L4.D.bl false))) sNext)
  (sSeq (sExpr (cClr 2))
  (sSeq (sIf (cT (c2 (dEq true) (c1 dLen (cL (cCallN f_common_verbs aNil))) (cC (L4.D.int 9)))) (sRet (cC (L4.D.bl false))) sNext)
  (sSeq (sFor (iL (cL (cSl (cV 0) none (some 12)))) (gN 3) (sSeq (sSetN 4 (cLst (aCons (cV 3) aNil)))
  (sSeq (sSet 5 (cMut f__law_name 4 aNil))
  (sSeq (sSet 6 (cMut f__law_ways 4 aNil))
  (sSeq (sSet 7 (cL (cList (cV 6))))
  (sSeq (sSetN 8 (cCallN f_common_rules (aCons (cV 5) (aCons (cV 7) aNil))))
  (sSeq (sIf (cBorT (cOrT (cNotT (cT (c1 (dInst (instB "list")) (cV 8)))) (cOrT (cT (c2 (dEq true) (cL (cCallN f__law_told (aCons (cV 8) aNil))) (cL (cCallN f__law_due (aCons (cV 5) (aCons (cV 6) aNil)))))) (cT (c2 (dEq true) (cV 7) (cV 6)))))) (sRet (cC (L4.D.bl false))) sNext)
  (sSeq (sExpr (cClr 8))
  (sIf (cT (c2 (dEq true) (cL (cCallN f__law_told (aCons (cL (cCallN f_common_rules (aCons (cV 5) (aCons (cV 6) aNil)))) aNil))) (cL (cCallN f__law_due (aCons (cV 5) (aCons (cV 6) aNil)))))) (sRet (cC (L4.D.bl false))) sNext)))))))))
  (sRet (cC (L4.D.bl true)))))))))))
def f_law : List D → Option D := fnD 1 9 b_law
theorem ok_law {f : Addr} {fd : FuncData} (d_common_verbs : DefOk P w G.K mg base 3 "common_verbs" [] (spN G f_common_verbs)) (fld_joining : ∀ c, okf_joining c = true → Cls G.K (G.ca c) ∧ NoAttr G.K (G.ca c) "joining") (fld_form : ∀ c, okf_form c = true → Cls G.K (G.ca c) ∧ NoAttr G.K (G.ca c) "form") (fld_name : ∀ c, okf_name c = true → Cls G.K (G.ca c) ∧ NoAttr G.K (G.ca c) "name") (fld_others : ∀ c, okf_others c = true → Cls G.K (G.ca c) ∧ NoAttr G.K (G.ca c) "others") (b_len : mg "len" = none) (d__law_name : DefOk P w G.K mg base 2 "_law_name" ["_law_state"] (spM G f__law_name)) (d__law_ways : DefOk P w G.K mg base 3 "_law_ways" ["_law_state"] (spM G f__law_ways)) (b_list : mg "list" = none) (d_common_rules : DefOk P w G.K mg base 6 "common_rules" ["you", "ways"] (spN G f_common_rules)) (b_isinstance : mg "isinstance" = none) (d__law_told : DefOk P w G.K mg base 3 "_law_told" ["_law_rules"] (spN G f__law_told)) (d__law_due : DefOk P w G.K mg base 2 "_law_due" ["_law_you", "_law_ways_here"] (spN G f__law_due)) (F : Fun G.K "law" "law" s_law f fd) : FnOk P w G.K mg base CX0 7 f fd ["_law_script"] (spF G f_law) :=
  fun_F (k := 6) (g := f_law) (b := b_law) rfl rfl rfl F sc_law fun cdv A outer s H E hr =>
  (@pfs_cons _ _ _ _ _ _ (@pfs_comp _ _ _ _ _ _ _ _ _ _ (by decide) (@ps_comp _ 1 _ _ _ _ _ _ _ _ _ ["_law_verb"] 1 [] _ _ _ _ rfl sc_law.nd rfl (Or.inl rfl) (@pfi_list _ _ _ _ _ (@pi_listK _ G.K _ _ _ (@pf_new _ _ _ _ (@pfn_lst _ _ _ _ _ (@pfa_cons _ _ _ _ _ _ (@pf_str _ _ _ _ _) (@pfa_cons _ _ _ _ _ _ (@pf_str _ _ _ _ _) (@pfa_cons _ _ _ _ _ _ (@pf_str _ _ _ _ _) (@pfa_cons _ _ _ _ _ _ (@pf_str _ _ _ _ _) (@pfa_cons _ _ _ _ _ _ (@pf_str _ _ _ _ _) (@pfa_cons _ _ _ _ _ _ (@pf_str _ _ _ _ _) (@pfa_nil _ _) rfl) rfl) rfl) rfl) rfl) rfl))) rfl)) (fun cl C fp s H => ⟨(@pfg_name _ _ _ _ 1 (@pg_name _ _ 0 _ (nodup_at ["_law_verb"] (by decide +kernel)) rfl (Or.inl rfl) (by first | exact .inl rfl | exact .inr rfl)) (by decide)), (@pift_yes _ _), (@pf_tup _ _ _ _ _ _ (@pfa_cons _ _ _ _ _ _ (@pf_var _ _ _ _ (@pv _ 0 _ _ rfl (by first | exact Or.inl rfl | exact Or.inr (Or.inl rfl) | exact Or.inr (Or.inr rfl)) (by decide) (by decide))) (@pfa_cons _ _ _ _ _ _ (@pf_str _ _ _ _ _) (@pfa_cons _ _ _ _ _ _ (@pf_non _ _ _ _) (@pfa_nil _ _) rfl) rfl) rfl))⟩) rfl rfl rfl rfl rfl rfl rfl (by intro _; rfl) rfl (by first | exact .inl rfl | exact .inr rfl))) (@pfs_cons _ _ _ _ _ _ (@pfs_set _ _ _ _ _ (@ps_set _ _ 1 _ _ _ _ sc_law.nd rfl (Or.inl rfl) (@pf_new _ _ _ _ (@pfn_cat _ _ _ _ _ _ _ (@pf_var _ _ _ _ (@pv _ 1 _ _ rfl (by first | exact Or.inl rfl | exact Or.inr (Or.inl rfl) | exact Or.inr (Or.inr rfl)) (by decide) (by decide))) (@pf_new _ _ _ _ (@pfn_lst _ _ _ _ _ (@pfa_cons _ _ _ _ _ _ (@pf_tup _ _ _ _ _ _ (@pfa_cons _ _ _ _ _ _ (@pf_str _ _ _ _ _) (@pfa_cons _ _ _ _ _ _ (@pf_str _ _ _ _ _) (@pfa_cons _ _ _ _ _ _ (@pf_str _ _ _ _ _) (@pfa_nil _ _) rfl) rfl) rfl)) (@pfa_cons _ _ _ _ _ _ (@pf_tup _ _ _ _ _ _ (@pfa_cons _ _ _ _ _ _ (@pf_str _ _ _ _ _) (@pfa_cons _ _ _ _ _ _ (@pf_str _ _ _ _ _) (@pfa_cons _ _ _ _ _ _ (@pf_non _ _ _ _) (@pfa_nil _ _) rfl) rfl) rfl)) (@pfa_cons _ _ _ _ _ _ (@pf_tup _ _ _ _ _ _ (@pfa_cons _ _ _ _ _ _ (@pf_str _ _ _ _ _) (@pfa_cons _ _ _ _ _ _ (@pf_str _ _ _ _ _) (@pfa_cons _ _ _ _ _ _ (@pf_non _ _ _ _) (@pfa_nil _ _) rfl) rfl) rfl)) (@pfa_nil _ _) rfl) rfl) rfl))))) rfl (by first | exact .inl rfl | exact .inr rfl))) (@pfs_cons _ _ _ _ _ _ (@pfs_setN _ _ _ _ _ (@ps_set _ _ 2 _ _ _ _ sc_law.nd rfl (Or.inl rfl) (@pfn_def0 _ _ _ _ _ _ _ _ d_common_verbs (hr.mono (by decide : 3 ≤ 6)) rfl (by decide)) rfl (by first | exact .inl rfl | exact .inr rfl))) (@pfs_cons _ _ _ _ _ _ (@pfs_if _ _ _ _ _ _ _ _ _ (@pft_bor _ _ _ _ (@pft_cmp _ _ _ _ _ _ _ _ _ _ (@op_neX _ _ hr.units rfl) od_ne (@pf_new _ _ _ _ (@pfn_comp _ _ _ _ _ _ _ _ _ (by decide) (@pe_comp _ _ _ _ _ _ _ ["_law_verb"] 1 [] _ _ _ _ rfl (@pfi_list _ _ _ _ _ (@pi_listK _ G.K _ _ _ (@pf_var _ _ _ _ (@pv _ 2 _ _ rfl (by first | exact Or.inl rfl | exact Or.inr (Or.inl rfl) | exact Or.inr (Or.inr rfl)) (by decide) (by decide))) rfl)) (fun cl C fp s H => ⟨(@pfg_name _ _ _ _ 1 (@pg_name _ _ 0 _ (nodup_at ["_law_verb"] (by decide +kernel)) rfl (Or.inl rfl) (by first | exact .inl rfl | exact .inr rfl)) (by decide)), (@pift_yes _ _), (@pf_tup _ _ _ _ _ _ (@pfa_cons _ _ _ _ _ _ (@pf_fld _ _ _ _ _ _ _ (@pf_var _ _ _ _ (@pv _ 0 _ _ rfl (by first | exact Or.inl rfl | exact Or.inr (Or.inl rfl) | exact Or.inr (Or.inr rfl)) (by decide) (by decide))) fld_name rfl) (@pfa_cons _ _ _ _ _ _ (@pf_fld _ _ _ _ _ _ _ (@pf_var _ _ _ _ (@pv _ 0 _ _ rfl (by first | exact Or.inl rfl | exact Or.inr (Or.inl rfl) | exact Or.inr (Or.inr rfl)) (by decide) (by decide))) fld_form rfl) (@pfa_cons _ _ _ _ _ _ (@pf_fld _ _ _ _ _ _ _ (@pf_var _ _ _ _ (@pv _ 0 _ _ rfl (by first | exact Or.inl rfl | exact Or.inr (Or.inl rfl) | exact Or.inr (Or.inr rfl)) (by decide) (by decide))) fld_joining rfl) (@pfa_nil _ _) rfl) rfl) rfl))⟩) rfl rfl rfl rfl rfl rfl rfl (by intro _; rfl)))) (@pf_var _ _ _ _ (@pv _ 1 _ _ rfl (by first | exact Or.inl rfl | exact Or.inr (Or.inl rfl) | exact Or.inr (Or.inr rfl)) (by decide) (by decide))) (nomark _))) (@pfs_one _ _ _ _ (@pfs_ret _ _ _ _ _ (@pf_bl _ _ _ _ _))) (@pfs_nil _ _)) (@pfs_cons _ _ _ _ _ _ (@pfs_if _ _ _ _ _ _ _ _ _ (@pft_bor _ _ _ _ (@pft_cmp _ _ _ _ _ _ _ _ _ _ (@op_neX _ _ hr.units rfl) od_ne (@pf_new _ _ _ _ (@pfn_comp _ _ _ _ _ _ _ _ _ (by decide) (@pe_comp _ _ _ _ _ _ _ ["_law_verb"] 1 [] _ _ _ _ rfl (@pfi_list _ _ _ _ _ (@pi_listK _ G.K _ _ _ (@pf_var _ _ _ _ (@pv _ 2 _ _ rfl (by first | exact Or.inl rfl | exact Or.inr (Or.inl rfl) | exact Or.inr (Or.inr rfl)) (by decide) (by decide))) rfl)) (fun cl C fp s H => ⟨(@pfg_name _ _ _ _ 1 (@pg_name _ _ 0 _ (nodup_at ["_law_verb"] (by decide +kernel)) rfl (Or.inl rfl) (by first | exact .inl rfl | exact .inr rfl)) (by decide)), (@pif_one _ _ _ (@pft_cmp _ _ _ _ _ _ _ _ _ _ (@op_neX _ _ hr.units rfl) od_ne (@pf_fld _ _ _ _ _ _ _ (@pf_var _ _ _ _ (@pv _ 0 _ _ rfl (by first | exact Or.inl rfl | exact Or.inr (Or.inl rfl) | exact Or.inr (Or.inr rfl)) (by decide) (by decide))) fld_others rfl) (@pf_tup _ _ _ _ _ _ (@pfa_nil _ _)) (nomark _))), (@pf_var _ _ _ _ (@pv _ 0 _ _ rfl (by first | exact Or.inl rfl | exact Or.inr (Or.inl rfl) | exact Or.inr (Or.inr rfl)) (by decide) (by decide)))⟩) rfl rfl rfl rfl rfl rfl rfl (by intro _; rfl)))) (@pf_new _ _ _ _ (@pfn_lst _ _ _ _ _ (@pfa_nil _ _))) (nomark _))) (@pfs_one _ _ _ _ (@pfs_ret _ _ _ _ _ (@pf_bl _ _ _ _ _))) (@pfs_nil _ _)) (@pfs_cons _ _ _ _ _ _ (@pfs_expr _ _ _ _ _ (@pf_clear _ _ _ _ (@pe_bm0 _ _ _ _ _ _ _ _ _ PySem.F.plainAttrs_list PySem.F.slot_list_clear PySem.F.type_list_clear (@mt_clear _) (@pv _ 2 _ _ rfl (by first | exact Or.inl rfl | exact Or.inr (Or.inl rfl) | exact Or.inr (Or.inr rfl)) (by decide) (by decide)) rfl rfl)) rfl) (@pfs_cons _ _ _ _ _ _ (@pfs_if _ _ _ _ _ _ _ _ _ (@pft_cmp _ _ _ _ _ _ _ _ _ _ (@op_neX _ _ hr.units rfl) od_ne (@pf_b1 _ _ _ _ _ _ cd_len (@pe_callB _ _ _ _ _ _ _ _ _ (@call_lenX _ _ rfl) (by rfl) b_len PySem.boot_len (@pfa_cons _ _ _ _ _ _ (@pf_new _ _ _ _ (@pfn_def0 _ _ _ _ _ _ _ _ d_common_verbs (hr.mono (by decide : 3 ≤ 6)) rfl (by decide))) (@pfa_nil _ _) rfl) (by decide) (by decide) rfl rfl)) (@pf_int _ _ _ _ _) (nomark _)) (@pfs_one _ _ _ _ (@pfs_ret _ _ _ _ _ (@pf_bl _ _ _ _ _))) (@pfs_nil _ _)) (@pfs_cons _ _ _ _ _ _ (@pfs_for _ _ _ _ _ _ _ (@ps_for _ _ _ _ _ _ _ _ PassesOwn.never rfl (@pfi_list _ _ _ _ _ (@pi_listK _ G.K _ _ _ (@pf_new _ _ _ _ (@pfn_slice _ _ _ _ _ _ (@pe_slice _ _ _ _ _ _ _ _ _ _ (@sl_X _ _ rfl) (@pf_var _ _ _ _ (@pv _ 0 _ _ rfl (by first | exact Or.inl rfl | exact Or.inr (Or.inl rfl) | exact Or.inr (Or.inr rfl)) (by decide) (by decide))) (@po_no _) (@po_const _ _ _ _)))) rfl)) (@pfg_name _ _ _ _ 9 (@pg_name _ _ 3 _ sc_law.nd rfl (Or.inl rfl) (by first | exact .inl rfl | exact .inr rfl)) (by decide)) (@pfs_cons _ _ _ _ _ _ (@pfs_setN _ _ _ _ _ (@ps_set _ _ 4 _ _ _ _ sc_law.nd rfl (Or.inl rfl) (@pfn_lst _ _ _ _ _ (@pfa_cons _ _ _ _ _ _ (@pf_var _ _ _ _ (@pv _ 3 _ _ rfl (by first | exact Or.inl rfl | exact Or.inr (Or.inl rfl) | exact Or.inr (Or.inr rfl)) (by decide) (by decide))) (@pfa_nil _ _) rfl)) rfl (by first | exact .inl rfl | exact .inr rfl))) (@pfs_cons _ _ _ _ _ _ (@pfs_set _ _ _ _ _ (@ps_set _ _ 5 _ _ _ _ sc_law.nd rfl (Or.inl rfl) (@pf_defM _ _ _ _ _ _ _ _ _ _ _ _ d__law_name (hr.mono (by decide : 2 ≤ 6)) (@pv _ 4 _ _ rfl (by first | exact Or.inl rfl | exact Or.inr (Or.inl rfl) | exact Or.inr (Or.inr rfl)) (by decide) (by decide)) (@pfa_nil _ _) rfl (by decide) rfl rfl) rfl (by first | exact .inl rfl | exact .inr rfl))) (@pfs_cons _ _ _ _ _ _ (@pfs_set _ _ _ _ _ (@ps_set _ _ 6 _ _ _ _ sc_law.nd rfl (Or.inl rfl) (@pf_defM _ _ _ _ _ _ _ _ _ _ _ _ d__law_ways (hr.mono (by decide : 3 ≤ 6)) (@pv _ 4 _ _ rfl (by first | exact Or.inl rfl | exact Or.inr (Or.inl rfl) | exact Or.inr (Or.inr rfl)) (by decide) (by decide)) (@pfa_nil _ _) rfl (by decide) rfl rfl) rfl (by first | exact .inl rfl | exact .inr rfl))) (@pfs_cons _ _ _ _ _ _ (@pfs_set _ _ _ _ _ (@ps_set _ _ 7 _ _ _ _ sc_law.nd rfl (Or.inl rfl) (@pf_new _ _ _ _ (@pfn_list _ _ _ _ (@pe_callTy _ _ _ _ _ _ _ _ _ (@call_listX _ _ rfl) (by rfl) b_list PySem.Pv.boot_list (@pfa_cons _ _ _ _ _ _ (@pf_var _ _ _ _ (@pv _ 6 _ _ rfl (by first | exact Or.inl rfl | exact Or.inr (Or.inl rfl) | exact Or.inr (Or.inr rfl)) (by decide) (by decide))) (@pfa_nil _ _) rfl) (by decide) (by decide) rfl rfl))) rfl (by first | exact .inl rfl | exact .inr rfl))) (@pfs_cons _ _ _ _ _ _ (@pfs_setN _ _ _ _ _ (@ps_set _ _ 8 _ _ _ _ sc_law.nd rfl (Or.inl rfl) (@pfn_def _ _ _ _ _ _ _ _ _ _ _ d_common_rules (hr.mono (by decide : 6 ≤ 6)) (@pfa_cons _ _ _ _ _ _ (@pf_var _ _ _ _ (@pv _ 5 _ _ rfl (by first | exact Or.inl rfl | exact Or.inr (Or.inl rfl) | exact Or.inr (Or.inr rfl)) (by decide) (by decide))) (@pfa_cons _ _ _ _ _ _ (@pf_var _ _ _ _ (@pv _ 7 _ _ rfl (by first | exact Or.inl rfl | exact Or.inr (Or.inl rfl) | exact Or.inr (Or.inr rfl)) (by decide) (by decide))) (@pfa_nil _ _) rfl) rfl) rfl (by decide) rfl rfl) rfl (by first | exact .inl rfl | exact .inr rfl))) (@pfs_cons _ _ _ _ _ _ (@pfs_if _ _ _ _ _ _ _ _ _ (@pft_bor _ _ _ _ (@PW.pt _ _ _ (@pfw_or _ _ _ _ _ _ _ _ (@pft_not _ _ _ _ _ (@pft_val _ _ _ _ (@pf_inst _ _ _ _ _ _ (@pe_callB _ _ _ _ _ _ _ _ _ (@call_inst _ _ (.b "list") _ (@kit_list _ _) (@instB_no _ _ _) rfl) (by rfl) b_isinstance PyProof.Rows.boot_isinstance (@pa_cons _ _ _ _ _ (@pf_var _ _ _ _ (@pv _ 8 _ _ rfl (by first | exact Or.inl rfl | exact Or.inr (Or.inl rfl) | exact Or.inr (Or.inr rfl)) (by decide) (by decide))) (@pa_cons _ _ _ _ _ (@pe_bltn _ _ (.ty "list") _ _ (by rfl) b_list PySem.Pv.boot_list rfl (by decide) (by decide)) (@pa_nil _) rfl) rfl) (by decide) (by decide) rfl rfl)) (by intro _; rfl))) (@pfw_or _ _ _ _ _ _ _ _ (@pft_cmp _ _ _ _ _ _ _ _ _ _ (@op_neX _ _ hr.units rfl) od_ne (@pf_new _ _ _ _ (@pfn_def _ _ _ _ _ _ _ _ _ _ _ d__law_told (hr.mono (by decide : 3 ≤ 6)) (@pfa_cons _ _ _ _ _ _ (@pf_var _ _ _ _ (@pv _ 8 _ _ rfl (by first | exact Or.inl rfl | exact Or.inr (Or.inl rfl) | exact Or.inr (Or.inr rfl)) (by decide) (by decide))) (@pfa_nil _ _) rfl) rfl (by decide) rfl rfl)) (@pf_new _ _ _ _ (@pfn_def _ _ _ _ _ _ _ _ _ _ _ d__law_due (hr.mono (by decide : 2 ≤ 6)) (@pfa_cons _ _ _ _ _ _ (@pf_var _ _ _ _ (@pv _ 5 _ _ rfl (by first | exact Or.inl rfl | exact Or.inr (Or.inl rfl) | exact Or.inr (Or.inr rfl)) (by decide) (by decide))) (@pfa_cons _ _ _ _ _ _ (@pf_var _ _ _ _ (@pv _ 6 _ _ rfl (by first | exact Or.inl rfl | exact Or.inr (Or.inl rfl) | exact Or.inr (Or.inr rfl)) (by decide) (by decide))) (@pfa_nil _ _) rfl) rfl) rfl (by decide) rfl rfl)) (nomark _)) (@pfw_or1 _ _ _ _ _ (@pft_cmp _ _ _ _ _ _ _ _ _ _ (@op_neX _ _ hr.units rfl) od_ne (@pf_var _ _ _ _ (@pv _ 7 _ _ rfl (by first | exact Or.inl rfl | exact Or.inr (Or.inl rfl) | exact Or.inr (Or.inr rfl)) (by decide) (by decide))) (@pf_var _ _ _ _ (@pv _ 6 _ _ rfl (by first | exact Or.inl rfl | exact Or.inr (Or.inl rfl) | exact Or.inr (Or.inr rfl)) (by decide) (by decide))) (nomark _))))))) (@pfs_one _ _ _ _ (@pfs_ret _ _ _ _ _ (@pf_bl _ _ _ _ _))) (@pfs_nil _ _)) (@pfs_cons _ _ _ _ _ _ (@pfs_expr _ _ _ _ _ (@pf_clear _ _ _ _ (@pe_bm0 _ _ _ _ _ _ _ _ _ PySem.F.plainAttrs_list PySem.F.slot_list_clear PySem.F.type_list_clear (@mt_clear _) (@pv _ 8 _ _ rfl (by first | exact Or.inl rfl | exact Or.inr (Or.inl rfl) | exact Or.inr (Or.inr rfl)) (by decide) (by decide)) rfl rfl)) rfl) (@pfs_one _ _ _ _ (@pfs_if _ _ _ _ _ _ _ _ _ (@pft_cmp _ _ _ _ _ _ _ _ _ _ (@op_neX _ _ hr.units rfl) od_ne (@pf_new _ _ _ _ (@pfn_def _ _ _ _ _ _ _ _ _ _ _ d__law_told (hr.mono (by decide : 3 ≤ 6)) (@pfa_cons _ _ _ _ _ _ (@pf_new _ _ _ _ (@pfn_def _ _ _ _ _ _ _ _ _ _ _ d_common_rules (hr.mono (by decide : 6 ≤ 6)) (@pfa_cons _ _ _ _ _ _ (@pf_var _ _ _ _ (@pv _ 5 _ _ rfl (by first | exact Or.inl rfl | exact Or.inr (Or.inl rfl) | exact Or.inr (Or.inr rfl)) (by decide) (by decide))) (@pfa_cons _ _ _ _ _ _ (@pf_var _ _ _ _ (@pv _ 6 _ _ rfl (by first | exact Or.inl rfl | exact Or.inr (Or.inl rfl) | exact Or.inr (Or.inr rfl)) (by decide) (by decide))) (@pfa_nil _ _) rfl) rfl) rfl (by decide) rfl rfl)) (@pfa_nil _ _) rfl) rfl (by decide) rfl rfl)) (@pf_new _ _ _ _ (@pfn_def _ _ _ _ _ _ _ _ _ _ _ d__law_due (hr.mono (by decide : 2 ≤ 6)) (@pfa_cons _ _ _ _ _ _ (@pf_var _ _ _ _ (@pv _ 5 _ _ rfl (by first | exact Or.inl rfl | exact Or.inr (Or.inl rfl) | exact Or.inr (Or.inr rfl)) (by decide) (by decide))) (@pfa_cons _ _ _ _ _ _ (@pf_var _ _ _ _ (@pv _ 6 _ _ rfl (by first | exact Or.inl rfl | exact Or.inr (Or.inl rfl) | exact Or.inr (Or.inr rfl)) (by decide) (by decide))) (@pfa_nil _ _) rfl) rfl) rfl (by decide) rfl rfl)) (nomark _)) (@pfs_one _ _ _ _ (@pfs_ret _ _ _ _ _ (@pf_bl _ _ _ _ _))) (@pfs_nil _ _)))))))))) (by intro _; rfl))) (@pfs_one _ _ _ _ (@pfs_ret _ _ _ _ _ (@pf_bl _ _ _ _ _)))))))))))
end
end K33

set_option Elab.async false
set_option linter.all false
set_option maxRecDepth 100000
set_option maxHeartbeats 4000000
namespace K33
open PySem L2 L3 L4
/-- the digit's rows behind its first if -/
theorem digit_rest {b q r n : Int} {s2 : Sl} (h0 : 0 < b) (h1 : b < 1073741824) : ∃ d es' ρ, (sSeq (sIf (cBorT (cT (c2 dGtI (c2 dIx (cV 0) (cC (L4.D.int 0))) (cC (L4.D.int 0))))) (sSeq (sSet 3 (cBor (c2 dModI (c2 dIx (cV 0) (cC (L4.D.int 0))) (cV 1))))
  (sSeq (sIxSet 0 0 (cBor (c2 dDivI (c2 dIx (cV 0) (cC (L4.D.int 0))) (cV 1))))
  (sRet (cV 3)))) sNext)
  (sSeq (sIxSet 0 2 (cBor (c2 dAddI (c2 dIx (cV 0) (cC (L4.D.int 2))) (cC (L4.D.int 1)))))
  (sSeq (sSet 4 (cBor (c2 dModI (c2 dMulI (c2 dAddI (c2 dAddI (c2 dIx (cV 0) (cC (L4.D.int 1))) (c2 dMulI (cC (L4.D.int 7919)) (c2 dIx (cV 0) (cC (L4.D.int 2))))) (cC (L4.D.int 1))) (cC (L4.D.int 48271))) (cC (L4.D.int 2147483647)))))
  (sSeq (sSet 4 (c2 dModI (c2 dMulI (cV 4) (c2 dAddI (c2 dDivI (cV 4) (cC (L4.D.int 1009))) (cC (L4.D.int 69621)))) (cC (L4.D.int 2147483647))))
  (sRet (c2 dModI (c2 dModI (c2 dMulI (cV 4) (c2 dAddI (c2 dDivI (cV 4) (cC (L4.D.int 2003))) (cC (L4.D.int 40692)))) (cC (L4.D.int 2147483399))) (cV 1)))))))
    [.pm [.int q, .int r, .int n], .im (.int b), s2, .un, .un] = some (.rt (.int d) ρ) ∧ pmAt0 ρ = some es' ∧ 0 ≤ d ∧ d < b ∧ DStD es' := by
  have hc : cBorT (cT (c2 dGtI (c2 dIx (cV 0) (cC (L4.D.int 0))) (cC (L4.D.int 0)))) [.pm [.int q, .int r, .int n], .im (.int b), s2, .un, .un] = some (decide (0 < q), [.pm [.int q, .int r, .int n], .im (.int b), s2, .un, .un]) := rfl
  by_cases hq : 0 < q
  · rw [decide_eq_true hq] at hc
    refine ⟨q % b, [.int (q / b), .int r, .int n], [.pm [.int (q / b), .int r, .int n], .im (.int b), s2, .im (.int (q % b)), .un], ?_, rfl, Int.emod_nonneg _ (by omega), Int.emod_lt_of_pos _ h0, .inr ⟨_, _, _, rfl⟩⟩
    rw [ev_seq_rt (d := .int (q % b)) (ρ' := [.pm [.int (q / b), .int r, .int n], .im (.int b), s2, .im (.int (q % b)), .un])]
    rw [ev_if_t hc, ev_seq (ev_set (ev_bor (ev_c2 rfl rfl (mod_pos h0)) rfl)), ev_seq (ev_ixset (k := 0) (ev_bor (ev_c2 rfl rfl (div_pos h0 h1)) rfl) rfl rfl)]
    rfl
  · rw [decide_eq_false hq] at hc
    rw [ev_seq (show _ = some (Out.nx [.pm [.int q, .int r, .int n], .im (.int b), s2, .un, .un]) from by rw [ev_if_f hc]; rfl)]
    rw [ev_seq (show _ = some (Out.nx [.pm [.int q, .int r, .int (n + 1)], .im (.int b), s2, .un, .un]) from rfl)]
    have h7 : smallI 7919 = true := by decide
    have h4 : smallI 48271 = true := by decide
    rw [ev_seq (ev_set (ev_bor (d := .int ((r + 7919 * (n + 1) + 1) * 48271 % 2147483647)) (ev_c2 (ev_c2 (ev_c2 (ev_c2 rfl (ev_c2 rfl rfl (small_mul (.inl h7))) rfl) rfl rfl) rfl (small_mul (.inr h4))) rfl (mod_pos (by decide))) rfl))]
    generalize hg : (r + 7919 * (n + 1) + 1) * 48271 % 2147483647 = g
    have g0 : 0 ≤ g ∧ g < 2147483647 := by rw [← hg]; exact ⟨Int.emod_nonneg _ (by decide), Int.emod_lt_of_pos _ (by decide)⟩
    rw [ev_seq (ev_set (d := .int (g * (g / 1009 + 69621) % 2147483647)) (ev_c2 (ev_c2 rfl (ev_c2 (ev_c2 rfl rfl (div_pos (by decide) (by decide))) rfl rfl) (small_mul (.inl (small_of g0.1 g0.2)))) rfl (mod_pos (by decide))))]
    generalize hh : g * (g / 1009 + 69621) % 2147483647 = m
    have m0 : 0 ≤ m ∧ m < 2147483647 := by rw [← hh]; exact ⟨Int.emod_nonneg _ (by decide), Int.emod_lt_of_pos _ (by decide)⟩
    rw [ev_ret (d := .int (m * (m / 2003 + 40692) % 2147483399 % b)) (ev_c2 (ev_c2 (ev_c2 rfl (ev_c2 (ev_c2 rfl rfl (div_pos (by decide) (by decide))) rfl rfl) (small_mul (.inl (small_of m0.1 m0.2)))) rfl (mod_pos (by decide))) rfl (mod_pos h0))]
    exact ⟨_, [.int q, .int r, .int (n + 1)], _, rfl, rfl, Int.emod_nonneg _ (by omega), Int.emod_lt_of_pos _ h0, .inr ⟨_, _, _, rfl⟩⟩
theorem digit_ok {es : List L4.D} {b : Int} (h : DStD es) (h0 : 0 < b) (h1 : b < 1073741824) : ∃ d es', f__law_digit es [.int b] = some (.int d, es') ∧ 0 ≤ d ∧ d < b ∧ DStD es' := by
  rcases h with ⟨c, rfl⟩ | ⟨q, r, n, rfl⟩
  · obtain ⟨d, es', ρ, e, p, q1, q2, q3⟩ := digit_rest (q := c * (if decide ((10 : Int) ^ (18 : Int).toNat ≤ c) = true then 1 else 0)) (r := c % 2147483647) (n := 0) (s2 := .im (.int c)) h0 h1
    refine ⟨d, es', fnM_rt rfl ?_ p, q1, q2, q3⟩
    unfold b__law_digit
    rw [ev_seq (ρ' := [.pm [.int (c * (if decide ((10 : Int) ^ (18 : Int).toNat ≤ c) = true then 1 else 0)), .int (c % 2147483647), .int 0], .im (.int b), .im (.int c), .un, .un])]
    · exact e
    · show sIf _ _ _ [.pm [.int c], .im (.int b), .un, .un, .un] = _
      rw [ev_if_t (ρ' := [.pm [.int c], .im (.int b), .un, .un, .un]) rfl, ev_seq (show _ = some (Out.nx [.pm [.int c], .im (.int b), .im (.int c), .un, .un]) from rfl)]
      rw [ev_seq (ev_ixset (k := 0) (ds := [.int c]) (ev_c2 rfl rfl (small_mul (.inr (by split <;> decide)))) rfl rfl)]
      rfl
  · obtain ⟨d, es', ρ, e, p, q1, q2, q3⟩ := digit_rest (q := q) (r := r) (n := n) (s2 := .un) h0 h1
    refine ⟨d, es', fnM_rt rfl ?_ p, q1, q2, q3⟩
    unfold b__law_digit
    rw [ev_seq (ρ' := [.pm [.int q, .int r, .int n], .im (.int b), .un, .un, .un])]
    · exact e
    · show sIf _ _ _ [.pm [.int q, .int r, .int n], .im (.int b), .un, .un, .un] = _
      rw [ev_if_f (ρ' := [.pm [.int q, .int r, .int n], .im (.int b), .un, .un, .un]) rfl]
      rfl
end K33

set_option Elab.async false
set_option linter.all false
set_option maxRecDepth 100000
set_option maxHeartbeats 4000000
namespace K33
open PySem L2 L3 L4
abbrev W := Str × Str × Str × Option Str
def mD : Option Str → L4.D
  | none => .non
  | some k => .str k
def wD (x : W) : L4.D := .tup [.str x.1, .str x.2.1, .str x.2.2.1, mD x.2.2.2]
def testsW (y : Str) : W → List L4.D
  | (r, w, g, none) => [.obj 0 ["term", "place"] [.str y, .str r], .obj 4 ["word"] [.str w]]
  | (r, w, g, some k) => [.obj 0 ["term", "place"] [.str y, .str r], .obj 4 ["word"] [.str w], .obj 5 ["inner"] [.obj 2 ["term", "value"] [.str k, .int 0]]]
def ruleD (v : Str) (ts ds : List L4.D) (t : Str) (b : Bool) : L4.D := .obj 9 ["verb", "tests", "deeds", "text", "refuses"] [.str v, .lst ts, .lst ds, .str t, .bl b]
def ruleW (y : Str) (x : W) : L4.D := ruleD "go" (testsW y x) [.obj 6 ["term", "place"] [.str y, .str x.2.2.1]] "You go." false
def toldT (y : Str) : W → List L4.D
  | (r, w, g, none) => [.tup [.str "at", .str y, .str r], .tup [.str "word", .str w]]
  | (r, w, g, some k) => [.tup [.str "at", .str y, .str r], .tup [.str "word", .str w], .tup [.str "not", .tup [.str "marked", .str k, .int 0]]]
def tupR (v : Str) (ts ds : List L4.D) (t : Str) (b : Bool) : L4.D := .tup [.str v, .lst ts, .lst ds, .str t, .bl b]
def toldW (y : Str) (x : W) : L4.D := tupR "go" (toldT y x) [.tup [.str "move", .str y, .str x.2.2.1]] "You go." false
theorem way_tests_eq (y : Str) (x : W) : f_way_tests [.str y, wD x] = some (testsW y x) := by
  obtain ⟨r, w, g, m⟩ := x
  cases m with
  | none => kernel_rfl
  | some k => kernel_rfl
theorem does_eq (v t : Str) (ts ds : List L4.D) : f_does [.str v, .lst ts, .lst ds, .str t] = some (ruleD v ts ds t false) := by kernel_rfl
theorem go_step (y : Str) (x : W) (ws : L4.D) : ∃ ρ3, (cCall f_does (aCons (cC (L4.D.str "go")) (aCons (cL (cCallN f_way_tests (aCons (cV 1) (aCons (cV 0) aNil)))) (aCons (cL (cLst (aCons (cMake 6 (fun ds => f_Move_init (ds ++ [])) (aCons (cV 1) (aCons (c2 dIx (cV 0) (cC (L4.D.int 2))) aNil))) aNil))) (aCons (cC (L4.D.str "You go.")) aNil))))) [.im (wD x), .im (.str y)] = some (ruleW y x, ρ3) ∧ unCap [0] (ρ3.drop 1) [.im (.str y), .im ws, .un] = some [.im (.str y), .im ws, .un] := by
  refine ⟨[.im (wD x), .im (.str y)], ?_, rfl⟩
  refine ev_call (ev_cons rfl (ev_cons (ev_L (ev_call (g := f_way_tests) rfl (way_tests_eq y x))) (ev_cons (ρ1 := [.im (wD x), .im (.str y)]) (d := .lst [.obj 6 ["term", "place"] [.str y, .str x.2.2.1]]) (by kernel_rfl) (ev_cons rfl rfl)))) (does_eq _ _ _ _)
theorem go_rules_eq (y : Str) (ws : List W) (hl : ws.length ≤ 10) : f_go_rules [.str y, .lst (ws.map wD)] = some (ws.map (ruleW y) ++ [ruleD "go" [] [] "No way there." true]) := by
  refine fnN_rn (ρ := [.im (.str y), .im (.lst (ws.map wD)), .im (.lst (ws.map (ruleW y)))]) rfl ?_
  unfold b_go_rules
  have e : compL 1 [0] (gN 0) tYes (cCall f_does (aCons (cC (L4.D.str "go")) (aCons (cL (cCallN f_way_tests (aCons (cV 1) (aCons (cV 0) aNil)))) (aCons (cL (cLst (aCons (cMake 6 (fun ds => f_Move_init (ds ++ [])) (aCons (cV 1) (aCons (c2 dIx (cV 0) (cC (L4.D.int 2))) aNil))) aNil))) (aCons (cC (L4.D.str "You go.")) aNil))))) (ws.map wD) [.im (.str y), .im (.lst (ws.map wD)), .un] = some (ws.map (ruleW y), [.im (.str y), .im (.lst (ws.map wD)), .un]) := by
    have gen : ∀ (vs : List W), compL 1 [0] (gN 0) tYes (cCall f_does (aCons (cC (L4.D.str "go")) (aCons (cL (cCallN f_way_tests (aCons (cV 1) (aCons (cV 0) aNil)))) (aCons (cL (cLst (aCons (cMake 6 (fun ds => f_Move_init (ds ++ [])) (aCons (cV 1) (aCons (c2 dIx (cV 0) (cC (L4.D.int 2))) aNil))) aNil))) (aCons (cC (L4.D.str "You go.")) aNil))))) (vs.map wD) [.im (.str y), .im (.lst (ws.map wD)), .un] = some (vs.map (ruleW y), [.im (.str y), .im (.lst (ws.map wD)), .un]) := by
      intro vs
      induction vs with
      | nil => rfl
      | cons v vs ih =>
        obtain ⟨ρ3, h1, h2⟩ := go_step y v (.lst (ws.map wD))
        rw [List.map_cons]
        unfold compL
        rw [show gN 0 (wD v) (capR 1 [0] [.im (.str y), .im (.lst (ws.map wD)), .un]) = some [.im (wD v), .im (.str y)] from rfl]
        simp only [tYes]
        rw [h1]
        simp only
        rw [h2]
        simp only
        rw [ih]
        rfl
    exact gen ws
  rw [ev_seq (ev_set (ev_L ((ev_comp (ds := ws.map wD) (ρ1 := [.im (.str y), .im (.lst (ws.map wD)), .un]) rfl (by rw [List.length_map]; omega)).trans e)))]
  exact ev_retN (ev_cat (xs := ws.map (ruleW y)) (ys := [ruleD "go" [] [] "No way there." true]) rfl (by kernel_rfl) (by rw [List.length_map]; simp; omega))
/-! ### the rules and what is told of them, side by side -/
structure RT where
  v : Str
  ts : List L4.D
  tts : List L4.D
  ds : List L4.D
  tds : List L4.D
  t : Str
  b : Bool
def RT.r (x : RT) : L4.D := ruleD x.v x.ts x.ds x.t x.b
def RT.td (x : RT) : L4.D := tupR x.v x.tts x.tds x.t x.b
def TellOk (ts tts : List L4.D) : Prop := ts.length ≤ 1000 ∧ ∀ ρ, compL 1 [] (gN 0) tYes (cMeth m_told1 "told" (cV 0) aNil) ts ρ = some (tts, ρ)
def RT.ok (x : RT) : Prop := TellOk x.ts x.tts ∧ TellOk x.ds x.tds
def kindT (x k : Str) : L4.D := .obj 3 ["term", "kind"] [.str x, .str k]
def hasT (x : Str) : L4.D := .obj 1 ["term"] [.str x]
def markT (x : Str) (n : Int) : L4.D := .obj 2 ["term", "value"] [.str x, .int n]
def notT (d : L4.D) : L4.D := .obj 5 ["inner"] [d]
def moveT (x p : Str) : L4.D := .obj 6 ["term", "place"] [.str x, .str p]
def putT (x : Str) (n : Int) : L4.D := .obj 7 ["term", "value"] [.str x, .int n]
def s1 (a b : Str) : L4.D := .tup [.str a, .str b]
def s3 (a b c : Str) : L4.D := .tup [.str a, .str b, .str c]
def sn (a b : Str) (n : Int) : L4.D := .tup [.str a, .str b, .int n]
def no2 (d : L4.D) : L4.D := .tup [.str "not", d]
def handR (y : Str) : List RT := [⟨"take", [kindT "it" "fixed"], [s3 "kind" "it" "fixed"], [], [], "That stays.", true⟩, ⟨"take", [.obj 0 ["term", "place"] [.str "it", .str y]], [s3 "at" "it" y], [], [], "You have that.", true⟩,
  ⟨"take", [], [], [moveT "it" y], [s3 "move" "it" y], "Taken.", false⟩, ⟨"drop", [hasT "it"], [s1 "has" "it"], [moveT "it" "here"], [s3 "move" "it" "here"], "Dropped.", false⟩, ⟨"drop", [], [], [], [], "You lack that.", true⟩]
def putR : List RT := [⟨"put", [notT (hasT "it")], [no2 (s1 "has" "it")], [], [], "You lack that.", true⟩, ⟨"put", [notT (kindT "other" "box")], [no2 (s3 "kind" "other" "box")], [], [], "It holds nothing.", true⟩,
  ⟨"put", [markT "other" 0], [sn "marked" "other" 0], [], [], "It is shut.", true⟩, ⟨"put", [], [], [moveT "it" "other"], [s3 "move" "it" "other"], "Done.", false⟩]
def turnR (v k : Str) (n : Int) (a b c : Str) : List RT := [⟨v, [notT (kindT "it" k)], [no2 (s3 "kind" "it" k)], [], [], a, true⟩, ⟨v, [markT "it" n], [sn "marked" "it" n], [], [], b, true⟩, ⟨v, [], [], [putT "it" n], [sn "put" "it" n], c, false⟩]
def lidR : List RT := turnR "open" "box" 1 "It has no lid." "It is open." "Opened." ++ turnR "shut" "box" 0 "It has no lid." "It is shut." "Shut."
def flameR : List RT := turnR "light" "lamp" 1 "It burns not." "It is lit." "Lit." ++ turnR "douse" "lamp" 0 "It burns not." "It is out." "Doused."
def wayR (y : Str) (x : W) : RT := ⟨"go", testsW y x, toldT y x, [.obj 6 ["term", "place"] [.str y, .str x.2.2.1]], [.tup [.str "move", .str y, .str x.2.2.1]], "You go.", false⟩
def nowayR : RT := ⟨"go", [], [], [], [], "No way there.", true⟩
def waitR : RT := ⟨"wait", [], [], [], [], "Time goes by.", false⟩
def fixR (y : Str) : List RT := handR y ++ putR ++ lidR ++ flameR
def allR (y : Str) (ws : List W) : List RT := fixR y ++ ws.map (wayR y) ++ [nowayR] ++ [waitR]
theorem hand_eq (y : Str) : f_hand_rules [.str y] = some ((handR y).map RT.r) := by kernel_rfl
theorem put_eq : f_put_rules [] = some (putR.map RT.r) := by kernel_rfl
theorem lid_eq : f_lid_rules [] = some (lidR.map RT.r) := by kernel_rfl
theorem flame_eq : f_flame_rules [] = some (flameR.map RT.r) := by kernel_rfl
theorem wait_eq : f_wait_rules [] = some [waitR.r] := by kernel_rfl
theorem common_rules_eq (y : Str) (ws : List W) (hl : ws.length ≤ 10) : f_common_rules [.str y, .lst (ws.map wD)] = some ((allR y ws).map RT.r) := by
  refine fnN_rn (ρ := [.im (.str y), .im (.lst (ws.map wD))]) rfl ?_
  have hm : (allR y ws).map RT.r = (((((handR y).map RT.r ++ putR.map RT.r) ++ lidR.map RT.r) ++ flameR.map RT.r) ++ (ws.map (ruleW y) ++ [ruleD "go" [] [] "No way there." true])) ++ [waitR.r] := by
    unfold allR fixR
    simp only [List.map_append, List.map_map, List.append_assoc]
    rfl
  rw [hm]
  unfold b_common_rules
  refine ev_retN (ev_cat (ev_L (ev_cat (ev_L (ev_cat (ev_L (ev_cat (ev_L (ev_cat (ev_L (ev_call rfl (hand_eq y))) (ev_L (ev_call rfl put_eq)) (show (9 : Nat) ≤ 1000 by decide))) (ev_L (ev_call rfl lid_eq)) (show (15 : Nat) ≤ 1000 by decide))) (ev_L (ev_call rfl flame_eq)) (show (21 : Nat) ≤ 1000 by decide))) (ev_L (ev_call (ρ1 := [.im (.str y), .im (.lst (ws.map wD))]) rfl (go_rules_eq y ws hl))) ?_)) (ev_L (ev_call rfl wait_eq)) ?_)
  · have e : ((((handR y).map RT.r ++ putR.map RT.r) ++ lidR.map RT.r) ++ flameR.map RT.r).length = 21 := rfl
    rw [e, List.length_append, List.length_map]
    simp only [List.length_cons, List.length_nil]
    omega
  · rw [List.length_append]
    have e : ((((handR y).map RT.r ++ putR.map RT.r) ++ lidR.map RT.r) ++ flameR.map RT.r).length = 21 := rfl
    rw [e, List.length_append, List.length_map]
    simp only [List.length_cons, List.length_nil]
    omega
end K33

set_option Elab.async false
set_option linter.all false
set_option maxRecDepth 100000
set_option maxHeartbeats 4000000
namespace K33
open PySem L2 L3 L4
/-! ### told -/
theorem told_step {x : RT} (h : x.ok) {R s2 s3 : Sl} {acc : List L4.D} (hl : acc.length < 1000) : ∃ t3, (sSeq (sSet 3 (cL (cComp 1 [] (iL (c1 (dFld okf_tests "tests") (cV 2))) (gN 0) tYes (cMeth m_told1 "told" (cV 0) aNil))))
  (sExpr (cApp 1 (cTup (aCons (c1 (dFld okf_verb "verb") (cV 2)) (aCons (cV 3) (aCons (cL (cComp 1 [] (iL (c1 (dFld okf_deeds "deeds") (cV 2))) (gN 0) tYes (cMeth m_told1 "told" (cV 0) aNil))) (aCons (c1 (dFld okf_text "text") (cV 2)) (aCons (c1 (dFld okf_refuses "refuses") (cV 2)) aNil))))))))) [R, .ls acc, .im x.r, s3] = some (.nx [R, .ls (acc ++ [x.td]), .im x.r, t3]) := by
  obtain ⟨v, ts, tts, ds, tds, t, b⟩ := x
  obtain ⟨⟨l1, e1⟩, l2, e2⟩ := h
  refine ⟨.im (.lst tts), ?_⟩
  rw [ev_seq (ev_set (ev_L ((ev_comp (ds := ts) (ρ1 := [R, .ls acc, .im (ruleD v ts ds t b), s3]) (by kernel_rfl) l1).trans (e1 _))))]
  refine ev_expr (ev_app (es := acc) rfl (ev_tup (ds := [.str v, .lst tts, .lst tds, .str t, .bl b]) (ρ1 := [R, .ls acc, .im (ruleD v ts ds t b), .im (.lst tts)]) (ev_cons (ρ1 := [R, .ls acc, .im (ruleD v ts ds t b), .im (.lst tts)]) (by kernel_rfl) (ev_cons (ρ1 := [R, .ls acc, .im (ruleD v ts ds t b), .im (.lst tts)]) rfl (ev_cons (ev_L ((ev_comp (ds := ds) (ρ1 := [R, .ls acc, .im (ruleD v ts ds t b), .im (.lst tts)]) (by kernel_rfl) l2).trans (e2 _))) (ev_cons (ρ1 := [R, .ls acc, .im (ruleD v ts ds t b), .im (.lst tts)]) (by kernel_rfl) (ev_cons (ρ1 := [R, .ls acc, .im (ruleD v ts ds t b), .im (.lst tts)]) (by kernel_rfl) rfl))))) (show (5 : Nat) ≤ 1000 by decide)) rfl hl)
theorem told_eq (rs : List RT) (h : ∀ x ∈ rs, x.ok) (hl : rs.length ≤ 900) : f__law_told [.lst (rs.map RT.r)] = some (rs.map RT.td) := by
  have gen : ∀ (vs : List RT) (acc : List L4.D) (s2 s3 : Sl), (∀ x ∈ vs, x.ok) → acc.length + vs.length < 1000 → ∃ t2 t3, forL (gN 2) (sSeq (sSet 3 (cL (cComp 1 [] (iL (c1 (dFld okf_tests "tests") (cV 2))) (gN 0) tYes (cMeth m_told1 "told" (cV 0) aNil))))
      (sExpr (cApp 1 (cTup (aCons (c1 (dFld okf_verb "verb") (cV 2)) (aCons (cV 3) (aCons (cL (cComp 1 [] (iL (c1 (dFld okf_deeds "deeds") (cV 2))) (gN 0) tYes (cMeth m_told1 "told" (cV 0) aNil))) (aCons (c1 (dFld okf_text "text") (cV 2)) (aCons (c1 (dFld okf_refuses "refuses") (cV 2)) aNil))))))))) (vs.map RT.r) [.im (.lst (rs.map RT.r)), .ls acc, s2, s3] = some (.nx [.im (.lst (rs.map RT.r)), .ls (acc ++ vs.map RT.td), t2, t3]) := by
    intro vs
    induction vs with
    | nil => intro acc s2 s3 _ _; exact ⟨s2, s3, by rw [List.map_nil, List.map_nil, List.append_nil]; rfl⟩
    | cons x vs ih =>
      intro acc s2 s3 hx hl
      rw [List.length_cons] at hl
      obtain ⟨t3, e⟩ := told_step (x := x) (R := .im (.lst (rs.map RT.r))) (s2 := s2) (s3 := s3) (hx x List.mem_cons_self) (acc := acc) (by omega)
      obtain ⟨u2, u3, e2⟩ := ih (acc ++ [x.td]) (.im x.r) t3 (fun z hz => hx z (List.mem_cons_of_mem _ hz)) (by rw [List.length_append, List.length_singleton]; omega)
      refine ⟨u2, u3, ?_⟩
      rw [List.map_cons]
      unfold forL
      rw [show gN 2 x.r [.im (.lst (rs.map RT.r)), .ls acc, s2, s3] = some [.im (.lst (rs.map RT.r)), .ls acc, .im x.r, s3] from rfl]
      simp only [e]
      rw [e2, List.map_cons, List.append_assoc]
      rfl
  obtain ⟨t2, t3, e⟩ := gen rs [] .un .un h (by rw [List.length_nil]; omega)
  refine fnN_rn (ρ := [.im (.lst (rs.map RT.r)), .un, t2, t3]) rfl ?_
  unfold b__law_told
  rw [ev_seq (show _ = some (Out.nx [.im (.lst (rs.map RT.r)), .ls [], .un, .un]) from rfl), ev_seq ((ev_for (ds := rs.map RT.r) (ρ1 := [.im (.lst (rs.map RT.r)), .ls [], .un, .un]) rfl).trans e)]
  rw [List.nil_append]
  rfl
theorem tell_nil : TellOk [] [] := ⟨by decide, fun ρ => rfl⟩
theorem ways_tell (y : Str) (x : W) : (wayR y x).ok := by
  obtain ⟨r, w, g, m⟩ := x
  cases m with
  | none => exact ⟨⟨by show 2 ≤ 1000; decide, fun ρ => by kernel_rfl⟩, by show 1 ≤ 1000; decide, fun ρ => by kernel_rfl⟩
  | some k => exact ⟨⟨by show 3 ≤ 1000; decide, fun ρ => by kernel_rfl⟩, by show 1 ≤ 1000; decide, fun ρ => by kernel_rfl⟩
theorem turn_tell (v k : Str) (n : Int) (a b c : Str) : ∀ x ∈ turnR v k n a b c, x.ok := by
  intro x hx
  simp only [turnR, List.mem_cons, List.not_mem_nil, or_false] at hx
  rcases hx with rfl | rfl | rfl
  · exact ⟨⟨by show 1 ≤ 1000; decide, fun ρ => by kernel_rfl⟩, tell_nil⟩
  · exact ⟨⟨by show 1 ≤ 1000; decide, fun ρ => by kernel_rfl⟩, tell_nil⟩
  · exact ⟨tell_nil, by show 1 ≤ 1000; decide, fun ρ => by kernel_rfl⟩
theorem hand_tell (y : Str) : ∀ x ∈ handR y, x.ok := by
  intro x hx
  simp only [handR, List.mem_cons, List.not_mem_nil, or_false] at hx
  rcases hx with rfl | rfl | rfl | rfl | rfl
  · exact ⟨⟨by show 1 ≤ 1000; decide, fun ρ => by kernel_rfl⟩, tell_nil⟩
  · exact ⟨⟨by show 1 ≤ 1000; decide, fun ρ => by kernel_rfl⟩, tell_nil⟩
  · exact ⟨tell_nil, by show 1 ≤ 1000; decide, fun ρ => by kernel_rfl⟩
  · exact ⟨⟨by show 1 ≤ 1000; decide, fun ρ => by kernel_rfl⟩, by show 1 ≤ 1000; decide, fun ρ => by kernel_rfl⟩
  · exact ⟨tell_nil, tell_nil⟩
theorem put_tell : ∀ x ∈ putR, x.ok := by
  intro x hx
  simp only [putR, List.mem_cons, List.not_mem_nil, or_false] at hx
  rcases hx with rfl | rfl | rfl | rfl
  · exact ⟨⟨by show 1 ≤ 1000; decide, fun ρ => by kernel_rfl⟩, tell_nil⟩
  · exact ⟨⟨by show 1 ≤ 1000; decide, fun ρ => by kernel_rfl⟩, tell_nil⟩
  · exact ⟨⟨by show 1 ≤ 1000; decide, fun ρ => by kernel_rfl⟩, tell_nil⟩
  · exact ⟨tell_nil, by show 1 ≤ 1000; decide, fun ρ => by kernel_rfl⟩
theorem all_tell (y : Str) (ws : List W) : ∀ x ∈ allR y ws, x.ok := by
  intro x hx
  simp only [allR, fixR, lidR, flameR, List.mem_append, List.mem_map, List.mem_singleton] at hx
  rcases hx with ((((((h | h) | h | h) | h | h) | ⟨z, _, rfl⟩) | rfl) | rfl)
  · exact hand_tell y x h
  · exact put_tell x h
  · exact turn_tell _ _ _ _ _ _ x h
  · exact turn_tell _ _ _ _ _ _ x h
  · exact turn_tell _ _ _ _ _ _ x h
  · exact turn_tell _ _ _ _ _ _ x h
  · exact ways_tell y z
  · exact ⟨tell_nil, tell_nil⟩
  · exact ⟨tell_nil, tell_nil⟩
end K33

set_option Elab.async false
set_option linter.all false
set_option maxRecDepth 100000
set_option maxHeartbeats 4000000
namespace K33
open PySem L2 L3 L4
/-! ### what is due -/
def bodyDue : FS := (sSeq (sSetN 7 (cLst (aCons (cTup (aCons (cC (L4.D.str "at")) (aCons (cV 0) (aCons (cV 3) aNil)))) (aCons (cTup (aCons (cC (L4.D.str "word")) (aCons (cV 4) aNil))) aNil))))
  (sSeq (sIf (cT (c2 dNotN (cV 6) (cC L4.D.non))) (sExpr (cApp 7 (cTup (aCons (cC (L4.D.str "not")) (aCons (cTup (aCons (cC (L4.D.str "marked")) (aCons (cV 6) (aCons (cC (L4.D.int 0)) aNil)))) aNil))))) sNext)
  (sExpr (cApp 2 (cTup (aCons (cC (L4.D.str "go")) (aCons (cFz 7) (aCons (cL (cLst (aCons (cTup (aCons (cC (L4.D.str "move")) (aCons (cV 0) (aCons (cV 5) aNil)))) aNil))) (aCons (cC (L4.D.str "You go.")) (aCons (cC (L4.D.bl false)) aNil))))))))))
def targDue : FG := (gT (gsCons (gN 3) (gsCons (gN 4) (gsCons (gN 5) (gsCons (gN 6) gsNil)))) 4)
def endDue : FS := (sSeq (sExpr (cApp 2 (cTup (aCons (cC (L4.D.str "go")) (aCons (cL (cLst aNil)) (aCons (cL (cLst aNil)) (aCons (cC (L4.D.str "No way there.")) (aCons (cC (L4.D.bl true)) aNil))))))))
  (sRetN (cCat (cFz 2) (cL (cLst (aCons (cTup (aCons (cC (L4.D.str "wait")) (aCons (cL (cLst aNil)) (aCons (cL (cLst aNil)) (aCons (cC (L4.D.str "Time goes by.")) (aCons (cC (L4.D.bl false)) aNil)))))) aNil))))))
theorem due_step (y : Str) (x : W) {Wd s3 s4 s5 s6 s7 : Sl} {acc : List L4.D} (hl : acc.length < 1000) : ∃ ρ1 t3 t4 t5 t6 t7, targDue (wD x) [.im (.str y), Wd, .ls acc, s3, s4, s5, s6, s7] = some ρ1 ∧ bodyDue ρ1 = some (.nx [.im (.str y), Wd, .ls (acc ++ [toldW y x]), t3, t4, t5, t6, t7]) := by
  obtain ⟨r, w, g, m⟩ := x
  cases m with
  | none =>
    refine ⟨[.im (.str y), Wd, .ls acc, .im (.str r), .im (.str w), .im (.str g), .im .non, s7], .im (.str r), .im (.str w), .im (.str g), .im .non, .im (.lst (toldT y (r, w, g, none))), rfl, ?_⟩
    unfold bodyDue
    rw [ev_seq (show _ = some (Out.nx [.im (.str y), Wd, .ls acc, .im (.str r), .im (.str w), .im (.str g), .im .non, .ls (toldT y (r, w, g, none))]) from by kernel_rfl)]
    rw [ev_seq (show _ = some (Out.nx [.im (.str y), Wd, .ls acc, .im (.str r), .im (.str w), .im (.str g), .im .non, .ls (toldT y (r, w, g, none))]) from by kernel_rfl)]
    exact ev_expr (ev_app (es := acc) (ρ1 := [.im (.str y), Wd, .ls acc, .im (.str r), .im (.str w), .im (.str g), .im .non, .im (.lst (toldT y (r, w, g, none)))]) (d := toldW y (r, w, g, none)) rfl (by kernel_rfl) rfl hl)
  | some k =>
    refine ⟨[.im (.str y), Wd, .ls acc, .im (.str r), .im (.str w), .im (.str g), .im (.str k), s7], .im (.str r), .im (.str w), .im (.str g), .im (.str k), .im (.lst (toldT y (r, w, g, some k))), rfl, ?_⟩
    unfold bodyDue
    rw [ev_seq (show _ = some (Out.nx [.im (.str y), Wd, .ls acc, .im (.str r), .im (.str w), .im (.str g), .im (.str k), .ls (toldT y (r, w, g, none))]) from by kernel_rfl)]
    rw [ev_seq (show _ = some (Out.nx [.im (.str y), Wd, .ls acc, .im (.str r), .im (.str w), .im (.str g), .im (.str k), .ls (toldT y (r, w, g, some k))]) from by kernel_rfl)]
    exact ev_expr (ev_app (es := acc) (ρ1 := [.im (.str y), Wd, .ls acc, .im (.str r), .im (.str w), .im (.str g), .im (.str k), .im (.lst (toldT y (r, w, g, some k)))]) (d := toldW y (r, w, g, some k)) rfl (by kernel_rfl) rfl hl)
theorem due_eq (y : Str) (ws : List W) (hl : ws.length ≤ 10) : f__law_due [.str y, .lst (ws.map wD)] = some ((allR y ws).map RT.td) := by
  have gen : ∀ (vs : List W) (acc : List L4.D) (s3 s4 s5 s6 s7 : Sl), acc.length + vs.length < 1000 → ∃ t3 t4 t5 t6 t7, forL targDue bodyDue (vs.map wD) [.im (.str y), .im (.lst (ws.map wD)), .ls acc, s3, s4, s5, s6, s7] = some (.nx [.im (.str y), .im (.lst (ws.map wD)), .ls (acc ++ vs.map (toldW y)), t3, t4, t5, t6, t7]) := by
    intro vs
    induction vs with
    | nil => intro acc s3 s4 s5 s6 s7 _; exact ⟨s3, s4, s5, s6, s7, by rw [List.map_nil, List.map_nil, List.append_nil]; rfl⟩
    | cons x vs ih =>
      intro acc s3 s4 s5 s6 s7 hl
      rw [List.length_cons] at hl
      obtain ⟨ρ1, t3, t4, t5, t6, t7, e1, e2⟩ := due_step y x (Wd := .im (.lst (ws.map wD))) (s3 := s3) (s4 := s4) (s5 := s5) (s6 := s6) (s7 := s7) (acc := acc) (by omega)
      obtain ⟨u3, u4, u5, u6, u7, e3⟩ := ih (acc ++ [toldW y x]) t3 t4 t5 t6 t7 (by rw [List.length_append, List.length_singleton]; omega)
      refine ⟨u3, u4, u5, u6, u7, ?_⟩
      rw [List.map_cons]
      unfold forL
      rw [e1]
      simp only [e2]
      rw [e3, List.map_cons, List.append_assoc]
      rfl
  have e0 : b__law_due [.im (.str y), .im (.lst (ws.map wD)), .un, .un, .un, .un, .un, .un] = (sSeq (sFor (iL (cV 1)) targDue bodyDue) endDue) [.im (.str y), .im (.lst (ws.map wD)), .ls ((fixR y).map RT.td), .un, .un, .un, .un, .un] := by kernel_rfl
  have l21 : ((fixR y).map RT.td).length = 21 := rfl
  obtain ⟨t3, t4, t5, t6, t7, e⟩ := gen ws ((fixR y).map RT.td) .un .un .un .un .un (by rw [l21]; omega)
  have hm : (allR y ws).map RT.td = (((fixR y).map RT.td ++ ws.map (toldW y)) ++ [nowayR.td]) ++ [waitR.td] := by
    unfold allR
    simp only [List.map_append, List.map_map, List.append_assoc]
    rfl
  rw [hm]
  have l2 : ((fixR y).map RT.td ++ ws.map (toldW y)).length ≤ 31 := by rw [List.length_append, l21, List.length_map]; omega
  generalize hA : (fixR y).map RT.td ++ ws.map (toldW y) = acc at *
  refine fnN_rn (ρ := [.im (.str y), .im (.lst (ws.map wD)), .im (.lst (acc ++ [nowayR.td])), t3, t4, t5, t6, t7]) rfl ?_
  show b__law_due [.im (.str y), .im (.lst (ws.map wD)), .un, .un, .un, .un, .un, .un] = _
  rw [e0, ev_seq ((ev_for (ds := ws.map wD) (ρ1 := [.im (.str y), .im (.lst (ws.map wD)), .ls ((fixR y).map RT.td), .un, .un, .un, .un, .un]) rfl).trans e)]
  unfold endDue
  rw [ev_seq (ev_expr (ev_app (es := acc) (ρ1 := [.im (.str y), .im (.lst (ws.map wD)), .ls acc, t3, t4, t5, t6, t7]) (d := nowayR.td) rfl rfl rfl (by omega)))]
  exact ev_retN (ev_cat (xs := acc ++ [nowayR.td]) (ρ1 := [.im (.str y), .im (.lst (ws.map wD)), .im (.lst (acc ++ [nowayR.td])), t3, t4, t5, t6, t7]) rfl rfl (by rw [List.length_append]; simp only [List.length_cons, List.length_nil]; omega))
end K33

set_option Elab.async false
set_option linter.all false
set_option maxRecDepth 100000
set_option maxHeartbeats 4000000
namespace K33
open PySem L2 L3 L4
/-! ### what is drawn -/
theorem digit_mut {i : Nat} {ρ : List Sl} {es : List L4.D} {b : Int} (h : lsAt ρ i = some es) (hs : DStD es) (h0 : 0 < b) (h1 : b < 1073741824) : ∃ d es', cMut f__law_digit i (aCons (cC (.int b)) aNil) ρ = some (.int d, putAt ρ i es') ∧ 0 ≤ d ∧ d < b ∧ DStD es' := by
  obtain ⟨d, es', e, q1, q2, q3⟩ := digit_ok hs h0 h1
  exact ⟨d, es', ev_mut h rfl h e, q1, q2, q3⟩
theorem rng_mem {lo : Int} {n : Nat} : (rngD lo n).length = n := by unfold rngD; simp
def signs : Str := "bcdefghijklm"
theorem signs_ok {d : Int} (h0 : 0 ≤ d) (h1 : d < 12) : ∃ c, dIx (.str signs) (.int d) = some (.str ⟨#[c]⟩) := by
  obtain ⟨n, rfl⟩ : ∃ n : Nat, d = n := ⟨d.toNat, by omega⟩
  have hn : n < 12 := by omega
  match n, hn with
  | 0, _ => exact ⟨98, by kernel_rfl⟩
  | 1, _ => exact ⟨99, by kernel_rfl⟩
  | 2, _ => exact ⟨100, by kernel_rfl⟩
  | 3, _ => exact ⟨101, by kernel_rfl⟩
  | 4, _ => exact ⟨102, by kernel_rfl⟩
  | 5, _ => exact ⟨103, by kernel_rfl⟩
  | 6, _ => exact ⟨104, by kernel_rfl⟩
  | 7, _ => exact ⟨105, by kernel_rfl⟩
  | 8, _ => exact ⟨106, by kernel_rfl⟩
  | 9, _ => exact ⟨107, by kernel_rfl⟩
  | 10, _ => exact ⟨108, by kernel_rfl⟩
  | 11, _ => exact ⟨109, by kernel_rfl⟩
theorem addS {x y : Str} (h : x.length + y.length ≤ 100000) : dAddS (.str x) (.str y) = some (.str (x ++ y)) := by unfold dAddS; simp only [h, if_true]
theorem name_ok {es : List L4.D} (hs : DStD es) : ∃ y es', f__law_name es [] = some (.str y, es') ∧ DStD es' := by
  obtain ⟨d, es1, e1, q1, q2, q3⟩ := digit_mut (i := 0) (ρ := [.pm es, .im (.str ""), .un]) (b := 8) rfl hs (by decide) (by decide)
  have hsrc : iR1 (c2 dAddI (cC (L4.D.int 1)) (cMut f__law_digit 0 (aCons (cC (L4.D.int 8)) aNil))) [.pm es, .im (.str ""), .un] = some (rngD 0 (1 + d).toNat, [.pm es1, .im (.str ""), .un]) := by
    unfold iR1
    rw [ev_c2 (x := .int 1) (ρ1 := [.pm es, .im (.str ""), .un]) rfl e1 (z := .int (1 + d)) rfl]
    simp only
    rw [if_pos (by omega)]
    rfl
  obtain ⟨ρ', e2, w, es2, s2, rfl, hw, hs2⟩ := forL_inv' (f := (sSet 1 (c2 dAddS (cV 1) (c2 dIx (cC (L4.D.str "bcdefghijklm")) (cMut f__law_digit 0 (aCons (cC (L4.D.int 12)) aNil)))))) (g := gN 2)
    (fun dn ρ => ∃ (w : Str) (es2 : List L4.D) (s2 : Sl), ρ = [.pm es2, .im (.str w), s2] ∧ w.length = dn.length ∧ DStD es2) (rngD 0 (1 + d).toNat) (rngD 0 (1 + d).toNat) [] [.pm es1, .im (.str ""), .un] rfl ⟨"", es1, .un, rfl, rfl, q3⟩ (by
      rintro dn x rest ρ hx ⟨w, es2, s2, rfl, hw, hs2⟩
      obtain ⟨c, es3, e3, r1, r2, r3⟩ := digit_mut (i := 0) (ρ := [.pm es2, .im (.str w), .im x]) (b := 12) rfl hs2 (by decide) (by decide)
      obtain ⟨u, hu⟩ := signs_ok r1 r2
      have hlen : w.length + 1 ≤ 100000 := by
        have q := congrArg List.length hx
        rw [List.length_append, List.length_cons, rng_mem] at q
        omega
      · refine ⟨[.pm es2, .im (.str w), .im x], [.pm es3, .im (.str (w ++ ⟨#[u]⟩)), .im x], rfl, ?_, w ++ ⟨#[u]⟩, es3, .im x, rfl, ?_, r3⟩
        · exact (ev_set (ev_c2 (x := .str w) (ρ1 := [.pm es2, .im (.str w), .im x]) rfl (ev_c2 (x := .str signs) (ρ1 := [.pm es2, .im (.str w), .im x]) rfl e3 hu) (addS (by show w.length + 1 ≤ 100000; exact hlen)))).trans rfl
        · rw [app_len, List.length_append, hw]; rfl)
  refine ⟨w, es2, fnM_rt (ρ := [.pm es2, .im (.str w), s2]) rfl ?_ rfl, hs2⟩
  show b__law_name [.pm es, .un, .un] = _
  unfold b__law_name
  rw [ev_seq (show _ = some (Out.nx [.pm es, .im (.str ""), .un]) from rfl), ev_seq ((ev_for hsrc).trans e2)]
  rfl
theorem ways_ok {es : List L4.D} (hs : DStD es) : ∃ (ws : List W) (es' : List L4.D), ws.length ≤ 10 ∧ f__law_ways es [] = some (.lst (ws.map wD), es') ∧ DStD es' := by
  obtain ⟨d, es1, e1, q1, q2, q3⟩ := digit_mut (i := 0) (ρ := [.pm es, .ls [], .un, .un]) (b := 11) rfl hs (by decide) (by decide)
  have hsrc : iR1 (cMut f__law_digit 0 (aCons (cC (L4.D.int 11)) aNil)) [.pm es, .ls [], .un, .un] = some (rngD 0 d.toNat, [.pm es1, .ls [], .un, .un]) := by
    unfold iR1
    rw [e1]
    simp only
    rw [if_pos (by omega)]
    rfl
  obtain ⟨ρ', e2, ws, es2, s2, s3, rfl, hw, hs2⟩ := forL_inv' (f := (sSeq (sSet 3 (c2 dIx (cL (cLst (aCons (cC L4.D.non) (aCons (cMut f__law_name 0 aNil) aNil)))) (cMut f__law_digit 0 (aCons (cC (L4.D.int 2)) aNil))))
      (sExpr (cApp 1 (cTup (aCons (cMut f__law_name 0 aNil) (aCons (cMut f__law_name 0 aNil) (aCons (cMut f__law_name 0 aNil) (aCons (cV 3) aNil))))))))) (g := gN 2)
    (fun dn ρ => ∃ (ws : List W) (es2 : List L4.D) (s2 s3 : Sl), ρ = [.pm es2, .ls (ws.map wD), s2, s3] ∧ ws.length = dn.length ∧ DStD es2) (rngD 0 d.toNat) (rngD 0 d.toNat) [] [.pm es1, .ls [], .un, .un] rfl ⟨[], es1, .un, .un, rfl, rfl, q3⟩ (by
      rintro dn x rest ρ hx ⟨ws, es2, s2, s3, rfl, hw, hs2⟩
      have hlen : ws.length + 1 ≤ 10 := by
        have q := congrArg List.length hx
        rw [List.length_append, List.length_cons, rng_mem] at q
        omega
      obtain ⟨k, es3, n1, d3⟩ := name_ok hs2
      obtain ⟨c, es4, n2, c0, c1, d4⟩ := digit_mut (i := 0) (ρ := [.pm es3, .ls (ws.map wD), .im x, s3]) (b := 2) rfl d3 (by decide) (by decide)
      obtain ⟨m, hm⟩ : ∃ m : Option Str, dIx (.lst [.non, .str k]) (.int c) = some (mD m) := by
        rcases (show c = 0 ∨ c = 1 by omega) with rfl | rfl
        · exact ⟨none, rfl⟩
        · exact ⟨some k, rfl⟩
      obtain ⟨a, es5, n5, d5⟩ := name_ok d4
      obtain ⟨b, es6, n6, d6⟩ := name_ok d5
      obtain ⟨g, es7, n7, d7⟩ := name_ok d6
      refine ⟨[.pm es2, .ls (ws.map wD), .im x, s3], [.pm es7, .ls ((ws ++ [(a, b, g, m)]).map wD), .im x, .im (mD m)], rfl, ?_, ws ++ [(a, b, g, m)], es7, .im x, .im (mD m), rfl, by rw [List.length_append, List.length_append, hw]; rfl, d7⟩
      have st : sSet 3 (c2 dIx (cL (cLst (aCons (cC L4.D.non) (aCons (cMut f__law_name 0 aNil) aNil)))) (cMut f__law_digit 0 (aCons (cC (L4.D.int 2)) aNil))) [.pm es2, .ls (ws.map wD), .im x, s3] = some (.nx [.pm es4, .ls (ws.map wD), .im x, .im (mD m)]) :=
        (ev_set (ev_c2 (ev_L (ev_lst (ds := [.non, .str k]) (ev_cons (ρ1 := [.pm es2, .ls (ws.map wD), .im x, s3]) rfl (ev_cons (ev_mut (es0 := es2) (es := es2) (ρ1 := [.pm es2, .ls (ws.map wD), .im x, s3]) (ds := []) rfl rfl rfl n1) rfl)) (by show 2 ≤ 1000; decide))) n2 hm)).trans rfl
      rw [ev_seq st]
      have l1 : (ws.map wD).length < 1000 := by rw [List.length_map]; omega
      refine (ev_expr (ev_app (es0 := ws.map wD) (es := ws.map wD) (ρ1 := [.pm es7, .ls (ws.map wD), .im x, .im (mD m)]) (d := wD (a, b, g, m)) rfl (ev_tup (ds := [.str a, .str b, .str g, mD m])
        (ev_cons (ev_mut (es0 := es4) (es := es4) (ρ1 := [.pm es4, .ls (ws.map wD), .im x, .im (mD m)]) (ds := []) rfl rfl rfl n5)
        (ev_cons (ev_mut (es0 := es5) (es := es5) (ρ1 := [.pm es5, .ls (ws.map wD), .im x, .im (mD m)]) (ds := []) rfl rfl rfl n6)
        (ev_cons (ev_mut (es0 := es6) (es := es6) (ρ1 := [.pm es6, .ls (ws.map wD), .im x, .im (mD m)]) (ds := []) rfl rfl rfl n7) (ev_cons rfl rfl)))) (by show 4 ≤ 1000; decide)) rfl l1)).trans ?_
      rw [List.map_append]
      rfl)
  refine ⟨ws, es2, by rw [hw, rng_mem]; omega, fnM_rt (ρ := [.pm es2, .im (.lst (ws.map wD)), s2, s3]) rfl ?_ rfl, hs2⟩
  show b__law_ways [.pm es, .un, .un, .un] = _
  unfold b__law_ways
  rw [ev_seq (show _ = some (Out.nx [.pm es, .ls [], .un, .un]) from rfl), ev_seq ((ev_for hsrc).trans e2)]
  rfl
/-! ### == of what is told -/
def Pl (n : Nat) (d : L4.D) : Prop := ∃ x, toD d = some x ∧ dpt x ≤ n
theorem pl_list {n : Nat} : ∀ {ds : List L4.D}, (∀ d ∈ ds, Pl n d) → ∃ l, toDs ds = some l ∧ dpts l ≤ n
  | [], _ => ⟨[], by unfold toDs; rfl, by rw [dpts]; omega⟩
  | d :: ds, h => by
    obtain ⟨x, e1, e2⟩ := h d List.mem_cons_self
    obtain ⟨l, e3, e4⟩ := pl_list fun d' hd => h d' (List.mem_cons_of_mem _ hd)
    refine ⟨x :: l, ?_, ?_⟩
    · unfold toDs; rw [e1]; simp only [e3]
    · rw [dpts]; omega
theorem pl_tup {n : Nat} {ds : List L4.D} (h : ∀ d ∈ ds, Pl n d) : Pl (n + 1) (.tup ds) := by
  obtain ⟨l, e1, e2⟩ := pl_list h
  exact ⟨.tup l, by unfold toD; rw [e1], by rw [dpt]; omega⟩
theorem pl_lst {n : Nat} {ds : List L4.D} (h : ∀ d ∈ ds, Pl n d) : Pl (n + 1) (.lst ds) := by
  obtain ⟨l, e1, e2⟩ := pl_list h
  exact ⟨.lst l, by unfold toD; rw [e1], by rw [dpt]; omega⟩
theorem pl_str {n : Nat} (x : Str) : Pl n (.str x) := ⟨.str x, by unfold toD; rfl, by unfold dpt; omega⟩
theorem pl_int {n : Nat} (x : Int) : Pl n (.int x) := ⟨.int x, by unfold toD; rfl, by unfold dpt; omega⟩
theorem pl_bl {n : Nat} (x : Bool) : Pl n (.bl x) := ⟨.bl x, by unfold toD; rfl, by unfold dpt; omega⟩
theorem pl_non {n : Nat} : Pl n .non := ⟨.non, by unfold toD; rfl, by unfold dpt; omega⟩
theorem pl_w (x : W) : Pl 1 (wD x) := by
  refine pl_tup fun d hd => ?_
  simp only [List.mem_cons, List.not_mem_nil, or_false] at hd
  rcases hd with rfl | rfl | rfl | rfl
  · exact pl_str _
  · exact pl_str _
  · exact pl_str _
  · cases x.2.2.2 with
    | none => exact pl_non
    | some k => exact pl_str k
theorem pl_s3 (a b c : Str) : Pl 2 (s3 a b c) := pl_tup fun d hd => by
  simp only [List.mem_cons, List.not_mem_nil, or_false] at hd
  rcases hd with rfl | rfl | rfl <;> exact pl_str _
theorem pl_s1 (a b : Str) : Pl 2 (s1 a b) := pl_tup fun d hd => by
  simp only [List.mem_cons, List.not_mem_nil, or_false] at hd
  rcases hd with rfl | rfl <;> exact pl_str _
theorem pl_sn (a b : Str) (n : Int) : Pl 2 (sn a b n) := pl_tup fun d hd => by
  simp only [List.mem_cons, List.not_mem_nil, or_false] at hd
  rcases hd with rfl | rfl | rfl
  · exact pl_str _
  · exact pl_str _
  · exact pl_int _
theorem pl_up {n m : Nat} {d : L4.D} (h : Pl n d) (l : n ≤ m) : Pl m d := by obtain ⟨x, e1, e2⟩ := h; exact ⟨x, e1, by omega⟩
theorem pl_no2 {d : L4.D} (h : Pl 2 d) : Pl 3 (no2 d) := pl_tup fun x hd => by
  simp only [List.mem_cons, List.not_mem_nil, or_false] at hd
  rcases hd with rfl | rfl
  · exact pl_str _
  · exact h
/-- all that is told is plain -/
def RT.pl (x : RT) : Prop := (∀ d ∈ x.tts, Pl 3 d) ∧ ∀ d ∈ x.tds, Pl 3 d
theorem pl_td {x : RT} (h : x.pl) : Pl 5 x.td := by
  refine pl_tup fun d hd => ?_
  simp only [List.mem_cons, List.not_mem_nil, or_false] at hd
  rcases hd with rfl | rfl | rfl | rfl | rfl
  · exact pl_str _
  · exact pl_lst h.1
  · exact pl_lst h.2
  · exact pl_str _
  · exact pl_bl _
theorem pl_nil : ∀ d ∈ ([] : List L4.D), Pl 3 d := fun d hd => by cases hd
theorem pl_1 {x : L4.D} (h : Pl 3 x) : ∀ d ∈ [x], Pl 3 d := fun d hd => by
  have e : d = x := by simpa using hd
  subst e; exact h
theorem turn_pl (v k : Str) (n : Int) (a b c : Str) : ∀ x ∈ turnR v k n a b c, x.pl := by
  intro x hx
  simp only [turnR, List.mem_cons, List.not_mem_nil, or_false] at hx
  rcases hx with rfl | rfl | rfl
  · exact ⟨pl_1 (pl_no2 (pl_s3 _ _ _)), pl_nil⟩
  · exact ⟨pl_1 (pl_up (pl_sn _ _ _) (by decide)), pl_nil⟩
  · exact ⟨pl_nil, pl_1 (pl_up (pl_sn _ _ _) (by decide))⟩
theorem hand_pl (y : Str) : ∀ x ∈ handR y, x.pl := by
  intro x hx
  simp only [handR, List.mem_cons, List.not_mem_nil, or_false] at hx
  rcases hx with rfl | rfl | rfl | rfl | rfl
  · exact ⟨pl_1 (pl_up (pl_s3 _ _ _) (by decide)), pl_nil⟩
  · exact ⟨pl_1 (pl_up (pl_s3 _ _ _) (by decide)), pl_nil⟩
  · exact ⟨pl_nil, pl_1 (pl_up (pl_s3 _ _ _) (by decide))⟩
  · exact ⟨pl_1 (pl_up (pl_s1 _ _) (by decide)), pl_1 (pl_up (pl_s3 _ _ _) (by decide))⟩
  · exact ⟨pl_nil, pl_nil⟩
theorem put_pl : ∀ x ∈ putR, x.pl := by
  intro x hx
  simp only [putR, List.mem_cons, List.not_mem_nil, or_false] at hx
  rcases hx with rfl | rfl | rfl | rfl
  · exact ⟨pl_1 (pl_no2 (pl_s1 _ _)), pl_nil⟩
  · exact ⟨pl_1 (pl_no2 (pl_s3 _ _ _)), pl_nil⟩
  · exact ⟨pl_1 (pl_up (pl_sn _ _ _) (by decide)), pl_nil⟩
  · exact ⟨pl_nil, pl_1 (pl_up (pl_s3 _ _ _) (by decide))⟩
theorem way_pl (y : Str) (x : W) : (wayR y x).pl := by
  obtain ⟨r, w, g, m⟩ := x
  cases m with
  | none =>
    refine ⟨fun d hd => ?_, pl_1 (pl_up (pl_s3 _ _ _) (by decide))⟩
    simp only [wayR, toldT, List.mem_cons, List.not_mem_nil, or_false] at hd
    rcases hd with rfl | rfl
    · exact pl_up (pl_s3 _ _ _) (by decide)
    · exact pl_up (pl_s1 _ _) (by decide)
  | some k =>
    refine ⟨fun d hd => ?_, pl_1 (pl_up (pl_s3 _ _ _) (by decide))⟩
    simp only [wayR, toldT, List.mem_cons, List.not_mem_nil, or_false] at hd
    rcases hd with rfl | rfl | rfl
    · exact pl_up (pl_s3 _ _ _) (by decide)
    · exact pl_up (pl_s1 _ _) (by decide)
    · exact pl_no2 (pl_sn _ _ _)
theorem all_pl (y : Str) (ws : List W) : ∀ x ∈ allR y ws, x.pl := by
  intro x hx
  simp only [allR, fixR, lidR, flameR, List.mem_append, List.mem_map, List.mem_singleton] at hx
  rcases hx with ((((((h | h) | h | h) | h | h) | ⟨z, _, rfl⟩) | rfl) | rfl)
  · exact hand_pl y x h
  · exact put_pl x h
  · exact turn_pl _ _ _ _ _ _ x h
  · exact turn_pl _ _ _ _ _ _ x h
  · exact turn_pl _ _ _ _ _ _ x h
  · exact turn_pl _ _ _ _ _ _ x h
  · exact way_pl y z
  · exact ⟨pl_nil, pl_nil⟩
  · exact ⟨pl_nil, pl_nil⟩
theorem eq_all (y : Str) (ws : List W) : dEq true (.lst ((allR y ws).map RT.td)) (.lst ((allR y ws).map RT.td)) = some (.bl false) := by
  obtain ⟨l, e1, e2⟩ := pl_list (n := 5) (ds := (allR y ws).map RT.td) fun d hd => by
    obtain ⟨x, hx, rfl⟩ := List.mem_map.mp hd
    exact pl_td (all_pl y ws x hx)
  exact dEq_refl_lst (neg := true) e1 (by omega)
theorem eq_ws (ws : List W) : dEq true (.lst (ws.map wD)) (.lst (ws.map wD)) = some (.bl false) := by
  obtain ⟨l, e1, e2⟩ := pl_list (n := 1) (ds := ws.map wD) fun d hd => by
    obtain ⟨x, hx, rfl⟩ := List.mem_map.mp hd
    exact pl_w x
  exact dEq_refl_lst (neg := true) e1 (by omega)
end K33

set_option Elab.async false
set_option linter.all false
set_option maxRecDepth 100000
set_option maxHeartbeats 4000000
namespace K33
open PySem L2 L3 L4
def bodyLaw : FS := (sSeq (sSetN 4 (cLst (aCons (cV 3) aNil)))
  (sSeq (sSet 5 (cMut f__law_name 4 aNil))
  (sSeq (sSet 6 (cMut f__law_ways 4 aNil))
  (sSeq (sSet 7 (cL (cList (cV 6))))
  (sSeq (sSetN 8 (cCallN f_common_rules (aCons (cV 5) (aCons (cV 7) aNil))))
  (sSeq (sIf (cBorT (cOrT (cNotT (cT (c1 (dInst (instB "list")) (cV 8)))) (cOrT (cT (c2 (dEq true) (cL (cCallN f__law_told (aCons (cV 8) aNil))) (cL (cCallN f__law_due (aCons (cV 5) (aCons (cV 6) aNil)))))) (cT (c2 (dEq true) (cV 7) (cV 6)))))) (sRet (cC (L4.D.bl false))) sNext)
  (sSeq (sExpr (cClr 8))
  (sIf (cT (c2 (dEq true) (cL (cCallN f__law_told (aCons (cL (cCallN f_common_rules (aCons (cV 5) (aCons (cV 6) aNil)))) aNil))) (cL (cCallN f__law_due (aCons (cV 5) (aCons (cV 6) aNil)))))) (sRet (cC (L4.D.bl false))) sNext))))))))
theorem all_len (y : Str) (ws : List W) (hl : ws.length ≤ 10) : (allR y ws).length ≤ 900 := by
  unfold allR
  rw [List.length_append, List.length_append, List.length_append, List.length_map]
  have e : (fixR y).length = 21 := rfl
  rw [e]
  simp only [List.length_cons, List.length_nil]
  omega
theorem turn_ok {S DV V s4 s5 s6 s7 s8 : Sl} {c : Int} : ∃ t4 t5 t6 t7 t8, bodyLaw [S, DV, V, .im (.int c), s4, s5, s6, s7, s8] = some (.nx [S, DV, V, .im (.int c), t4, t5, t6, t7, t8]) := by
  obtain ⟨y, es1, n1, d1⟩ := name_ok (es := [.int c]) (.inl ⟨c, rfl⟩)
  obtain ⟨ws, es2, hl, n2, d2⟩ := ways_ok d1
  refine ⟨.ls es2, .im (.str y), .im (.lst (ws.map wD)), .im (.lst (ws.map wD)), .ls [], ?_⟩
  unfold bodyLaw
  rw [ev_seq (show _ = some (Out.nx [S, DV, V, .im (.int c), .ls [.int c], s5, s6, s7, s8]) from rfl)]
  rw [ev_seq (show _ = some (Out.nx [S, DV, V, .im (.int c), .ls es1, .im (.str y), s6, s7, s8]) from (ev_set (ev_mut (es0 := [.int c]) (es := [.int c]) (ρ1 := [S, DV, V, .im (.int c), .ls [.int c], s5, s6, s7, s8]) (ds := []) rfl rfl rfl n1)).trans rfl)]
  rw [ev_seq (show _ = some (Out.nx [S, DV, V, .im (.int c), .ls es2, .im (.str y), .im (.lst (ws.map wD)), s7, s8]) from (ev_set (ev_mut (es0 := es1) (es := es1) (ρ1 := [S, DV, V, .im (.int c), .ls es1, .im (.str y), s6, s7, s8]) (ds := []) rfl rfl rfl n2)).trans rfl)]
  rw [ev_seq (show _ = some (Out.nx [S, DV, V, .im (.int c), .ls es2, .im (.str y), .im (.lst (ws.map wD)), .im (.lst (ws.map wD)), s8]) from rfl)]
  rw [ev_seq (show _ = some (Out.nx [S, DV, V, .im (.int c), .ls es2, .im (.str y), .im (.lst (ws.map wD)), .im (.lst (ws.map wD)), .ls ((allR y ws).map RT.r)]) from (ev_setN (ev_call (ρ1 := [S, DV, V, .im (.int c), .ls es2, .im (.str y), .im (.lst (ws.map wD)), .im (.lst (ws.map wD)), s8]) rfl (common_rules_eq y ws hl))).trans rfl)]
  have tl := told_eq (allR y ws) (all_tell y ws) (all_len y ws hl)
  have du := due_eq y ws hl
  have cond : cBorT (cOrT (cNotT (cT (c1 (dInst (instB "list")) (cV 8)))) (cOrT (cT (c2 (dEq true) (cL (cCallN f__law_told (aCons (cV 8) aNil))) (cL (cCallN f__law_due (aCons (cV 5) (aCons (cV 6) aNil)))))) (cT (c2 (dEq true) (cV 7) (cV 6))))) [S, DV, V, .im (.int c), .ls es2, .im (.str y), .im (.lst (ws.map wD)), .im (.lst (ws.map wD)), .ls ((allR y ws).map RT.r)]
      = some (false, [S, DV, V, .im (.int c), .ls es2, .im (.str y), .im (.lst (ws.map wD)), .im (.lst (ws.map wD)), .ls ((allR y ws).map RT.r)]) := by
    let ρb : List Sl := [S.bor, DV.bor, V.bor, .im (.int c), .im (.lst es2), .im (.str y), .im (.lst (ws.map wD)), .im (.lst (ws.map wD)), .im (.lst ((allR y ws).map RT.r))]
    refine ev_borT (ρ1 := ρb) (ev_orT (ρ1 := ρb) (by kernel_rfl) (ev_orT (ρ1 := ρb) (ev_T (ev_c2 (ρ1 := ρb) (ev_L (ev_call (ρ1 := ρb) rfl tl)) (ev_L (ev_call (ρ1 := ρb) rfl du)) (eq_all y ws))) (ev_T (ev_c2 (ρ1 := ρb) rfl rfl (eq_ws ws)))))
  rw [ev_seq (show _ = some (Out.nx [S, DV, V, .im (.int c), .ls es2, .im (.str y), .im (.lst (ws.map wD)), .im (.lst (ws.map wD)), .ls ((allR y ws).map RT.r)]) from (ev_if_f cond).trans rfl)]
  rw [ev_seq (show _ = some (Out.nx [S, DV, V, .im (.int c), .ls es2, .im (.str y), .im (.lst (ws.map wD)), .im (.lst (ws.map wD)), .ls []]) from rfl)]
  refine (ev_if_f (ρ' := [S, DV, V, .im (.int c), .ls es2, .im (.str y), .im (.lst (ws.map wD)), .im (.lst (ws.map wD)), .ls []]) (ev_T (ev_c2 (ρ1 := [S, DV, V, .im (.int c), .ls es2, .im (.str y), .im (.lst (ws.map wD)), .im (.lst (ws.map wD)), .ls []]) (ev_L (ev_call (ev_cons (ev_L (ev_call (ρ1 := [S, DV, V, .im (.int c), .ls es2, .im (.str y), .im (.lst (ws.map wD)), .im (.lst (ws.map wD)), .ls []]) rfl (common_rules_eq y ws hl))) rfl) tl)) (ev_L (ev_call rfl du)) (eq_all y ws)))).trans rfl
def verbD (n f : Str) (j : L4.D) : L4.D := .obj 8 ["name", "others", "form", "joining"] [.str n, .tup [], .str f, j]
def verbsD : List L4.D := [verbD "take" "one" .non, verbD "drop" "one" .non, verbD "open" "one" .non, verbD "shut" "one" .non, verbD "light" "one" .non, verbD "douse" "one" .non, verbD "put" "two" (.str "in"), verbD "go" "way" .non, verbD "wait" "alone" .non]
theorem verbs_eq : f_common_verbs [] = some verbsD := by kernel_rfl
def t3 (a b : Str) (c : L4.D) : L4.D := .tup [.str a, .str b, c]
def dueV : List L4.D := [t3 "take" "one" .non, t3 "drop" "one" .non, t3 "open" "one" .non, t3 "shut" "one" .non, t3 "light" "one" .non, t3 "douse" "one" .non, t3 "put" "two" (.str "in"), t3 "go" "way" .non, t3 "wait" "alone" .non]
theorem eq_dueV : dEq true (.lst dueV) (.lst dueV) = some (.bl false) := by
  obtain ⟨l, e1, e2⟩ := pl_list (n := 1) (ds := dueV) fun d hd => by
    simp only [dueV, List.mem_cons, List.not_mem_nil, or_false] at hd
    have gen : ∀ (a b : Str) (c : L4.D), (c = .non ∨ ∃ k, c = .str k) → Pl 1 (t3 a b c) := fun a b c hc => pl_tup fun d hd => by
      simp only [List.mem_cons, List.not_mem_nil, or_false] at hd
      rcases hd with rfl | rfl | rfl
      · exact pl_str _
      · exact pl_str _
      · rcases hc with rfl | ⟨k, rfl⟩
        · exact pl_non
        · exact pl_str _
    rcases hd with rfl | rfl | rfl | rfl | rfl | rfl | rfl | rfl | rfl
    all_goals first | exact gen _ _ _ (.inl rfl) | exact gen _ _ _ (.inr ⟨_, rfl⟩)
  exact dEq_refl_lst (neg := true) e1 (by omega)
theorem eq_nil : dEq true (.lst []) (.lst []) = some (.bl false) := dEq_refl_lst (neg := true) (l := []) (by unfold toDs; rfl) (by rw [dpts]; omega)
theorem law_eq (ns : List Int) (hl : ns.length ≤ 63) : f_law [.fzl (ns.map L4.D.int)] = some (.bl true) := by
  have run : ∀ (vs : List L4.D) (s3 s4 s5 s6 s7 s8 : Sl), (∀ d ∈ vs, ∃ c, d = .int c) → ∃ t3 t4 t5 t6 t7 t8, forL (gN 3) bodyLaw vs [.im (.fzl (ns.map L4.D.int)), .im (.lst dueV), .ls [], s3, s4, s5, s6, s7, s8] = some (.nx [.im (.fzl (ns.map L4.D.int)), .im (.lst dueV), .ls [], t3, t4, t5, t6, t7, t8]) := by
    intro vs
    induction vs with
    | nil => intro s3 s4 s5 s6 s7 s8 _; exact ⟨s3, s4, s5, s6, s7, s8, rfl⟩
    | cons v vs ih =>
      intro s3 s4 s5 s6 s7 s8 h
      obtain ⟨c, rfl⟩ := h _ List.mem_cons_self
      obtain ⟨t4, t5, t6, t7, t8, e⟩ := turn_ok (S := .im (.fzl (ns.map L4.D.int))) (DV := .im (.lst dueV)) (V := .ls []) (s4 := s4) (s5 := s5) (s6 := s6) (s7 := s7) (s8 := s8) (c := c)
      obtain ⟨u3, u4, u5, u6, u7, u8, e2⟩ := ih (.im (.int c)) t4 t5 t6 t7 t8 fun d hd => h d (List.mem_cons_of_mem _ hd)
      refine ⟨u3, u4, u5, u6, u7, u8, ?_⟩
      unfold forL
      rw [show gN 3 (.int c) [.im (.fzl (ns.map L4.D.int)), .im (.lst dueV), .ls [], s3, s4, s5, s6, s7, s8] = some [.im (.fzl (ns.map L4.D.int)), .im (.lst dueV), .ls [], .im (.int c), s4, s5, s6, s7, s8] from rfl]
      simp only [e]
      exact e2
  have mem : ∀ d ∈ cutD (ns.map L4.D.int) none (some 12), ∃ c, d = L4.D.int c := fun d hd => by
    unfold cutD at hd
    obtain ⟨c, _, e⟩ := List.mem_map.mp (List.mem_of_mem_drop (List.mem_of_mem_take hd))
    exact ⟨c, e.symm⟩
  obtain ⟨u3, u4, u5, u6, u7, u8, e⟩ := run _ .un .un .un .un .un .un mem
  refine fnD_rt (ρ := [.im (.fzl (ns.map L4.D.int)), .im (.lst dueV), .ls [], u3, u4, u5, u6, u7, u8]) rfl ?_
  show b_law [.im (.fzl (ns.map L4.D.int)), .un, .un, .un, .un, .un, .un, .un, .un] = _
  generalize hS : Sl.im (.fzl (ns.map L4.D.int)) = S
  unfold b_law
  rw [ev_seq (show _ = some (Out.nx [S, .im (.lst (dueV.take 6)), .un, .un, .un, .un, .un, .un, .un]) from by kernel_rfl)]
  rw [ev_seq (show _ = some (Out.nx [S, .im (.lst dueV), .un, .un, .un, .un, .un, .un, .un]) from by kernel_rfl)]
  rw [ev_seq (show _ = some (Out.nx [S, .im (.lst dueV), .ls verbsD, .un, .un, .un, .un, .un, .un]) from (ev_setN (ev_call (ρ1 := [S, .im (.lst dueV), .un, .un, .un, .un, .un, .un, .un]) rfl verbs_eq)).trans rfl)]
  rw [ev_seq (show _ = some (Out.nx [S, .im (.lst dueV), .ls verbsD, .un, .un, .un, .un, .un, .un]) from (ev_if_f (ev_borT (ρ1 := [S.bor, .im (.lst dueV), .im (.lst verbsD), .un, .un, .un, .un, .un, .un]) (ev_T (ev_c2 (x := .lst dueV) (y := .lst dueV) (ρ1 := [S.bor, .im (.lst dueV), .im (.lst verbsD), .un, .un, .un, .un, .un, .un]) (by kernel_rfl) rfl eq_dueV)))).trans rfl)]
  rw [ev_seq (show _ = some (Out.nx [S, .im (.lst dueV), .ls verbsD, .un, .un, .un, .un, .un, .un]) from (ev_if_f (ev_borT (ρ1 := [S.bor, .im (.lst dueV), .im (.lst verbsD), .un, .un, .un, .un, .un, .un]) (ev_T (ev_c2 (x := .lst []) (y := .lst []) (ρ1 := [S.bor, .im (.lst dueV), .im (.lst verbsD), .un, .un, .un, .un, .un, .un]) (by kernel_rfl) rfl eq_nil)))).trans rfl)]
  rw [ev_seq (show _ = some (Out.nx [S, .im (.lst dueV), .ls [], .un, .un, .un, .un, .un, .un]) from rfl)]
  rw [ev_seq (show _ = some (Out.nx [S, .im (.lst dueV), .ls [], .un, .un, .un, .un, .un, .un]) from (ev_if_f (ρ' := [S, .im (.lst dueV), .ls [], .un, .un, .un, .un, .un, .un]) (by kernel_rfl)).trans rfl)]
  subst hS
  show sSeq (sFor (iL (cL (cSl (cV 0) none (some 12)))) (gN 3) bodyLaw) (sRet (cC (L4.D.bl true))) _ = _
  rw [ev_seq (show _ = some (Out.nx [.im (.fzl (ns.map L4.D.int)), .im (.lst dueV), .ls [], u3, u4, u5, u6, u7, u8]) from (ev_for (ds := cutD (ns.map L4.D.int) none (some 12)) (ρ1 := [.im (.fzl (ns.map L4.D.int)), .im (.lst dueV), .ls [], .un, .un, .un, .un, .un, .un]) rfl).trans e)]
  rfl
end K33

set_option Elab.async false
set_option linter.all false
set_option maxRecDepth 100000
set_option maxHeartbeats 4000000
namespace K33
open PySem L2 L3 L4
def caOf (c0 c1 c2 c3 c4 c5 c6 c7 c8 c9 : Addr) : Nat → Addr := fun c => match c with
  | 0 => c0
  | 1 => c1
  | 2 => c2
  | 3 => c3
  | 4 => c4
  | 5 => c5
  | 6 => c6
  | 7 => c7
  | 8 => c8
  | 9 => c9
  | _ => 0
def spLaw (K : PySem.W.Frag) : Sp := fun vs H Q _ => ∃ (a : Addr) (ns : List Int), vs = [.ref a] ∧ SqL K H a (ns.map V.int) ∧ ns.length ≤ 63 ∧ ∀ H', Q (.bl true) H'
theorem reps_ints {G : Bg} {H : Hp} : ∀ ns : List Int, Reps G H (ns.map L4.D.int) (ns.map V.int)
  | [] => reps_nil
  | n :: ns => reps_cons (rep_int n) (reps_ints ns)
theorem law_imp {G : Bg} : ∀ vs H Q E, spLaw G.K vs H Q E → spF G f_law vs H Q E := fun vs H Q E h => by
  obtain ⟨a, ns, rfl, hs, hl, k⟩ := h
  refine ⟨H, [.fzl (ns.map L4.D.int)], .bl true, Same.refl _, reps_cons (by unfold L4.Rep; exact ⟨a, _, rfl, hs, reps_ints ns⟩) reps_nil, law_eq ns hl, fun v H0' H' _ _ _ _ r => ?_⟩
  unfold L4.Rep at r
  subst r
  exact k H'
theorem all_mk {l : PySem.W.OpenLaw} {w : World} {K : PySem.W.Frag} {h : Heap} {mg : Str → Option Value} {fa : Addr} (X : K.In h) (Gn : h.Ns mainGlobals mg) (hfa : mg "law" = some (.ref fa))
    {fq0 : Addr} {odq0 anq0 : Option Addr} {slq0 : Array (Option Value)} {ocq0 kVq0 dcq0 pmq0 cdq0 ctq0 : Value}
    {fq1 : Addr} {odq1 anq1 : Option Addr} {slq1 : Array (Option Value)} {ocq1 kVq1 dcq1 pmq1 cdq1 ctq1 : Value}
    {fq2 : Addr} {odq2 anq2 : Option Addr} {slq2 : Array (Option Value)} {ocq2 kVq2 dcq2 pmq2 cdq2 ctq2 : Value}
    {fq3 : Addr} {odq3 anq3 : Option Addr} {slq3 : Array (Option Value)} {ocq3 kVq3 dcq3 pmq3 cdq3 ctq3 : Value}
    {fq4 : Addr} {odq4 anq4 : Option Addr} {slq4 : Array (Option Value)} {ocq4 kVq4 dcq4 pmq4 cdq4 ctq4 : Value}
    {fq5 : Addr} {odq5 anq5 : Option Addr} {slq5 : Array (Option Value)} {ocq5 kVq5 dcq5 pmq5 cdq5 ctq5 : Value}
    {fq6 : Addr} {odq6 anq6 : Option Addr} {slq6 : Array (Option Value)} {ocq6 kVq6 dcq6 pmq6 cdq6 ctq6 : Value}
    {fq7 : Addr} {odq7 anq7 : Option Addr} {slq7 : Array (Option Value)} {ocq7 kVq7 dcq7 pmq7 cdq7 ctq7 : Value}
    {fq8 : Addr} {odq8 anq8 : Option Addr} {slq8 : Array (Option Value)} {ocq8 kVq8 dcq8 pmq8 cdq8 ctq8 : Value}
    {fq9 : Addr} {odq9 anq9 : Option Addr} {slq9 : Array (Option Value)} {ocq9 kVq9 dcq9 pmq9 cdq9 ctq9 : Value}
    {Dq9 : Addr} {qqq9 : Value} {rq9 : Option Addr} {szq9 : Nat} {wq9 : Array (Option Value)} {tq9_1 : Tok}
    {fq10 : Addr} {odq10 anq10 : Option Addr} {slq10 : Array (Option Value)} {ocq10 kVq10 dcq10 pmq10 cdq10 ctq10 : Value}
    {Dq10 : Addr} {qqq10 : Value} {rq10 : Option Addr} {szq10 : Nat} {wq10 : Array (Option Value)}
    {fq11 : Addr} {odq11 anq11 : Option Addr} {slq11 : Array (Option Value)} {ocq11 kVq11 dcq11 pmq11 cdq11 ctq11 : Value}
    {fq12 : Addr} {odq12 anq12 : Option Addr} {slq12 : Array (Option Value)} {ocq12 kVq12 dcq12 pmq12 cdq12 ctq12 : Value}
    {fq13 : Addr} {odq13 anq13 : Option Addr} {slq13 : Array (Option Value)} {ocq13 kVq13 dcq13 pmq13 cdq13 ctq13 : Value}
    {fq14 : Addr} {odq14 anq14 : Option Addr} {slq14 : Array (Option Value)} {ocq14 kVq14 dcq14 pmq14 cdq14 ctq14 : Value}
    {fq15 : Addr} {odq15 anq15 : Option Addr} {slq15 : Array (Option Value)} {ocq15 kVq15 dcq15 pmq15 cdq15 ctq15 : Value}
    {fq16 : Addr} {odq16 anq16 : Option Addr} {slq16 : Array (Option Value)} {ocq16 kVq16 dcq16 pmq16 cdq16 ctq16 : Value}
    {fq17 : Addr} {odq17 anq17 : Option Addr} {slq17 : Array (Option Value)} {ocq17 kVq17 dcq17 pmq17 cdq17 ctq17 : Value}
    {fq18 : Addr} {odq18 anq18 : Option Addr} {slq18 : Array (Option Value)} {ocq18 kVq18 dcq18 pmq18 cdq18 ctq18 : Value}
    {fq19 : Addr} {odq19 anq19 : Option Addr} {slq19 : Array (Option Value)} {ocq19 kVq19 dcq19 pmq19 cdq19 ctq19 : Value}
    {fq20 : Addr} {odq20 anq20 : Option Addr} {slq20 : Array (Option Value)} {ocq20 kVq20 dcq20 pmq20 cdq20 ctq20 : Value}
    {fq21 : Addr} {odq21 anq21 : Option Addr} {slq21 : Array (Option Value)} {ocq21 kVq21 dcq21 pmq21 cdq21 ctq21 : Value}
    {fq22 : Addr} {odq22 anq22 : Option Addr} {slq22 : Array (Option Value)} {ocq22 kVq22 dcq22 pmq22 cdq22 ctq22 : Value}
    {fq23 : Addr} {odq23 anq23 : Option Addr} {slq23 : Array (Option Value)} {ocq23 kVq23 dcq23 pmq23 cdq23 ctq23 : Value}
    {fq24 : Addr} {odq24 anq24 : Option Addr} {slq24 : Array (Option Value)} {ocq24 kVq24 dcq24 pmq24 cdq24 ctq24 : Value}
    {fq25 : Addr} {odq25 anq25 : Option Addr} {slq25 : Array (Option Value)} {ocq25 kVq25 dcq25 pmq25 cdq25 ctq25 : Value}
    {fq26 : Addr} {odq26 anq26 : Option Addr} {slq26 : Array (Option Value)} {ocq26 kVq26 dcq26 pmq26 cdq26 ctq26 : Value}
    {fq27 : Addr} {odq27 anq27 : Option Addr} {slq27 : Array (Option Value)} {ocq27 kVq27 dcq27 pmq27 cdq27 ctq27 : Value}
    {fq28 : Addr} {odq28 anq28 : Option Addr} {slq28 : Array (Option Value)} {ocq28 kVq28 dcq28 pmq28 cdq28 ctq28 : Value}
    {fq29 : Addr} {odq29 anq29 : Option Addr} {slq29 : Array (Option Value)} {ocq29 kVq29 dcq29 pmq29 cdq29 ctq29 : Value}
    {fq30 : Addr} {odq30 anq30 : Option Addr} {slq30 : Array (Option Value)} {ocq30 kVq30 dcq30 pmq30 cdq30 ctq30 : Value}
    {fq31 : Addr} {odq31 anq31 : Option Addr} {slq31 : Array (Option Value)} {ocq31 kVq31 dcq31 pmq31 cdq31 ctq31 : Value}
    {fq32 : Addr} {odq32 anq32 : Option Addr} {slq32 : Array (Option Value)} {ocq32 kVq32 dcq32 pmq32 cdq32 ctq32 : Value}
    {fq33 : Addr} {odq33 anq33 : Option Addr} {slq33 : Array (Option Value)} {ocq33 kVq33 dcq33 pmq33 cdq33 ctq33 : Value}
    {fq34 : Addr} {odq34 anq34 : Option Addr} {slq34 : Array (Option Value)} {ocq34 kVq34 dcq34 pmq34 cdq34 ctq34 : Value}
    {fq35 : Addr} {odq35 anq35 : Option Addr} {slq35 : Array (Option Value)} {ocq35 kVq35 dcq35 pmq35 cdq35 ctq35 : Value}
    {fq36 : Addr} {odq36 anq36 : Option Addr} {slq36 : Array (Option Value)} {ocq36 kVq36 dcq36 pmq36 cdq36 ctq36 : Value}
    {C0 : Addr}
    {C1 : Addr}
    {C2 : Addr}
    {C3 : Addr}
    {C4 : Addr}
    {C5 : Addr}
    {C6 : Addr}
    {C7 : Addr}
    {C8 : Addr}
    {C9 : Addr}
    (aq0 : PySem.W.nsIn K mainGlobals "own_list" = some (some (.ref fq0)))
    (lq0 : K.lookup fq0 = some ⟨ocq0, odq0, .func (PySem.W.fnOf "own_list" "own_list" (defArgs s_own_list) (defBody s_own_list) (defScope s_own_list) .none kVq0 dcq0 pmq0 anq0 cdq0 ctq0), slq0⟩) (cq0 : PySem.W.codeIn K cdq0 "own_list" = true) (kq0 : PySem.W.keepIn K (.ref fq0) = true)
    (aq1 : PySem.W.findIn K (.ref C0) "__init__" = some (some (.ref fq1)))
    (iq1 : PySem.W.isFn K (.ref fq1) = true)
    (lq1 : K.lookup fq1 = some ⟨ocq1, odq1, .func (PySem.W.fnOf "__init__" "At.__init__" (defArgs s_At_init) (defBody s_At_init) (defScope s_At_init) .none kVq1 dcq1 pmq1 anq1 cdq1 ctq1), slq1⟩) (cq1 : PySem.W.codeIn K cdq1 "At.__init__" = true) (kq1 : PySem.W.keepIn K (.ref fq1) = true)
    (aq2 : PySem.W.findIn K (.ref C1) "__init__" = some (some (.ref fq2)))
    (iq2 : PySem.W.isFn K (.ref fq2) = true)
    (lq2 : K.lookup fq2 = some ⟨ocq2, odq2, .func (PySem.W.fnOf "__init__" "Has.__init__" (defArgs s_Has_init) (defBody s_Has_init) (defScope s_Has_init) .none kVq2 dcq2 pmq2 anq2 cdq2 ctq2), slq2⟩) (cq2 : PySem.W.codeIn K cdq2 "Has.__init__" = true) (kq2 : PySem.W.keepIn K (.ref fq2) = true)
    (aq3 : PySem.W.findIn K (.ref C2) "__init__" = some (some (.ref fq3)))
    (iq3 : PySem.W.isFn K (.ref fq3) = true)
    (lq3 : K.lookup fq3 = some ⟨ocq3, odq3, .func (PySem.W.fnOf "__init__" "Marked.__init__" (defArgs s_Marked_init) (defBody s_Marked_init) (defScope s_Marked_init) .none kVq3 dcq3 pmq3 anq3 cdq3 ctq3), slq3⟩) (cq3 : PySem.W.codeIn K cdq3 "Marked.__init__" = true) (kq3 : PySem.W.keepIn K (.ref fq3) = true)
    (aq4 : PySem.W.findIn K (.ref C3) "__init__" = some (some (.ref fq4)))
    (iq4 : PySem.W.isFn K (.ref fq4) = true)
    (lq4 : K.lookup fq4 = some ⟨ocq4, odq4, .func (PySem.W.fnOf "__init__" "Kind.__init__" (defArgs s_Kind_init) (defBody s_Kind_init) (defScope s_Kind_init) .none kVq4 dcq4 pmq4 anq4 cdq4 ctq4), slq4⟩) (cq4 : PySem.W.codeIn K cdq4 "Kind.__init__" = true) (kq4 : PySem.W.keepIn K (.ref fq4) = true)
    (aq5 : PySem.W.findIn K (.ref C4) "__init__" = some (some (.ref fq5)))
    (iq5 : PySem.W.isFn K (.ref fq5) = true)
    (lq5 : K.lookup fq5 = some ⟨ocq5, odq5, .func (PySem.W.fnOf "__init__" "Word.__init__" (defArgs s_Word_init) (defBody s_Word_init) (defScope s_Word_init) .none kVq5 dcq5 pmq5 anq5 cdq5 ctq5), slq5⟩) (cq5 : PySem.W.codeIn K cdq5 "Word.__init__" = true) (kq5 : PySem.W.keepIn K (.ref fq5) = true)
    (aq6 : PySem.W.findIn K (.ref C5) "__init__" = some (some (.ref fq6)))
    (iq6 : PySem.W.isFn K (.ref fq6) = true)
    (lq6 : K.lookup fq6 = some ⟨ocq6, odq6, .func (PySem.W.fnOf "__init__" "Not.__init__" (defArgs s_Not_init) (defBody s_Not_init) (defScope s_Not_init) .none kVq6 dcq6 pmq6 anq6 cdq6 ctq6), slq6⟩) (cq6 : PySem.W.codeIn K cdq6 "Not.__init__" = true) (kq6 : PySem.W.keepIn K (.ref fq6) = true)
    (aq7 : PySem.W.findIn K (.ref C6) "__init__" = some (some (.ref fq7)))
    (iq7 : PySem.W.isFn K (.ref fq7) = true)
    (lq7 : K.lookup fq7 = some ⟨ocq7, odq7, .func (PySem.W.fnOf "__init__" "Move.__init__" (defArgs s_Move_init) (defBody s_Move_init) (defScope s_Move_init) .none kVq7 dcq7 pmq7 anq7 cdq7 ctq7), slq7⟩) (cq7 : PySem.W.codeIn K cdq7 "Move.__init__" = true) (kq7 : PySem.W.keepIn K (.ref fq7) = true)
    (aq8 : PySem.W.findIn K (.ref C7) "__init__" = some (some (.ref fq8)))
    (iq8 : PySem.W.isFn K (.ref fq8) = true)
    (lq8 : K.lookup fq8 = some ⟨ocq8, odq8, .func (PySem.W.fnOf "__init__" "Put.__init__" (defArgs s_Put_init) (defBody s_Put_init) (defScope s_Put_init) .none kVq8 dcq8 pmq8 anq8 cdq8 ctq8), slq8⟩) (cq8 : PySem.W.codeIn K cdq8 "Put.__init__" = true) (kq8 : PySem.W.keepIn K (.ref fq8) = true)
    (aq9 : PySem.W.findIn K (.ref C8) "__init__" = some (some (.ref fq9)))
    (iq9 : PySem.W.isFn K (.ref fq9) = true)
    (lq9 : K.lookup fq9 = some ⟨ocq9, odq9, .func (PySem.W.fnOf "__init__" "Verb.__init__" (defArgs s_Verb_init) (defBody s_Verb_init) (defScope s_Verb_init) (.ref Dq9) kVq9 dcq9 pmq9 anq9 cdq9 ctq9), slq9⟩) (cq9 : PySem.W.codeIn K cdq9 "Verb.__init__" = true) (kq9 : PySem.W.keepIn K (.ref fq9) = true)
    (dq9 : K.lookup Dq9 = some ⟨qqq9, rq9, .seq #[.none, .str "one" tq9_1, .none] szq9, wq9⟩)
    (aq10 : PySem.W.findIn K (.ref C9) "__init__" = some (some (.ref fq10)))
    (iq10 : PySem.W.isFn K (.ref fq10) = true)
    (lq10 : K.lookup fq10 = some ⟨ocq10, odq10, .func (PySem.W.fnOf "__init__" "Rule.__init__" (defArgs s_Rule_init) (defBody s_Rule_init) (defScope s_Rule_init) (.ref Dq10) kVq10 dcq10 pmq10 anq10 cdq10 ctq10), slq10⟩) (cq10 : PySem.W.codeIn K cdq10 "Rule.__init__" = true) (kq10 : PySem.W.keepIn K (.ref fq10) = true)
    (dq10 : K.lookup Dq10 = some ⟨qqq10, rq10, .seq #[.bool false] szq10, wq10⟩)
    (aq11 : PySem.W.findIn K (.ref C0) "told" = some (some (.ref fq11)))
    (iq11 : PySem.W.isFn K (.ref fq11) = true)
    (lq11 : K.lookup fq11 = some ⟨ocq11, odq11, .func (PySem.W.fnOf "told" "At.told" (defArgs s_At_told) (defBody s_At_told) (defScope s_At_told) .none kVq11 dcq11 pmq11 anq11 cdq11 ctq11), slq11⟩) (cq11 : PySem.W.codeIn K cdq11 "At.told" = true) (kq11 : PySem.W.keepIn K (.ref fq11) = true)
    (aq12 : PySem.W.findIn K (.ref C1) "told" = some (some (.ref fq12)))
    (iq12 : PySem.W.isFn K (.ref fq12) = true)
    (lq12 : K.lookup fq12 = some ⟨ocq12, odq12, .func (PySem.W.fnOf "told" "Has.told" (defArgs s_Has_told) (defBody s_Has_told) (defScope s_Has_told) .none kVq12 dcq12 pmq12 anq12 cdq12 ctq12), slq12⟩) (cq12 : PySem.W.codeIn K cdq12 "Has.told" = true) (kq12 : PySem.W.keepIn K (.ref fq12) = true)
    (aq13 : PySem.W.findIn K (.ref C2) "told" = some (some (.ref fq13)))
    (iq13 : PySem.W.isFn K (.ref fq13) = true)
    (lq13 : K.lookup fq13 = some ⟨ocq13, odq13, .func (PySem.W.fnOf "told" "Marked.told" (defArgs s_Marked_told) (defBody s_Marked_told) (defScope s_Marked_told) .none kVq13 dcq13 pmq13 anq13 cdq13 ctq13), slq13⟩) (cq13 : PySem.W.codeIn K cdq13 "Marked.told" = true) (kq13 : PySem.W.keepIn K (.ref fq13) = true)
    (aq14 : PySem.W.findIn K (.ref C3) "told" = some (some (.ref fq14)))
    (iq14 : PySem.W.isFn K (.ref fq14) = true)
    (lq14 : K.lookup fq14 = some ⟨ocq14, odq14, .func (PySem.W.fnOf "told" "Kind.told" (defArgs s_Kind_told) (defBody s_Kind_told) (defScope s_Kind_told) .none kVq14 dcq14 pmq14 anq14 cdq14 ctq14), slq14⟩) (cq14 : PySem.W.codeIn K cdq14 "Kind.told" = true) (kq14 : PySem.W.keepIn K (.ref fq14) = true)
    (aq15 : PySem.W.findIn K (.ref C4) "told" = some (some (.ref fq15)))
    (iq15 : PySem.W.isFn K (.ref fq15) = true)
    (lq15 : K.lookup fq15 = some ⟨ocq15, odq15, .func (PySem.W.fnOf "told" "Word.told" (defArgs s_Word_told) (defBody s_Word_told) (defScope s_Word_told) .none kVq15 dcq15 pmq15 anq15 cdq15 ctq15), slq15⟩) (cq15 : PySem.W.codeIn K cdq15 "Word.told" = true) (kq15 : PySem.W.keepIn K (.ref fq15) = true)
    (aq16 : PySem.W.findIn K (.ref C6) "told" = some (some (.ref fq16)))
    (iq16 : PySem.W.isFn K (.ref fq16) = true)
    (lq16 : K.lookup fq16 = some ⟨ocq16, odq16, .func (PySem.W.fnOf "told" "Move.told" (defArgs s_Move_told) (defBody s_Move_told) (defScope s_Move_told) .none kVq16 dcq16 pmq16 anq16 cdq16 ctq16), slq16⟩) (cq16 : PySem.W.codeIn K cdq16 "Move.told" = true) (kq16 : PySem.W.keepIn K (.ref fq16) = true)
    (aq17 : PySem.W.findIn K (.ref C7) "told" = some (some (.ref fq17)))
    (iq17 : PySem.W.isFn K (.ref fq17) = true)
    (lq17 : K.lookup fq17 = some ⟨ocq17, odq17, .func (PySem.W.fnOf "told" "Put.told" (defArgs s_Put_told) (defBody s_Put_told) (defScope s_Put_told) .none kVq17 dcq17 pmq17 anq17 cdq17 ctq17), slq17⟩) (cq17 : PySem.W.codeIn K cdq17 "Put.told" = true) (kq17 : PySem.W.keepIn K (.ref fq17) = true)
    (aq18 : PySem.W.findIn K (.ref C5) "told" = some (some (.ref fq18)))
    (iq18 : PySem.W.isFn K (.ref fq18) = true)
    (lq18 : K.lookup fq18 = some ⟨ocq18, odq18, .func (PySem.W.fnOf "told" "Not.told" (defArgs s_Not_told) (defBody s_Not_told) (defScope s_Not_told) .none kVq18 dcq18 pmq18 anq18 cdq18 ctq18), slq18⟩) (cq18 : PySem.W.codeIn K cdq18 "Not.told" = true) (kq18 : PySem.W.keepIn K (.ref fq18) = true)
    (aq19 : PySem.W.nsIn K mainGlobals "does" = some (some (.ref fq19)))
    (lq19 : K.lookup fq19 = some ⟨ocq19, odq19, .func (PySem.W.fnOf "does" "does" (defArgs s_does) (defBody s_does) (defScope s_does) .none kVq19 dcq19 pmq19 anq19 cdq19 ctq19), slq19⟩) (cq19 : PySem.W.codeIn K cdq19 "does" = true) (kq19 : PySem.W.keepIn K (.ref fq19) = true)
    (aq20 : PySem.W.nsIn K mainGlobals "refuses" = some (some (.ref fq20)))
    (lq20 : K.lookup fq20 = some ⟨ocq20, odq20, .func (PySem.W.fnOf "refuses" "refuses" (defArgs s_refuses) (defBody s_refuses) (defScope s_refuses) .none kVq20 dcq20 pmq20 anq20 cdq20 ctq20), slq20⟩) (cq20 : PySem.W.codeIn K cdq20 "refuses" = true) (kq20 : PySem.W.keepIn K (.ref fq20) = true)
    (aq21 : PySem.W.nsIn K mainGlobals "hand_rules" = some (some (.ref fq21)))
    (lq21 : K.lookup fq21 = some ⟨ocq21, odq21, .func (PySem.W.fnOf "hand_rules" "hand_rules" (defArgs s_hand_rules) (defBody s_hand_rules) (defScope s_hand_rules) .none kVq21 dcq21 pmq21 anq21 cdq21 ctq21), slq21⟩) (cq21 : PySem.W.codeIn K cdq21 "hand_rules" = true) (kq21 : PySem.W.keepIn K (.ref fq21) = true)
    (aq22 : PySem.W.nsIn K mainGlobals "put_rules" = some (some (.ref fq22)))
    (lq22 : K.lookup fq22 = some ⟨ocq22, odq22, .func (PySem.W.fnOf "put_rules" "put_rules" (defArgs s_put_rules) (defBody s_put_rules) (defScope s_put_rules) .none kVq22 dcq22 pmq22 anq22 cdq22 ctq22), slq22⟩) (cq22 : PySem.W.codeIn K cdq22 "put_rules" = true) (kq22 : PySem.W.keepIn K (.ref fq22) = true)
    (aq23 : PySem.W.nsIn K mainGlobals "lid_rules" = some (some (.ref fq23)))
    (lq23 : K.lookup fq23 = some ⟨ocq23, odq23, .func (PySem.W.fnOf "lid_rules" "lid_rules" (defArgs s_lid_rules) (defBody s_lid_rules) (defScope s_lid_rules) .none kVq23 dcq23 pmq23 anq23 cdq23 ctq23), slq23⟩) (cq23 : PySem.W.codeIn K cdq23 "lid_rules" = true) (kq23 : PySem.W.keepIn K (.ref fq23) = true)
    (aq24 : PySem.W.nsIn K mainGlobals "flame_rules" = some (some (.ref fq24)))
    (lq24 : K.lookup fq24 = some ⟨ocq24, odq24, .func (PySem.W.fnOf "flame_rules" "flame_rules" (defArgs s_flame_rules) (defBody s_flame_rules) (defScope s_flame_rules) .none kVq24 dcq24 pmq24 anq24 cdq24 ctq24), slq24⟩) (cq24 : PySem.W.codeIn K cdq24 "flame_rules" = true) (kq24 : PySem.W.keepIn K (.ref fq24) = true)
    (aq25 : PySem.W.nsIn K mainGlobals "way_tests" = some (some (.ref fq25)))
    (lq25 : K.lookup fq25 = some ⟨ocq25, odq25, .func (PySem.W.fnOf "way_tests" "way_tests" (defArgs s_way_tests) (defBody s_way_tests) (defScope s_way_tests) .none kVq25 dcq25 pmq25 anq25 cdq25 ctq25), slq25⟩) (cq25 : PySem.W.codeIn K cdq25 "way_tests" = true) (kq25 : PySem.W.keepIn K (.ref fq25) = true)
    (aq26 : PySem.W.nsIn K mainGlobals "go_rules" = some (some (.ref fq26)))
    (lq26 : K.lookup fq26 = some ⟨ocq26, odq26, .func (PySem.W.fnOf "go_rules" "go_rules" (defArgs s_go_rules) (defBody s_go_rules) (defScope s_go_rules) .none kVq26 dcq26 pmq26 anq26 cdq26 ctq26), slq26⟩) (cq26 : PySem.W.codeIn K cdq26 "go_rules" = true) (kq26 : PySem.W.keepIn K (.ref fq26) = true)
    (aq27 : PySem.W.nsIn K mainGlobals "wait_rules" = some (some (.ref fq27)))
    (lq27 : K.lookup fq27 = some ⟨ocq27, odq27, .func (PySem.W.fnOf "wait_rules" "wait_rules" (defArgs s_wait_rules) (defBody s_wait_rules) (defScope s_wait_rules) .none kVq27 dcq27 pmq27 anq27 cdq27 ctq27), slq27⟩) (cq27 : PySem.W.codeIn K cdq27 "wait_rules" = true) (kq27 : PySem.W.keepIn K (.ref fq27) = true)
    (aq28 : PySem.W.nsIn K mainGlobals "common_rules" = some (some (.ref fq28)))
    (lq28 : K.lookup fq28 = some ⟨ocq28, odq28, .func (PySem.W.fnOf "common_rules" "common_rules" (defArgs s_common_rules) (defBody s_common_rules) (defScope s_common_rules) .none kVq28 dcq28 pmq28 anq28 cdq28 ctq28), slq28⟩) (cq28 : PySem.W.codeIn K cdq28 "common_rules" = true) (kq28 : PySem.W.keepIn K (.ref fq28) = true)
    (aq29 : PySem.W.nsIn K mainGlobals "common_verbs" = some (some (.ref fq29)))
    (lq29 : K.lookup fq29 = some ⟨ocq29, odq29, .func (PySem.W.fnOf "common_verbs" "common_verbs" (defArgs s_common_verbs) (defBody s_common_verbs) (defScope s_common_verbs) .none kVq29 dcq29 pmq29 anq29 cdq29 ctq29), slq29⟩) (cq29 : PySem.W.codeIn K cdq29 "common_verbs" = true) (kq29 : PySem.W.keepIn K (.ref fq29) = true)
    (aq30 : PySem.W.nsIn K mainGlobals "_law_digit" = some (some (.ref fq30)))
    (lq30 : K.lookup fq30 = some ⟨ocq30, odq30, .func (PySem.W.fnOf "_law_digit" "_law_digit" (defArgs s__law_digit) (defBody s__law_digit) (defScope s__law_digit) .none kVq30 dcq30 pmq30 anq30 cdq30 ctq30), slq30⟩) (cq30 : PySem.W.codeIn K cdq30 "_law_digit" = true) (kq30 : PySem.W.keepIn K (.ref fq30) = true)
    (aq31 : PySem.W.nsIn K mainGlobals "_law_name" = some (some (.ref fq31)))
    (lq31 : K.lookup fq31 = some ⟨ocq31, odq31, .func (PySem.W.fnOf "_law_name" "_law_name" (defArgs s__law_name) (defBody s__law_name) (defScope s__law_name) .none kVq31 dcq31 pmq31 anq31 cdq31 ctq31), slq31⟩) (cq31 : PySem.W.codeIn K cdq31 "_law_name" = true) (kq31 : PySem.W.keepIn K (.ref fq31) = true)
    (aq32 : PySem.W.nsIn K mainGlobals "_law_ways" = some (some (.ref fq32)))
    (lq32 : K.lookup fq32 = some ⟨ocq32, odq32, .func (PySem.W.fnOf "_law_ways" "_law_ways" (defArgs s__law_ways) (defBody s__law_ways) (defScope s__law_ways) .none kVq32 dcq32 pmq32 anq32 cdq32 ctq32), slq32⟩) (cq32 : PySem.W.codeIn K cdq32 "_law_ways" = true) (kq32 : PySem.W.keepIn K (.ref fq32) = true)
    (aq33 : PySem.W.nsIn K mainGlobals "_law_turned" = some (some (.ref fq33)))
    (lq33 : K.lookup fq33 = some ⟨ocq33, odq33, .func (PySem.W.fnOf "_law_turned" "_law_turned" (defArgs s__law_turned) (defBody s__law_turned) (defScope s__law_turned) .none kVq33 dcq33 pmq33 anq33 cdq33 ctq33), slq33⟩) (cq33 : PySem.W.codeIn K cdq33 "_law_turned" = true) (kq33 : PySem.W.keepIn K (.ref fq33) = true)
    (aq34 : PySem.W.nsIn K mainGlobals "_law_due" = some (some (.ref fq34)))
    (lq34 : K.lookup fq34 = some ⟨ocq34, odq34, .func (PySem.W.fnOf "_law_due" "_law_due" (defArgs s__law_due) (defBody s__law_due) (defScope s__law_due) .none kVq34 dcq34 pmq34 anq34 cdq34 ctq34), slq34⟩) (cq34 : PySem.W.codeIn K cdq34 "_law_due" = true) (kq34 : PySem.W.keepIn K (.ref fq34) = true)
    (aq35 : PySem.W.nsIn K mainGlobals "_law_told" = some (some (.ref fq35)))
    (lq35 : K.lookup fq35 = some ⟨ocq35, odq35, .func (PySem.W.fnOf "_law_told" "_law_told" (defArgs s__law_told) (defBody s__law_told) (defScope s__law_told) .none kVq35 dcq35 pmq35 anq35 cdq35 ctq35), slq35⟩) (cq35 : PySem.W.codeIn K cdq35 "_law_told" = true) (kq35 : PySem.W.keepIn K (.ref fq35) = true)
    (aq36 : PySem.W.nsIn K mainGlobals "law" = some (some (.ref fq36)))
    (lq36 : K.lookup fq36 = some ⟨ocq36, odq36, .func (PySem.W.fnOf "law" "law" (defArgs s_law) (defBody s_law) (defScope s_law) .none kVq36 dcq36 pmq36 anq36 cdq36 ctq36), slq36⟩) (cq36 : PySem.W.codeIn K cdq36 "law" = true) (kq36 : PySem.W.keepIn K (.ref fq36) = true)
    (aC0 : PySem.W.nsIn K mainGlobals "At" = some (some (.ref C0)))
    (pg0 : PySem.W.plainGet K C0 Str.empty = true) (hd0 : PySem.W.hasDictIn K C0 = true) (po0 : PySem.W.plainOver K C0 = true) (sa0 : PySem.W.findIn K (.ref C0) "__setattr__" = some (some (.builtin "object.__setattr__"))) (mk0 : PySem.W.makesIn K C0 = true) (kc0 : PySem.W.keepIn K (.ref C0) = true)
    (y0_0 : PySem.W.findIn K (.ref C0) "term" = some none)
    (y0_1 : PySem.W.findIn K (.ref C0) "place" = some none)
    (aC1 : PySem.W.nsIn K mainGlobals "Has" = some (some (.ref C1)))
    (pg1 : PySem.W.plainGet K C1 Str.empty = true) (hd1 : PySem.W.hasDictIn K C1 = true) (po1 : PySem.W.plainOver K C1 = true) (sa1 : PySem.W.findIn K (.ref C1) "__setattr__" = some (some (.builtin "object.__setattr__"))) (mk1 : PySem.W.makesIn K C1 = true) (kc1 : PySem.W.keepIn K (.ref C1) = true)
    (y1_0 : PySem.W.findIn K (.ref C1) "term" = some none)
    (aC2 : PySem.W.nsIn K mainGlobals "Marked" = some (some (.ref C2)))
    (pg2 : PySem.W.plainGet K C2 Str.empty = true) (hd2 : PySem.W.hasDictIn K C2 = true) (po2 : PySem.W.plainOver K C2 = true) (sa2 : PySem.W.findIn K (.ref C2) "__setattr__" = some (some (.builtin "object.__setattr__"))) (mk2 : PySem.W.makesIn K C2 = true) (kc2 : PySem.W.keepIn K (.ref C2) = true)
    (y2_0 : PySem.W.findIn K (.ref C2) "term" = some none)
    (y2_1 : PySem.W.findIn K (.ref C2) "value" = some none)
    (aC3 : PySem.W.nsIn K mainGlobals "Kind" = some (some (.ref C3)))
    (pg3 : PySem.W.plainGet K C3 Str.empty = true) (hd3 : PySem.W.hasDictIn K C3 = true) (po3 : PySem.W.plainOver K C3 = true) (sa3 : PySem.W.findIn K (.ref C3) "__setattr__" = some (some (.builtin "object.__setattr__"))) (mk3 : PySem.W.makesIn K C3 = true) (kc3 : PySem.W.keepIn K (.ref C3) = true)
    (y3_0 : PySem.W.findIn K (.ref C3) "term" = some none)
    (y3_1 : PySem.W.findIn K (.ref C3) "kind" = some none)
    (aC4 : PySem.W.nsIn K mainGlobals "Word" = some (some (.ref C4)))
    (pg4 : PySem.W.plainGet K C4 Str.empty = true) (hd4 : PySem.W.hasDictIn K C4 = true) (po4 : PySem.W.plainOver K C4 = true) (sa4 : PySem.W.findIn K (.ref C4) "__setattr__" = some (some (.builtin "object.__setattr__"))) (mk4 : PySem.W.makesIn K C4 = true) (kc4 : PySem.W.keepIn K (.ref C4) = true)
    (y4_0 : PySem.W.findIn K (.ref C4) "word" = some none)
    (aC5 : PySem.W.nsIn K mainGlobals "Not" = some (some (.ref C5)))
    (pg5 : PySem.W.plainGet K C5 Str.empty = true) (hd5 : PySem.W.hasDictIn K C5 = true) (po5 : PySem.W.plainOver K C5 = true) (sa5 : PySem.W.findIn K (.ref C5) "__setattr__" = some (some (.builtin "object.__setattr__"))) (mk5 : PySem.W.makesIn K C5 = true) (kc5 : PySem.W.keepIn K (.ref C5) = true)
    (y5_0 : PySem.W.findIn K (.ref C5) "inner" = some none)
    (aC6 : PySem.W.nsIn K mainGlobals "Move" = some (some (.ref C6)))
    (pg6 : PySem.W.plainGet K C6 Str.empty = true) (hd6 : PySem.W.hasDictIn K C6 = true) (po6 : PySem.W.plainOver K C6 = true) (sa6 : PySem.W.findIn K (.ref C6) "__setattr__" = some (some (.builtin "object.__setattr__"))) (mk6 : PySem.W.makesIn K C6 = true) (kc6 : PySem.W.keepIn K (.ref C6) = true)
    (y6_0 : PySem.W.findIn K (.ref C6) "term" = some none)
    (y6_1 : PySem.W.findIn K (.ref C6) "place" = some none)
    (aC7 : PySem.W.nsIn K mainGlobals "Put" = some (some (.ref C7)))
    (pg7 : PySem.W.plainGet K C7 Str.empty = true) (hd7 : PySem.W.hasDictIn K C7 = true) (po7 : PySem.W.plainOver K C7 = true) (sa7 : PySem.W.findIn K (.ref C7) "__setattr__" = some (some (.builtin "object.__setattr__"))) (mk7 : PySem.W.makesIn K C7 = true) (kc7 : PySem.W.keepIn K (.ref C7) = true)
    (y7_0 : PySem.W.findIn K (.ref C7) "term" = some none)
    (y7_1 : PySem.W.findIn K (.ref C7) "value" = some none)
    (aC8 : PySem.W.nsIn K mainGlobals "Verb" = some (some (.ref C8)))
    (pg8 : PySem.W.plainGet K C8 Str.empty = true) (hd8 : PySem.W.hasDictIn K C8 = true) (po8 : PySem.W.plainOver K C8 = true) (sa8 : PySem.W.findIn K (.ref C8) "__setattr__" = some (some (.builtin "object.__setattr__"))) (mk8 : PySem.W.makesIn K C8 = true) (kc8 : PySem.W.keepIn K (.ref C8) = true)
    (y8_0 : PySem.W.findIn K (.ref C8) "name" = some none)
    (y8_1 : PySem.W.findIn K (.ref C8) "others" = some none)
    (y8_2 : PySem.W.findIn K (.ref C8) "form" = some none)
    (y8_3 : PySem.W.findIn K (.ref C8) "joining" = some none)
    (aC9 : PySem.W.nsIn K mainGlobals "Rule" = some (some (.ref C9)))
    (pg9 : PySem.W.plainGet K C9 Str.empty = true) (hd9 : PySem.W.hasDictIn K C9 = true) (po9 : PySem.W.plainOver K C9 = true) (sa9 : PySem.W.findIn K (.ref C9) "__setattr__" = some (some (.builtin "object.__setattr__"))) (mk9 : PySem.W.makesIn K C9 = true) (kc9 : PySem.W.keepIn K (.ref C9) = true)
    (y9_0 : PySem.W.findIn K (.ref C9) "verb" = some none)
    (y9_1 : PySem.W.findIn K (.ref C9) "tests" = some none)
    (y9_2 : PySem.W.findIn K (.ref C9) "deeds" = some none)
    (y9_3 : PySem.W.findIn K (.ref C9) "text" = some none)
    (y9_4 : PySem.W.findIn K (.ref C9) "refuses" = some none)
    (e0 : PySem.W.nsIn K mainGlobals "int" = some none)
    (e1 : PySem.W.nsIn K mainGlobals "isinstance" = some none)
    (e2 : PySem.W.nsIn K mainGlobals "len" = some none)
    (e3 : PySem.W.nsIn K mainGlobals "list" = some none)
    (e4 : PySem.W.nsIn K mainGlobals "range" = some none) :
    ∃ fd : FuncData, (∀ (s : Shared) (v : Value), BindsTo s fd ⟨[v], []⟩ [("_law_script", v)]) ∧ ∀ base : Heap, K.In base → base.Ns mainGlobals mg → FnOk l.prog w K mg base CX0 7 fa fd ["_law_script"] (spLaw K) := by
  have e := hfa.symm.trans (PySem.W.mg_of X Gn aq36)
  cases e
  refine ⟨PySem.W.fnOf "law" "law" (defArgs s_law) (defBody s_law) (defScope s_law) .none kVq36 dcq36 pmq36 anq36 cdq36 ctq36, fun s v => .of_eq rfl, fun base _ _ => ?_⟩
  have cl0 : Cls K C0 := ⟨pg0, hd0, po0, sa0⟩
  have cl1 : Cls K C1 := ⟨pg1, hd1, po1, sa1⟩
  have cl2 : Cls K C2 := ⟨pg2, hd2, po2, sa2⟩
  have cl3 : Cls K C3 := ⟨pg3, hd3, po3, sa3⟩
  have cl4 : Cls K C4 := ⟨pg4, hd4, po4, sa4⟩
  have cl5 : Cls K C5 := ⟨pg5, hd5, po5, sa5⟩
  have cl6 : Cls K C6 := ⟨pg6, hd6, po6, sa6⟩
  have cl7 : Cls K C7 := ⟨pg7, hd7, po7, sa7⟩
  have cl8 : Cls K C8 := ⟨pg8, hd8, po8, sa8⟩
  have cl9 : Cls K C9 := ⟨pg9, hd9, po9, sa9⟩
  have b_int : mg "int" = none := PySem.W.mg_none_of X Gn e0
  have b_isinstance : mg "isinstance" = none := PySem.W.mg_none_of X Gn e1
  have b_len : mg "len" = none := PySem.W.mg_none_of X Gn e2
  have b_list : mg "list" = none := PySem.W.mg_none_of X Gn e3
  have b_range : mg "range" = none := PySem.W.mg_none_of X Gn e4
  have at_At_term : Cls (⟨K, caOf C0 C1 C2 C3 C4 C5 C6 C7 C8 C9⟩ : Bg).K ((⟨K, caOf C0 C1 C2 C3 C4 C5 C6 C7 C8 C9⟩ : Bg).ca 0) ∧ NoAttr (⟨K, caOf C0 C1 C2 C3 C4 C5 C6 C7 C8 C9⟩ : Bg).K ((⟨K, caOf C0 C1 C2 C3 C4 C5 C6 C7 C8 C9⟩ : Bg).ca 0) "term" := ⟨cl0, y0_0⟩
  have at_Has_term : Cls (⟨K, caOf C0 C1 C2 C3 C4 C5 C6 C7 C8 C9⟩ : Bg).K ((⟨K, caOf C0 C1 C2 C3 C4 C5 C6 C7 C8 C9⟩ : Bg).ca 1) ∧ NoAttr (⟨K, caOf C0 C1 C2 C3 C4 C5 C6 C7 C8 C9⟩ : Bg).K ((⟨K, caOf C0 C1 C2 C3 C4 C5 C6 C7 C8 C9⟩ : Bg).ca 1) "term" := ⟨cl1, y1_0⟩
  have at_Marked_term : Cls (⟨K, caOf C0 C1 C2 C3 C4 C5 C6 C7 C8 C9⟩ : Bg).K ((⟨K, caOf C0 C1 C2 C3 C4 C5 C6 C7 C8 C9⟩ : Bg).ca 2) ∧ NoAttr (⟨K, caOf C0 C1 C2 C3 C4 C5 C6 C7 C8 C9⟩ : Bg).K ((⟨K, caOf C0 C1 C2 C3 C4 C5 C6 C7 C8 C9⟩ : Bg).ca 2) "term" := ⟨cl2, y2_0⟩
  have at_Kind_term : Cls (⟨K, caOf C0 C1 C2 C3 C4 C5 C6 C7 C8 C9⟩ : Bg).K ((⟨K, caOf C0 C1 C2 C3 C4 C5 C6 C7 C8 C9⟩ : Bg).ca 3) ∧ NoAttr (⟨K, caOf C0 C1 C2 C3 C4 C5 C6 C7 C8 C9⟩ : Bg).K ((⟨K, caOf C0 C1 C2 C3 C4 C5 C6 C7 C8 C9⟩ : Bg).ca 3) "term" := ⟨cl3, y3_0⟩
  have at_Move_term : Cls (⟨K, caOf C0 C1 C2 C3 C4 C5 C6 C7 C8 C9⟩ : Bg).K ((⟨K, caOf C0 C1 C2 C3 C4 C5 C6 C7 C8 C9⟩ : Bg).ca 6) ∧ NoAttr (⟨K, caOf C0 C1 C2 C3 C4 C5 C6 C7 C8 C9⟩ : Bg).K ((⟨K, caOf C0 C1 C2 C3 C4 C5 C6 C7 C8 C9⟩ : Bg).ca 6) "term" := ⟨cl6, y6_0⟩
  have at_Put_term : Cls (⟨K, caOf C0 C1 C2 C3 C4 C5 C6 C7 C8 C9⟩ : Bg).K ((⟨K, caOf C0 C1 C2 C3 C4 C5 C6 C7 C8 C9⟩ : Bg).ca 7) ∧ NoAttr (⟨K, caOf C0 C1 C2 C3 C4 C5 C6 C7 C8 C9⟩ : Bg).K ((⟨K, caOf C0 C1 C2 C3 C4 C5 C6 C7 C8 C9⟩ : Bg).ca 7) "term" := ⟨cl7, y7_0⟩
  have fld_term : ∀ c, okf_term c = true → Cls (⟨K, caOf C0 C1 C2 C3 C4 C5 C6 C7 C8 C9⟩ : Bg).K ((⟨K, caOf C0 C1 C2 C3 C4 C5 C6 C7 C8 C9⟩ : Bg).ca c) ∧ NoAttr (⟨K, caOf C0 C1 C2 C3 C4 C5 C6 C7 C8 C9⟩ : Bg).K ((⟨K, caOf C0 C1 C2 C3 C4 C5 C6 C7 C8 C9⟩ : Bg).ca c) "term" := by
    intro c hc
    have hd : c = 0 ∨ c = 1 ∨ c = 2 ∨ c = 3 ∨ c = 6 ∨ c = 7 := by simpa [okf_term, or_assoc] using hc
    rcases hd with rfl | rfl | rfl | rfl | rfl | rfl
    · exact ⟨cl0, y0_0⟩
    · exact ⟨cl1, y1_0⟩
    · exact ⟨cl2, y2_0⟩
    · exact ⟨cl3, y3_0⟩
    · exact ⟨cl6, y6_0⟩
    · exact ⟨cl7, y7_0⟩
  have at_At_place : Cls (⟨K, caOf C0 C1 C2 C3 C4 C5 C6 C7 C8 C9⟩ : Bg).K ((⟨K, caOf C0 C1 C2 C3 C4 C5 C6 C7 C8 C9⟩ : Bg).ca 0) ∧ NoAttr (⟨K, caOf C0 C1 C2 C3 C4 C5 C6 C7 C8 C9⟩ : Bg).K ((⟨K, caOf C0 C1 C2 C3 C4 C5 C6 C7 C8 C9⟩ : Bg).ca 0) "place" := ⟨cl0, y0_1⟩
  have at_Move_place : Cls (⟨K, caOf C0 C1 C2 C3 C4 C5 C6 C7 C8 C9⟩ : Bg).K ((⟨K, caOf C0 C1 C2 C3 C4 C5 C6 C7 C8 C9⟩ : Bg).ca 6) ∧ NoAttr (⟨K, caOf C0 C1 C2 C3 C4 C5 C6 C7 C8 C9⟩ : Bg).K ((⟨K, caOf C0 C1 C2 C3 C4 C5 C6 C7 C8 C9⟩ : Bg).ca 6) "place" := ⟨cl6, y6_1⟩
  have fld_place : ∀ c, okf_place c = true → Cls (⟨K, caOf C0 C1 C2 C3 C4 C5 C6 C7 C8 C9⟩ : Bg).K ((⟨K, caOf C0 C1 C2 C3 C4 C5 C6 C7 C8 C9⟩ : Bg).ca c) ∧ NoAttr (⟨K, caOf C0 C1 C2 C3 C4 C5 C6 C7 C8 C9⟩ : Bg).K ((⟨K, caOf C0 C1 C2 C3 C4 C5 C6 C7 C8 C9⟩ : Bg).ca c) "place" := by
    intro c hc
    have hd : c = 0 ∨ c = 6 := by simpa [okf_place, or_assoc] using hc
    rcases hd with rfl | rfl
    · exact ⟨cl0, y0_1⟩
    · exact ⟨cl6, y6_1⟩
  have at_Marked_value : Cls (⟨K, caOf C0 C1 C2 C3 C4 C5 C6 C7 C8 C9⟩ : Bg).K ((⟨K, caOf C0 C1 C2 C3 C4 C5 C6 C7 C8 C9⟩ : Bg).ca 2) ∧ NoAttr (⟨K, caOf C0 C1 C2 C3 C4 C5 C6 C7 C8 C9⟩ : Bg).K ((⟨K, caOf C0 C1 C2 C3 C4 C5 C6 C7 C8 C9⟩ : Bg).ca 2) "value" := ⟨cl2, y2_1⟩
  have at_Put_value : Cls (⟨K, caOf C0 C1 C2 C3 C4 C5 C6 C7 C8 C9⟩ : Bg).K ((⟨K, caOf C0 C1 C2 C3 C4 C5 C6 C7 C8 C9⟩ : Bg).ca 7) ∧ NoAttr (⟨K, caOf C0 C1 C2 C3 C4 C5 C6 C7 C8 C9⟩ : Bg).K ((⟨K, caOf C0 C1 C2 C3 C4 C5 C6 C7 C8 C9⟩ : Bg).ca 7) "value" := ⟨cl7, y7_1⟩
  have fld_value : ∀ c, okf_value c = true → Cls (⟨K, caOf C0 C1 C2 C3 C4 C5 C6 C7 C8 C9⟩ : Bg).K ((⟨K, caOf C0 C1 C2 C3 C4 C5 C6 C7 C8 C9⟩ : Bg).ca c) ∧ NoAttr (⟨K, caOf C0 C1 C2 C3 C4 C5 C6 C7 C8 C9⟩ : Bg).K ((⟨K, caOf C0 C1 C2 C3 C4 C5 C6 C7 C8 C9⟩ : Bg).ca c) "value" := by
    intro c hc
    have hd : c = 2 ∨ c = 7 := by simpa [okf_value, or_assoc] using hc
    rcases hd with rfl | rfl
    · exact ⟨cl2, y2_1⟩
    · exact ⟨cl7, y7_1⟩
  have at_Kind_kind : Cls (⟨K, caOf C0 C1 C2 C3 C4 C5 C6 C7 C8 C9⟩ : Bg).K ((⟨K, caOf C0 C1 C2 C3 C4 C5 C6 C7 C8 C9⟩ : Bg).ca 3) ∧ NoAttr (⟨K, caOf C0 C1 C2 C3 C4 C5 C6 C7 C8 C9⟩ : Bg).K ((⟨K, caOf C0 C1 C2 C3 C4 C5 C6 C7 C8 C9⟩ : Bg).ca 3) "kind" := ⟨cl3, y3_1⟩
  have fld_kind : ∀ c, okf_kind c = true → Cls (⟨K, caOf C0 C1 C2 C3 C4 C5 C6 C7 C8 C9⟩ : Bg).K ((⟨K, caOf C0 C1 C2 C3 C4 C5 C6 C7 C8 C9⟩ : Bg).ca c) ∧ NoAttr (⟨K, caOf C0 C1 C2 C3 C4 C5 C6 C7 C8 C9⟩ : Bg).K ((⟨K, caOf C0 C1 C2 C3 C4 C5 C6 C7 C8 C9⟩ : Bg).ca c) "kind" := by
    intro c hc
    have hd : c = 3 := by simpa [okf_kind, or_assoc] using hc
    rcases hd with rfl
    · exact ⟨cl3, y3_1⟩
  have at_Word_word : Cls (⟨K, caOf C0 C1 C2 C3 C4 C5 C6 C7 C8 C9⟩ : Bg).K ((⟨K, caOf C0 C1 C2 C3 C4 C5 C6 C7 C8 C9⟩ : Bg).ca 4) ∧ NoAttr (⟨K, caOf C0 C1 C2 C3 C4 C5 C6 C7 C8 C9⟩ : Bg).K ((⟨K, caOf C0 C1 C2 C3 C4 C5 C6 C7 C8 C9⟩ : Bg).ca 4) "word" := ⟨cl4, y4_0⟩
  have fld_word : ∀ c, okf_word c = true → Cls (⟨K, caOf C0 C1 C2 C3 C4 C5 C6 C7 C8 C9⟩ : Bg).K ((⟨K, caOf C0 C1 C2 C3 C4 C5 C6 C7 C8 C9⟩ : Bg).ca c) ∧ NoAttr (⟨K, caOf C0 C1 C2 C3 C4 C5 C6 C7 C8 C9⟩ : Bg).K ((⟨K, caOf C0 C1 C2 C3 C4 C5 C6 C7 C8 C9⟩ : Bg).ca c) "word" := by
    intro c hc
    have hd : c = 4 := by simpa [okf_word, or_assoc] using hc
    rcases hd with rfl
    · exact ⟨cl4, y4_0⟩
  have at_Not_inner : Cls (⟨K, caOf C0 C1 C2 C3 C4 C5 C6 C7 C8 C9⟩ : Bg).K ((⟨K, caOf C0 C1 C2 C3 C4 C5 C6 C7 C8 C9⟩ : Bg).ca 5) ∧ NoAttr (⟨K, caOf C0 C1 C2 C3 C4 C5 C6 C7 C8 C9⟩ : Bg).K ((⟨K, caOf C0 C1 C2 C3 C4 C5 C6 C7 C8 C9⟩ : Bg).ca 5) "inner" := ⟨cl5, y5_0⟩
  have fld_inner : ∀ c, okf_inner c = true → Cls (⟨K, caOf C0 C1 C2 C3 C4 C5 C6 C7 C8 C9⟩ : Bg).K ((⟨K, caOf C0 C1 C2 C3 C4 C5 C6 C7 C8 C9⟩ : Bg).ca c) ∧ NoAttr (⟨K, caOf C0 C1 C2 C3 C4 C5 C6 C7 C8 C9⟩ : Bg).K ((⟨K, caOf C0 C1 C2 C3 C4 C5 C6 C7 C8 C9⟩ : Bg).ca c) "inner" := by
    intro c hc
    have hd : c = 5 := by simpa [okf_inner, or_assoc] using hc
    rcases hd with rfl
    · exact ⟨cl5, y5_0⟩
  have at_Verb_name : Cls (⟨K, caOf C0 C1 C2 C3 C4 C5 C6 C7 C8 C9⟩ : Bg).K ((⟨K, caOf C0 C1 C2 C3 C4 C5 C6 C7 C8 C9⟩ : Bg).ca 8) ∧ NoAttr (⟨K, caOf C0 C1 C2 C3 C4 C5 C6 C7 C8 C9⟩ : Bg).K ((⟨K, caOf C0 C1 C2 C3 C4 C5 C6 C7 C8 C9⟩ : Bg).ca 8) "name" := ⟨cl8, y8_0⟩
  have fld_name : ∀ c, okf_name c = true → Cls (⟨K, caOf C0 C1 C2 C3 C4 C5 C6 C7 C8 C9⟩ : Bg).K ((⟨K, caOf C0 C1 C2 C3 C4 C5 C6 C7 C8 C9⟩ : Bg).ca c) ∧ NoAttr (⟨K, caOf C0 C1 C2 C3 C4 C5 C6 C7 C8 C9⟩ : Bg).K ((⟨K, caOf C0 C1 C2 C3 C4 C5 C6 C7 C8 C9⟩ : Bg).ca c) "name" := by
    intro c hc
    have hd : c = 8 := by simpa [okf_name, or_assoc] using hc
    rcases hd with rfl
    · exact ⟨cl8, y8_0⟩
  have at_Verb_others : Cls (⟨K, caOf C0 C1 C2 C3 C4 C5 C6 C7 C8 C9⟩ : Bg).K ((⟨K, caOf C0 C1 C2 C3 C4 C5 C6 C7 C8 C9⟩ : Bg).ca 8) ∧ NoAttr (⟨K, caOf C0 C1 C2 C3 C4 C5 C6 C7 C8 C9⟩ : Bg).K ((⟨K, caOf C0 C1 C2 C3 C4 C5 C6 C7 C8 C9⟩ : Bg).ca 8) "others" := ⟨cl8, y8_1⟩
  have fld_others : ∀ c, okf_others c = true → Cls (⟨K, caOf C0 C1 C2 C3 C4 C5 C6 C7 C8 C9⟩ : Bg).K ((⟨K, caOf C0 C1 C2 C3 C4 C5 C6 C7 C8 C9⟩ : Bg).ca c) ∧ NoAttr (⟨K, caOf C0 C1 C2 C3 C4 C5 C6 C7 C8 C9⟩ : Bg).K ((⟨K, caOf C0 C1 C2 C3 C4 C5 C6 C7 C8 C9⟩ : Bg).ca c) "others" := by
    intro c hc
    have hd : c = 8 := by simpa [okf_others, or_assoc] using hc
    rcases hd with rfl
    · exact ⟨cl8, y8_1⟩
  have at_Verb_form : Cls (⟨K, caOf C0 C1 C2 C3 C4 C5 C6 C7 C8 C9⟩ : Bg).K ((⟨K, caOf C0 C1 C2 C3 C4 C5 C6 C7 C8 C9⟩ : Bg).ca 8) ∧ NoAttr (⟨K, caOf C0 C1 C2 C3 C4 C5 C6 C7 C8 C9⟩ : Bg).K ((⟨K, caOf C0 C1 C2 C3 C4 C5 C6 C7 C8 C9⟩ : Bg).ca 8) "form" := ⟨cl8, y8_2⟩
  have fld_form : ∀ c, okf_form c = true → Cls (⟨K, caOf C0 C1 C2 C3 C4 C5 C6 C7 C8 C9⟩ : Bg).K ((⟨K, caOf C0 C1 C2 C3 C4 C5 C6 C7 C8 C9⟩ : Bg).ca c) ∧ NoAttr (⟨K, caOf C0 C1 C2 C3 C4 C5 C6 C7 C8 C9⟩ : Bg).K ((⟨K, caOf C0 C1 C2 C3 C4 C5 C6 C7 C8 C9⟩ : Bg).ca c) "form" := by
    intro c hc
    have hd : c = 8 := by simpa [okf_form, or_assoc] using hc
    rcases hd with rfl
    · exact ⟨cl8, y8_2⟩
  have at_Verb_joining : Cls (⟨K, caOf C0 C1 C2 C3 C4 C5 C6 C7 C8 C9⟩ : Bg).K ((⟨K, caOf C0 C1 C2 C3 C4 C5 C6 C7 C8 C9⟩ : Bg).ca 8) ∧ NoAttr (⟨K, caOf C0 C1 C2 C3 C4 C5 C6 C7 C8 C9⟩ : Bg).K ((⟨K, caOf C0 C1 C2 C3 C4 C5 C6 C7 C8 C9⟩ : Bg).ca 8) "joining" := ⟨cl8, y8_3⟩
  have fld_joining : ∀ c, okf_joining c = true → Cls (⟨K, caOf C0 C1 C2 C3 C4 C5 C6 C7 C8 C9⟩ : Bg).K ((⟨K, caOf C0 C1 C2 C3 C4 C5 C6 C7 C8 C9⟩ : Bg).ca c) ∧ NoAttr (⟨K, caOf C0 C1 C2 C3 C4 C5 C6 C7 C8 C9⟩ : Bg).K ((⟨K, caOf C0 C1 C2 C3 C4 C5 C6 C7 C8 C9⟩ : Bg).ca c) "joining" := by
    intro c hc
    have hd : c = 8 := by simpa [okf_joining, or_assoc] using hc
    rcases hd with rfl
    · exact ⟨cl8, y8_3⟩
  have at_Rule_verb : Cls (⟨K, caOf C0 C1 C2 C3 C4 C5 C6 C7 C8 C9⟩ : Bg).K ((⟨K, caOf C0 C1 C2 C3 C4 C5 C6 C7 C8 C9⟩ : Bg).ca 9) ∧ NoAttr (⟨K, caOf C0 C1 C2 C3 C4 C5 C6 C7 C8 C9⟩ : Bg).K ((⟨K, caOf C0 C1 C2 C3 C4 C5 C6 C7 C8 C9⟩ : Bg).ca 9) "verb" := ⟨cl9, y9_0⟩
  have fld_verb : ∀ c, okf_verb c = true → Cls (⟨K, caOf C0 C1 C2 C3 C4 C5 C6 C7 C8 C9⟩ : Bg).K ((⟨K, caOf C0 C1 C2 C3 C4 C5 C6 C7 C8 C9⟩ : Bg).ca c) ∧ NoAttr (⟨K, caOf C0 C1 C2 C3 C4 C5 C6 C7 C8 C9⟩ : Bg).K ((⟨K, caOf C0 C1 C2 C3 C4 C5 C6 C7 C8 C9⟩ : Bg).ca c) "verb" := by
    intro c hc
    have hd : c = 9 := by simpa [okf_verb, or_assoc] using hc
    rcases hd with rfl
    · exact ⟨cl9, y9_0⟩
  have at_Rule_tests : Cls (⟨K, caOf C0 C1 C2 C3 C4 C5 C6 C7 C8 C9⟩ : Bg).K ((⟨K, caOf C0 C1 C2 C3 C4 C5 C6 C7 C8 C9⟩ : Bg).ca 9) ∧ NoAttr (⟨K, caOf C0 C1 C2 C3 C4 C5 C6 C7 C8 C9⟩ : Bg).K ((⟨K, caOf C0 C1 C2 C3 C4 C5 C6 C7 C8 C9⟩ : Bg).ca 9) "tests" := ⟨cl9, y9_1⟩
  have fld_tests : ∀ c, okf_tests c = true → Cls (⟨K, caOf C0 C1 C2 C3 C4 C5 C6 C7 C8 C9⟩ : Bg).K ((⟨K, caOf C0 C1 C2 C3 C4 C5 C6 C7 C8 C9⟩ : Bg).ca c) ∧ NoAttr (⟨K, caOf C0 C1 C2 C3 C4 C5 C6 C7 C8 C9⟩ : Bg).K ((⟨K, caOf C0 C1 C2 C3 C4 C5 C6 C7 C8 C9⟩ : Bg).ca c) "tests" := by
    intro c hc
    have hd : c = 9 := by simpa [okf_tests, or_assoc] using hc
    rcases hd with rfl
    · exact ⟨cl9, y9_1⟩
  have at_Rule_deeds : Cls (⟨K, caOf C0 C1 C2 C3 C4 C5 C6 C7 C8 C9⟩ : Bg).K ((⟨K, caOf C0 C1 C2 C3 C4 C5 C6 C7 C8 C9⟩ : Bg).ca 9) ∧ NoAttr (⟨K, caOf C0 C1 C2 C3 C4 C5 C6 C7 C8 C9⟩ : Bg).K ((⟨K, caOf C0 C1 C2 C3 C4 C5 C6 C7 C8 C9⟩ : Bg).ca 9) "deeds" := ⟨cl9, y9_2⟩
  have fld_deeds : ∀ c, okf_deeds c = true → Cls (⟨K, caOf C0 C1 C2 C3 C4 C5 C6 C7 C8 C9⟩ : Bg).K ((⟨K, caOf C0 C1 C2 C3 C4 C5 C6 C7 C8 C9⟩ : Bg).ca c) ∧ NoAttr (⟨K, caOf C0 C1 C2 C3 C4 C5 C6 C7 C8 C9⟩ : Bg).K ((⟨K, caOf C0 C1 C2 C3 C4 C5 C6 C7 C8 C9⟩ : Bg).ca c) "deeds" := by
    intro c hc
    have hd : c = 9 := by simpa [okf_deeds, or_assoc] using hc
    rcases hd with rfl
    · exact ⟨cl9, y9_2⟩
  have at_Rule_text : Cls (⟨K, caOf C0 C1 C2 C3 C4 C5 C6 C7 C8 C9⟩ : Bg).K ((⟨K, caOf C0 C1 C2 C3 C4 C5 C6 C7 C8 C9⟩ : Bg).ca 9) ∧ NoAttr (⟨K, caOf C0 C1 C2 C3 C4 C5 C6 C7 C8 C9⟩ : Bg).K ((⟨K, caOf C0 C1 C2 C3 C4 C5 C6 C7 C8 C9⟩ : Bg).ca 9) "text" := ⟨cl9, y9_3⟩
  have fld_text : ∀ c, okf_text c = true → Cls (⟨K, caOf C0 C1 C2 C3 C4 C5 C6 C7 C8 C9⟩ : Bg).K ((⟨K, caOf C0 C1 C2 C3 C4 C5 C6 C7 C8 C9⟩ : Bg).ca c) ∧ NoAttr (⟨K, caOf C0 C1 C2 C3 C4 C5 C6 C7 C8 C9⟩ : Bg).K ((⟨K, caOf C0 C1 C2 C3 C4 C5 C6 C7 C8 C9⟩ : Bg).ca c) "text" := by
    intro c hc
    have hd : c = 9 := by simpa [okf_text, or_assoc] using hc
    rcases hd with rfl
    · exact ⟨cl9, y9_3⟩
  have at_Rule_refuses : Cls (⟨K, caOf C0 C1 C2 C3 C4 C5 C6 C7 C8 C9⟩ : Bg).K ((⟨K, caOf C0 C1 C2 C3 C4 C5 C6 C7 C8 C9⟩ : Bg).ca 9) ∧ NoAttr (⟨K, caOf C0 C1 C2 C3 C4 C5 C6 C7 C8 C9⟩ : Bg).K ((⟨K, caOf C0 C1 C2 C3 C4 C5 C6 C7 C8 C9⟩ : Bg).ca 9) "refuses" := ⟨cl9, y9_4⟩
  have fld_refuses : ∀ c, okf_refuses c = true → Cls (⟨K, caOf C0 C1 C2 C3 C4 C5 C6 C7 C8 C9⟩ : Bg).K ((⟨K, caOf C0 C1 C2 C3 C4 C5 C6 C7 C8 C9⟩ : Bg).ca c) ∧ NoAttr (⟨K, caOf C0 C1 C2 C3 C4 C5 C6 C7 C8 C9⟩ : Bg).K ((⟨K, caOf C0 C1 C2 C3 C4 C5 C6 C7 C8 C9⟩ : Bg).ca c) "refuses" := by
    intro c hc
    have hd : c = 9 := by simpa [okf_refuses, or_assoc] using hc
    rcases hd with rfl
    · exact ⟨cl9, y9_4⟩
  have Fq0 := fun_mk (st := s_own_list) lq0 cq0 kq0
  have okq0 := ok_own_list (P := l.prog) (w := w) (mg := mg) (base := base) (G := (⟨K, caOf C0 C1 C2 C3 C4 C5 C6 C7 C8 C9⟩ : Bg)) b_isinstance b_list Fq0
  have Bdq0 := Fq0.binds (ps := ["thing"]) fun _ _ _ _ _ _ us hl => match us, hl with | [_], _ => rfl
  have d_own_list : DefOk l.prog w K mg base 1 "own_list" ["thing"] (spF (⟨K, caOf C0 C1 C2 C3 C4 C5 C6 C7 C8 C9⟩ : Bg) f_own_list) := ⟨fq0, _, PySem.W.mg_of X Gn aq0, kq0, Bdq0, okq0⟩
  have Fq1 := fun_mk (st := s_At_init) lq1 cq1 kq1
  have okq1 := ok_At_init (P := l.prog) (w := w) (mg := mg) (base := base) (G := (⟨K, caOf C0 C1 C2 C3 C4 C5 C6 C7 C8 C9⟩ : Bg)) at_At_term at_At_place Fq1
  have Bdq1 := Fq1.binds (ps := ["self", "term", "place"]) fun _ _ _ _ _ _ us hl => match us, hl with | [_, _, _], _ => rfl
  have Mq1 : Mk K C0 fq1 := ⟨mk0, aq1, iq1, kc0⟩
  have k_At_2 : CtorOk (⟨K, caOf C0 C1 C2 C3 C4 C5 C6 C7 C8 C9⟩ : Bg) l.prog w mg base 1 "At" 0 ["self", "term", "place"] [] f_At_init := ⟨fq1, _, [], Mq1, PySem.W.mg_of X Gn aC0, Bdq1, .nil, okq1⟩
  have Fq2 := fun_mk (st := s_Has_init) lq2 cq2 kq2
  have okq2 := ok_Has_init (P := l.prog) (w := w) (mg := mg) (base := base) (G := (⟨K, caOf C0 C1 C2 C3 C4 C5 C6 C7 C8 C9⟩ : Bg)) at_Has_term Fq2
  have Bdq2 := Fq2.binds (ps := ["self", "term"]) fun _ _ _ _ _ _ us hl => match us, hl with | [_, _], _ => rfl
  have Mq2 : Mk K C1 fq2 := ⟨mk1, aq2, iq2, kc1⟩
  have k_Has_1 : CtorOk (⟨K, caOf C0 C1 C2 C3 C4 C5 C6 C7 C8 C9⟩ : Bg) l.prog w mg base 1 "Has" 1 ["self", "term"] [] f_Has_init := ⟨fq2, _, [], Mq2, PySem.W.mg_of X Gn aC1, Bdq2, .nil, okq2⟩
  have Fq3 := fun_mk (st := s_Marked_init) lq3 cq3 kq3
  have okq3 := ok_Marked_init (P := l.prog) (w := w) (mg := mg) (base := base) (G := (⟨K, caOf C0 C1 C2 C3 C4 C5 C6 C7 C8 C9⟩ : Bg)) at_Marked_term at_Marked_value Fq3
  have Bdq3 := Fq3.binds (ps := ["self", "term", "value"]) fun _ _ _ _ _ _ us hl => match us, hl with | [_, _, _], _ => rfl
  have Mq3 : Mk K C2 fq3 := ⟨mk2, aq3, iq3, kc2⟩
  have k_Marked_2 : CtorOk (⟨K, caOf C0 C1 C2 C3 C4 C5 C6 C7 C8 C9⟩ : Bg) l.prog w mg base 1 "Marked" 2 ["self", "term", "value"] [] f_Marked_init := ⟨fq3, _, [], Mq3, PySem.W.mg_of X Gn aC2, Bdq3, .nil, okq3⟩
  have Fq4 := fun_mk (st := s_Kind_init) lq4 cq4 kq4
  have okq4 := ok_Kind_init (P := l.prog) (w := w) (mg := mg) (base := base) (G := (⟨K, caOf C0 C1 C2 C3 C4 C5 C6 C7 C8 C9⟩ : Bg)) at_Kind_term at_Kind_kind Fq4
  have Bdq4 := Fq4.binds (ps := ["self", "term", "kind"]) fun _ _ _ _ _ _ us hl => match us, hl with | [_, _, _], _ => rfl
  have Mq4 : Mk K C3 fq4 := ⟨mk3, aq4, iq4, kc3⟩
  have k_Kind_2 : CtorOk (⟨K, caOf C0 C1 C2 C3 C4 C5 C6 C7 C8 C9⟩ : Bg) l.prog w mg base 1 "Kind" 3 ["self", "term", "kind"] [] f_Kind_init := ⟨fq4, _, [], Mq4, PySem.W.mg_of X Gn aC3, Bdq4, .nil, okq4⟩
  have Fq5 := fun_mk (st := s_Word_init) lq5 cq5 kq5
  have okq5 := ok_Word_init (P := l.prog) (w := w) (mg := mg) (base := base) (G := (⟨K, caOf C0 C1 C2 C3 C4 C5 C6 C7 C8 C9⟩ : Bg)) at_Word_word Fq5
  have Bdq5 := Fq5.binds (ps := ["self", "word"]) fun _ _ _ _ _ _ us hl => match us, hl with | [_, _], _ => rfl
  have Mq5 : Mk K C4 fq5 := ⟨mk4, aq5, iq5, kc4⟩
  have k_Word_1 : CtorOk (⟨K, caOf C0 C1 C2 C3 C4 C5 C6 C7 C8 C9⟩ : Bg) l.prog w mg base 1 "Word" 4 ["self", "word"] [] f_Word_init := ⟨fq5, _, [], Mq5, PySem.W.mg_of X Gn aC4, Bdq5, .nil, okq5⟩
  have Fq6 := fun_mk (st := s_Not_init) lq6 cq6 kq6
  have okq6 := ok_Not_init (P := l.prog) (w := w) (mg := mg) (base := base) (G := (⟨K, caOf C0 C1 C2 C3 C4 C5 C6 C7 C8 C9⟩ : Bg)) at_Not_inner Fq6
  have Bdq6 := Fq6.binds (ps := ["self", "inner"]) fun _ _ _ _ _ _ us hl => match us, hl with | [_, _], _ => rfl
  have Mq6 : Mk K C5 fq6 := ⟨mk5, aq6, iq6, kc5⟩
  have k_Not_1 : CtorOk (⟨K, caOf C0 C1 C2 C3 C4 C5 C6 C7 C8 C9⟩ : Bg) l.prog w mg base 1 "Not" 5 ["self", "inner"] [] f_Not_init := ⟨fq6, _, [], Mq6, PySem.W.mg_of X Gn aC5, Bdq6, .nil, okq6⟩
  have Fq7 := fun_mk (st := s_Move_init) lq7 cq7 kq7
  have okq7 := ok_Move_init (P := l.prog) (w := w) (mg := mg) (base := base) (G := (⟨K, caOf C0 C1 C2 C3 C4 C5 C6 C7 C8 C9⟩ : Bg)) at_Move_term at_Move_place Fq7
  have Bdq7 := Fq7.binds (ps := ["self", "term", "place"]) fun _ _ _ _ _ _ us hl => match us, hl with | [_, _, _], _ => rfl
  have Mq7 : Mk K C6 fq7 := ⟨mk6, aq7, iq7, kc6⟩
  have k_Move_2 : CtorOk (⟨K, caOf C0 C1 C2 C3 C4 C5 C6 C7 C8 C9⟩ : Bg) l.prog w mg base 1 "Move" 6 ["self", "term", "place"] [] f_Move_init := ⟨fq7, _, [], Mq7, PySem.W.mg_of X Gn aC6, Bdq7, .nil, okq7⟩
  have Fq8 := fun_mk (st := s_Put_init) lq8 cq8 kq8
  have okq8 := ok_Put_init (P := l.prog) (w := w) (mg := mg) (base := base) (G := (⟨K, caOf C0 C1 C2 C3 C4 C5 C6 C7 C8 C9⟩ : Bg)) at_Put_term at_Put_value Fq8
  have Bdq8 := Fq8.binds (ps := ["self", "term", "value"]) fun _ _ _ _ _ _ us hl => match us, hl with | [_, _, _], _ => rfl
  have Mq8 : Mk K C7 fq8 := ⟨mk7, aq8, iq8, kc7⟩
  have k_Put_2 : CtorOk (⟨K, caOf C0 C1 C2 C3 C4 C5 C6 C7 C8 C9⟩ : Bg) l.prog w mg base 1 "Put" 7 ["self", "term", "value"] [] f_Put_init := ⟨fq8, _, [], Mq8, PySem.W.mg_of X Gn aC7, Bdq8, .nil, okq8⟩
  have Fq9 := fund_mk (st := s_Verb_init) lq9 cq9 kq9
  have okq9 := ok_Verb_init (P := l.prog) (w := w) (mg := mg) (base := base) (G := (⟨K, caOf C0 C1 C2 C3 C4 C5 C6 C7 C8 C9⟩ : Bg)) at_Verb_name at_Verb_others at_Verb_form at_Verb_joining Fq9
  have Mq9 : Mk K C8 fq9 := ⟨mk8, aq9, iq9, kc8⟩
  have Bdq9_1 : Binds K _ ["self", "name", "others", "form", "joining"] [.none, .str "one" tq9_1, .none] := Fq9.binds dq9 rfl fun _ _ _ _ _ _ us hl => match us, hl with | [_, _], _ => ⟨_, rfl, rfl⟩
  have k_Verb_1 : CtorOk (⟨K, caOf C0 C1 C2 C3 C4 C5 C6 C7 C8 C9⟩ : Bg) l.prog w mg base 1 "Verb" 8 ["self", "name", "others", "form", "joining"] [V.non, (V.str "one"), V.non] f_Verb_init := ⟨fq9, _, [.none, .str "one" tq9_1, .none], Mq9, PySem.W.mg_of X Gn aC8, Bdq9_1, .cons rfl (.cons ⟨_, rfl⟩ (.cons rfl (.nil))), okq9⟩
  have Bdq9_3 : Binds K _ ["self", "name", "others", "form", "joining"] [.none] := Fq9.binds dq9 rfl fun _ _ _ _ _ _ us hl => match us, hl with | [_, _, _, _], _ => ⟨_, rfl, rfl⟩
  have k_Verb_3 : CtorOk (⟨K, caOf C0 C1 C2 C3 C4 C5 C6 C7 C8 C9⟩ : Bg) l.prog w mg base 1 "Verb" 8 ["self", "name", "others", "form", "joining"] [V.non] f_Verb_init := ⟨fq9, _, [.none], Mq9, PySem.W.mg_of X Gn aC8, Bdq9_3, .cons rfl (.nil), okq9⟩
  have Bdq9_4 : Binds K _ ["self", "name", "others", "form", "joining"] [] := Fq9.binds dq9 rfl fun _ _ _ _ _ _ us hl => match us, hl with | [_, _, _, _, _], _ => ⟨_, rfl, rfl⟩
  have k_Verb_4 : CtorOk (⟨K, caOf C0 C1 C2 C3 C4 C5 C6 C7 C8 C9⟩ : Bg) l.prog w mg base 1 "Verb" 8 ["self", "name", "others", "form", "joining"] [] f_Verb_init := ⟨fq9, _, [], Mq9, PySem.W.mg_of X Gn aC8, Bdq9_4, .nil, okq9⟩
  have Fq10 := fund_mk (st := s_Rule_init) lq10 cq10 kq10
  have okq10 := ok_Rule_init (P := l.prog) (w := w) (mg := mg) (base := base) (G := (⟨K, caOf C0 C1 C2 C3 C4 C5 C6 C7 C8 C9⟩ : Bg)) at_Rule_verb d_own_list at_Rule_tests at_Rule_deeds at_Rule_text at_Rule_refuses Fq10
  have Mq10 : Mk K C9 fq10 := ⟨mk9, aq10, iq10, kc9⟩
  have Bdq10_5 : Binds K _ ["self", "verb", "tests", "deeds", "text", "refuses"] [] := Fq10.binds dq10 rfl fun _ _ _ _ _ _ us hl => match us, hl with | [_, _, _, _, _, _], _ => ⟨_, rfl, rfl⟩
  have k_Rule_5 : CtorOk (⟨K, caOf C0 C1 C2 C3 C4 C5 C6 C7 C8 C9⟩ : Bg) l.prog w mg base 2 "Rule" 9 ["self", "verb", "tests", "deeds", "text", "refuses"] [] f_Rule_init := ⟨fq10, _, [], Mq10, PySem.W.mg_of X Gn aC9, Bdq10_5, .nil, okq10⟩
  have Fq11 := fun_mk (st := s_At_told) lq11 cq11 kq11
  have okq11 := ok_At_told (P := l.prog) (w := w) (mg := mg) (base := base) (G := (⟨K, caOf C0 C1 C2 C3 C4 C5 C6 C7 C8 C9⟩ : Bg)) fld_place fld_term Fq11
  have Bdq11 := Fq11.binds (ps := ["self"]) fun _ _ _ _ _ _ us hl => match us, hl with | [_], _ => rfl
  have Mq11 : Meth K C0 "told" fq11 := ⟨aq11, iq11, kq11⟩
  have Fq12 := fun_mk (st := s_Has_told) lq12 cq12 kq12
  have okq12 := ok_Has_told (P := l.prog) (w := w) (mg := mg) (base := base) (G := (⟨K, caOf C0 C1 C2 C3 C4 C5 C6 C7 C8 C9⟩ : Bg)) fld_term Fq12
  have Bdq12 := Fq12.binds (ps := ["self"]) fun _ _ _ _ _ _ us hl => match us, hl with | [_], _ => rfl
  have Mq12 : Meth K C1 "told" fq12 := ⟨aq12, iq12, kq12⟩
  have Fq13 := fun_mk (st := s_Marked_told) lq13 cq13 kq13
  have okq13 := ok_Marked_told (P := l.prog) (w := w) (mg := mg) (base := base) (G := (⟨K, caOf C0 C1 C2 C3 C4 C5 C6 C7 C8 C9⟩ : Bg)) fld_value fld_term Fq13
  have Bdq13 := Fq13.binds (ps := ["self"]) fun _ _ _ _ _ _ us hl => match us, hl with | [_], _ => rfl
  have Mq13 : Meth K C2 "told" fq13 := ⟨aq13, iq13, kq13⟩
  have Fq14 := fun_mk (st := s_Kind_told) lq14 cq14 kq14
  have okq14 := ok_Kind_told (P := l.prog) (w := w) (mg := mg) (base := base) (G := (⟨K, caOf C0 C1 C2 C3 C4 C5 C6 C7 C8 C9⟩ : Bg)) fld_kind fld_term Fq14
  have Bdq14 := Fq14.binds (ps := ["self"]) fun _ _ _ _ _ _ us hl => match us, hl with | [_], _ => rfl
  have Mq14 : Meth K C3 "told" fq14 := ⟨aq14, iq14, kq14⟩
  have Fq15 := fun_mk (st := s_Word_told) lq15 cq15 kq15
  have okq15 := ok_Word_told (P := l.prog) (w := w) (mg := mg) (base := base) (G := (⟨K, caOf C0 C1 C2 C3 C4 C5 C6 C7 C8 C9⟩ : Bg)) fld_word Fq15
  have Bdq15 := Fq15.binds (ps := ["self"]) fun _ _ _ _ _ _ us hl => match us, hl with | [_], _ => rfl
  have Mq15 : Meth K C4 "told" fq15 := ⟨aq15, iq15, kq15⟩
  have Fq16 := fun_mk (st := s_Move_told) lq16 cq16 kq16
  have okq16 := ok_Move_told (P := l.prog) (w := w) (mg := mg) (base := base) (G := (⟨K, caOf C0 C1 C2 C3 C4 C5 C6 C7 C8 C9⟩ : Bg)) fld_place fld_term Fq16
  have Bdq16 := Fq16.binds (ps := ["self"]) fun _ _ _ _ _ _ us hl => match us, hl with | [_], _ => rfl
  have Mq16 : Meth K C6 "told" fq16 := ⟨aq16, iq16, kq16⟩
  have Fq17 := fun_mk (st := s_Put_told) lq17 cq17 kq17
  have okq17 := ok_Put_told (P := l.prog) (w := w) (mg := mg) (base := base) (G := (⟨K, caOf C0 C1 C2 C3 C4 C5 C6 C7 C8 C9⟩ : Bg)) fld_value fld_term Fq17
  have Bdq17 := Fq17.binds (ps := ["self"]) fun _ _ _ _ _ _ us hl => match us, hl with | [_], _ => rfl
  have Mq17 : Meth K C7 "told" fq17 := ⟨aq17, iq17, kq17⟩
  have m_told0_ : ∀ c h, m_told0 c = some h → MethOk (⟨K, caOf C0 C1 C2 C3 C4 C5 C6 C7 C8 C9⟩ : Bg) l.prog w mg base 1 "told" c h := by
    intro c h e
    unfold m_told0 at e
    split at e
    · cases e; exact ⟨fq11, _, _, cl0, Mq11, Bdq11, okq11.mono (by decide)⟩
    · cases e; exact ⟨fq12, _, _, cl1, Mq12, Bdq12, okq12.mono (by decide)⟩
    · cases e; exact ⟨fq13, _, _, cl2, Mq13, Bdq13, okq13.mono (by decide)⟩
    · cases e; exact ⟨fq14, _, _, cl3, Mq14, Bdq14, okq14.mono (by decide)⟩
    · cases e; exact ⟨fq15, _, _, cl4, Mq15, Bdq15, okq15.mono (by decide)⟩
    · cases e; exact ⟨fq16, _, _, cl6, Mq16, Bdq16, okq16.mono (by decide)⟩
    · cases e; exact ⟨fq17, _, _, cl7, Mq17, Bdq17, okq17.mono (by decide)⟩
    · cases e
  have Fq18 := fun_mk (st := s_Not_told) lq18 cq18 kq18
  have okq18 := ok_Not_told (P := l.prog) (w := w) (mg := mg) (base := base) (G := (⟨K, caOf C0 C1 C2 C3 C4 C5 C6 C7 C8 C9⟩ : Bg)) m_told0_ fld_inner Fq18
  have Bdq18 := Fq18.binds (ps := ["self"]) fun _ _ _ _ _ _ us hl => match us, hl with | [_], _ => rfl
  have Mq18 : Meth K C5 "told" fq18 := ⟨aq18, iq18, kq18⟩
  have m_told1_ : ∀ c h, m_told1 c = some h → MethOk (⟨K, caOf C0 C1 C2 C3 C4 C5 C6 C7 C8 C9⟩ : Bg) l.prog w mg base 2 "told" c h := by
    intro c h e
    unfold m_told1 at e
    split at e
    · cases e; exact ⟨fq11, _, _, cl0, Mq11, Bdq11, okq11.mono (by decide)⟩
    · cases e; exact ⟨fq12, _, _, cl1, Mq12, Bdq12, okq12.mono (by decide)⟩
    · cases e; exact ⟨fq13, _, _, cl2, Mq13, Bdq13, okq13.mono (by decide)⟩
    · cases e; exact ⟨fq14, _, _, cl3, Mq14, Bdq14, okq14.mono (by decide)⟩
    · cases e; exact ⟨fq15, _, _, cl4, Mq15, Bdq15, okq15.mono (by decide)⟩
    · cases e; exact ⟨fq16, _, _, cl6, Mq16, Bdq16, okq16.mono (by decide)⟩
    · cases e; exact ⟨fq17, _, _, cl7, Mq17, Bdq17, okq17.mono (by decide)⟩
    · cases e; exact ⟨fq18, _, _, cl5, Mq18, Bdq18, okq18.mono (by decide)⟩
    · cases e
  have Fq19 := fun_mk (st := s_does) lq19 cq19 kq19
  have okq19 := ok_does (P := l.prog) (w := w) (mg := mg) (base := base) (G := (⟨K, caOf C0 C1 C2 C3 C4 C5 C6 C7 C8 C9⟩ : Bg)) k_Rule_5 Fq19
  have Bdq19 := Fq19.binds (ps := ["verb", "tests", "deeds", "text"]) fun _ _ _ _ _ _ us hl => match us, hl with | [_, _, _, _], _ => rfl
  have d_does : DefOk l.prog w K mg base 4 "does" ["verb", "tests", "deeds", "text"] (spF (⟨K, caOf C0 C1 C2 C3 C4 C5 C6 C7 C8 C9⟩ : Bg) f_does) := ⟨fq19, _, PySem.W.mg_of X Gn aq19, kq19, Bdq19, okq19⟩
  have Fq20 := fun_mk (st := s_refuses) lq20 cq20 kq20
  have okq20 := ok_refuses (P := l.prog) (w := w) (mg := mg) (base := base) (G := (⟨K, caOf C0 C1 C2 C3 C4 C5 C6 C7 C8 C9⟩ : Bg)) k_Rule_5 Fq20
  have Bdq20 := Fq20.binds (ps := ["verb", "tests", "text"]) fun _ _ _ _ _ _ us hl => match us, hl with | [_, _, _], _ => rfl
  have d_refuses : DefOk l.prog w K mg base 4 "refuses" ["verb", "tests", "text"] (spF (⟨K, caOf C0 C1 C2 C3 C4 C5 C6 C7 C8 C9⟩ : Bg) f_refuses) := ⟨fq20, _, PySem.W.mg_of X Gn aq20, kq20, Bdq20, okq20⟩
  have Fq21 := fun_mk (st := s_hand_rules) lq21 cq21 kq21
  have okq21 := ok_hand_rules (P := l.prog) (w := w) (mg := mg) (base := base) (G := (⟨K, caOf C0 C1 C2 C3 C4 C5 C6 C7 C8 C9⟩ : Bg)) d_refuses d_does k_Move_2 k_Has_1 k_At_2 k_Kind_2 Fq21
  have Bdq21 := Fq21.binds (ps := ["you"]) fun _ _ _ _ _ _ us hl => match us, hl with | [_], _ => rfl
  have d_hand_rules : DefOk l.prog w K mg base 5 "hand_rules" ["you"] (spN (⟨K, caOf C0 C1 C2 C3 C4 C5 C6 C7 C8 C9⟩ : Bg) f_hand_rules) := ⟨fq21, _, PySem.W.mg_of X Gn aq21, kq21, Bdq21, okq21⟩
  have Fq22 := fun_mk (st := s_put_rules) lq22 cq22 kq22
  have okq22 := ok_put_rules (P := l.prog) (w := w) (mg := mg) (base := base) (G := (⟨K, caOf C0 C1 C2 C3 C4 C5 C6 C7 C8 C9⟩ : Bg)) d_does k_Move_2 d_refuses k_Marked_2 k_Kind_2 k_Not_1 k_Has_1 Fq22
  have Bdq22 := Fq22.binds (ps := []) fun _ _ _ _ _ _ us hl => match us, hl with | [], _ => rfl
  have d_put_rules : DefOk l.prog w K mg base 5 "put_rules" [] (spN (⟨K, caOf C0 C1 C2 C3 C4 C5 C6 C7 C8 C9⟩ : Bg) f_put_rules) := ⟨fq22, _, PySem.W.mg_of X Gn aq22, kq22, Bdq22, okq22⟩
  have Fq23 := fun_mk (st := s_lid_rules) lq23 cq23 kq23
  have okq23 := ok_lid_rules (P := l.prog) (w := w) (mg := mg) (base := base) (G := (⟨K, caOf C0 C1 C2 C3 C4 C5 C6 C7 C8 C9⟩ : Bg)) d_does k_Put_2 d_refuses k_Marked_2 k_Kind_2 k_Not_1 Fq23
  have Bdq23 := Fq23.binds (ps := []) fun _ _ _ _ _ _ us hl => match us, hl with | [], _ => rfl
  have d_lid_rules : DefOk l.prog w K mg base 5 "lid_rules" [] (spN (⟨K, caOf C0 C1 C2 C3 C4 C5 C6 C7 C8 C9⟩ : Bg) f_lid_rules) := ⟨fq23, _, PySem.W.mg_of X Gn aq23, kq23, Bdq23, okq23⟩
  have Fq24 := fun_mk (st := s_flame_rules) lq24 cq24 kq24
  have okq24 := ok_flame_rules (P := l.prog) (w := w) (mg := mg) (base := base) (G := (⟨K, caOf C0 C1 C2 C3 C4 C5 C6 C7 C8 C9⟩ : Bg)) d_does k_Put_2 d_refuses k_Marked_2 k_Kind_2 k_Not_1 Fq24
  have Bdq24 := Fq24.binds (ps := []) fun _ _ _ _ _ _ us hl => match us, hl with | [], _ => rfl
  have d_flame_rules : DefOk l.prog w K mg base 5 "flame_rules" [] (spN (⟨K, caOf C0 C1 C2 C3 C4 C5 C6 C7 C8 C9⟩ : Bg) f_flame_rules) := ⟨fq24, _, PySem.W.mg_of X Gn aq24, kq24, Bdq24, okq24⟩
  have Fq25 := fun_mk (st := s_way_tests) lq25 cq25 kq25
  have okq25 := ok_way_tests (P := l.prog) (w := w) (mg := mg) (base := base) (G := (⟨K, caOf C0 C1 C2 C3 C4 C5 C6 C7 C8 C9⟩ : Bg)) k_Word_1 k_At_2 k_Marked_2 k_Not_1 Fq25
  have Bdq25 := Fq25.binds (ps := ["you", "way"]) fun _ _ _ _ _ _ us hl => match us, hl with | [_, _], _ => rfl
  have d_way_tests : DefOk l.prog w K mg base 3 "way_tests" ["you", "way"] (spN (⟨K, caOf C0 C1 C2 C3 C4 C5 C6 C7 C8 C9⟩ : Bg) f_way_tests) := ⟨fq25, _, PySem.W.mg_of X Gn aq25, kq25, Bdq25, okq25⟩
  have Fq26 := fun_mk (st := s_go_rules) lq26 cq26 kq26
  have okq26 := ok_go_rules (P := l.prog) (w := w) (mg := mg) (base := base) (G := (⟨K, caOf C0 C1 C2 C3 C4 C5 C6 C7 C8 C9⟩ : Bg)) d_does k_Move_2 d_way_tests d_refuses Fq26
  have Bdq26 := Fq26.binds (ps := ["you", "ways"]) fun _ _ _ _ _ _ us hl => match us, hl with | [_, _], _ => rfl
  have d_go_rules : DefOk l.prog w K mg base 5 "go_rules" ["you", "ways"] (spN (⟨K, caOf C0 C1 C2 C3 C4 C5 C6 C7 C8 C9⟩ : Bg) f_go_rules) := ⟨fq26, _, PySem.W.mg_of X Gn aq26, kq26, Bdq26, okq26⟩
  have Fq27 := fun_mk (st := s_wait_rules) lq27 cq27 kq27
  have okq27 := ok_wait_rules (P := l.prog) (w := w) (mg := mg) (base := base) (G := (⟨K, caOf C0 C1 C2 C3 C4 C5 C6 C7 C8 C9⟩ : Bg)) d_does Fq27
  have Bdq27 := Fq27.binds (ps := []) fun _ _ _ _ _ _ us hl => match us, hl with | [], _ => rfl
  have d_wait_rules : DefOk l.prog w K mg base 5 "wait_rules" [] (spN (⟨K, caOf C0 C1 C2 C3 C4 C5 C6 C7 C8 C9⟩ : Bg) f_wait_rules) := ⟨fq27, _, PySem.W.mg_of X Gn aq27, kq27, Bdq27, okq27⟩
  have Fq28 := fun_mk (st := s_common_rules) lq28 cq28 kq28
  have okq28 := ok_common_rules (P := l.prog) (w := w) (mg := mg) (base := base) (G := (⟨K, caOf C0 C1 C2 C3 C4 C5 C6 C7 C8 C9⟩ : Bg)) d_hand_rules d_put_rules d_lid_rules d_flame_rules d_go_rules d_wait_rules Fq28
  have Bdq28 := Fq28.binds (ps := ["you", "ways"]) fun _ _ _ _ _ _ us hl => match us, hl with | [_, _], _ => rfl
  have d_common_rules : DefOk l.prog w K mg base 6 "common_rules" ["you", "ways"] (spN (⟨K, caOf C0 C1 C2 C3 C4 C5 C6 C7 C8 C9⟩ : Bg) f_common_rules) := ⟨fq28, _, PySem.W.mg_of X Gn aq28, kq28, Bdq28, okq28⟩
  have Fq29 := fun_mk (st := s_common_verbs) lq29 cq29 kq29
  have okq29 := ok_common_verbs (P := l.prog) (w := w) (mg := mg) (base := base) (G := (⟨K, caOf C0 C1 C2 C3 C4 C5 C6 C7 C8 C9⟩ : Bg)) k_Verb_1 k_Verb_3 k_Verb_4 Fq29
  have Bdq29 := Fq29.binds (ps := []) fun _ _ _ _ _ _ us hl => match us, hl with | [], _ => rfl
  have d_common_verbs : DefOk l.prog w K mg base 3 "common_verbs" [] (spN (⟨K, caOf C0 C1 C2 C3 C4 C5 C6 C7 C8 C9⟩ : Bg) f_common_verbs) := ⟨fq29, _, PySem.W.mg_of X Gn aq29, kq29, Bdq29, okq29⟩
  have Fq30 := fun_mk (st := s__law_digit) lq30 cq30 kq30
  have okq30 := ok__law_digit (P := l.prog) (w := w) (mg := mg) (base := base) (G := (⟨K, caOf C0 C1 C2 C3 C4 C5 C6 C7 C8 C9⟩ : Bg)) b_len b_int Fq30
  have Bdq30 := Fq30.binds (ps := ["_law_state", "_law_base"]) fun _ _ _ _ _ _ us hl => match us, hl with | [_, _], _ => rfl
  have d__law_digit : DefOk l.prog w K mg base 1 "_law_digit" ["_law_state", "_law_base"] (spM (⟨K, caOf C0 C1 C2 C3 C4 C5 C6 C7 C8 C9⟩ : Bg) f__law_digit) := ⟨fq30, _, PySem.W.mg_of X Gn aq30, kq30, Bdq30, okq30⟩
  have Fq31 := fun_mk (st := s__law_name) lq31 cq31 kq31
  have okq31 := ok__law_name (P := l.prog) (w := w) (mg := mg) (base := base) (G := (⟨K, caOf C0 C1 C2 C3 C4 C5 C6 C7 C8 C9⟩ : Bg)) d__law_digit b_range Fq31
  have Bdq31 := Fq31.binds (ps := ["_law_state"]) fun _ _ _ _ _ _ us hl => match us, hl with | [_], _ => rfl
  have d__law_name : DefOk l.prog w K mg base 2 "_law_name" ["_law_state"] (spM (⟨K, caOf C0 C1 C2 C3 C4 C5 C6 C7 C8 C9⟩ : Bg) f__law_name) := ⟨fq31, _, PySem.W.mg_of X Gn aq31, kq31, Bdq31, okq31⟩
  have Fq32 := fun_mk (st := s__law_ways) lq32 cq32 kq32
  have okq32 := ok__law_ways (P := l.prog) (w := w) (mg := mg) (base := base) (G := (⟨K, caOf C0 C1 C2 C3 C4 C5 C6 C7 C8 C9⟩ : Bg)) d__law_digit b_range d__law_name Fq32
  have Bdq32 := Fq32.binds (ps := ["_law_state"]) fun _ _ _ _ _ _ us hl => match us, hl with | [_], _ => rfl
  have d__law_ways : DefOk l.prog w K mg base 3 "_law_ways" ["_law_state"] (spM (⟨K, caOf C0 C1 C2 C3 C4 C5 C6 C7 C8 C9⟩ : Bg) f__law_ways) := ⟨fq32, _, PySem.W.mg_of X Gn aq32, kq32, Bdq32, okq32⟩
  have Fq33 := fun_mk (st := s__law_turned) lq33 cq33 kq33
  have okq33 := ok__law_turned (P := l.prog) (w := w) (mg := mg) (base := base) (G := (⟨K, caOf C0 C1 C2 C3 C4 C5 C6 C7 C8 C9⟩ : Bg))  Fq33
  have Bdq33 := Fq33.binds (ps := ["_law_verb", "_law_kind", "_law_value", "_law_texts"]) fun _ _ _ _ _ _ us hl => match us, hl with | [_, _, _, _], _ => rfl
  have d__law_turned : DefOk l.prog w K mg base 1 "_law_turned" ["_law_verb", "_law_kind", "_law_value", "_law_texts"] (spN (⟨K, caOf C0 C1 C2 C3 C4 C5 C6 C7 C8 C9⟩ : Bg) f__law_turned) := ⟨fq33, _, PySem.W.mg_of X Gn aq33, kq33, Bdq33, okq33⟩
  have Fq34 := fun_mk (st := s__law_due) lq34 cq34 kq34
  have okq34 := ok__law_due (P := l.prog) (w := w) (mg := mg) (base := base) (G := (⟨K, caOf C0 C1 C2 C3 C4 C5 C6 C7 C8 C9⟩ : Bg)) d__law_turned Fq34
  have Bdq34 := Fq34.binds (ps := ["_law_you", "_law_ways_here"]) fun _ _ _ _ _ _ us hl => match us, hl with | [_, _], _ => rfl
  have d__law_due : DefOk l.prog w K mg base 2 "_law_due" ["_law_you", "_law_ways_here"] (spN (⟨K, caOf C0 C1 C2 C3 C4 C5 C6 C7 C8 C9⟩ : Bg) f__law_due) := ⟨fq34, _, PySem.W.mg_of X Gn aq34, kq34, Bdq34, okq34⟩
  have Fq35 := fun_mk (st := s__law_told) lq35 cq35 kq35
  have okq35 := ok__law_told (P := l.prog) (w := w) (mg := mg) (base := base) (G := (⟨K, caOf C0 C1 C2 C3 C4 C5 C6 C7 C8 C9⟩ : Bg)) fld_tests m_told1_ fld_refuses fld_text fld_deeds fld_verb Fq35
  have Bdq35 := Fq35.binds (ps := ["_law_rules"]) fun _ _ _ _ _ _ us hl => match us, hl with | [_], _ => rfl
  have d__law_told : DefOk l.prog w K mg base 3 "_law_told" ["_law_rules"] (spN (⟨K, caOf C0 C1 C2 C3 C4 C5 C6 C7 C8 C9⟩ : Bg) f__law_told) := ⟨fq35, _, PySem.W.mg_of X Gn aq35, kq35, Bdq35, okq35⟩
  have Fq36 := fun_mk (st := s_law) lq36 cq36 kq36
  have okq36 := ok_law (P := l.prog) (w := w) (mg := mg) (base := base) (G := (⟨K, caOf C0 C1 C2 C3 C4 C5 C6 C7 C8 C9⟩ : Bg)) d_common_verbs fld_joining fld_form fld_name fld_others b_len d__law_name d__law_ways b_list d_common_rules b_isinstance d__law_told d__law_due Fq36
  exact (okq36.imp (law_imp (G := (⟨K, caOf C0 C1 C2 C3 C4 C5 C6 C7 C8 C9⟩ : Bg))))
theorem walk {l : PySem.W.OpenLaw} {q : Program} {loose : List Str} {XP : (Str → Option Value) → Heap → Prop} {YP : World → Heap → Prop} {d : DefRec} {K : Params → PySem.W.Frag} (hn : l.most = some 63) (hdf : d.params.defaults = [])
    (hY : ∀ (w : World) (h : Heap), YP w h → (K w.params).In h)
    (F : ∀ (w : World) (mg : Str → Option Value) (fa : Addr) (h : Heap), (K w.params).In h → h.Ns mainGlobals mg → mg d.name = some (.ref fa) →
      ∃ fd : FuncData, (∀ (s : Shared) (u : Value), BindsTo s fd ⟨[u], []⟩ [("_law_script", u)]) ∧ ∀ base : Heap, (K w.params).In base → base.Ns mainGlobals mg → FnOk l.prog w (K w.params) mg base CX0 7 fa fd ["_law_script"] (spLaw (K w.params))) :
    PySem.W.WalkO q loose XP YP l.row.toRowW d [] (fun f vs => PySem.call f vs) :=
  L2.walk_of (n := 63) (k := 7) (x := "_law_script") (CX := fun _ => CX0) (sp := fun w => spLaw (K w.params)) hn (by decide) hdf ⟨rfl, by decide, by decide⟩ hY F (fun _ _ a ns hl _ hS => ⟨a, ns, rfl, hS, hl, fun _ => rfl⟩) fun _ _ _ _ _ z => z
end K33
open PySem PySem.W PyProof.Rows
def PySem.W.Fast.tw17884145616661283829 : Nat := 0
def PySem.W.Fast.tw10177169900475844342 : Nat := 0
def PySem.W.Fast.tw4905194841988867268 : Nat := 0
def PySem.W.Fast.tw861502493610598483 : Nat := 0
def PySem.W.Fast.tw7639169818455392173 : Nat := 0
def PySem.W.Fast.tw16937879542928416138 : Nat := 0
def PySem.W.Fast.tw7723211159200377822 : Nat := 0
def PySem.W.Fast.tw854247580281644437 : Nat := 0
def PySem.W.Fast.tw9325782499559507614 : Nat := 0
def PySem.W.Fast.tw3116142745294760271 : Nat := 0
def PySem.W.Fast.tw2575207979326191193 : Nat := 0
def PySem.W.Fast.tw17426987436379436081 : Nat := 0
def PySem.W.Fast.tw17445344336706051463 : Nat := 0
def PySem.W.Fast.tw10338398162516547025 : Nat := 0
def PySem.W.Fast.tw14575388751658381831 : Nat := 0
def PySem.W.Fast.tw16506471722634982818 : Nat := 0
def PySem.W.Fast.tw730961619353400375 : Nat := 0
set_option maxHeartbeats 0 in
open_top hd for PySem.Challenge.rw_tellworld_k33_common_verbs_and_rules
set_option maxRecDepth 100000 in
set_option maxHeartbeats 0 in
theorem PySem.Challenge.cw_tellworld_k33_common_verbs_and_rules_holds : PySem.Challenge.rw_tellworld_k33_common_verbs_and_rules.Holds := by
  refine hd ?_
  k_fill
  refine K33.walk (l := PySem.Challenge.rw_tellworld_k33_common_verbs_and_rules) rfl rfl (fun w h Y => PySem.W.kIn_of Y) ?F
  case F =>
    intro w mg fa h KX G hmg
    refine' K33.all_mk KX G hmg ?aq0 ?lq0 ?cq0 ?kq0 ?aq1 ?iq1 ?lq1 ?cq1 ?kq1 ?aq2 ?iq2 ?lq2 ?cq2 ?kq2 ?aq3 ?iq3 ?lq3 ?cq3 ?kq3 ?aq4 ?iq4 ?lq4 ?cq4 ?kq4 ?aq5 ?iq5 ?lq5 ?cq5 ?kq5 ?aq6 ?iq6 ?lq6 ?cq6 ?kq6 ?aq7 ?iq7 ?lq7 ?cq7 ?kq7 ?aq8 ?iq8 ?lq8 ?cq8 ?kq8 ?aq9 ?iq9 ?lq9 ?cq9 ?kq9 ?dq9 ?aq10 ?iq10 ?lq10 ?cq10 ?kq10 ?dq10 ?aq11 ?iq11 ?lq11 ?cq11 ?kq11 ?aq12 ?iq12 ?lq12 ?cq12 ?kq12 ?aq13 ?iq13 ?lq13 ?cq13 ?kq13 ?aq14 ?iq14 ?lq14 ?cq14 ?kq14 ?aq15 ?iq15 ?lq15 ?cq15 ?kq15 ?aq16 ?iq16 ?lq16 ?cq16 ?kq16 ?aq17 ?iq17 ?lq17 ?cq17 ?kq17 ?aq18 ?iq18 ?lq18 ?cq18 ?kq18 ?aq19 ?lq19 ?cq19 ?kq19 ?aq20 ?lq20 ?cq20 ?kq20 ?aq21 ?lq21 ?cq21 ?kq21 ?aq22 ?lq22 ?cq22 ?kq22 ?aq23 ?lq23 ?cq23 ?kq23 ?aq24 ?lq24 ?cq24 ?kq24 ?aq25 ?lq25 ?cq25 ?kq25 ?aq26 ?lq26 ?cq26 ?kq26 ?aq27 ?lq27 ?cq27 ?kq27 ?aq28 ?lq28 ?cq28 ?kq28 ?aq29 ?lq29 ?cq29 ?kq29 ?aq30 ?lq30 ?cq30 ?kq30 ?aq31 ?lq31 ?cq31 ?kq31 ?aq32 ?lq32 ?cq32 ?kq32 ?aq33 ?lq33 ?cq33 ?kq33 ?aq34 ?lq34 ?cq34 ?kq34 ?aq35 ?lq35 ?cq35 ?kq35 ?aq36 ?lq36 ?cq36 ?kq36 ?aC0 ?pg0 ?hd0 ?po0 ?sa0 ?mk0 ?kc0 ?y0_0 ?y0_1 ?aC1 ?pg1 ?hd1 ?po1 ?sa1 ?mk1 ?kc1 ?y1_0 ?aC2 ?pg2 ?hd2 ?po2 ?sa2 ?mk2 ?kc2 ?y2_0 ?y2_1 ?aC3 ?pg3 ?hd3 ?po3 ?sa3 ?mk3 ?kc3 ?y3_0 ?y3_1 ?aC4 ?pg4 ?hd4 ?po4 ?sa4 ?mk4 ?kc4 ?y4_0 ?aC5 ?pg5 ?hd5 ?po5 ?sa5 ?mk5 ?kc5 ?y5_0 ?aC6 ?pg6 ?hd6 ?po6 ?sa6 ?mk6 ?kc6 ?y6_0 ?y6_1 ?aC7 ?pg7 ?hd7 ?po7 ?sa7 ?mk7 ?kc7 ?y7_0 ?y7_1 ?aC8 ?pg8 ?hd8 ?po8 ?sa8 ?mk8 ?kc8 ?y8_0 ?y8_1 ?y8_2 ?y8_3 ?aC9 ?pg9 ?hd9 ?po9 ?sa9 ?mk9 ?kc9 ?y9_0 ?y9_1 ?y9_2 ?y9_3 ?y9_4 ?e0 ?e1 ?e2 ?e3 ?e4
    (case aC0 => k_is)
    (case aC1 => k_is)
    (case aC2 => k_is)
    (case aC3 => k_is)
    (case aC4 => k_is)
    (case aC5 => k_is)
    (case aC6 => k_is)
    (case aC7 => k_is)
    (case aC8 => k_is)
    (case aC9 => k_is)
    (case aq0 => k_is)
    (case lq0 => k_is)
    (case cq0 => k_is)
    (case kq0 => k_is)
    (case aq1 => k_is)
    (case iq1 => k_is)
    (case lq1 => k_is)
    (case cq1 => k_is)
    (case kq1 => k_is)
    (case aq2 => k_is)
    (case iq2 => k_is)
    (case lq2 => k_is)
    (case cq2 => k_is)
    (case kq2 => k_is)
    (case aq3 => k_is)
    (case iq3 => k_is)
    (case lq3 => k_is)
    (case cq3 => k_is)
    (case kq3 => k_is)
    (case aq4 => k_is)
    (case iq4 => k_is)
    (case lq4 => k_is)
    (case cq4 => k_is)
    (case kq4 => k_is)
    (case aq5 => k_is)
    (case iq5 => k_is)
    (case lq5 => k_is)
    (case cq5 => k_is)
    (case kq5 => k_is)
    (case aq6 => k_is)
    (case iq6 => k_is)
    (case lq6 => k_is)
    (case cq6 => k_is)
    (case kq6 => k_is)
    (case aq7 => k_is)
    (case iq7 => k_is)
    (case lq7 => k_is)
    (case cq7 => k_is)
    (case kq7 => k_is)
    (case aq8 => k_is)
    (case iq8 => k_is)
    (case lq8 => k_is)
    (case cq8 => k_is)
    (case kq8 => k_is)
    (case aq9 => k_is)
    (case iq9 => k_is)
    (case lq9 => k_is)
    (case cq9 => k_is)
    (case kq9 => k_is)
    (case dq9 => k_is)
    (case aq10 => k_is)
    (case iq10 => k_is)
    (case lq10 => k_is)
    (case cq10 => k_is)
    (case kq10 => k_is)
    (case dq10 => k_is)
    (case aq11 => k_is)
    (case iq11 => k_is)
    (case lq11 => k_is)
    (case cq11 => k_is)
    (case kq11 => k_is)
    (case aq12 => k_is)
    (case iq12 => k_is)
    (case lq12 => k_is)
    (case cq12 => k_is)
    (case kq12 => k_is)
    (case aq13 => k_is)
    (case iq13 => k_is)
    (case lq13 => k_is)
    (case cq13 => k_is)
    (case kq13 => k_is)
    (case aq14 => k_is)
    (case iq14 => k_is)
    (case lq14 => k_is)
    (case cq14 => k_is)
    (case kq14 => k_is)
    (case aq15 => k_is)
    (case iq15 => k_is)
    (case lq15 => k_is)
    (case cq15 => k_is)
    (case kq15 => k_is)
    (case aq16 => k_is)
    (case iq16 => k_is)
    (case lq16 => k_is)
    (case cq16 => k_is)
    (case kq16 => k_is)
    (case aq17 => k_is)
    (case iq17 => k_is)
    (case lq17 => k_is)
    (case cq17 => k_is)
    (case kq17 => k_is)
    (case aq18 => k_is)
    (case iq18 => k_is)
    (case lq18 => k_is)
    (case cq18 => k_is)
    (case kq18 => k_is)
    (case aq19 => k_is)
    (case lq19 => k_is)
    (case cq19 => k_is)
    (case kq19 => k_is)
    (case aq20 => k_is)
    (case lq20 => k_is)
    (case cq20 => k_is)
    (case kq20 => k_is)
    (case aq21 => k_is)
    (case lq21 => k_is)
    (case cq21 => k_is)
    (case kq21 => k_is)
    (case aq22 => k_is)
    (case lq22 => k_is)
    (case cq22 => k_is)
    (case kq22 => k_is)
    (case aq23 => k_is)
    (case lq23 => k_is)
    (case cq23 => k_is)
    (case kq23 => k_is)
    (case aq24 => k_is)
    (case lq24 => k_is)
    (case cq24 => k_is)
    (case kq24 => k_is)
    (case aq25 => k_is)
    (case lq25 => k_is)
    (case cq25 => k_is)
    (case kq25 => k_is)
    (case aq26 => k_is)
    (case lq26 => k_is)
    (case cq26 => k_is)
    (case kq26 => k_is)
    (case aq27 => k_is)
    (case lq27 => k_is)
    (case cq27 => k_is)
    (case kq27 => k_is)
    (case aq28 => k_is)
    (case lq28 => k_is)
    (case cq28 => k_is)
    (case kq28 => k_is)
    (case aq29 => k_is)
    (case lq29 => k_is)
    (case cq29 => k_is)
    (case kq29 => k_is)
    (case aq30 => k_is)
    (case lq30 => k_is)
    (case cq30 => k_is)
    (case kq30 => k_is)
    (case aq31 => k_is)
    (case lq31 => k_is)
    (case cq31 => k_is)
    (case kq31 => k_is)
    (case aq32 => k_is)
    (case lq32 => k_is)
    (case cq32 => k_is)
    (case kq32 => k_is)
    (case aq33 => k_is)
    (case lq33 => k_is)
    (case cq33 => k_is)
    (case kq33 => k_is)
    (case aq34 => k_is)
    (case lq34 => k_is)
    (case cq34 => k_is)
    (case kq34 => k_is)
    (case aq35 => k_is)
    (case lq35 => k_is)
    (case cq35 => k_is)
    (case kq35 => k_is)
    (case aq36 => k_is)
    (case lq36 => k_is)
    (case cq36 => k_is)
    (case kq36 => k_is)
    (case pg0 => k_is)
    (case hd0 => k_is)
    (case po0 => k_is)
    (case sa0 => k_is)
    (case mk0 => k_is)
    (case kc0 => k_is)
    (case y0_0 => k_is)
    (case y0_1 => k_is)
    (case pg1 => k_is)
    (case hd1 => k_is)
    (case po1 => k_is)
    (case sa1 => k_is)
    (case mk1 => k_is)
    (case kc1 => k_is)
    (case y1_0 => k_is)
    (case pg2 => k_is)
    (case hd2 => k_is)
    (case po2 => k_is)
    (case sa2 => k_is)
    (case mk2 => k_is)
    (case kc2 => k_is)
    (case y2_0 => k_is)
    (case y2_1 => k_is)
    (case pg3 => k_is)
    (case hd3 => k_is)
    (case po3 => k_is)
    (case sa3 => k_is)
    (case mk3 => k_is)
    (case kc3 => k_is)
    (case y3_0 => k_is)
    (case y3_1 => k_is)
    (case pg4 => k_is)
    (case hd4 => k_is)
    (case po4 => k_is)
    (case sa4 => k_is)
    (case mk4 => k_is)
    (case kc4 => k_is)
    (case y4_0 => k_is)
    (case pg5 => k_is)
    (case hd5 => k_is)
    (case po5 => k_is)
    (case sa5 => k_is)
    (case mk5 => k_is)
    (case kc5 => k_is)
    (case y5_0 => k_is)
    (case pg6 => k_is)
    (case hd6 => k_is)
    (case po6 => k_is)
    (case sa6 => k_is)
    (case mk6 => k_is)
    (case kc6 => k_is)
    (case y6_0 => k_is)
    (case y6_1 => k_is)
    (case pg7 => k_is)
    (case hd7 => k_is)
    (case po7 => k_is)
    (case sa7 => k_is)
    (case mk7 => k_is)
    (case kc7 => k_is)
    (case y7_0 => k_is)
    (case y7_1 => k_is)
    (case pg8 => k_is)
    (case hd8 => k_is)
    (case po8 => k_is)
    (case sa8 => k_is)
    (case mk8 => k_is)
    (case kc8 => k_is)
    (case y8_0 => k_is)
    (case y8_1 => k_is)
    (case y8_2 => k_is)
    (case y8_3 => k_is)
    (case pg9 => k_is)
    (case hd9 => k_is)
    (case po9 => k_is)
    (case sa9 => k_is)
    (case mk9 => k_is)
    (case kc9 => k_is)
    (case y9_0 => k_is)
    (case y9_1 => k_is)
    (case y9_2 => k_is)
    (case y9_3 => k_is)
    (case y9_4 => k_is)
    (case e0 => k_is)
    (case e1 => k_is)
    (case e2 => k_is)
    (case e3 => k_is)
    (case e4 => k_is)
#print axioms PySem.Challenge.cw_tellworld_k33_common_verbs_and_rules_holds

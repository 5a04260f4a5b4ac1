import PyProof.Rows.All
import Wide.All
import OpenK.AllK
import Wide.FinOn
import Lean
import PyProof.EqAt
import PyProof.EqKinds
import PyProof.TupleCall
import PySem.Challenge.RW_mindchange_k50_pouring_refused
set_option Elab.async false
set_option linter.all false
set_option maxRecDepth 100000
set_option maxHeartbeats 8000000
-- CHANGE: your row's module here, as the last of these rows
set_option Elab.async false
set_option linter.all false
set_option maxRecDepth 100000
/-! THE HAND LAYER, for ints, bools, texts, own classes, LISTS and tuples (index, slices, in, append, pop ..), calls, loops. Paste it whole ahead of your own text; what your proof does not reach may be deleted. -/
namespace L2
open PySem PySem.Spec PyProof.Rows

/-- a key: an int or a str -/
abbrev Key := Sum Int Str
def keyIs : Key → Value → Bool
  | .inl k, v => Value.isInt k v
  | .inr x, v => Value.isStrOf x v
def keyH (w : World) : Key → Int
  | .inl k => hashInt k
  | .inr x => hashStr w x
theorem keyIs_shape : ∀ {k : Key} {v : Value}, keyIs k v = true → (∃ i t, k = Sum.inl i ∧ v = Value.int i t) ∨ (∃ x t, k = Sum.inr x ∧ v = Value.str x t)
  | .inl i, v, h => by
    obtain ⟨t, e⟩ := Value.isInt_shape (k := i) (v := v) h
    exact .inl ⟨i, t, rfl, e⟩
  | .inr x, v, h => by
    obtain ⟨t, e⟩ := Value.isStrOf_shape (x := x) (v := v) h
    exact .inr ⟨x, t, rfl, e⟩
theorem keyIs_int (i : Int) (t : Tok) : keyIs (.inl i) (.int i t) = true := by simp [keyIs, Value.isInt]
theorem keyIs_str (x : Str) (t : Tok) : keyIs (.inr x) (.str x t) = true := by simp [keyIs, Value.isStrOf]
theorem key_ll (a b : Int) : decide ((Sum.inl a : Key) = Sum.inl b) = (a == b) := by
  by_cases e : a = b
  · subst e; simp
  · have h : ¬ (Sum.inl a : Key) = Sum.inl b := fun q => e (Sum.inl.inj q)
    rw [decide_eq_false h]
    exact (beq_eq_false_iff_ne.mpr e).symm
theorem key_rr (a b : Str) : decide ((Sum.inr a : Key) = Sum.inr b) = decide (a = b) := by
  by_cases e : a = b
  · subst e; simp
  · have h : ¬ (Sum.inr a : Key) = Sum.inr b := fun q => e (Sum.inr.inj q)
    rw [decide_eq_false h, decide_eq_false e]
theorem key_lr (a : Int) (b : Str) : decide ((Sum.inl a : Key) = Sum.inr b) = false := decide_eq_false (fun q => nomatch q)
theorem key_rl (a : Str) (b : Int) : decide ((Sum.inr a : Key) = Sum.inl b) = false := decide_eq_false (fun q => nomatch q)

def mixKind (prog : Program) (w : World) : PySem.KeyKind prog w Key where
  is := keyIs
  hash := keyH w
  inj := fun v a b ha hb => by
    rcases keyIs_shape ha with ⟨i, t, rfl, rfl⟩ | ⟨x, t, rfl, rfl⟩
    · rcases keyIs_shape hb with ⟨j, u, rfl, e⟩ | ⟨y, u, rfl, e⟩
      · injection e with e1 _; rw [e1]
      · exact nomatch e
    · rcases keyIs_shape hb with ⟨j, u, rfl, e⟩ | ⟨y, u, rfl, e⟩
      · exact nomatch e
      · injection e with e1 _; rw [e1]
  byValue := fun k v h => by
    rcases keyIs_shape h with ⟨i, t, rfl, rfl⟩ | ⟨x, t, rfl, rfl⟩ <;> rfl
  pyHash := fun hv h => by
    rcases keyIs_shape hv with ⟨i, t, rfl, rfl⟩ | ⟨x, t, rfl, rfl⟩
    · exact wpAny_pyHash_int h
    · exact wpAny_pyHash_str h
  eqBool := fun hu hv h => by
    rcases keyIs_shape hu with ⟨i, t, rfl, rfl⟩ | ⟨x, t, rfl, rfl⟩
    · rcases keyIs_shape hv with ⟨j, u, rfl, rfl⟩ | ⟨y, u, rfl, rfl⟩
      · rw [key_ll] at h; exact wpAny_eqBool_int h
      · rw [key_lr] at h; exact SeqAt.EqAt.int_str i t y u _ _ _ _ h
    · rcases keyIs_shape hv with ⟨j, u, rfl, rfl⟩ | ⟨y, u, rfl, rfl⟩
      · rw [key_rl] at h; exact SeqAt.EqAt.str_int x t j u _ _ _ _ h
      · rw [key_rr] at h; exact wpAny_eqBool_str h
  «strs» := fun k x t v h => by
    rcases keyIs_shape h with ⟨i, u, rfl, e⟩ | ⟨y, u, rfl, e⟩
    · exact nomatch e
    · injection e with e1 _
      subst e1
      cases v <;> rfl

theorem mixKind_int (prog : Program) (w : World) (i : Int) (t : Tok) : (mixKind prog w).is (.inl i) (.int i t) = true := keyIs_int i t
theorem mixKind_str (prog : Program) (w : World) (x : Str) (t : Tok) : (mixKind prog w).is (.inr x) (.str x t) = true := keyIs_str x t
end L2

namespace L2
open PySem PySem.Spec PyProof.Rows

/-- a value, without the heap -/
inductive V where
  | non | bl (b : Bool) | int (i : Int) | str (x : Str) | byt (b : Array UInt8) | flt (b : UInt64) | ref (a : Addr) | ty (n : String)
  deriving DecidableEq

def RelV : V → Value → Prop
  | .non, u => u = Value.none
  | .bl b, u => u = Value.bool b
  | .int i, u => ∃ t, u = Value.int i t
  | .str x, u => ∃ t, u = Value.str x t
  | .byt b, u => ∃ t, u = Value.bytes b t
  | .flt b, u => ∃ t, u = Value.float b t
  | .ref a, u => u = Value.ref a
  | .ty n, u => u = Value.type n

abbrev Vals : List V → List Value → Prop := Paired RelV
theorem Vals.length {xs : List V} {us : List Value} (r : Vals xs us) : xs.length = us.length := Paired.length r
theorem Vals.get : ∀ {xs : List V} {us : List Value} {i : Nat} {x : V}, Vals xs us → xs[i]? = some x → ∃ u, us[i]? = some u ∧ RelV x u
  | _, _, _, _, .nil, e => by simp at e
  | _, _, 0, _, .cons r _, e => by simp at e; subst e; exact ⟨_, rfl, r⟩
  | _, _, i + 1, x, .cons _ t, e => by
    obtain ⟨u, h1, h2⟩ := Vals.get (i := i) (x := x) t (by simpa using e)
    exact ⟨u, by simpa using h1, h2⟩
theorem Vals.set {x : V} {u : Value} (r : RelV x u) : ∀ {xs : List V} {us : List Value} (i : Nat), Vals xs us → Vals (xs.set i x) (us.set i u)
  | _, _, _, .nil => .nil
  | _, _, 0, .cons _ t => .cons r t
  | _, _, i + 1, .cons q t => .cons q (Vals.set r i t)
theorem Vals.append : ∀ {xs ys : List V} {us ws : List Value}, Vals xs us → Vals ys ws → Vals (xs ++ ys) (us ++ ws)
  | _, _, _, _, .nil, s => s
  | _, _, _, _, .cons r t, s => .cons r (Vals.append t s)
theorem Vals.take : ∀ {xs : List V} {us : List Value} (n : Nat), Vals xs us → Vals (xs.take n) (us.take n)
  | _, _, 0, _ => .nil
  | _, _, _ + 1, .nil => .nil
  | _, _, n + 1, .cons r t => .cons r (Vals.take n t)
theorem Vals.drop : ∀ {xs : List V} {us : List Value} (n : Nat), Vals xs us → Vals (xs.drop n) (us.drop n)
  | _, _, 0, r => r
  | _, _, _ + 1, .nil => .nil
  | _, _, n + 1, .cons _ t => Vals.drop n t
def RelO : Option V → Option Value → Prop
  | some v, some u => RelV v u
  | none, none => True
  | _, _ => False
def KV {κ : Type} : List (κ × V) → List (κ × Value) → Prop := Paired fun (p : κ × V) (q : κ × Value) => p.1 = q.1 ∧ RelV p.2 q.2

/-- a key of a dict (00_mix): an int or a text -/
def kV : Key → V
  | .inl i => .int i
  | .inr x => .str x

/-- what stands at a tracked address -/
inductive HO where
  /-- a list -/
  | lst (xs : List V)
  /-- a tuple (never changes) -/
  | tup (xs : List V)
  /-- a dict whose keys are ints and texts; one whose keys are tuples of ints and texts (the empty one is both) -/
  | dK (kvs : List (Key × V)) | dT (kvs : List (List Key × V))
  /-- a set of ints: its members, its size -/
  | set (S : Int → Bool) (n : Nat)
  /-- an instance of the class at C, its dict at dx, its attributes -/
  | ins (C dx : Addr) (fs : List (Str × V))
  /-- the dict of the instance at x -/
  | own (x : Addr)
  /-- the dict of an exception -/
  | xd (fs : List (Str × V))
  /-- a bound method, f of x -/
  | met (f x : Addr)
  /-- a range object lo, lo + 1, .. below hi -/
  | rng (lo hi : Int)
  /-- a thing that is known to the object (the script; a dict while a loop walks it): read, never written while it is so -/
  | frz (o : Obj) (u : HO)
  /-- a code object's table -/
  | tbl (ps : Array Value)
  /-- any other thing, by what is true of its one object (a def of one's own: SetO a S n := HO.ext fun h => ..) -/
  | ext (φ : Heap → Prop)

abbrev Hp := Addr → Option HO
def upd (H : Hp) (a : Addr) (o : HO) : Hp := fun b => if b = a then some o else H b
theorem upd_same {H : Hp} {a : Addr} {o : HO} : upd H a o a = some o := by unfold upd; rw [if_pos rfl]
theorem upd_ne {H : Hp} {a b : Addr} {o : HO} (h : b ≠ a) : upd H a o b = H b := by unfold upd; rw [if_neg h]
/-- two objects of different content stand apart -/
theorem ne_of {H : Hp} {a b : Addr} {o u : HO} (h : H a = some o) (h' : H b = some u) (d : o ≠ u) : a ≠ b := by
  intro e; subst e; rw [h] at h'; exact d (Option.some.inj h')
theorem ne_of_none {H : Hp} {a b : Addr} {o : HO} (h : H a = some o) (h' : H b = none) : a ≠ b := by
  intro e; subst e; rw [h] at h'; cases h'

/-- a tuple without a dict of its own -/
def IsTupP (h : Heap) (a : Addr) (its : Array Value) : Prop := ∃ o, h.get? a = some o ∧ o.cls = .type "tuple" ∧ ∃ n, (o.data, o.dict) = (Data.seq its n, none)
theorem IsTupP.tup {h : Heap} {a : Addr} {its : Array Value} (x : IsTupP h a its) : IsTup h a its := let ⟨o, e, c, n, d⟩ := x; ⟨o, e, c, n, congrArg Prod.fst d⟩
theorem IsTupP.new (h : Heap) (its : Array Value) : IsTupP (h.push { cls := .type "tuple", data := .seq its }) h.objs.size its := ⟨_, Heap.get?_push_size _ rfl, rfl, _, rfl⟩
section
variable (P : Program) (w : World)
def ObjOk (H : Hp) (h : Heap) (a : Addr) : HO → Prop
  | .lst xs => xs.length ≤ sizeLine ∧ ∃ (its : List Value) (n : Nat), Vals xs its ∧ h.get? a = some { cls := .type "list", data := .seq its.toArray n }
  | .tup xs => xs.length ≤ sizeLine ∧ ∃ its : List Value, Vals xs its ∧ IsTupP h a its.toArray
  | .dK kvs => kvs.length ≤ sizeLine ∧ (a == sysModules) = false ∧ ∃ vs, KV kvs vs ∧ h.DictOf (mixKind P w) a vs
  | .dT kvs => kvs.length ≤ sizeLine ∧ (a == sysModules) = false ∧ ∃ xs : List (List Key × Addr × Value),
      Paired (fun (p : List Key × V) (q : List Key × Addr × Value) => p.1 = q.1 ∧ H q.2.1 = some (.tup (p.1.map kV)) ∧ RelV p.2 q.2.2) kvs xs ∧
      ∃ o es ep, h.get? a = some o ∧ o.ExactDict ∧ o.data = .dict es ep ∧ es.toList = xs.map (entryOfKey (tupleKind (mixKind P w))) ∧ (xs.map (·.1)).Nodup
  | .set S n => h.SetOf (intKind P w) a S n
  | .ins C dx fs => H dx = some (.own a) ∧ fs.length ≤ 1000 ∧ dx ≠ a ∧ h.get? a = some (PySem.W.instObj C dx) ∧
      ∃ mA, h.Ns1 dx mA ∧ (∀ f, RelO (fs.lookup f) (mA f)) ∧ PySem.Within mA (fs.map (·.1))
  | .own _ => ∃ o, h.get? a = some o
  | .xd fs => ∃ mA, h.Ns1 a mA ∧ ∀ f, RelO (fs.lookup f) (mA f)
  | .rng lo hi => ∃ t u v, h.get? a = some { cls := .type "range", data := .fields #[.int lo t, .int hi u, .int 1 v] }
  | .frz o u => h.get? a = some o ∧ ObjOk H h a u
  | .tbl ps => h.get? a = some { cls := .none, data := .fields ps }
  | .met f x => h.get? a = some (PySem.W.methodObj (.ref f) (.ref x))
  | .ext φ => φ h ∧ (∃ o, h.get? a = some o) ∧ ∀ h1 h2 : Heap, φ h1 → (∀ o, h1.get? a = some o → h2.get? a = some o) → φ h2
/-- the abstract heap is held -/
def HOk (H : Hp) (h : Heap) : Prop := ∀ a o, H a = some o → ObjOk P w H h a o
end

section
variable {P : Program} {w : World} {H H' : Hp} {h h' : Heap} {a : Addr} {o : HO}
theorem ObjOk.lt (x : ObjOk P w H h a o) : a < h.objs.size := by
  cases o with
  | lst xs => obtain ⟨_, _, _, _, e⟩ := x; exact Heap.lt_size e
  | tup xs => obtain ⟨_, _, _, p⟩ := x; exact p.tup.lt
  | dK kvs => obtain ⟨_, _, _, _, o, _, _, e, _⟩ := x; exact Heap.lt_size e
  | dT kvs => obtain ⟨_, _, _, _, o, _, _, e, _⟩ := x; exact Heap.lt_size e
  | set S n => obtain ⟨o, _, _, _, e, _⟩ := x; exact Heap.lt_size e
  | ins C dx fs => obtain ⟨_, _, _, e, _⟩ := x; exact Heap.lt_size e
  | own y => obtain ⟨_, e⟩ := x; exact Heap.lt_size e
  | xd fs => obtain ⟨_, ⟨_, _, _, e, _⟩, _⟩ := x; exact Heap.lt_size e
  | rng lo hi => obtain ⟨_, _, _, e⟩ := x; exact Heap.lt_size e
  | frz ob u => obtain ⟨e, _⟩ := x; exact Heap.lt_size e
  | tbl ps => exact Heap.lt_size (show h.get? a = some _ from x)
  | met f y => exact Heap.lt_size (show h.get? a = some _ from x)
  | ext φ => obtain ⟨_, ⟨_, e⟩, _⟩ := x; exact Heap.lt_size e
theorem Paired.mapP {α β : Type} {F G : α → β → Prop} : ∀ {l₁ : List α} {l₂ : List β}, Paired F l₁ l₂ → (∀ a b, F a b → G a b) → Paired G l₁ l₂
  | _, _, .nil, _ => .nil
  | _, _, .cons r t, f => .cons (f _ _ r) (Paired.mapP t f)
/-- what an object's description leans on: its own object, its own dict, the tuples -/
theorem ObjOk.stay (x : ObjOk P w H h a o) (k : ∀ b u, (b = a ∨ H b = some (.own a)) → h.get? b = some u → h'.get? b = some u)
    (ho : ∀ b, H b = some (.own a) → H' b = some (.own a)) (ht : ∀ b xs, H b = some (.tup xs) → H' b = some (.tup xs)) : ObjOk P w H' h' a o := by
  induction o with
  | lst xs => obtain ⟨z, its, n, r, e⟩ := x; exact ⟨z, its, n, r, k _ _ (.inl rfl) e⟩
  | tup xs => obtain ⟨z, its, r, ob, e, c⟩ := x; exact ⟨z, its, r, ob, k _ _ (.inl rfl) e, c⟩
  | dK kvs => obtain ⟨z, y, vs, r, ob, es, ep, e, c⟩ := x; exact ⟨z, y, vs, r, ob, es, ep, k _ _ (.inl rfl) e, c⟩
  | dT kvs =>
    obtain ⟨z, y, xs, r, ob, es, ep, e, c⟩ := x
    exact ⟨z, y, xs, Paired.mapP r fun p q z => ⟨z.1, ht _ _ z.2.1, z.2.2⟩, ob, es, ep, k _ _ (.inl rfl) e, c⟩
  | set S n => obtain ⟨ob, es, ep, t, e, c⟩ := x; exact ⟨ob, es, ep, t, k _ _ (.inl rfl) e, c⟩
  | ins C dx fs =>
    obtain ⟨d, z, ne, e, mA, ⟨od, es, ep, e2, c⟩, r⟩ := x
    exact ⟨ho _ d, z, ne, k _ _ (.inl rfl) e, mA, ⟨od, es, ep, k _ _ (.inr d) e2, c⟩, r⟩
  | own y => obtain ⟨ob, e⟩ := x; exact ⟨ob, k _ _ (.inl rfl) e⟩
  | xd fs => obtain ⟨mA, ⟨od, es, ep, e, c⟩, r⟩ := x; exact ⟨mA, ⟨od, es, ep, k _ _ (.inl rfl) e, c⟩, r⟩
  | rng lo hi => obtain ⟨t, u, v, e⟩ := x; exact ⟨t, u, v, k _ _ (.inl rfl) e⟩
  | frz ob u ih => obtain ⟨e, q⟩ := x; exact ⟨k _ _ (.inl rfl) e, ih q⟩
  | tbl ps =>
    have e : h.get? a = some { cls := .none, data := .fields ps } := x
    show h'.get? a = some { cls := .none, data := .fields ps }
    exact k a _ (.inl rfl) e
  | met f y =>
    have e : h.get? a = some (PySem.W.methodObj (.ref f) (.ref y)) := x
    show h'.get? a = some (PySem.W.methodObj (.ref f) (.ref y))
    exact k a _ (.inl rfl) e
  | ext φ => obtain ⟨p, ⟨o, e⟩, st⟩ := x; exact ⟨st _ _ p fun o q => k _ _ (.inl rfl) q, ⟨o, k _ _ (.inl rfl) e⟩, st⟩
theorem HOk.lt (x : HOk P w H h) (e : H a = some o) : a < h.objs.size := (x a o e).lt
theorem HOk.fresh (x : HOk P w H h) (e : h.objs.size ≤ a) : H a = none := by
  cases q : H a with
  | none => rfl
  | some u => exact absurd (Nat.lt_of_lt_of_le (x.lt q) e) (Nat.lt_irrefl _)
/-- every object of the heap is kept -/
theorem HOk.kept (x : HOk P w H h) (k : ∀ b u, h.get? b = some u → h'.get? b = some u) : HOk P w H h' := fun a o e =>
  (x a o e).stay (fun b u _ q => k b u q) (fun _ q => q) fun _ _ q => q
/-- a new object is laid and tracked -/
theorem HOk.laid (x : HOk P w H h) (k : ∀ b u, h.get? b = some u → h'.get? b = some u) (hp : h.objs.size ≤ a) (new : ObjOk P w (upd H a o) h' a o) : HOk P w (upd H a o) h' := fun b u e => by
  have hn := x.fresh hp
  by_cases hb : b = a
  · subst hb; rw [upd_same] at e; cases e; exact new
  · rw [upd_ne hb] at e
    exact (x b u e).stay (fun c v _ q => k c v q) (fun c q => by rw [upd_ne (ne_of_none q hn)]; exact q) fun c xs q => by rw [upd_ne (ne_of_none q hn)]; exact q
end

/-- what may be read as u: it is u, or a known u -/
def Rd (H : Hp) (a : Addr) (u : HO) : Prop := H a = some u ∨ ∃ o, H a = some (.frz o u)
theorem Rd.of {H : Hp} {a : Addr} {u : HO} (h : H a = some u) : Rd H a u := .inl h
theorem Rd.ok {P : Program} {w : World} {H : Hp} {h : Heap} {a : Addr} {u : HO} (r : Rd H a u) (x : HOk P w H h) : ObjOk P w H h a u := by
  rcases r with r | ⟨o, r⟩
  · exact x a u r
  · obtain ⟨_, q⟩ := x a _ r
    exact q
/-- what may be written -/
def Mut : Option HO → Prop
  | some (.lst _) => True
  | some (.dK _) => True
  | some (.dT _) => True
  | some (.set _ _) => True
  | some (.ins _ _ _) => True
  | some (.ext _) => True
  | _ => False
section
variable {P : Program} {w : World} {H : Hp} {h h' : Heap} {x e : Addr} {o' : HO}
/-- the object at e is changed: x itself, or the dict of the instance x -/
theorem HOk.write (ok : HOk P w H h) (mu : Mut (H x)) (he : e = x ∨ H e = some (.own x)) (k : ∀ b u, b ≠ e → h.get? b = some u → h'.get? b = some u) (heo : ∃ u, h'.get? e = some u)
    (new : ObjOk P w (upd H x o') h' x o') : HOk P w (upd H x o') h' := fun b u q => by
  have nown : ∀ c y, H c = some (.own y) → c ≠ x := fun c y r z => by subst z; rw [r] at mu; exact mu
  have ntup : ∀ c xs, H c = some (.tup xs) → c ≠ x := fun c xs r z => by subst z; rw [r] at mu; exact mu
  by_cases hb : b = x
  · subst hb; rw [upd_same] at q; cases q; exact new
  · rw [upd_ne hb] at q
    by_cases hbe : b = e
    · have q' : H b = some (.own x) := by
        rcases he with z | z
        · exact absurd (hbe.trans z) hb
        · rw [hbe]; exact z
      rw [q] at q'; cases q'
      obtain ⟨v, hv⟩ := heo
      exact ⟨v, by rw [hbe]; exact hv⟩
    · refine (ok b u q).stay (fun c v hc r => k c v ?_ r) (fun c r => by rw [upd_ne (nown c b r)]; exact r) fun c xs r => by rw [upd_ne (ntup c xs r)]; exact r
      rcases hc with rfl | hc
      · exact hbe
      · rintro rfl
        rcases he with z | z
        · exact nown c b hc z
        · rw [hc] at z; cases z; exact hb rfl
end

/-! ### kept unless tracked; of the frames at fs (the callers') the slots may change (an exception that passes writes there); of the records at ex (iterators) nothing is said -/
structure Un (fs ex : List Addr) (H H' : Hp) (h h' : Heap) : Prop where
  keep : ∀ b o, h.get? b = some o → H b = none → b ∉ fs → b ∉ ex → h'.get? b = some o
  slot : ∀ b o, h.get? b = some o → H b = none → b ∈ fs → b ∉ ex → ∃ sl, h'.get? b = some { o with slots := sl }
  free : ∀ b o, h.get? b = some o → H b = none → b ∉ ex → H' b = none
  there : ∀ b o, h.get? b = some o → b ∉ ex → ∃ o', h'.get? b = some o'
  tups : ∀ b xs, H b = some (.tup xs) → H' b = some (.tup xs)
  frzs : ∀ b o u, H b = some (.frz o u) → H' b = some (.frz o u)
  tbls : ∀ b ps, H b = some (.tbl ps) → ∃ more, H' b = some (.tbl (ps ++ more))
section
variable {fs fs' ex ex' : List Addr} {H H1 H2 : Hp} {h h1 h2 h' : Heap} {a x e : Addr} {o : HO}
theorem Un.any (u : Un fs ex H H1 h h1) {b : Addr} {ob : Obj} (q : h.get? b = some ob) (n : H b = none) (hx : b ∉ ex) : ∃ sl, h1.get? b = some { ob with slots := sl } := by
  by_cases hb : b ∈ fs
  · exact u.slot b ob q n hb hx
  · exact ⟨ob.slots, u.keep b ob q n hb hx⟩
theorem Un.trans (a : Un fs ex H H1 h h1) (b : Un fs ex H1 H2 h1 h2) : Un fs ex H H2 h h2 where
  keep := fun c ob q n hc hx => b.keep c ob (a.keep c ob q n hc hx) (a.free c ob q n hx) hc hx
  slot := fun c ob q n hc hx => by
    obtain ⟨sl, e1⟩ := a.slot c ob q n hc hx
    obtain ⟨sl', e2⟩ := b.slot c _ e1 (a.free c ob q n hx) hc hx
    exact ⟨sl', e2⟩
  free := fun c ob q n hx => by
    obtain ⟨o', e1⟩ := a.there c ob q hx
    exact b.free c o' e1 (a.free c ob q n hx) hx
  there := fun c ob q hx => by
    obtain ⟨o', e1⟩ := a.there c ob q hx
    exact b.there c o' e1 hx
  tups := fun c xs q => b.tups c xs (a.tups c xs q)
  frzs := fun c ob xs q => b.frzs c ob xs (a.frzs c ob xs q)
  tbls := fun c ps q => by
    obtain ⟨m1, e1⟩ := a.tbls c ps q
    obtain ⟨m2, e2⟩ := b.tbls c _ e1
    exact ⟨m1 ++ m2, by rw [e2, Array.append_assoc]⟩
theorem Un.kept (k : ∀ b u, h.get? b = some u → h'.get? b = some u) : Un fs ex H H h h' :=
  ⟨fun b ob q _ _ _ => k b ob q, fun b ob q _ _ _ => ⟨ob.slots, k b ob q⟩, fun _ _ _ n _ => n, fun b ob q _ => ⟨ob, k b ob q⟩, fun _ _ q => q, fun _ _ _ q => q, fun _ ps q => ⟨#[], by rw [q]; simp⟩⟩
theorem Un.refl : Un fs ex H H h h := Un.kept fun _ _ q => q
theorem Un.laid (k : ∀ b u, h.get? b = some u → h'.get? b = some u) (hp : h.objs.size ≤ a) (hn : H a = none) : Un fs ex H (upd H a o) h h' where
  keep := fun b u q _ _ _ => k b u q
  slot := fun b u q _ _ _ => ⟨u.slots, k b u q⟩
  free := fun b u q n _ => by rw [upd_ne (Nat.ne_of_lt (Nat.lt_of_lt_of_le (Heap.lt_size q) hp))]; exact n
  there := fun b u q _ => ⟨u, k b u q⟩
  tups := fun b xs q => by rw [upd_ne (ne_of_none q hn)]; exact q
  frzs := fun b u xs q => by rw [upd_ne (ne_of_none q hn)]; exact q
  tbls := fun b ps q => ⟨#[], by rw [upd_ne (ne_of_none q hn), q]; simp⟩
theorem Un.write (mu : Mut (H x)) (he : e = x ∨ H e = some (.own x)) (k : ∀ b u, b ≠ e → h.get? b = some u → h'.get? b = some u) (heo : ∃ u, h'.get? e = some u) : Un fs ex H (upd H x o) h h' := by
  have hx : ∀ b, H b = none → b ≠ x := fun b n z => by subst z; rw [n] at mu; exact mu
  have hb : ∀ b, H b = none → b ≠ e := fun b n z => by
    subst z
    rcases he with r | r
    · exact hx b n r
    · rw [n] at r; cases r
  have hm : ∀ b u, H b = some u → ¬ Mut (some u) → b ≠ x := fun b u q nm z => by subst z; rw [q] at mu; exact nm mu
  refine ⟨fun b u q n _ _ => k b u (hb b n) q, fun b u q n _ _ => ⟨u.slots, k b u (hb b n) q⟩, fun b u q n _ => by rw [upd_ne (hx b n)]; exact n, fun b u q _ => ?_,
    fun b xs q => by rw [upd_ne (hm b _ q fun z => z)]; exact q, fun b u xs q => by rw [upd_ne (hm b _ q fun z => z)]; exact q, fun b ps q => ⟨#[], by rw [upd_ne (hm b _ q fun z => z), q]; simp⟩⟩
  by_cases hbe : b = e
  · subst hbe; exact heo
  · exact ⟨u, k b u hbe q⟩
theorem Un.mono (u : Un fs ex H H1 h h1) (hs : ∀ b ∈ fs, b ∈ fs') (hx : ∀ b ∈ ex, b ∈ ex') : Un fs' ex' H H1 h h1 :=
  ⟨fun b ob q n hb he => u.keep b ob q n (fun z => hb (hs b z)) fun z => he (hx b z), fun _ _ q n _ he => u.any q n fun z => he (hx _ z), fun b ob q n he => u.free b ob q n fun z => he (hx b z), fun b ob q he => u.there b ob q fun z => he (hx b z), u.tups, u.frzs, u.tbls⟩
end

/-! ### the heap without what is tracked -/
def trk (h : Heap) (H : Hp) : List Addr := (List.range h.objs.size).filter fun a => (H a).isSome
def hidT (h : Heap) (H : Hp) : Heap := PySem.W.hideAll h (trk h H)
theorem hidT_size (h : Heap) (H : Hp) : (hidT h H).objs.size = h.objs.size := PySem.W.hideAll_size _ _
theorem hidT_get {h : Heap} {H : Hp} {b : Addr} {o : Obj} (e : h.get? b = some o) (n : H b = none) : (hidT h H).get? b = some o :=
  PySem.W.hideAll_get _ e fun hm => by
    have q : (H b).isSome = true := (List.mem_filter.mp hm).2
    rw [n] at q; simp at q
theorem of_hidT {h : Heap} {H : Hp} {b : Addr} {o : Obj} (e : (hidT h H).get? b = some o) : h.get? b = some o ∧ H b = none := by
  have e' : h.get? b = some o := PySem.W.of_hideAll (trk h H) e
  refine ⟨e', ?_⟩
  cases q : H b with
  | none => rfl
  | some x =>
    have hm : b ∈ trk h H := List.mem_filter.mpr ⟨List.mem_range.mpr (Heap.lt_size e'), by simp [q]⟩
    have z : (hidT h H).get? b = none := PySem.W.hideAll_none (trk h H) hm
    rw [z] at e; cases e

/-! ### OpenK's ledger, filled with every new object but one -/
def allNews (g h : Heap) (L : Addr) : List (Addr × Obj) := (List.range h.objs.size).filterMap fun a => if a = L ∨ (g.get? a).isSome = true then none else (h.get? a).map fun o => (a, o)
def rest (g h : Heap) (L d : Addr) : List (Addr × Obj) := (allNews g h L).filter fun p => decide (p.1 ≠ d)
end L2

namespace L2
open PySem PySem.Spec PyProof.Rows

/-- the module's facts, over the base: the heap at the law's entry without what is tracked there -/
structure Mod (K : PySem.W.Frag) (mg : Str → Option Value) (base : Heap) : Prop where
  kin : K.In base
  glob : base.Ns mainGlobals mg
  blt : ∃ mb, base.Ns builtinsNs mb ∧ ∀ x : Str, x ≠ "__name__" → mb x = bootBuiltins x
  nolimit : base.NoLimit

/-- the context: a def's body (or a comprehension's block) running. base: fixed through the whole law; s₀, H₀: the entry; outer: the frames whose slots others may change (a def's callers); stack: all frames that run;
   ex: iterators that were made ahead of the entry and are walked here (a comprehension's); fn: the names whose cells were made at the entry (a def: all; a comprehension's block: its own); calm: not within an except suite; pn: pins that every state bears; xe: what is wanted of an exception that leaves the code -/
structure Cx where
  prog : Program
  w : World
  K : PySem.W.Frag
  mg : Str → Option Value
  base : Heap
  A : Around
  N : List Str
  s₀ : Shared
  H₀ : Hp
  env : Env
  outer : List Env
  stack : List Env
  ex : List Addr
  fn : Str → Bool
  calm : Bool
  pn : List (Addr × Obj)
  xe : Value → Shared → Prop
/-- the callers' frames -/
def frs (l : List Env) : List Addr := l.filterMap (·.frame)
abbrev Cx.fs (X : Cx) : List Addr := frs X.outer

def Vis (sc : Scope) (x : Str) : Prop := sc.names.lookup x = some .local ∨ sc.names.lookup x = some .cell ∨ sc.names.lookup x = some .free
def Loc (sc : Scope) (x : Str) : Prop := sc.names.lookup x = some .local ∨ sc.names.lookup x = some .cell
def Look (env : Env) (h : Heap) (m : Str → Option Value) (x : Str) (u : Value) : Prop :=
  (env.kindOf x = some .local ∧ m x = some u) ∨ ((env.kindOf x = some .cell ∨ env.kindOf x = some .free) ∧ ∃ c, env.cells.lookup x = some c ∧ h.IsCell c (some u))

structure Cx.Ok (X : Cx) : Prop where
  mod : Mod X.K X.mg X.base
  kind : X.env.scope.kind = .function
  glob : X.env.globals = mainGlobals
  blt : X.env.builtins = builtinsNs
  above : X.s₀.heap.objs.size ≤ X.env.locals
  inj : ∀ x y c, X.env.cells.lookup x = some c → X.env.cells.lookup y = some c → x = y
  has : ∀ x, (X.env.kindOf x = some .cell ∨ X.env.kindOf x = some .free) → ∃ c, X.env.cells.lookup x = some c
  cab : ∀ x c, X.fn x = true → X.env.cells.lookup x = some c → X.s₀.heap.objs.size ≤ c
  hd : X.calm = true → X.A.handled = none
  frames : X.A.frames = some X.stack
  stk : X.stack = X.outer ∨ (X.stack = X.env :: X.outer ∧ X.env.frame = some X.env.locals)
  exf : ∀ b ∈ X.ex, b ≠ X.env.locals ∧ ∀ x c, X.env.cells.lookup x = some c → c ≠ b
  bs : ∀ b o, X.base.get? b = some o → X.s₀.heap.get? b = some o ∧ X.H₀ b = none
  bsz : X.base.objs.size ≤ X.s₀.heap.objs.size
  noex : ∀ b o, X.base.get? b = some o → b ∉ X.ex
  exfs : ∀ b ∈ X.ex, b ∉ X.fs
  funs : X.s₀.heap.FunFrames X.base X.outer
  frf : ∀ b ∈ X.fs, X.H₀ b = none

structure Inv (X : Cx) (pins : List (Addr × Obj)) (σ : List (Option V)) (H : Hp) (s : Shared) : Prop where
  ok : X.Ok
  os : s.os = X.s₀.os
  bare : AllBare s.gens
  base : Un X.fs X.ex X.H₀ H X.s₀.heap s.heap
  loc : ∃ m, s.heap.Ns X.env.locals m ∧ ∀ (i : Nat) (x : Str) (v : V), X.N[i]? = some x → σ[i]? = some (some v) → Vis X.env.scope x → ∃ u, RelV v u ∧ Look X.env s.heap m x u
  cell : ∀ x c, X.env.cells.lookup x = some c → ∃ v, s.heap.IsCell c v
  free : H X.env.locals = none
  freeC : ∀ x c, X.env.cells.lookup x = some c → H c = none
  pin : ∀ p ∈ X.pn ++ pins, s.heap.get? p.1 = some p.2 ∧ H p.1 = none ∧ p.1 ≠ X.env.locals ∧ p.1 ∉ X.fs ∧ ∀ v, p.2.data ≠ .cell v
  hok : HOk X.prog X.w H s.heap
  len : σ.length = X.N.length

section
variable {X : Cx} {pins : List (Addr × Obj)} {σ : List (Option V)} {H H' : Hp} {s : Shared} {h' : Heap}

theorem Cx.Ok.nofr (ok : X.Ok) {b : Addr} {o : Obj} (e : X.base.get? b = some o) : b ∉ X.fs := fun hb => by
  have := (ok.funs.mem hb).1
  rw [e] at this; cases this
theorem Inv.bs (I : Inv X pins σ H s) : ∀ b o, X.base.get? b = some o → s.heap.get? b = some o ∧ H b = none := fun b o e =>
  ⟨I.base.keep b o (I.ok.bs b o e).1 (I.ok.bs b o e).2 (I.ok.nofr e) (I.ok.noex b o e), I.base.free b o (I.ok.bs b o e).1 (I.ok.bs b o e).2 (I.ok.noex b o e)⟩
theorem Inv.bk (I : Inv X pins σ H s) : ∀ b o, X.base.get? b = some o → s.heap.get? b = some o := fun b o e => (I.bs b o e).1
theorem Inv.mod (I : Inv X pins σ H s) : Mod X.K X.mg X.base := I.ok.mod
theorem Inv.kIn (I : Inv X pins σ H s) : X.K.In s.heap := I.ok.mod.kin.keeps I.bk
theorem Inv.nolimit (I : Inv X pins σ H s) : s.heap.NoLimit := I.ok.mod.nolimit.keeps I.bk
/-- the frame over the base: for OpenK's rules (K.In X.base is I.mod.kin) -/
theorem Inv.fr (I : Inv X pins σ H s) : ∃ m, Fr X.base X.env.locals s.heap m :=
  let ⟨m, hn, _⟩ := I.loc
  ⟨m, hn, I.bk, Nat.le_trans I.ok.bsz I.ok.above⟩
theorem Inv.lt (I : Inv X pins σ H s) : X.env.locals < s.heap.objs.size := let ⟨_, hn, _⟩ := I.loc; hn.lt
theorem Inv.sz (I : Inv X pins σ H s) : X.s₀.heap.objs.size ≤ s.heap.objs.size := Nat.le_trans I.ok.above (Nat.le_of_lt I.lt)
theorem Inv.nofs (I : Inv X pins σ H s) {a : Addr} (h : s.heap.objs.size ≤ a) : a ∉ X.fs := fun hb => by
  obtain ⟨_, o, ho, _⟩ := I.ok.funs.mem hb
  exact absurd (Nat.lt_of_lt_of_le (Heap.lt_size ho) (Nat.le_trans I.sz h)) (Nat.lt_irrefl _)
theorem Inv.cne (I : Inv X pins σ H s) : ∀ x c, X.env.cells.lookup x = some c → c ≠ X.env.locals := fun x c e z => by
  obtain ⟨v, o, ho, hd⟩ := I.cell x c e
  obtain ⟨m, ⟨o', es, ep, ho', hd', _⟩, _⟩ := I.loc
  rw [z, ho'] at ho; cases ho; rw [hd'] at hd; cases hd
theorem Inv.funs (I : Inv X pins σ H s) : s.heap.FunFrames X.base X.outer := by
  have all : ∀ (l : List Env), (∀ b ∈ frs l, b ∈ X.fs) → X.s₀.heap.FunFrames X.base l → s.heap.FunFrames X.base l := by
    intro l
    induction l with
    | nil => intro _ _; trivial
    | cons env r ih =>
      intro hs hl
      obtain ⟨hk, ⟨L, o, hf, hn, ho, hd⟩, hr⟩ := hl
      have hL : L ∈ X.fs := hs L (by unfold frs; rw [List.filterMap_cons, hf]; exact List.mem_cons_self)
      obtain ⟨sl, e⟩ := I.base.slot L o ho (I.ok.frf L hL) hL fun z => I.ok.exfs L z hL
      exact ⟨hk, ⟨L, _, hf, hn, e, hd⟩, ih (fun b hb => hs b (by unfold frs; rw [List.filterMap_cons, hf]; exact List.mem_cons_of_mem _ hb)) hr⟩
  exact all X.outer (fun _ hb => hb) I.ok.funs

/-- the frames that run, for a call -/
theorem Inv.stack (I : Inv X pins σ H s) : s.heap.FunFrames X.base X.stack := by
  rcases I.ok.stk with e | ⟨e, hf⟩
  · rw [e]; exact I.funs
  · rw [e]
    obtain ⟨m, hn, _⟩ := I.loc
    refine .cons (by rw [I.ok.kind]; decide) hf hn ?_ I.funs
    exact Heap.get?_none_of_le (Nat.le_trans I.ok.bsz I.ok.above)
theorem Inv.stkSub (I : Inv X pins σ H s) : ∀ b ∈ frs X.stack, b ∈ X.env.locals :: X.fs := fun b hb => by
  rcases I.ok.stk with e | ⟨e, hf⟩
  · rw [e] at hb; exact List.mem_cons_of_mem _ hb
  · rw [e] at hb
    unfold frs at hb
    rw [List.filterMap_cons, hf] at hb
    exact hb
theorem Inv.stkFree (I : Inv X pins σ H s) : ∀ b ∈ frs X.stack, H b = none := fun b hb => by
  rcases List.mem_cons.mp (I.stkSub b hb) with e | hb
  · rw [e]; exact I.free
  · obtain ⟨_, o, ho, _⟩ := I.ok.funs.mem hb
    exact I.base.free b o ho (I.ok.frf b hb) fun z => I.ok.exfs b z hb

/-- THE STEP: the untracked objects but the frame and the records at ch are kept (the callers' frames up to slots), the frame's map is kept, the new abstract heap is held -/
theorem Inv.step {g' : Array GenState} {t' : Nat} {d' : Drawn} {ch : List Addr} (I : Inv X pins σ H s)
    (hch : ∀ b ∈ ch, (b ∈ X.ex ∨ X.s₀.heap.objs.size ≤ b) ∧ b ≠ X.env.locals ∧ (∀ x c, X.env.cells.lookup x = some c → c ≠ b) ∧ ∀ p ∈ X.pn ++ pins, p.1 ≠ b)
    (keep : ∀ b o, b ≠ X.env.locals → b ∉ X.fs → b ∉ ch → s.heap.get? b = some o → H b = none → h'.get? b = some o)
    (slot : ∀ b o, b ≠ X.env.locals → b ∈ X.fs → b ∉ ch → s.heap.get? b = some o → H b = none → ∃ sl, h'.get? b = some { o with slots := sl }) (free : ∀ b o, b ∉ ch → s.heap.get? b = some o → H b = none → H' b = none)
    (there : ∀ b o, b ∉ ch → s.heap.get? b = some o → ∃ o', h'.get? b = some o')
    (tups : ∀ b xs, H b = some (.tup xs) → H' b = some (.tup xs)) (frzs : ∀ b o u, H b = some (.frz o u) → H' b = some (.frz o u)) (tbls : ∀ b ps, H b = some (.tbl ps) → ∃ more, H' b = some (.tbl (ps ++ more)))
    (ns : ∀ m, s.heap.Ns X.env.locals m → h'.Ns X.env.locals m) (hok : HOk X.prog X.w H' h') (hg : AllBare g') :
    Inv X pins σ H' { s with heap := h', gens := g', drawn := d', toks := t' } := by
  have neL : ∀ b o, X.s₀.heap.get? b = some o → b ≠ X.env.locals := fun b o e => Nat.ne_of_lt (Nat.lt_of_lt_of_le (Heap.lt_size e) I.ok.above)
  have neC : ∀ b o, X.s₀.heap.get? b = some o → b ∉ X.ex → b ∉ ch := fun b o e hx hb => by
    rcases (hch b hb).1 with z | z
    · exact hx z
    · exact absurd (Nat.lt_of_lt_of_le (Heap.lt_size e) z) (Nat.lt_irrefl _)
  have cellK : ∀ x c, X.env.cells.lookup x = some c → ∀ v, s.heap.IsCell c v → h'.IsCell c v := fun x c e v ⟨o, ho, hd⟩ => by
    have nch : c ∉ ch := fun z => (hch c z).2.2.1 x c e rfl
    by_cases hc : c ∈ X.fs
    · obtain ⟨sl, q⟩ := slot c o (I.cne x c e) hc nch ho (I.freeC x c e)
      exact ⟨_, q, hd⟩
    · exact ⟨o, keep c o (I.cne x c e) hc nch ho (I.freeC x c e), hd⟩
  refine ⟨I.ok, I.os, hg, ⟨fun b o e n hb hx => ?_, fun b o e n hb hx => ?_, fun b o e n hx => ?_, fun b o e hx => ?_, fun b xs e => tups b xs (I.base.tups b xs e), fun b o xs e => frzs b o xs (I.base.frzs b o xs e), fun b ps e => ?_⟩, ?_, fun x c e => ?_, ?_, fun x c e => ?_, fun p hp => ?_, hok, I.len⟩
  · exact keep b o (neL b o e) hb (neC b o e hx) (I.base.keep b o e n hb hx) (I.base.free b o e n hx)
  · obtain ⟨sl, e1⟩ := I.base.slot b o e n hb hx
    obtain ⟨sl', e2⟩ := slot b _ (neL b o e) hb (neC b o e hx) e1 (I.base.free b o e n hx)
    exact ⟨sl', e2⟩
  · obtain ⟨o', e1⟩ := I.base.there b o e hx
    exact free b o' (neC b o e hx) e1 (I.base.free b o e n hx)
  · obtain ⟨o', e1⟩ := I.base.there b o e hx
    exact there b o' (neC b o e hx) e1
  · obtain ⟨m1, e1⟩ := I.base.tbls b ps e
    obtain ⟨m2, e2⟩ := tbls b _ e1
    exact ⟨m1 ++ m2, by rw [e2, Array.append_assoc]⟩
  · obtain ⟨m, hn, hl⟩ := I.loc
    refine ⟨m, ns m hn, fun i x v e1 e2 e3 => ?_⟩
    obtain ⟨u, r, l⟩ := hl i x v e1 e2 e3
    refine ⟨u, r, ?_⟩
    rcases l with l | ⟨k, c, e, z⟩
    · exact .inl l
    · exact .inr ⟨k, c, e, cellK x c e _ z⟩
  · obtain ⟨v, z⟩ := I.cell x c e
    exact ⟨v, cellK x c e v z⟩
  · obtain ⟨m, ⟨o, _, _, ho, _⟩, _⟩ := I.loc
    exact free _ o (fun z => (hch _ z).2.1 rfl) ho I.free
  · obtain ⟨v, o, ho, hd⟩ := I.cell x c e
    exact free c o (fun z => (hch c z).2.2.1 x c e rfl) ho (I.freeC x c e)
  · obtain ⟨e, n, ne, nf, d⟩ := I.pin p hp
    have nch : p.1 ∉ ch := fun z => (hch p.1 z).2.2.2 p hp rfl
    exact ⟨keep p.1 p.2 ne nf nch e n, free p.1 p.2 nch e n, ne, nf, d⟩
/-- .. where the frame's own object is kept too -/
theorem Inv.un {t' : Nat} (I : Inv X pins σ H s) (u : Un X.fs [] H H' s.heap h') (hok : HOk X.prog X.w H' h') : Inv X pins σ H' { s with heap := h', toks := t' } := by
  obtain ⟨m, ⟨o, es, ep, ho, r⟩, _⟩ := id I.loc
  obtain ⟨sl, hL⟩ := u.any ho I.free (by simp)
  exact I.step (g' := s.gens) (d' := s.drawn) (ch := []) (fun _ z => nomatch z) (fun b o _ hb _ e n => u.keep b o e n hb (by simp)) (fun b o _ hb _ e n => u.slot b o e n hb (by simp)) (fun b o _ e n => u.free b o e n (by simp)) (fun b o _ e => u.there b o e (by simp)) u.tups u.frzs u.tbls (fun m' hm => by
    obtain ⟨o', es', ep', ho', r'⟩ := hm
    rw [ho] at ho'; cases ho'
    exact ⟨_, es', ep', hL, r'⟩) hok I.bare
/-- behind a call (or a comprehension's block): the slots of this frame may have changed too, the records at ch may have turned -/
theorem Inv.call {g' : Array GenState} {t' : Nat} {d' : Drawn} {ch : List Addr} (I : Inv X pins σ H s) (u : Un (frs X.stack) ch H H' s.heap h') (hok : HOk X.prog X.w H' h') (hg : AllBare g')
    (hch : ∀ b ∈ ch, (b ∈ X.ex ∨ X.s₀.heap.objs.size ≤ b) ∧ b ≠ X.env.locals ∧ (∀ x c, X.env.cells.lookup x = some c → c ≠ b) ∧ ∀ p ∈ X.pn ++ pins, p.1 ≠ b) :
    Inv X pins σ H' { s with heap := h', gens := g', drawn := d', toks := t' } := by
  obtain ⟨m, ⟨o, es, ep, ho, r⟩, _⟩ := id I.loc
  obtain ⟨sl, hL⟩ := u.any ho I.free fun z => (hch _ z).2.1 rfl
  exact I.step (ch := ch) hch (fun b o hL hb hc e n => u.keep b o e n (fun z => (List.mem_cons.mp (I.stkSub b z)).elim hL hb) hc) (fun b o _ _ hc e n => u.any e n hc) (fun b o hc e n => u.free b o e n hc) (fun b o hc e => u.there b o e hc) u.tups u.frzs u.tbls (fun m' hm => by
    obtain ⟨o', es', ep', ho', r'⟩ := hm
    rw [ho] at ho'; cases ho'
    exact ⟨_, es', ep', hL, r'⟩) hok hg
/-- an untracked record of ours (an iterator) has turned -/
theorem Inv.turned {t' : Nat} {it : Addr} (I : Inv X pins σ H s) (k : ∀ b o, b ≠ it → s.heap.get? b = some o → h'.get? b = some o) (hn : H it = none) (hL : it ≠ X.env.locals)
    (h1 : it ∈ X.ex ∨ X.s₀.heap.objs.size ≤ it) (h2 : ∀ x c, X.env.cells.lookup x = some c → c ≠ it) (h3 : ∀ p ∈ X.pn ++ pins, p.1 ≠ it) : Inv X pins σ H { s with heap := h', toks := t' } := by
  have nit : ∀ b u, H b = some u → b ≠ it := fun b u e z => by rw [z, hn] at e; cases e
  refine I.step (g' := s.gens) (d' := s.drawn) (ch := [it]) (fun b hb => ?_) (fun b o _ _ hc e _ => k b o (fun z => hc (by simp [z])) e) (fun b o _ _ hc e _ => ⟨o.slots, k b o (fun z => hc (by simp [z])) e⟩) (fun _ _ _ _ n => n)
    (fun b o hc e => ⟨o, k b o (fun z => hc (by simp [z])) e⟩) (fun _ _ e => e) (fun _ _ _ e => e) (fun b ps e => ⟨#[], by rw [e]; simp⟩) (fun m hm => ?_) (fun b u e => ?_) I.bare
  · have e : b = it := by simpa using hb
    subst e
    exact ⟨h1, hL, h2, h3⟩
  · obtain ⟨o, es, ep, ho, r⟩ := hm
    exact ⟨o, es, ep, k _ o (Ne.symm hL) ho, r⟩
  · refine (I.hok b u e).stay (fun c v hc q => k c v ?_ q) (fun _ q => q) fun _ _ q => q
    rcases hc with z | z
    · rw [z]; exact nit b u e
    · exact nit c _ z
theorem Inv.tok (I : Inv X pins σ H s) (t : Nat) : Inv X pins σ H { s with toks := t } := I.un (h' := s.heap) (t' := t) Un.refl I.hok
/-- all objects kept -/
theorem Inv.kept {t' : Nat} (I : Inv X pins σ H s) (k : ∀ b u, s.heap.get? b = some u → h'.get? b = some u) : Inv X pins σ H { s with heap := h', toks := t' } := I.un (Un.kept k) (I.hok.kept k)
/-- a new object laid and tracked -/
theorem Inv.laid {a : Addr} {o : HO} {t' : Nat} (I : Inv X pins σ H s) (k : ∀ b u, s.heap.get? b = some u → h'.get? b = some u) (hp : s.heap.objs.size ≤ a) (new : ObjOk X.prog X.w (upd H a o) h' a o) :
    Inv X pins σ (upd H a o) { s with heap := h', toks := t' } := I.un (Un.laid k hp (I.hok.fresh hp)) (I.hok.laid k hp new)
/-- an object written -/
theorem Inv.write {x e : Addr} {o : HO} {t' : Nat} (I : Inv X pins σ H s) (mu : Mut (H x)) (he : e = x ∨ H e = some (.own x)) (k : ∀ b u, b ≠ e → s.heap.get? b = some u → h'.get? b = some u) (heo : ∃ u, h'.get? e = some u)
    (new : ObjOk X.prog X.w (upd H x o) h' x o) : Inv X pins σ (upd H x o) { s with heap := h', toks := t' } := I.un (Un.write mu he k heo) (I.hok.write mu he k heo new)
/-- forgetting slots, pins -/
theorem Inv.weak {σ' : List (Option V)} (I : Inv X pins σ H s) (hl : σ'.length = σ.length) (w : ∀ (i : Nat) v, σ'[i]? = some (some v) → σ[i]? = some (some v)) : Inv X pins σ' H s :=
  ⟨I.ok, I.os, I.bare, I.base, let ⟨m, hn, hl'⟩ := I.loc; ⟨m, hn, fun i x v e1 e2 e3 => hl' i x v e1 (w i v e2) e3⟩, I.cell, I.free, I.freeC, I.pin, I.hok, hl.trans I.len⟩
theorem Inv.pins_of {pins' : List (Addr × Obj)} (I : Inv X pins σ H s) (h : ∀ p ∈ pins', s.heap.get? p.1 = some p.2 ∧ H p.1 = none ∧ p.1 ≠ X.env.locals ∧ p.1 ∉ X.fs ∧ ∀ v, p.2.data ≠ .cell v) : Inv X pins' σ H s :=
  ⟨I.ok, I.os, I.bare, I.base, I.loc, I.cell, I.free, I.freeC, fun p hp => (List.mem_append.mp hp).elim (fun z => I.pin p (List.mem_append_left _ z)) (h p), I.hok, I.len⟩

theorem nodup_ix {N : List Str} (hN : N.Nodup) {i j : Nat} {x : Str} (a : N[i]? = some x) (b : N[j]? = some x) : i = j := by
  obtain ⟨h1, e1⟩ := List.getElem?_eq_some_iff.mp a
  obtain ⟨h2, e2⟩ := List.getElem?_eq_some_iff.mp b
  exact (List.getElem_inj hN).mp (e1.trans e2.symm)

/-- a name is stored; what changed -/
theorem store_ok2 {M : Model} {A : Around} {E : Value → Shared → Prop} {i : Nat} {x : Str} {v : V} {u : Value} {Q : Unit → Shared → Prop} (I : Inv X pins σ H s) (hN : X.N.Nodup) (hi : X.N[i]? = some x) (hx : Loc X.env.scope x) (r : RelV v u)
    (h : ∀ s', Inv X pins (σ.set i (some v)) H s' → (∃ a, Heap.SameBut a s.heap s'.heap ∧ (a = X.env.locals ∨ X.env.cells.lookup x = some a)) → Q () s') (hf : X.fn x = true ∨ X.env.scope.names.lookup x = some .local := by first | exact .inl rfl | exact .inr rfl | assumption) : wpAny M A (storeName X.env x u) Q E s := by
  obtain ⟨m, hn, hl⟩ := id I.loc
  have hcls : (X.env.scope.kind == .class || (X.env.scope.kind == .module && X.env.locals != X.env.globals)) = false := by rw [I.ok.kind]; rfl
  have hiσ : i < σ.length := by rw [I.len]; exact (List.getElem?_eq_some_iff.mp hi).1
  have cne := I.cne
  have tracked : ∀ {a : Addr} {h' : Heap}, (∃ o, s.heap.get? a = some o ∧ H a = none) → Heap.SameBut a s.heap h' → HOk X.prog X.w H h' := fun {a h'} ha hs b ob e => by
    obtain ⟨_, _, hfree⟩ := ha
    refine (I.hok b ob e).stay (fun c w' hc q => (hs.2 c ?_).trans q) (fun _ q => q) fun _ _ q => q
    rintro rfl
    rcases hc with rfl | hc
    · rw [hfree] at e; cases e
    · rw [hfree] at hc; cases hc
  rcases hx with hk | hk
  · refine wpAny_storeName_local hk hn (fun h' hn' hs => ?_) hcls
    obtain ⟨oL, _, _, hoL, _⟩ := id hn
    refine h _ ⟨I.ok, I.os, I.bare, ⟨fun b o e n hb hx => ?_, fun b o e n hb hx => ?_, I.base.free, fun b o e hx => ?_, I.base.tups, I.base.frzs, I.base.tbls⟩, ⟨_, hn', fun j y v' e1 e2 e3 => ?_⟩, fun y c e => ?_, I.free, I.freeC, fun p hp => ?_, tracked ⟨oL, hoL, I.free⟩ hs, by simpa using I.len⟩ ⟨_, hs, .inl rfl⟩
    · exact (hs.2 b (Nat.ne_of_lt (Nat.lt_of_lt_of_le (Heap.lt_size e) I.ok.above))).trans (I.base.keep b o e n hb hx)
    · obtain ⟨sl, e1⟩ := I.base.slot b o e n hb hx
      exact ⟨sl, (hs.2 b (Nat.ne_of_lt (Nat.lt_of_lt_of_le (Heap.lt_size e) I.ok.above))).trans e1⟩
    · obtain ⟨o', e1⟩ := I.base.there b o e hx
      exact ⟨o', (hs.2 b (Nat.ne_of_lt (Nat.lt_of_lt_of_le (Heap.lt_size e) I.ok.above))).trans e1⟩
    · by_cases hj : j = i
      · subst hj
        rw [hi] at e1; cases e1
        rw [List.getElem?_set_self hiσ] at e2
        cases e2
        exact ⟨u, r, .inl ⟨hk, by simp⟩⟩
      · rw [List.getElem?_set_ne (Ne.symm hj)] at e2
        obtain ⟨u', r', q⟩ := hl j y v' e1 e2 e3
        refine ⟨u', r', ?_⟩
        rcases q with ⟨k, e⟩ | ⟨k, c, e, z⟩
        · refine .inl ⟨k, ?_⟩
          have : y ≠ x := fun e => hj (nodup_ix hN e1 (e ▸ hi))
          simp [this, e]
        · exact .inr ⟨k, c, e, z.sameBut hs (cne y c e)⟩
    · obtain ⟨w', z⟩ := I.cell y c e
      exact ⟨w', z.sameBut hs (cne y c e)⟩
    · obtain ⟨e, n, ne, nf, d⟩ := I.pin p hp
      exact ⟨(hs.2 p.1 ne).trans e, n, ne, nf, d⟩
  · have hfn : X.fn x = true := by
      rcases hf with z | z
      · exact z
      · rw [z] at hk; cases hk
    obtain ⟨c, hc⟩ := I.ok.has x (.inl hk)
    obtain ⟨w', z⟩ := I.cell x c hc
    refine wpAny_storeName_cell I.ok.kind hk hc z (fun h' hc' hs => ?_)
    obtain ⟨oc, hoc, hocd⟩ := id z
    refine h { s with heap := h' } ⟨I.ok, I.os, I.bare, ⟨fun b o e n hb hx => ?_, fun b o e n hb hx => ?_, I.base.free, fun b o e hx => ?_, I.base.tups, I.base.frzs, I.base.tbls⟩, ⟨m, hn.sameBut hs (Ne.symm (cne x c hc)), fun j y v' e1 e2 e3 => ?_⟩, fun y c' e => ?_, I.free, I.freeC, fun p hp => ?_, tracked ⟨oc, hoc, I.freeC x c hc⟩ hs, by simpa using I.len⟩ ⟨c, hs, .inr hc⟩
    · exact (hs.2 b (Nat.ne_of_lt (Nat.lt_of_lt_of_le (Heap.lt_size e) (I.ok.cab x c hfn hc)))).trans (I.base.keep b o e n hb hx)
    · obtain ⟨sl, e1⟩ := I.base.slot b o e n hb hx
      exact ⟨sl, (hs.2 b (Nat.ne_of_lt (Nat.lt_of_lt_of_le (Heap.lt_size e) (I.ok.cab x c hfn hc)))).trans e1⟩
    · obtain ⟨o', e1⟩ := I.base.there b o e hx
      exact ⟨o', (hs.2 b (Nat.ne_of_lt (Nat.lt_of_lt_of_le (Heap.lt_size e) (I.ok.cab x c hfn hc)))).trans e1⟩
    · by_cases hj : j = i
      · subst hj
        rw [hi] at e1; cases e1
        rw [List.getElem?_set_self hiσ] at e2
        cases e2
        exact ⟨u, r, .inr ⟨.inl hk, c, hc, hc'⟩⟩
      · rw [List.getElem?_set_ne (Ne.symm hj)] at e2
        obtain ⟨u', r', q⟩ := hl j y v' e1 e2 e3
        refine ⟨u', r', ?_⟩
        rcases q with q | ⟨k, c', e, z'⟩
        · exact .inl q
        · refine .inr ⟨k, c', e, z'.sameBut hs ?_⟩
          rintro rfl
          exact hj (nodup_ix hN e1 (I.ok.inj _ _ _ e hc ▸ hi))
    · by_cases hcc : c' = c
      · subst hcc; exact ⟨_, hc'⟩
      · obtain ⟨w2, z2⟩ := I.cell y c' e
        exact ⟨w2, z2.sameBut hs hcc⟩
    · obtain ⟨e, n, ne, nf, d⟩ := I.pin p hp
      refine ⟨(hs.2 p.1 ?_).trans e, n, ne, nf, d⟩
      intro q
      rw [q, hoc] at e
      have q' : oc = p.2 := Option.some.inj e
      exact d w' (by rw [← q']; exact hocd)
theorem store_ok {M : Model} {A : Around} {E : Value → Shared → Prop} {i : Nat} {x : Str} {v : V} {u : Value} {Q : Unit → Shared → Prop} (I : Inv X pins σ H s) (hN : X.N.Nodup) (hi : X.N[i]? = some x) (hx : Loc X.env.scope x) (r : RelV v u)
    (h : ∀ s', Inv X pins (σ.set i (some v)) H s' → Q () s') (hf : X.fn x = true ∨ X.env.scope.names.lookup x = some .local := by first | exact .inl rfl | exact .inr rfl | assumption) : wpAny M A (storeName X.env x u) Q E s :=
  store_ok2 I hN hi hx r (fun s' I' _ => h s' I') hf
/-- behind a call or a block, the state as it is -/
theorem Inv.call' {s' : Shared} {ch : List Addr} (I : Inv X pins σ H s) (ho : s'.os = s.os) (u : Un (frs X.stack) ch H H' s.heap s'.heap) (hok : HOk X.prog X.w H' s'.heap) (hg : AllBare s'.gens)
    (hch : ∀ b ∈ ch, (b ∈ X.ex ∨ X.s₀.heap.objs.size ≤ b) ∧ b ≠ X.env.locals ∧ (∀ x c, X.env.cells.lookup x = some c → c ≠ b) ∧ ∀ p ∈ X.pn ++ pins, p.1 ≠ b) : Inv X pins σ H' s' := by
  obtain ⟨h', g', d', t', o'⟩ := s'
  have e : o' = s.os := ho
  subst e
  exact I.call (g' := g') (t' := t') (d' := d') u hok hg hch
end

/-! ### the judgements -/
/-- an exception: its class, its own dict's address (where it has one), the abstract heap behind it -/
abbrev XK := Value → Option Addr → Hp → Prop
abbrev St := List (Option V)
abbrev VK := V → Hp → Prop
/-- an expression's reading; a test's; an argument list's -/
abbrev TE := St → Hp → VK → Prop
abbrev TT := St → Hp → (Bool → Hp → Prop) → Prop
abbrev TA := St → Hp → (List V → Hp → Prop) → Prop
/-- what is wanted behind a statement -/
structure Ends where
  nx : St → Hp → Prop
  rt : VK
  bk : St → Hp → Prop := fun _ _ => False
  ct : St → Hp → Prop := fun _ _ => False
abbrev TS := Ends → St → Hp → Prop

def EP (X : Cx) (pins : List (Addr × Obj)) (σ : St) (Q : VK) (u : Value) (s' : Shared) : Prop := ∃ v H', Inv X pins σ H' s' ∧ RelV v u ∧ Q v H'
def TP (X : Cx) (pins : List (Addr × Obj)) (σ : St) (Q : Bool → Hp → Prop) (b : Bool) (s' : Shared) : Prop := ∃ H', Inv X pins σ H' s' ∧ Q b H'
def AP (X : Cx) (pins : List (Addr × Obj)) (σ : St) (Q : List V → Hp → Prop) (us : List Value) (s' : Shared) : Prop := ∃ vs H', Inv X pins σ H' s' ∧ Vals vs us ∧ Q vs H'
def SP (X : Cx) (pins : List (Addr × Obj)) (D : Ends) (f : Flow) (s' : Shared) : Prop :=
  match f with
  | .next => ∃ σ' H', Inv X pins σ' H' s' ∧ D.nx σ' H'
  | .brk => ∃ σ' H', Inv X pins σ' H' s' ∧ D.bk σ' H'
  | .cont => ∃ σ' H', Inv X pins σ' H' s' ∧ D.ct σ' H'
  | .ret u => ∃ v σ' H', Inv X pins σ' H' s' ∧ RelV v u ∧ D.rt v H'

def PE (X : Cx) (e : Expr) (t : TE) : Prop :=
  ∀ (pins : List (Addr × Obj)) (s : Shared) (σ : St) (H : Hp) (Q : VK), Inv X pins σ H s → t σ H Q → wpAny (model X.prog X.w) X.A (eval e X.env) (EP X pins σ Q) X.xe s
def PT (X : Cx) (e : Expr) (t : TT) : Prop :=
  ∀ (pins : List (Addr × Obj)) (s : Shared) (σ : St) (H : Hp) (Q : Bool → Hp → Prop), Inv X pins σ H s → t σ H Q → wpAny (model X.prog X.w) X.A (isTrue e X.env (eval e X.env)) (TP X pins σ Q) X.xe s
/-- a test whatever its 'whole' is (and, or) -/
def PW (X : Cx) (e : Expr) (t : TT) : Prop :=
  ∀ (whole : Sem Value) (pins : List (Addr × Obj)) (s : Shared) (σ : St) (H : Hp) (Q : Bool → Hp → Prop), Inv X pins σ H s → t σ H Q → wpAny (model X.prog X.w) X.A (isTrue e X.env whole) (TP X pins σ Q) X.xe s
theorem PW.pt {X : Cx} {e : Expr} {t : TT} (h : PW X e t) : PT X e t := h _
/-- an argument list (no star), from the left -/
def PA (X : Cx) (es : List Expr) (t : TA) : Prop :=
  ∀ (pos : Pos) (pins : List (Addr × Obj)) (s : Shared) (σ : St) (H : Hp) (Q : List V → Hp → Prop), Inv X pins σ H s → t σ H Q → wpAny (model X.prog X.w) X.A (spliced (backTo pos (starEach es X.env))) (AP X pins σ Q) X.xe s
def PS (X : Cx) (st : Stmt) (t : TS) : Prop :=
  ∀ (pins : List (Addr × Obj)) (s : Shared) (σ : St) (H : Hp) (D : Ends), Inv X pins σ H s → t D σ H → wpAny (model X.prog X.w) X.A (exec st X.env) (SP X pins D) X.xe s
def PSs (X : Cx) (st : List Stmt) (t : TS) : Prop :=
  ∀ (pins : List (Addr × Obj)) (s : Shared) (σ : St) (H : Hp) (D : Ends), Inv X pins σ H s → t D σ H → wpAny (model X.prog X.w) X.A (execs st X.env) (SP X pins D) X.xe s
/-- weaken the end -/
theorem thn {α : Type} {t : Sem α} {Q Q' : α → Shared → Prop} {M : Model} {A : Around} {E : Value → Shared → Prop} {s : Shared} (h : wpAny M A t Q E s) (hQ : ∀ a s, Q a s → Q' a s) : wpAny M A t Q' E s := wpAny_mono h hQ fun _ _ x => x
end L2

namespace L2
open PySem PySem.Spec PyProof.Rows
section
variable {X : Cx}

/-- two expressions in a row -/
theorem bin {a b : Expr} {ta tb : TE} (ha : PE X a ta) (hb : PE X b tb) {pins : List (Addr × Obj)} {s : Shared} {σ : St} {H : Hp} {R : V → V → Hp → Prop} (I : Inv X pins σ H s) (h : ta σ H fun x H1 => tb σ H1 fun y H2 => R x y H2)
    {α : Type} {Q : α → Shared → Prop} {f : Value → Value → Sem α}
    (hf : ∀ v u s2 x y H2, Inv X pins σ H2 s2 → RelV x v → RelV y u → R x y H2 → wpAny (model X.prog X.w) X.A (f v u) Q X.xe s2) :
    wpAny (model X.prog X.w) X.A (eval a X.env) (fun v s₁ => wpAny (model X.prog X.w) X.A (eval b X.env) (fun u s₂ => wpAny (model X.prog X.w) X.A (f v u) Q X.xe s₂) X.xe s₁) X.xe s := by
  refine thn (ha pins s σ H _ I h) fun v s1 ⟨x, H1, I1, r1, q1⟩ => ?_
  refine thn (hb pins s1 σ H1 _ I1 q1) fun u s2 ⟨y, H2, I2, r2, q2⟩ => ?_
  exact hf v u s2 x y H2 I2 r1 r2 q2

/-! ### names and constants -/
def tVar (i : Nat) : TE := fun σ H Q => ∃ v, σ[i]? = some (some v) ∧ Q v H
def tC (v : V) : TE := fun _ H Q => Q v H
theorem pe_var {i : Nat} {x : Str} {pos : Pos} (hN : X.N[i]? = some x) (hv : Vis X.env.scope x) (hd : (x == ("__debug__" : Str)) = false := by decide) (hcd : (x == ("__classdict__" : Str)) = false := by decide) : PE X (.Name x pos) (tVar i) := by
  intro pins s σ H Q I h
  obtain ⟨v, e, h⟩ := h
  obtain ⟨m, hn, hl⟩ := I.loc
  obtain ⟨u, r, l⟩ := hl i x v hN e hv
  have fin : EP X pins σ Q u s := ⟨v, H, I, r, h⟩
  rcases l with ⟨hk, hm⟩ | ⟨hk, c, hc, hcell⟩
  · exact wpAny_Name (wpAny_loadName_local I.ok.kind hk hn hm fin) hd
  · rcases hk with hk | hk
    · exact wpAny_Name (wpAny_loadName_cell I.ok.kind hk hc hcell fin) hd
    · exact wpAny_Name (wpAny_loadName_free I.ok.kind hk hc hcell fin hcd) hd
theorem pe_int {i j pos} : PE X (.Constant (.int i) j pos) (tC (.int i)) := fun _ _ _ H _ I h => wpAny_Constant_int ⟨.int i, H, I.tok _, ⟨_, rfl⟩, h⟩
theorem pe_bl {b j pos} : PE X (.Constant (.bool b) j pos) (tC (.bl b)) := fun _ _ _ H _ I h => Constant_bool ⟨.bl b, H, I, rfl, h⟩
theorem pe_non {j pos} : PE X (.Constant .none j pos) (tC .non) := fun _ _ _ H _ I h => Constant_none ⟨.non, H, I, rfl, h⟩
theorem pe_str {x j pos} : PE X (.Constant (.str x) j pos) (tC (.str x)) := fun _ _ _ H _ I h => Calls.Constant_str ⟨.str x, H, I.tok _, ⟨_, rfl⟩, h⟩

/-- a global name of the def -/
def Gl (X : Cx) (x : Str) : Prop := X.env.kindOf x = some .globalImplicit
theorem ld_glob {E : Value → Shared → Prop} {pins : List (Addr × Obj)} {s : Shared} {σ : St} {H : Hp} {x : Str} {u : Value} {pos : Pos} {Q : Value → Shared → Prop} (I : Inv X pins σ H s) (hg : Gl X x) (hm : X.mg x = some u) (h : Q u s)
    (hd : (x == ("__debug__" : Str)) = false := by decide) : wpAny (model X.prog X.w) X.A (eval (.Name x pos) X.env) Q E s :=
  Calls.Name_function_global I.ok.kind hg (Calls.loadGlobal_global (by rw [I.ok.glob]; exact I.mod.glob.keeps I.bk) hm h) hd
theorem ld_blt {E : Value → Shared → Prop} {pins : List (Addr × Obj)} {s : Shared} {σ : St} {H : Hp} {x : Str} {u : Value} {pos : Pos} {Q : Value → Shared → Prop} (I : Inv X pins σ H s) (hg : Gl X x) (hm : X.mg x = none) (hv : bootBuiltins x = some u) (h : Q u s)
    (hn : x ≠ "__name__" := by decide) (hd : (x == ("__debug__" : Str)) = false := by decide) : wpAny (model X.prog X.w) X.A (eval (.Name x pos) X.env) Q E s := by
  obtain ⟨mb, h1, h2⟩ := I.mod.blt
  exact Calls.Name_function_global I.ok.kind hg (Calls.loadGlobal_builtin (by rw [I.ok.glob]; exact I.mod.glob.keeps I.bk) hm (by rw [I.ok.blt]; exact h1.keeps I.bk) ((h2 x hn).trans hv) h) hd
/-- a module's constant, a class, a function, as a value -/
theorem pe_glob {x : Str} {v : V} {u : Value} {pos : Pos} (hg : Gl X x) (hm : X.mg x = some u) (r : RelV v u) (hd : (x == ("__debug__" : Str)) = false := by decide) : PE X (.Name x pos) (tC v) :=
  fun _ _ _ H _ I h => ld_glob I hg hm ⟨v, H, I, r, h⟩ hd
theorem pe_bltn {x : Str} {v : V} {u : Value} {pos : Pos} (hg : Gl X x) (hm : X.mg x = none) (hv : bootBuiltins x = some u) (r : RelV v u) (hn : x ≠ "__name__" := by decide) (hd : (x == ("__debug__" : Str)) = false := by decide) : PE X (.Name x pos) (tC v) :=
  fun _ _ _ H _ I h => ld_blt I hg hm hv ⟨v, H, I, r, h⟩ hn hd

/-! ### arithmetic -/
variable {a b : Expr} {ta tb : TE} {pos : Pos}
/-! ### comparisons -/
def PC (X : Cx) (op : CmpOp) (a b : Expr) (t : TE) : Prop :=
  ∀ (pins : List (Addr × Obj)) (s : Shared) (σ : St) (H : Hp) (Q : VK), Inv X pins σ H s → t σ H Q →
    wpAny (model X.prog X.w) X.A (eval a X.env) (fun v s₁ => wpAny (model X.prog X.w) X.A (eval b X.env) (fun u s₂ => wpAny (model X.prog X.w) X.A (compareOp op v u) (EP X pins σ Q) X.xe s₂) X.xe s₁) X.xe s
/-- a comparison as a value, as a test -/
def tB (t : TE) : TT := fun σ H Q => t σ H fun x H1 => ∃ c, x = .bl c ∧ Q c H1
/-- an expression whose value is a bool, as a test -/
theorem pt_val {e : Expr} {t : TE} (h : PE X e t) (he : ∀ whole, isTrue e X.env whole = (do let v ← whole; standAt e.pos; holding [v] (truthy v)) := by intro _; rfl) : PT X e (tB t) := by
  intro pins s σ H Q I hw
  refine isTrue_plain (thn (h pins s σ H _ I hw) fun v s1 ⟨x, H1, I1, r1, q1⟩ => ?_) (he _)
  obtain ⟨d, rfl, q⟩ := q1
  cases r1
  exact wpAny_truthy_bool ⟨H1, I1, q⟩

/-! ### and, or, not -/
variable {tA tB' : TT} {rest : List Expr}
def tOr (t u : TT) : TT := fun σ H Q => t σ H fun c H1 => if c = true then Q true H1 else u σ H1 Q
def tNot (t : TT) : TT := fun σ H Q => t σ H fun c H1 => Q (!c) H1
theorem pw_or1 (ha : PT X a tA) : PW X (.BoolOp .Or [a] pos) tA := by
  intro wh pins s σ H Q I h
  refine isTrue_or (thn (ha pins s σ H Q I h) fun c s1 e => ?_)
  cases c with
  | false => exact isTrue_or_nil e
  | true => exact e
theorem pw_or (ha : PT X a tA) (hb : PW X (.BoolOp .Or (b :: rest) pos) tB') : PW X (.BoolOp .Or (a :: b :: rest) pos) (tOr tA tB') := by
  intro wh pins s σ H Q I h
  refine isTrue_or (thn (ha pins s σ H _ I h) fun c s1 ⟨H1, I1, q1⟩ => ?_)
  cases c with
  | true => exact ⟨H1, I1, q1⟩
  | false => exact hb wh pins s1 σ H1 Q I1 q1
theorem pt_not (ha : PT X a tA) : PT X (.UnaryOp .Not a pos) (tNot tA) := by
  intro pins s σ H Q I h
  exact isTrue_not (ha pins s σ H (fun c H1 => Q (!c) H1) I h)
end
end L2

namespace L2
open PySem PySem.Spec PyProof.Rows

/-! ### a list, a tuple that is read: tracked, frozen, or an object of the module -/
def SqL (K : PySem.W.Frag) (H : Hp) (a : Addr) (xs : List V) : Prop :=
  Rd H a (.lst xs) ∨
    ∃ (o : Obj) (its : Array Value) (n : Nat), K.lookup a = some o ∧ o.cls = .type "list" ∧ o.dict = none ∧ o.data = .seq its n ∧ its.size ≤ sizeLine ∧ Vals xs its.toList
def SqT (K : PySem.W.Frag) (H : Hp) (a : Addr) (xs : List V) : Prop :=
  Rd H a (.tup xs) ∨
    ∃ (o : Obj) (its : Array Value) (n : Nat), K.lookup a = some o ∧ o.cls = .type "tuple" ∧ o.data = .seq its n ∧ its.size ≤ sizeLine ∧ Vals xs its.toList
def absV : Value → Option V
  | .none => some .non
  | .bool b => some (.bl b)
  | .int i _ => some (.int i)
  | .str x _ => some (.str x)
  | .bytes b _ => some (.byt b)
  | .float b _ => some (.flt b)
  | .ref a => some (.ref a)
  | .type n => some (.ty n)
  | _ => none
theorem RelV.abs {x : V} {u : Value} (r : RelV x u) : absV u = some x := by
  cases x with
  | non => cases r; rfl
  | bl _ => cases r; rfl
  | int _ => obtain ⟨t, rfl⟩ := r; rfl
  | str _ => obtain ⟨t, rfl⟩ := r; rfl
  | byt _ => obtain ⟨t, rfl⟩ := r; rfl
  | flt _ => obtain ⟨t, rfl⟩ := r; rfl
  | ref _ => cases r; rfl
  | ty _ => cases r; rfl
theorem RelV.inj {x y : V} {u : Value} (r : RelV x u) (q : RelV y u) : x = y := Option.some.inj (r.abs.symm.trans q.abs)
theorem Vals.inj : ∀ {xs ys : List V} {us : List Value}, Vals xs us → Vals ys us → xs = ys
  | _, _, _, .nil, .nil => rfl
  | _, _, _, .cons r t, .cons r' t' => by rw [r.inj r', Vals.inj t t']
section
variable {X : Cx} {pins : List (Addr × Obj)} {σ : St} {H : Hp} {s : Shared} {a : Addr} {xs ys : List V}
theorem SqL.of {K : PySem.W.Frag} (h : H a = some (.lst xs)) : SqL K H a xs := .inl (.inl h)
theorem SqT.of {K : PySem.W.Frag} (h : H a = some (.tup xs)) : SqT K H a xs := .inl (.inl h)
theorem Inv.list (I : Inv X pins σ H s) (h : SqL X.K H a xs) : ∃ its : List Value, Vals xs its ∧ PlainL s.heap a its.toArray ∧ xs.length ≤ sizeLine := by
  rcases h with h | ⟨o, its, n, hk, hc, hd, hs, hz, r⟩
  · obtain ⟨z, its, n, r, e⟩ := h.ok I.hok
    exact ⟨its, r, ⟨_, n, e, rfl, rfl, rfl⟩, z⟩
  · refine ⟨its.toList, r, ⟨o, n, I.kIn a o hk, hc, hd, by simpa using hs⟩, ?_⟩
    have e := r.length
    simp only [Array.length_toList] at e
    omega
theorem Inv.tuple (I : Inv X pins σ H s) (h : SqT X.K H a xs) : ∃ its : List Value, Vals xs its ∧ IsTup s.heap a its.toArray ∧ xs.length ≤ sizeLine := by
  rcases h with h | ⟨o, its, n, hk, hc, hs, hz, r⟩
  · obtain ⟨z, its, r, p⟩ := h.ok I.hok
    exact ⟨its, r, p.tup, z⟩
  · refine ⟨its.toList, r, ⟨o, I.kIn a o hk, hc, n, by simpa using hs⟩, ?_⟩
    have e := r.length
    simp only [Array.length_toList] at e
    omega
theorem Inv.list_inj (I : Inv X pins σ H s) (h : SqL X.K H a xs) (h' : SqL X.K H a ys) : xs = ys := by
  obtain ⟨its, r, ⟨o, n, e, _, _, d⟩, _⟩ := I.list h
  obtain ⟨its', r', ⟨o', n', e', _, _, d'⟩, _⟩ := I.list h'
  rw [e] at e'; cases e'
  rw [d] at d'
  injection d' with d1 _
  have : its = its' := by simpa using congrArg Array.toList d1
  subst this
  exact r.inj r'
theorem Inv.tuple_inj (I : Inv X pins σ H s) (h : SqT X.K H a xs) (h' : SqT X.K H a ys) : xs = ys := by
  obtain ⟨its, r, ⟨o, e, _, n, d⟩, _⟩ := I.tuple h
  obtain ⟨its', r', ⟨o', e', _, n', d'⟩, _⟩ := I.tuple h'
  rw [e] at e'; cases e'
  rw [d] at d'
  injection d' with d1 _
  have : its = its' := by simpa using congrArg Array.toList d1
  subst this
  exact r.inj r'
end

/-! ### another wish about exceptions -/
abbrev Cx.wish (X : Cx) (E : Value → Shared → Prop) : Cx := { X with xe := E }
/-- no exception leaves -/
abbrev Cx.nox (X : Cx) : Cx := X.wish fun _ _ => False
theorem Cx.Ok.wish {X : Cx} (ok : X.Ok) (E : Value → Shared → Prop) : (X.wish E).Ok :=
  ⟨ok.mod, ok.kind, ok.glob, ok.blt, ok.above, ok.inj, ok.has, ok.cab, ok.hd, ok.frames, ok.stk, ok.exf, ok.bs, ok.bsz, ok.noex, ok.exfs, ok.funs, ok.frf⟩
theorem Cx.Ok.unwish {X : Cx} {E : Value → Shared → Prop} (ok : (X.wish E).Ok) : X.Ok :=
  ⟨ok.mod, ok.kind, ok.glob, ok.blt, ok.above, ok.inj, ok.has, ok.cab, ok.hd, ok.frames, ok.stk, ok.exf, ok.bs, ok.bsz, ok.noex, ok.exfs, ok.funs, ok.frf⟩
section
variable {X : Cx} {pins : List (Addr × Obj)} {σ : St} {H : Hp} {s : Shared} {E : Value → Shared → Prop}
theorem Inv.wish (I : Inv X pins σ H s) (E : Value → Shared → Prop) : Inv (X.wish E) pins σ H s := ⟨I.ok.wish E, I.os, I.bare, I.base, I.loc, I.cell, I.free, I.freeC, I.pin, I.hok, I.len⟩
theorem Inv.unwish (I : Inv (X.wish E) pins σ H s) : Inv X pins σ H s := ⟨I.ok.unwish, I.os, I.bare, I.base, I.loc, I.cell, I.free, I.freeC, I.pin, I.hok, I.len⟩
theorem SP.unwish {D : Ends} {f : Flow} {s' : Shared} (h : SP (X.wish E) pins D f s') : SP X pins D f s' := by
  cases f with
  | next => obtain ⟨σ', H', I, q⟩ := h; exact ⟨σ', H', I.unwish, q⟩
  | brk => obtain ⟨σ', H', I, q⟩ := h; exact ⟨σ', H', I.unwish, q⟩
  | cont => obtain ⟨σ', H', I, q⟩ := h; exact ⟨σ', H', I.unwish, q⟩
  | ret u => obtain ⟨v, σ', H', I, r, q⟩ := h; exact ⟨v, σ', H', I.unwish, r, q⟩
theorem PE.nox {e : Expr} {t : TE} (h : PE X.nox e t) : PE X e t := fun pins s σ H Q I hw =>
  wpAny_mono (h pins s σ H Q (I.wish _) hw) (fun _ _ ⟨v, H', I', r, q⟩ => ⟨v, H', I'.unwish, r, q⟩) fun _ _ z => False.elim z
theorem PT.nox {e : Expr} {t : TT} (h : PT X.nox e t) : PT X e t := fun pins s σ H Q I hw =>
  wpAny_mono (h pins s σ H Q (I.wish _) hw) (fun _ _ ⟨H', I', q⟩ => ⟨H', I'.unwish, q⟩) fun _ _ z => False.elim z
theorem PSs.nox {st : List Stmt} {t : TS} (h : PSs X.nox st t) : PSs X st t := fun pins s σ H D I hw =>
  wpAny_mono (h pins s σ H D (I.wish _) hw) (fun _ _ q => q.unwish) fun _ _ z => False.elim z
end

/-! ### blocks and small statements -/
section
variable {X : Cx} {st : Stmt} {rest : List Stmt} {t u : TS} {e : Expr} {te : TE} {pos : Pos}
def tNext : TS := fun D σ H => D.nx σ H
def tSeq (t u : TS) : TS := fun D σ H => t { D with nx := u D } σ H
theorem pss_nil : PSs X [] tNext := fun _ _ σ H _ I h => wpAny_execs_nil ⟨σ, H, I, h⟩
theorem pss_cons (h1 : PS X st t) (h2 : PSs X rest u) : PSs X (st :: rest) (tSeq t u) := by
  intro pins s σ H D I h
  refine wpAny_execs_cons (thn (h1 pins s σ H { D with nx := u D } I h) fun f s1 q => ?_)
  cases f with
  | next =>
    obtain ⟨σ', H', I', q⟩ := q
    exact h2 pins s1 σ' H' D I' q
  | ret v => exact q
  | brk => exact q
  | cont => exact q
theorem pss_one (h1 : PS X st t) : PSs X [st] t := by
  intro pins s σ H D I h
  refine wpAny_execs_cons (thn (h1 pins s σ H D I h) fun f s1 q => ?_)
  cases f with
  | next => exact wpAny_execs_nil q
  | ret v => exact q
  | brk => exact q
  | cont => exact q
/-- in a def's body nothing is shown -/
theorem Inv.quiet {pins : List (Addr × Obj)} {σ : St} {H : Hp} {s : Shared} (I : Inv X pins σ H s) : interactive X.env = false := by simp [interactive, I.ok.kind]
/-- an expression whose value is dropped -/
def tDrop (te : TE) : TS := fun D σ H => te σ H fun _ H1 => D.nx σ H1
theorem ps_expr (he : PE X e te) (hs : swapsWith e none pos.line X.env = pure false := by rfl) : PS X (.Expr e pos) (tDrop te) := by
  intro pins s σ H D I h
  exact wpAny_Expr_any (thn (he pins s σ H _ I h) fun v s1 ⟨x, H1, I1, r1, q1⟩ => ⟨σ, H1, I1, q1⟩) I.quiet hs
def tRet (te : TE) : TS := fun D σ H => te σ H D.rt
theorem ps_ret (he : PE X e te) : PS X (.Return (some e) pos) (tRet te) := by
  intro pins s σ H D I h
  exact wpAny_Return_some (thn (he pins s σ H _ I h) fun v s1 ⟨x, H1, I1, r1, q1⟩ => ⟨x, σ, H1, I1, r1, q1⟩)
def tIfS (c : TT) (t u : TS) : TS := fun D σ H => c σ H fun b H1 => if b = true then t D σ H1 else u D σ H1
theorem ps_if {c : Expr} {a b : List Stmt} {tc : TT} (hc : PT X c tc) (ha : PSs X a t) (hb : PSs X b u) : PS X (.If c a b pos) (tIfS tc t u) := by
  intro pins s σ H D I h
  refine wpAny_If (thn (hc pins s σ H _ I h) fun d s1 ⟨H1, I1, q1⟩ => ?_)
  cases d with
  | true => exact ha pins s1 σ H1 D I1 q1
  | false => exact hb pins s1 σ H1 D I1 q1
end

/-! ### targets -/
abbrev TG := V → St → Hp → (St → Hp → Prop) → Prop
abbrev TGs := List V → St → Hp → (St → Hp → Prop) → Prop
def PG (X : Cx) (target : Expr) (t : TG) : Prop :=
  ∀ (pins : List (Addr × Obj)) (s : Shared) (σ : St) (H : Hp) (v : V) (u : Value) (Q : St → Hp → Prop), Inv X pins σ H s → RelV v u → t v σ H Q →
    wpAny (model X.prog X.w) X.A (assign target X.env u) (fun _ s' => ∃ σ' H', Inv X pins σ' H' s' ∧ Q σ' H') X.xe s
/-- several targets, one after another -/
def PGs (X : Cx) (ts : List Expr) (t : TGs) : Prop :=
  ∀ (pins : List (Addr × Obj)) (s : Shared) (σ : St) (H : Hp) (vs : List V) (us : List Value) (Q : St → Hp → Prop), Inv X pins σ H s → Vals vs us → t vs σ H Q →
    wpAny (model X.prog X.w) X.A (assignInOrder ((assignEach ts X.env).map (·.2)) us) (fun _ s' => ∃ σ' H', Inv X pins σ' H' s' ∧ Q σ' H') X.xe s
/-- o[i] = v, by values -/
abbrev TSet := V → V → V → Hp → (Hp → Prop) → Prop
def PSet (X : Cx) (t : TSet) : Prop :=
  ∀ (pins : List (Addr × Obj)) (s : Shared) (σ : St) (H : Hp) (o i v : V) (ov iv u : Value) (Q : Hp → Prop), Inv X pins σ H s → RelV o ov → RelV i iv → RelV v u → t o i v H Q →
    wpAny (model X.prog X.w) X.A (setItem ov iv u) (fun _ s' => ∃ H', Inv X pins σ H' s' ∧ Q H') X.xe s
section
variable {X : Cx} {pos : Pos}
def gName (i : Nat) : TG := fun v σ H Q => Q (σ.set i (some v)) H
theorem pg_name {i : Nat} {x : Str} (hN : X.N.Nodup) (hi : X.N[i]? = some x) (hx : Loc X.env.scope x) (hf : X.fn x = true ∨ X.env.scope.names.lookup x = some .local := by first | exact .inl rfl | exact .inr rfl | assumption) : PG X (.Name x pos) (gName i) := by
  intro pins s σ H v u Q I r h
  exact wpAny_assign_Name (store_ok I hN hi hx r (fun s' I' => ⟨_, H, I', h⟩) hf)
def gNil : TGs := fun vs σ H Q => vs = [] ∧ Q σ H
def gCons (t : TG) (u : TGs) : TGs := fun vs σ H Q => ∃ v r, vs = v :: r ∧ t v σ H fun σ' H' => u r σ' H' Q
theorem pgs_nil : PGs X [] gNil := by
  intro pins s σ H vs us Q I r h
  obtain ⟨e, h⟩ := h
  subst e
  cases r
  exact assignInOrder_nil ⟨σ, H, I, h⟩
theorem pgs_cons {e : Expr} {es : List Expr} {t : TG} {u : TGs} (h1 : PG X e t) (h2 : PGs X es u)
    (hs : (assignEach (e :: es) X.env).map (·.2) = assign e X.env :: (assignEach es X.env).map (·.2) := by rfl) : PGs X (e :: es) (gCons t u) := by
  intro pins s σ H vs us Q I r h
  obtain ⟨v, vr, e1, h⟩ := h
  subst e1
  cases r with
  | cons r rr =>
    rw [hs]
    refine assignInOrder_cons (thn (h1 pins s σ H _ _ _ I r h) fun _ s1 ⟨σ1, H1, I1, q1⟩ => ?_)
    exact h2 pins s1 σ1 H1 _ _ Q I1 rr q1
/-- (a, b, ..) = a tuple of that length -/
def gTup (K : PySem.W.Frag) (n : Nat) (t : TGs) : TG := fun v σ H Q => ∃ a xs, v = .ref a ∧ SqT K H a xs ∧ xs.length = n ∧ t xs σ H Q
theorem pg_tup {es : List Expr} {k : Nat} {t : TGs} {n : Nat} (hc : X.calm = true) (h : PGs X es t)
    (hn : (assignEach es X.env).length = n := by rfl) (hst : (assignEach es X.env).findIdx? (·.1) = none := by rfl) : PG X (.Tuple es k pos) (gTup X.K n t) := by
  intro pins s σ H v u Q I r hw
  obtain ⟨a, xs, e1, hq, hl, hw⟩ := hw
  subst e1
  cases r
  obtain ⟨its, rv, ht, hz⟩ := I.tuple hq
  refine assign_Tuple_tuple (I.ok.hd hc) ht (by simp [hn, ← hl, rv.length]) hst fun h' hx => ?_
  have I1 : Inv X pins σ H { s with heap := h' } := I.kept (t' := s.toks) fun b o e => hx b o (Nat.ne_of_lt (Heap.lt_size e)) e
  exact h pins _ σ H xs _ Q I1 (by simpa using rv) hw
/-- o[i] = .. -/
def gSub (to ti : TE) (t : TSet) : TG := fun v σ H Q => to σ H fun o H1 => ti σ H1 fun i H2 => t o i v H2 fun H3 => Q σ H3
theorem pg_sub {o i : Expr} {to ti : TE} {t : TSet} (ho : PE X o to) (hi : PE X i ti) (hs : PSet X t)
    (ha : ∀ v, assign (.Subscript o i pos) X.env v = (do
      let ov ← holding [v] (eval o X.env)
      let iv ← holding [v, ov] (eval i X.env)
      standAt pos
      holding [v, ov, iv] (setItem ov iv v)
      release [v, ov, iv] []) := by intro _; rfl) : PG X (.Subscript o i pos) (gSub to ti t) := by
  intro pins s σ H v u Q I r h
  rw [ha]
  refine wpAny_bind (wpAny_holding (thn (ho pins s σ H _ I h) fun ov s1 ⟨x, H1, I1, r1, q1⟩ => ?_))
  refine wpAny_bind (wpAny_holding (thn (hi pins s1 σ H1 _ I1 q1) fun iv s2 ⟨y, H2, I2, r2, q2⟩ => ?_))
  refine wpAny_bind (wpAny_standAt (wpAny_bind (wpAny_holding (thn (hs pins s2 σ H2 x y v ov iv u _ I2 r1 r2 r q2) fun _ s3 ⟨H3, I3, q3⟩ => ?_))))
  exact wpAny_release ⟨σ, H3, I3, q3⟩
/-- target = value -/
def tAsg (te : TE) (g : TG) : TS := fun D σ H => te σ H fun x H1 => g x σ H1 D.nx
theorem ps_asg {tg e : Expr} {te : TE} {g : TG} (he : PE X e te) (hg : PG X tg g) (hs : swapsWithSole [tg] e pos.line X.env = pure false := by rfl) (hw : swappedStores [tg] e X.env = pure none := by rfl)
    (h1 : (assignEach [tg] X.env).map (·.2) = [assign tg X.env] := by rfl) : PS X (.Assign [tg] e pos) (tAsg te g) := by
  intro pins s σ H D I h
  refine wpAny_Assign_stores (thn (he pins s σ H _ I h) fun v s1 ⟨x, H1, I1, r1, q1⟩ => ?_) hs hw
  rw [h1]
  exact thn (hg pins s1 σ H1 x v _ I1 r1 q1) fun _ s2 q => q
/-- name = value -/
theorem ps_set {i : Nat} {x : Str} {e : Expr} {te : TE} {pos' : Pos} (hN : X.N.Nodup) (hi : X.N[i]? = some x) (hx : Loc X.env.scope x) (he : PE X e te) (hs : swapsWith e (some (.Name x pos')) pos.line X.env = pure false := by rfl) (hf : X.fn x = true ∨ X.env.scope.names.lookup x = some .local := by first | exact .inl rfl | exact .inr rfl | assumption) :
    PS X (.Assign [.Name x pos'] e pos) (tAsg te (gName i)) := by
  intro pins s σ H D I h
  refine wpAny_Assign_Name (thn (he pins s σ H _ I h) fun v s1 ⟨y, H1, I1, r1, q1⟩ => ?_) hs
  exact store_ok I1 hN hi hx r1 (fun s2 I2 => ⟨_, H1, I2, q1⟩) hf
end

/-! ### while -/
section
variable {X : Cx} {pos : Pos}
end

/-! ### what a loop or a comprehension walks -/
/-- at turn i: it yields x (the heap may grow), or it stops -/
structure It where
  go : Nat → Hp → Prop
  yld : Nat → Hp → V → Hp → Prop
  stop : Nat → Hp → Prop
/-- the iterator's own objects may turn: they are not the frame's, not pinned, younger than the entry (or a comprehension's own) -/
def FpOk (X : Cx) (pins : List (Addr × Obj)) (H : Hp) (b : Addr) : Prop :=
  H b = none ∧ b ≠ X.env.locals ∧ b ∉ X.fs ∧ (b ∈ X.ex ∨ X.s₀.heap.objs.size ≤ b) ∧ (∀ x c, X.env.cells.lookup x = some c → c ≠ b) ∧ ∀ p ∈ X.pn ++ pins, p.1 ≠ b
theorem Inv.fpOk {X : Cx} {pins : List (Addr × Obj)} {σ : St} {H H' : Hp} {s : Shared} {b : Addr} (I : Inv X pins σ H s) (hb : s.heap.objs.size ≤ b) (hn : H' b = none) : FpOk X pins H' b := by
  refine ⟨hn, Nat.ne_of_gt (Nat.lt_of_lt_of_le I.lt hb), I.nofs hb, .inr (Nat.le_trans I.sz hb), fun x c e z => ?_, fun p hp z => ?_⟩
  · obtain ⟨v, q⟩ := I.cell x c e
    exact absurd (Nat.lt_of_lt_of_le q.lt (by rw [z]; exact hb)) (Nat.lt_irrefl _)
  · exact absurd (Nat.lt_of_lt_of_le (Heap.lt_size (I.pin p hp).1) (by rw [z]; exact hb)) (Nat.lt_irrefl _)
structure Turn (P : Program) (w : World) (K : PySem.W.Frag) (tg : Expr) (J : It) (fp : List Addr) (it : Addr) (tn : Nat → Heap → Prop) : Prop where
  mem : it ∈ fp
  obj : ∀ i h, tn i h → ∀ b ∈ fp, ∃ o, h.get? b = some o ∧ ∀ v, o.data ≠ .cell v
  keep : ∀ i h h', tn i h → (∀ b ∈ fp, ∀ o, h.get? b = some o → h'.get? b = some o) → tn i h'
  item : ∀ (X : Cx), X.prog = P → X.w = w → X.K = K → X.calm = true → ∀ (i : Nat) (pins : List (Addr × Obj)) (s : Shared) (σ : St) (H : Hp) (E : Value → Shared → Prop), Inv X pins σ H s → (∀ b ∈ fp, FpOk X pins H b) → tn i s.heap → J.go i H →
    wpAny (model P w) X.A (pyNext (.ref it)) (fun r s1 => ∃ u, r = some u ∧
      wpAny (model P w) X.A (letOwnedTupleGo tg (.ref it) u) (fun _ s2 => ∃ x H', Inv X pins σ H' s2 ∧ RelV x u ∧ J.yld i H x H' ∧ tn (i + 1) s2.heap ∧ ∀ b ∈ fp, H' b = none) E s1) E s
  done : ∀ (X : Cx), X.prog = P → X.w = w → X.K = K → X.calm = true → ∀ (i : Nat) (pins : List (Addr × Obj)) (s : Shared) (σ : St) (H : Hp) (E : Value → Shared → Prop), Inv X pins σ H s → (∀ b ∈ fp, FpOk X pins H b) → tn i s.heap → J.stop i H →
    wpAny (model P w) X.A (pyNext (.ref it)) (fun r s1 => r = none ∧ Inv X pins σ H s1) E s
  self : ∀ (A : Around) (i : Nat) (s : Shared) (Q : Value → Shared → Prop) (E : Value → Shared → Prop), tn i s.heap → Q (.ref it) s → wpAny (model P w) A (pyIter (.ref it)) Q E s
abbrev TI := St → Hp → (It → Hp → Prop) → Prop
/-- an iterator has come -/
def PIE (X : Cx) (pins : List (Addr × Obj)) (σ : St) (tg : Expr) (R : It → Hp → Prop) (itv : Value) (s2 : Shared) : Prop :=
  ∃ (it : Addr) (fp : List Addr) (tn : Nat → Heap → Prop) (J : It) (H' : Hp), itv = .ref it ∧ Inv X pins σ H' s2 ∧ Turn X.prog X.w X.K tg J fp it tn ∧ tn 0 s2.heap ∧ (∀ b ∈ fp, FpOk X pins H' b) ∧ R J H'
def PI (X : Cx) (tg iter : Expr) (wi : TI) : Prop :=
  ∀ (pins : List (Addr × Obj)) (s : Shared) (σ : St) (H : Hp) (R : It → Hp → Prop), Inv X pins σ H s → wi σ H R →
    wpAny (model X.prog X.w) X.A (eval iter X.env) (fun v s1 => wpAny (model X.prog X.w) X.A (pyIter v) (PIE X pins σ tg R) X.xe s1) X.xe s

/-- the step ahead of the store is nothing for an iterator that keeps no tuple -/
theorem go_of {M : Model} {A : Around} {E : Value → Shared → Prop} {s : Shared} {tg : Expr} {it : Addr} {u : Value} {o : Obj} {n : String} {vs : Array Value} {Q : Unit → Shared → Prop} (ho : s.heap.get? it = some o) (hc : o.cls = .type n) (hd : o.data = .fields vs)
    (hn : ["enumerate", "zip", "dict_itemiterator", "dict_reverseitemiterator", "odict_iterator", "itertools.zip_longest", "itertools.pairwise"].contains n = false) (hQ : Q () s) : wpAny M A (letOwnedTupleGo tg (.ref it) u) Q E s := by
  unfold letOwnedTupleGo
  cases tg <;> first
    | exact wpAny_pure hQ
    | (cases u <;> first
        | exact wpAny_pure hQ
        | (refine wpAny_bind (wpAny_load ho ?_)
           rw [hc, hd]
           show wpAny M A (if (["enumerate", "zip", "dict_itemiterator", "dict_reverseitemiterator", "odict_iterator", "itertools.zip_longest", "itertools.pairwise"].contains n && vs[0]? == some (rawInt _)) = true then _ else _) Q E s
           rw [if_neg (by intro h; rw [hn, Bool.false_and] at h; cases h)]
           exact wpAny_pure hQ))

/-- the list at a, as it stands at each turn (a loop may append to it) -/
def Itl (K : PySem.W.Frag) (a : Addr) : It :=
  ⟨fun i H => ∃ xs x, SqL K H a xs ∧ xs[i]? = some x, fun i H x H' => H' = H ∧ ∀ xs, SqL K H a xs → xs[i]? = some x, fun i H => ∃ xs, SqL K H a xs ∧ xs.length ≤ i⟩
/-- lo, lo + 1, .. (n of them) -/
def Itr (lo : Int) (n : Nat) : It := ⟨fun i _ => i < n, fun i H x H' => H' = H ∧ x = .int (lo + i), fun i _ => n ≤ i⟩
theorem turn_list {P : Program} {w : World} {K : PySem.W.Frag} {tg : Expr} (a it : Addr) : Turn P w K tg (Itl K a) [it] it (fun i h => h.IsListIter it a i) where
  mem := by simp
  obj := fun i h st b hb => by
    have e : b = it := by simpa using hb
    subst e
    obtain ⟨o, e, c, d⟩ := st
    exact ⟨o, e, fun v z => by rw [d] at z; cases z⟩
  keep := fun i h h' st k => st.at fun o e => k it (by simp) o e
  item := by
    intro X hP hw hK hc i pins s σ H E I hf st hg
    subst hP hw hK
    obtain ⟨xs, x, hq, hx⟩ := hg
    obtain ⟨its, rv, p, hz⟩ := I.list hq
    obtain ⟨u, hu, ru⟩ := rv.get hx
    obtain ⟨f0, f1, f2, f3, f4, f5⟩ := hf it (by simp)
    refine wpAny_pyNext_list_item st p.isList (x := u) (by simpa using hu) fun h' st' sb => ?_
    have I1 : Inv X pins σ H { s with heap := h' } := I.turned (t' := s.toks) (fun b o hb e => (sb.2 b hb).trans e) f0 f1 f3 f4 f5
    obtain ⟨o, e, c, d⟩ := id st'
    exact ⟨u, rfl, go_of (s := { s with heap := h' }) e c d (by decide) ⟨x, H, I1, ru, ⟨rfl, fun ys hy => by rw [I.list_inj hy hq]; exact hx⟩, st', fun b hb => (hf b hb).1⟩⟩
  done := by
    intro X hP hw hK hc i pins s σ H E I hf st hg
    subst hP hw hK
    obtain ⟨xs, hq, hx⟩ := hg
    obtain ⟨its, rv, p, hz⟩ := I.list hq
    obtain ⟨f0, f1, f2, f3, f4, f5⟩ := hf it (by simp)
    have hl := rv.length
    exact wpAny_pyNext_list_end (I.ok.hd hc) st p.isList (by simp; omega) fun h' eb => ⟨rfl, I.turned (t' := s.toks) (fun b o hb e => eb b o hb e) f0 f1 f3 f4 f5⟩
  self := fun _ _ _ _ _ st h => wpAny_pyIter_listiter st h
theorem turn_range {P : Program} {w : World} {K : PySem.W.Frag} {tg : Expr} (it : Addr) (lo : Int) (n : Nat) : Turn P w K tg (Itr lo n) [it] it (fun i h => IsRangeIter h it (lo + (i : Nat) * 1) ((n : Int) - (i : Nat)) 1) where
  mem := by simp
  obj := fun i h st b hb => by
    have e : b = it := by simpa using hb
    subst e
    exact ⟨_, st, fun v z => by
      have z' : Data.fields _ = Data.cell v := z
      cases z'⟩
  keep := fun i h h' st k => k it (by simp) _ st
  item := by
    intro X hP hw hK hc i pins s σ H E I hf st hg
    subst hP hw hK
    obtain ⟨f0, f1, f2, f3, f4, f5⟩ := hf it (by simp)
    have W := Walks.range (prog := X.prog) (w := X.w) (I.ok.hd hc) it lo 1 n
    refine W.item i s _ _ hg st fun v h' tk hv st' kk => ?_
    obtain ⟨t, rfl⟩ := hv
    have I1 : Inv X pins σ H { s with heap := h', toks := tk } := I.turned (fun b o hb e => kk b o (by simpa using hb) e) f0 f1 f3 f4 f5
    refine ⟨_, rfl, go_of (s := { s with heap := h', toks := tk }) (n := "range_iterator") st' rfl rfl (by decide) ⟨.int (lo + i), H, I1, ⟨t, ?_⟩, ⟨rfl, rfl⟩, st', fun b hb => (hf b hb).1⟩⟩
    rw [Int.mul_one]
  done := by
    intro X hP hw hK hc i pins s σ H E I hf st hg
    subst hP hw hK
    obtain ⟨f0, f1, f2, f3, f4, f5⟩ := hf it (by simp)
    exact wpAny_pyNext_range_end (I.ok.hd hc) st (by have : n ≤ i := hg; omega) fun h' eb => ⟨rfl, I.turned (t' := s.toks) (fun b o hb e => eb b o hb e) f0 f1 f3 f4 f5⟩
  self := fun _ _ _ _ _ st h => wpAny_pyIter_rangeiter st h
end L2

namespace L2
open PySem PySem.Spec PyProof.Rows
section
variable {X : Cx} {tg : Expr}
def iList (K : PySem.W.Frag) (tl : TE) : TI := fun σ H R => tl σ H fun x H1 => ∃ a, x = .ref a ∧ (∃ xs, SqL K H1 a xs) ∧ R (Itl K a) H1
theorem pi_list {l : Expr} {tl : TE} (hl : PE X l tl) : PI X tg l (iList X.K tl) := by
  intro pins s σ H R I h
  refine thn (hl pins s σ H _ I h) fun v s1 ⟨x, H1, I1, r1, q1⟩ => ?_
  obtain ⟨a, e, ⟨xs, hq⟩, q⟩ := q1
  subst e
  cases r1
  obtain ⟨its, rv, p, hz⟩ := I1.list hq
  refine wpAny_pyIter_list p.isList ?_
  refine ⟨s1.heap.objs.size, [s1.heap.objs.size], _, _, H1, rfl, I1.kept (t' := s1.toks) fun b o e => Heap.get?_push_of_some _ e, turn_list a _, ⟨_, Heap.get?_push_size _ rfl, rfl, rfl⟩, fun b hb => ?_, q⟩
  have e : b = s1.heap.objs.size := by simpa using hb
  subst e
  exact I1.fpOk (Nat.le_refl _) (I1.hok.fresh (Nat.le_refl _))
/-- a range object just made, walked -/
theorem range_it {pins : List (Addr × Obj)} {σ : St} {H : Hp} {s : Shared} {R : It → Hp → Prop} {E : Value → Shared → Prop} {lo hi : Int} {t u v : Tok} {tk : Nat} (I : Inv X pins σ H s) (h1 : -(2 ^ 62) ≤ lo) (h2 : lo < 2 ^ 62) (h3 : -(2 ^ 62) ≤ hi) (h4 : hi < 2 ^ 62)
    (q : R (Itr lo (hi - lo).toNat) H) : wpAny (model X.prog X.w) X.A (pyIter (.ref s.heap.objs.size)) (PIE X pins σ tg R) E { s with heap := s.heap.push { cls := .type "range", data := .fields #[.int lo t, .int hi u, .int 1 v] }, toks := tk } := by
  refine wpAny_pyIter_range (IsRange.new ..) (small_one h1 h2 h3 h4) ?_
  have I1 : Inv X pins σ H { s with heap := s.heap.push { cls := .type "range", data := .fields #[.int lo t, .int hi u, .int 1 v] }, toks := tk } := I.kept fun b o e => Heap.get?_push_of_some _ e
  refine ⟨(s.heap.push { cls := .type "range", data := .fields #[.int lo t, .int hi u, .int 1 v] }).objs.size, [(s.heap.push { cls := .type "range", data := .fields #[.int lo t, .int hi u, .int 1 v] }).objs.size], _, _, H, rfl,
    I1.kept (t' := tk) fun b o e => Heap.get?_push_of_some _ e, turn_range _ lo (hi - lo).toNat, ?_, fun b hb => ?_, q⟩
  · have e1 : lo + ((0 : Nat) : Int) * 1 = lo := by simp
    have e2 : (((hi - lo).toNat : Nat) : Int) - ((0 : Nat) : Int) = Builtin.Range.rangeSize lo hi 1 := by rw [rangeSize_one]; split <;> omega
    show IsRangeIter _ _ (lo + ((0 : Nat) : Int) * 1) ((((hi - lo).toNat : Nat) : Int) - ((0 : Nat) : Int)) 1
    rw [e1, e2]
    exact Heap.get?_push_size _ rfl
  · have e : b = (s.heap.push { cls := .type "range", data := .fields #[.int lo t, .int hi u, .int 1 v] }).objs.size := by simpa using hb
    subst e
    exact I1.fpOk (Nat.le_refl _) (I1.hok.fresh (Nat.le_refl _))
def iRng1 (ta : TA) : TI := fun σ H R => ta σ H fun vs H1 => ∃ j : Int, vs = [.int j] ∧ -(2 ^ 62) ≤ j ∧ j < 2 ^ 62 ∧ R (Itr 0 j.toNat) H1
theorem pi_range1 {a : Expr} {ta : TA} {p pos : Pos} (hg : Gl X "range") (hm : X.mg "range" = none) (ha : PA X [a] ta) (hs : starEach [a] X.env = [(false, eval a X.env)] := by rfl) : PI X tg (.Call (.Name "range" p) [a] [] pos) (iRng1 ta) := by
  intro pins s σ H R I h
  refine Call_ (ld_blt I hg hm boot_range (PyProof.Rows.callWith_type1 (thn (ha pos pins s σ H _ I h) fun us s1 ⟨vs, H1, I1, r1, q1⟩ => ?_) hs rfl))
  obtain ⟨j, e, q1, q2, q⟩ := q1
  subst e
  cases r1 with
  | cons r rr =>
    cases rr
    obtain ⟨t, rfl⟩ := r
    exact call_range_1 (range_it I1 (by omega) (by omega) q1 q2 (by simpa using q))
/-! ### for -/
/-- W: the invariant by the turn and a measure; N: what the body is to reach -/
def tFor (wi : TI) (g : TG) (tb : TS) : TS := fun D σ H => wi σ H fun J H1 => ∃ W : Nat → Nat → St → Hp → Prop, (∃ m, W 0 m σ H1) ∧ ∀ i m σ H, W i m σ H →
  (J.stop i H ∧ D.nx σ H) ∨ (J.go i H ∧ ∃ N : St → Hp → Prop, (∀ σ' H', N σ' H' → ∃ m', m' < m ∧ W (i + 1) m' σ' H') ∧ ∀ x H', J.yld i H x H' → g x σ H' fun σ2 H2 => tb { D with nx := N, ct := N, bk := D.nx } σ2 H2)
/-- the records at fp as they stand -/
def pinsAt (fp : List Addr) (h : Heap) : List (Addr × Obj) := fp.filterMap fun b => (h.get? b).map fun o => (b, o)
theorem mem_pinsAt {fp : List Addr} {h : Heap} {b : Addr} {o : Obj} (hb : b ∈ fp) (e : h.get? b = some o) : (b, o) ∈ pinsAt fp h := List.mem_filterMap.mpr ⟨b, hb, by rw [e]; rfl⟩
theorem of_pinsAt {fp : List Addr} {h : Heap} {p : Addr × Obj} (hp : p ∈ pinsAt fp h) : p.1 ∈ fp ∧ h.get? p.1 = some p.2 := by
  obtain ⟨b, hb, e⟩ := List.mem_filterMap.mp hp
  cases q : h.get? b with
  | none => rw [q] at e; cases e
  | some o =>
    rw [q] at e
    have e' : (b, o) = p := Option.some.inj e
    subst e'
    exact ⟨hb, q⟩
theorem Inv.pinned {pins : List (Addr × Obj)} {σ : St} {H : Hp} {s : Shared} {fp : List Addr} (I : Inv X pins σ H s) (hf : ∀ b ∈ fp, FpOk X pins H b) (ho : ∀ b ∈ fp, ∃ o, s.heap.get? b = some o ∧ ∀ v, o.data ≠ .cell v) : Inv X (pins ++ pinsAt fp s.heap) σ H s :=
  I.pins_of fun p hp => (List.mem_append.mp hp).elim (fun z => I.pin p (List.mem_append_right _ z)) fun z => by
    obtain ⟨hb, e⟩ := of_pinsAt z
    obtain ⟨f0, f1, f2, _⟩ := hf p.1 hb
    obtain ⟨o, e', d⟩ := ho p.1 hb
    rw [e] at e'; cases e'
    exact ⟨e, f0, f1, f2, d⟩
theorem Inv.unpinned {pins pl : List (Addr × Obj)} {σ : St} {H : Hp} {s : Shared} (I : Inv X (pins ++ pl) σ H s) : Inv X pins σ H s := I.pins_of fun p hp => I.pin p (List.mem_append_right _ (List.mem_append_left _ hp))
theorem ps_for {iter : Expr} {body : List Stmt} {wi : TI} {g : TG} {tb : TS} {pos : Pos} (hp : PassesOwn (model X.prog X.w) X.A X.env X.xe) (hc : X.calm = true) (hi : PI X tg iter wi) (hg : PG X tg g) (hb : PSs X body tb)
    (hs : ∀ x, foldedSetIterable iter X.env x = pure x := by intro _; rfl) : PS X (.For tg iter body [] pos) (tFor wi g tb) := by
  intro pins s σ H D I h
  refine wpAny_For (thn (hi pins s σ H _ I h) fun v s1 h1 => thn h1 fun itv s2 h2 => ?_) hs
  obtain ⟨it, fp, tn, J, H2, e, I2, T, st2, f2, W, ⟨m0, w0⟩, turn⟩ := h2
  subst e
  -- what stays true of the iterator's objects through the loop
  have stat : ∀ {H' : Hp}, (∀ b ∈ fp, H' b = none) → ∀ b ∈ fp, FpOk X pins H' b := fun hn b hb => ⟨hn b hb, (f2 b hb).2⟩
  refine codeAny_forLoop_any (fun n s' => ∃ i σ' H', Inv X pins σ' H' s' ∧ tn i s'.heap ∧ (∀ b ∈ fp, H' b = none) ∧ W i n σ' H') ?_ m0 ⟨0, σ, H2, I2, st2, fun b hb => (f2 b hb).1, w0⟩
  rintro n s3 ⟨i, σ3, H3, I3, st3, fr3, w3⟩
  rcases turn i n σ3 H3 w3 with ⟨stop, qn⟩ | ⟨go, N, hN, step⟩
  · refine wpAny_passesOwn hp (thn (T.done X rfl rfl rfl hc i pins s3 σ3 H3 X.xe I3 (stat fr3) st3 stop) fun r s4 ⟨hr, I4⟩ => ?_)
    subst hr
    exact wpAny_execs_nil ⟨σ3, H3, I4, qn⟩
  · refine wpAny_passesOwn hp (thn (T.item X rfl rfl rfl hc i pins s3 σ3 H3 X.xe I3 (stat fr3) st3 go) fun r s4 ⟨u, hr, h4⟩ => ?_)
    subst hr
    refine wpAny_passesOwn hp (thn h4 fun _ s5 ⟨x, H5, I5, r5, y5, st5, fr5⟩ => ?_)
    have I5' := I5.pinned (stat fr5) (T.obj _ _ st5)
    refine wpAny_passesOwn hp (thn (hg _ s5 σ3 H5 x u _ I5' r5 (step x H5 y5)) fun _ s6 ⟨σ6, H6, I6, q6⟩ => ?_)
    refine wpAny_passesOwn hp (thn (hb _ s6 σ6 H6 _ I6 q6) fun f s7 q7 => ?_)
    have again : ∀ {σ7 : St} {H7 : Hp}, Inv X (pins ++ pinsAt fp s5.heap) σ7 H7 s7 → N σ7 H7 → ∃ m, m < n ∧ ∃ i σ' H', Inv X pins σ' H' s7 ∧ tn i s7.heap ∧ (∀ b ∈ fp, H' b = none) ∧ W i m σ' H' := fun {σ7 H7} I7 n7 => by
      obtain ⟨m', hm, w7⟩ := hN σ7 H7 n7
      refine ⟨m', hm, i + 1, σ7, H7, I7.unpinned, T.keep _ _ _ st5 fun b hb o e => (I7.pin (b, o) (List.mem_append_right _ (List.mem_append_right _ (mem_pinsAt hb e)))).1, fun b hb => ?_, w7⟩
      obtain ⟨o, e, d⟩ := T.obj _ _ st5 b hb
      exact (I7.pin (b, o) (List.mem_append_right _ (List.mem_append_right _ (mem_pinsAt hb e)))).2.1
    cases f with
    | next => obtain ⟨σ7, H7, I7, n7⟩ := q7; exact again I7 n7
    | cont => obtain ⟨σ7, H7, I7, n7⟩ := q7; exact again I7 n7
    | brk => obtain ⟨σ7, H7, I7, q7⟩ := q7; exact ⟨σ7, H7, I7.unpinned, q7⟩
    | ret v => obtain ⟨x7, σ7, H7, I7, r7, q7⟩ := q7; exact ⟨x7, σ7, H7, I7.unpinned, r7, q7⟩
end

/-! ### the forms one uses -/
/-- over a list that the body leaves as it is -/
theorem for_list {K : PySem.W.Frag} {a : Addr} {xs : List V} {g : TG} {tb : TS} {D : Ends} {σ : St} {H : Hp} (Pv : Nat → St → Hp → Prop) (h0 : Pv 0 σ H) (hl : ∀ i σ H, i ≤ xs.length → Pv i σ H → SqL K H a xs)
    (hs : ∀ i x σ H, xs[i]? = some x → Pv i σ H → g x σ H fun σ2 H2 => tb { D with nx := Pv (i + 1), ct := Pv (i + 1), bk := D.nx } σ2 H2) (hd : ∀ σ H, Pv xs.length σ H → D.nx σ H) :
    ∃ W : Nat → Nat → St → Hp → Prop, (∃ m, W 0 m σ H) ∧ ∀ i m σ H, W i m σ H →
      ((Itl K a).stop i H ∧ D.nx σ H) ∨ ((Itl K a).go i H ∧ ∃ N : St → Hp → Prop, (∀ σ' H', N σ' H' → ∃ m', m' < m ∧ W (i + 1) m' σ' H') ∧ ∀ x H', (Itl K a).yld i H x H' → g x σ H' fun σ2 H2 => tb { D with nx := N, ct := N, bk := D.nx } σ2 H2) := by
  refine ⟨fun i m σ H => m = xs.length - i ∧ i ≤ xs.length ∧ Pv i σ H, ⟨xs.length, by simp, Nat.zero_le _, h0⟩, ?_⟩
  rintro i m σ H ⟨rfl, hi, p⟩
  have q := hl i σ H hi p
  by_cases hlt : i < xs.length
  · refine .inr ⟨⟨xs, xs[i], q, by simp [hlt]⟩, Pv (i + 1), fun σ' H' p' => ⟨xs.length - (i + 1), by omega, rfl, hlt, p'⟩, fun x H' y => ?_⟩
    obtain ⟨e, y⟩ := y
    subst e
    exact hs i x σ _ (y xs q) p
  · have e : i = xs.length := by omega
    subst e
    exact .inl ⟨⟨xs, q, Nat.le_refl _⟩, hd σ H p⟩
theorem for_range {lo : Int} {n : Nat} {g : TG} {tb : TS} {D : Ends} {σ : St} {H : Hp} (Pv : Nat → St → Hp → Prop) (h0 : Pv 0 σ H)
    (hs : ∀ i σ H, i < n → Pv i σ H → g (.int (lo + i)) σ H fun σ2 H2 => tb { D with nx := Pv (i + 1), ct := Pv (i + 1), bk := D.nx } σ2 H2) (hd : ∀ σ H, Pv n σ H → D.nx σ H) :
    ∃ W : Nat → Nat → St → Hp → Prop, (∃ m, W 0 m σ H) ∧ ∀ i m σ H, W i m σ H →
      ((Itr lo n).stop i H ∧ D.nx σ H) ∨ ((Itr lo n).go i H ∧ ∃ N : St → Hp → Prop, (∀ σ' H', N σ' H' → ∃ m', m' < m ∧ W (i + 1) m' σ' H') ∧ ∀ x H', (Itr lo n).yld i H x H' → g x σ H' fun σ2 H2 => tb { D with nx := N, ct := N, bk := D.nx } σ2 H2) := by
  refine ⟨fun i m σ H => m = n - i ∧ i ≤ n ∧ Pv i σ H, ⟨n, by simp, Nat.zero_le _, h0⟩, ?_⟩
  rintro i m σ H ⟨rfl, hi, p⟩
  by_cases hlt : i < n
  · refine .inr ⟨hlt, Pv (i + 1), fun σ' H' p' => ⟨n - (i + 1), by omega, rfl, hlt, p'⟩, fun x H' y => ?_⟩
    obtain ⟨e, y⟩ := y
    subst e y
    exact hs i σ _ hlt p
  · have e : i = n := by omega
    subst e
    exact .inl ⟨Nat.le_refl _, hd σ H p⟩
end L2

namespace L2
open PySem PySem.Spec PyProof.Rows

abbrev R2 := V → V → Hp → VK → Prop
/-- a two-place operation on values: f is binaryOp op, inplaceOp op or compareOp op -/
def OpR (X : Cx) (f : Value → Value → Sem Value) (r : R2) : Prop :=
  ∀ (pins : List (Addr × Obj)) (s : Shared) (σ : St) (H : Hp) (x y : V) (v u : Value) (Q : VK), Inv X pins σ H s → RelV x v → RelV y u → r x y H Q →
    wpAny (model X.prog X.w) X.A (f v u) (EP X pins σ Q) X.xe s
/-- a call of a value that is known (a builtin, a type) with values -/
def CallR (X : Cx) (f : Value) (r : List V → Hp → VK → Prop) : Prop :=
  ∀ (pins : List (Addr × Obj)) (s : Shared) (σ : St) (H : Hp) (xs : List V) (us : List Value) (Q : VK), Inv X pins σ H s → Vals xs us → r xs H Q →
    wpAny (model X.prog X.w) X.A (call f us) (EP X pins σ Q) X.xe s
def tOp (r : R2) (ta tb : TE) : TE := fun σ H Q => ta σ H fun x H1 => tb σ H1 fun y H2 => r x y H2 Q
/-- ints in, under C, and a value out -/
def rI (C : Int → Int → Prop) (g : Int → Int → V) : R2 := fun x y H Q => ∃ i j, x = .int i ∧ y = .int j ∧ C i j ∧ Q (g i j) H
def rI0 (g : Int → Int → V) : R2 := fun x y H Q => ∃ i j, x = .int i ∧ y = .int j ∧ Q (g i j) H
section
variable {X : Cx} {a b c : Expr} {ta tb tc : TE} {pos : Pos}

theorem binT (ha : PE X a ta) (hb : PE X b tb) {pins : List (Addr × Obj)} {s : Shared} {σ : St} {H : Hp} {R : V → V → Hp → Prop} (I : Inv X pins σ H s)
    (h : ta σ H fun x H1 => tb σ H1 fun y H2 => R x y H2) {Q : Value → Shared → Prop} {f : Value → Value → Sem Value}
    (hf : ∀ v u s2 x y H2, Inv X pins σ H2 s2 → RelV x v → RelV y u → R x y H2 → wpAny (model X.prog X.w) X.A (f v u) Q X.xe s2) :
    wpAny (model X.prog X.w) X.A (eval a X.env) (fun v s₁ => wpAny (model X.prog X.w) X.A (eval b X.env) (fun u s₂ => wpAny (model X.prog X.w) X.A (f v u) Q X.xe s₂) X.xe s₁) X.xe s := by
  refine thn (ha pins s σ H _ I h) fun v s1 ⟨x, H1, I1, r1, q1⟩ => ?_
  refine thn (hb pins s1 σ H1 _ I1 q1) fun u s2 ⟨y, H2, I2, r2, q2⟩ => ?_
  exact hf v u s2 x y H2 I2 r1 r2 q2

theorem pe_op {op : Operator} {r : R2} (ho : OpR X (binaryOp op) r) (ha : PE X a ta) (hb : PE X b tb) : PE X (.BinOp a op b pos) (tOp r ta tb) := by
  intro pins s σ H Q I h
  exact wpAny_BinOp (binT ha hb I h fun v u s2 x y H2 I2 rx ry q => ho pins s2 σ H2 x y v u Q I2 rx ry q)
/-! ### ints -/
theorem opI {f : Value → Value → Sem Value} {C : Int → Int → Prop} {g : Int → Int → Int}
    (rule : ∀ (i j : Int) (t u : Tok) (s : Shared) (Q : Value → Shared → Prop) (E : Value → Shared → Prop), C i j → Q (.int (g i j) s.toks) { s with toks := s.toks + 1 } → wpAny (model X.prog X.w) X.A (f (.int i t) (.int j u)) Q E s) :
    OpR X f (rI C fun i j => .int (g i j)) := by
  intro pins s σ H x y v u Q I rx ry h
  obtain ⟨i, j, rfl, rfl, hc, q⟩ := h
  obtain ⟨t, rfl⟩ := rx
  obtain ⟨t', rfl⟩ := ry
  exact rule i j t t' s _ _ hc ⟨.int (g i j), H, I.tok _, ⟨_, rfl⟩, q⟩
theorem opI0 {f : Value → Value → Sem Value} {g : Int → Int → Int}
    (rule : ∀ (i j : Int) (t u : Tok) (s : Shared) (Q : Value → Shared → Prop) (E : Value → Shared → Prop), Q (.int (g i j) s.toks) { s with toks := s.toks + 1 } → wpAny (model X.prog X.w) X.A (f (.int i t) (.int j u)) Q E s) :
    OpR X f (rI0 fun i j => .int (g i j)) := by
  intro pins s σ H x y v u Q I rx ry h
  obtain ⟨i, j, rfl, rfl, q⟩ := h
  obtain ⟨t, rfl⟩ := rx
  obtain ⟨t', rfl⟩ := ry
  exact rule i j t t' s _ _ ⟨.int (g i j), H, I.tok _, ⟨_, rfl⟩, q⟩
theorem opB0 {f : Value → Value → Sem Value} {g : Int → Int → Bool}
    (rule : ∀ (i j : Int) (t u : Tok) (s : Shared) (Q : Value → Shared → Prop) (E : Value → Shared → Prop), Q (.bool (g i j)) s → wpAny (model X.prog X.w) X.A (f (.int i t) (.int j u)) Q E s) :
    OpR X f (rI0 fun i j => .bl (g i j)) := by
  intro pins s σ H x y v u Q I rx ry h
  obtain ⟨i, j, rfl, rfl, q⟩ := h
  obtain ⟨t, rfl⟩ := rx
  obtain ⟨t', rfl⟩ := ry
  exact rule i j t t' s _ _ ⟨.bl (g i j), H, I, rfl, q⟩

def CDiv (i j : Int) : Prop := 0 < j ∧ j < 1073741824
def CPow (i j : Int) : Prop := 0 ≤ j ∧ j ≤ 1000000 ∧ i.natAbs < 2 ^ 64
def CMul (i j : Int) : Prop := (-(2 ^ 64) < i ∧ i < 2 ^ 64) ∨ (-(2 ^ 64) < j ∧ j < 2 ^ 64)
theorem CMul.ok {i j : Int} (h : CMul i j) : IntMulOk i j := by
  rcases h with ⟨h1, h2⟩ | ⟨h1, h2⟩
  · exact .of_left (intBits_le_64 h1 h2)
  · exact .of_right (intBits_le_64 h1 h2)
theorem op_add : OpR X (binaryOp .Add) (rI0 fun i j => .int (i + j)) := opI0 fun _ _ _ _ _ _ _ q => add_int q
theorem op_sub : OpR X (binaryOp .Sub) (rI0 fun i j => .int (i - j)) := opI0 fun _ _ _ _ _ _ _ q => sub_int q
theorem op_mul : OpR X (binaryOp .Mult) (rI CMul fun i j => .int (i * j)) := opI fun _ _ _ _ _ _ _ hc q => mul_int q hc.ok
/-- // by a positive divisor -/
theorem op_fdiv : OpR X (binaryOp .FloorDiv) (rI CDiv fun i j => .int (i / j)) := opI fun i j _ _ _ _ _ hc q => by
  have h1 : (0 : Int) < j := hc.1
  have h2 : j < 1073741824 := hc.2
  exact floordiv_int (by omega) (by rw [Int.fdiv_eq_ediv_of_nonneg i (by omega)]; exact q) (.inl (PyProof.noPylong_small (by omega)))
/-- % by a positive divisor of any size -/
theorem op_mod : OpR X (binaryOp .Mod) (rI (fun _ j => 0 < j) fun i j => .int (i % j)) := opI fun i j _ _ _ _ _ hc q => by
  have h1 : (0 : Int) < j := hc
  exact mod_int' (by omega) (by rw [Int.fmod_eq_emod_of_nonneg i (by omega)]; exact q)
theorem op_pow : OpR X (binaryOp .Pow) (rI CPow fun i j => .int (i ^ j.toNat)) := opI fun _ _ _ _ _ _ _ hc q => pow_int_small hc.1 hc.2.1 hc.2.2 q
theorem op_shl : OpR X (binaryOp .LShift) (rI CPow fun i j => .int (i * 2 ^ j.toNat)) := opI fun _ _ _ _ _ _ _ hc q => lshift_int_small hc.1 hc.2.1 hc.2.2 q
/-! ### bools among ints: n += (a < b) -/
end

/-! ### comparisons -/
/-- the scalars that == tells apart as data does -/
def scal : V → V → Bool
  | .non, .non => true | .non, .int _ => true | .int _, .non => true | .non, .bl _ => true | .bl _, .non => true | .non, .str _ => true | .str _, .non => true
  | .int _, .int _ => true | .bl _, .bl _ => true | .str _, .str _ => true | .byt _, .byt _ => true
  | .int _, .str _ => true | .str _, .int _ => true | .bl _, .str _ => true | .str _, .bl _ => true
  | _, _ => false
def rEq : R2 := fun x y H Q => scal x y = true ∧ Q (.bl (decide (x = y))) H
def rNe : R2 := fun x y H Q => scal x y = true ∧ Q (.bl (!decide (x = y))) H

theorem dec_int {i j : Int} : decide (V.int i = V.int j) = (i == j) := by
  rw [Bool.eq_iff_iff]
  simp
theorem dec_bl {i j : Bool} : decide (V.bl i = V.bl j) = (i == j) := by
  rw [Bool.eq_iff_iff]
  simp
theorem dec_str {i j : Str} : decide (V.str i = V.str j) = (i == j) := by
  rw [Bool.eq_iff_iff]
  simp
theorem dec_byt {i j : Array UInt8} : decide (V.byt i = V.byt j) = (i.toList == j.toList) := by
  rw [Bool.eq_iff_iff]
  cases i
  cases j
  simp

section
variable {X : Cx} {a b c : Expr} {ta tb tc : TE} {pos : Pos}
theorem fin_bl {pins : List (Addr × Obj)} {σ : St} {H : Hp} {s : Shared} {Q : VK} {k k' : Bool} (I : Inv X pins σ H s) (q : Q (.bl k) H) (e : k = k') : EP X pins σ Q (.bool k') s := by
  subst e
  exact ⟨.bl k, H, I, rfl, q⟩
theorem op_eq : OpR X (compareOp .Eq) rEq := by
  intro pins s σ H x y v u Q I rx ry h
  obtain ⟨hs, q⟩ := h
  cases x with
  | non =>
    cases rx
    cases y with
    | non => cases ry; exact PySem.EqNone.eq_none_none (fin_bl I q (by simp))
    | bl j => cases ry; exact PySem.EqNone.eq_none_bool (fin_bl I q (by simp))
    | int j => obtain ⟨t', rfl⟩ := ry; exact PySem.EqNone.eq_none_int (fin_bl I q (by simp))
    | str j => obtain ⟨t', rfl⟩ := ry; exact PySem.EqNone.eq_none_str (fin_bl I q (by simp))
    | _ => exact absurd (show false = true from hs) Bool.false_ne_true
  | bl i =>
    cases rx
    cases y with
    | non => cases ry; exact PySem.EqNone.eq_bool_none (fin_bl I q (by simp))
    | bl j => cases ry; exact eq_bool (fin_bl I q dec_bl)
    | str j => obtain ⟨t', rfl⟩ := ry; exact PySem.EqMixed.eq_bool_str (fin_bl I q (by simp))
    | _ => exact absurd (show false = true from hs) Bool.false_ne_true
  | int i =>
    obtain ⟨t, rfl⟩ := rx
    cases y with
    | non => cases ry; exact PySem.EqNone.eq_int_none (fin_bl I q (by simp))
    | int j => obtain ⟨t', rfl⟩ := ry; exact eq_int (fin_bl I q dec_int)
    | str j => obtain ⟨t', rfl⟩ := ry; exact PySem.EqMixed.eq_int_str (fin_bl I q (by simp))
    | _ => exact absurd (show false = true from hs) Bool.false_ne_true
  | str i =>
    obtain ⟨t, rfl⟩ := rx
    cases y with
    | non => cases ry; exact PySem.EqNone.eq_str_none (fin_bl I q (by simp))
    | bl j => cases ry; exact PySem.EqMixed.eq_str_bool (fin_bl I q (by simp))
    | int j => obtain ⟨t', rfl⟩ := ry; exact PySem.EqMixed.eq_str_int (fin_bl I q (by simp))
    | str j => obtain ⟨t', rfl⟩ := ry; exact eq_str (fin_bl I q dec_str)
    | _ => exact absurd (show false = true from hs) Bool.false_ne_true
  | byt i =>
    obtain ⟨t, rfl⟩ := rx
    cases y with
    | byt j => obtain ⟨t', rfl⟩ := ry; exact PySem.W.eq_bytes (fin_bl I q dec_byt)
    | _ => exact absurd (show false = true from hs) Bool.false_ne_true
  | _ => cases y <;> exact absurd (show false = true from hs) Bool.false_ne_true
theorem op_ne : OpR X (compareOp .NotEq) rNe := by
  intro pins s σ H x y v u Q I rx ry h
  obtain ⟨hs, q⟩ := h
  cases x with
  | non =>
    cases rx
    cases y with
    | non => cases ry; exact PySem.EqNone.ne_none_none (fin_bl I q (by simp))
    | bl j => cases ry; exact PySem.EqNone.ne_none_bool (fin_bl I q (by simp))
    | int j => obtain ⟨t', rfl⟩ := ry; exact PySem.EqNone.ne_none_int (fin_bl I q (by simp))
    | str j => obtain ⟨t', rfl⟩ := ry; exact PySem.EqNone.ne_none_str (fin_bl I q (by simp))
    | _ => exact absurd (show false = true from hs) Bool.false_ne_true
  | bl i =>
    cases rx
    cases y with
    | non => cases ry; exact PySem.EqNone.ne_bool_none (fin_bl I q (by simp))
    | bl j => cases ry; exact ne_bool (fin_bl I q (congrArg not dec_bl))
    | str j => obtain ⟨t', rfl⟩ := ry; exact PySem.EqMixed.ne_bool_str (fin_bl I q (by simp))
    | _ => exact absurd (show false = true from hs) Bool.false_ne_true
  | int i =>
    obtain ⟨t, rfl⟩ := rx
    cases y with
    | non => cases ry; exact PySem.EqNone.ne_int_none (fin_bl I q (by simp))
    | int j => obtain ⟨t', rfl⟩ := ry; exact ne_int (fin_bl I q (congrArg not dec_int))
    | str j => obtain ⟨t', rfl⟩ := ry; exact PySem.EqMixed.ne_int_str (fin_bl I q (by simp))
    | _ => exact absurd (show false = true from hs) Bool.false_ne_true
  | str i =>
    obtain ⟨t, rfl⟩ := rx
    cases y with
    | non => cases ry; exact PySem.EqNone.ne_str_none (fin_bl I q (by simp))
    | bl j => cases ry; exact PySem.EqMixed.ne_str_bool (fin_bl I q (by simp))
    | int j => obtain ⟨t', rfl⟩ := ry; exact PySem.EqMixed.ne_str_int (fin_bl I q (by simp))
    | str j => obtain ⟨t', rfl⟩ := ry; exact ne_str (fin_bl I q (congrArg not dec_str))
    | _ => exact absurd (show false = true from hs) Bool.false_ne_true
  | byt i =>
    obtain ⟨t, rfl⟩ := rx
    cases y with
    | byt j => obtain ⟨t', rfl⟩ := ry; exact PySem.W.ne_bytes (fin_bl I q (congrArg not dec_byt))
    | _ => exact absurd (show false = true from hs) Bool.false_ne_true
  | _ => cases y <;> exact absurd (show false = true from hs) Bool.false_ne_true

theorem op_lt : OpR X (compareOp .Lt) (rI0 fun i j => .bl (decide (i < j))) := opB0 fun _ _ _ _ _ _ _ q => lt_int q
/-- is None, is not None: the right side a value none -/
theorem op_isN : OpR X (compareOp .Is) (fun x y H Q => y = .non ∧ Q (.bl (decide (x = .non))) H) := by
  intro pins s σ H x y v u Q I rx ry h
  obtain ⟨rfl, q⟩ := h
  cases ry
  refine is_none_gen (fin_bl I q ?_)
  cases x <;> first
    | (cases rx; rfl)
    | (obtain ⟨t, rfl⟩ := rx; rfl)
/-- two rules for one operation: by cases -/
theorem OpR.or {f : Value → Value → Sem Value} {r r' : R2} (h : OpR X f r) (h' : OpR X f r') : OpR X f (fun x y H Q => r x y H Q ∨ r' x y H Q) := by
  intro pins s σ H x y v u Q I rx ry q
  rcases q with q | q
  · exact h pins s σ H x y v u Q I rx ry q
  · exact h' pins s σ H x y v u Q I rx ry q

theorem nomark (b : Expr) {op : CmpOp} (h : op ≠ .In := by decide) (h2 : op ≠ .NotIn := by decide) : behindInMarks op b = false := by
  have e1 : (op == CmpOp.In) = false := by cases op <;> first | rfl | exact absurd rfl h
  have e2 : (op == CmpOp.NotIn) = false := by cases op <;> first | rfl | exact absurd rfl h2
  cases b <;> simp [behindInMarks, e1, e2]
/-- a comparison as a value; hm: nomark b, or (for in, not in) by with_unfolding_all rfl -/
theorem pe_cmpR {op : CmpOp} {r : R2} (ho : OpR X (compareOp op) r) (ha : PE X a ta) (hb : PE X b tb) (hm : behindInMarks op b = false) : PE X (.Compare a [op] [b] pos) (tOp r ta tb) := by
  intro pins s σ H Q I h
  exact wpAny_Compare1 (binT ha hb I h fun v u s2 x y H2 I2 rx ry q => ho pins s2 σ H2 x y v u Q I2 rx ry q) hm
/-- a reading of a value as a test -/
def tTest (t : TE) : TT := fun σ H Q => t σ H fun x H' => ∃ k, x = .bl k ∧ Q k H'
theorem pt_cmpR {op : CmpOp} {r : R2} (ho : OpR X (compareOp op) r) (ha : PE X a ta) (hb : PE X b tb) (hm : behindInMarks op b = false) : PT X (.Compare a [op] [b] pos) (tTest (tOp r ta tb)) := by
  intro pins s σ H Q I h
  refine wpAny_isTrue_Compare1 (thn (ha pins s σ H _ I h) fun v s1 ⟨x, H1, I1, r1, q1⟩ => thn (hb pins s1 σ H1 _ I1 q1) fun u s2 ⟨y, H2, I2, r2, q2⟩ =>
    thn (ho pins s2 σ H2 x y v u _ I2 r1 r2 q2) fun c s3 ⟨z, H3, I3, r3, k, e, q3⟩ => ?_) hm
  subst e
  cases r3
  exact wpAny_truthy_bool ⟨H3, I3, q3⟩
/-! ### truth -/
theorem line63 : (sizeLine : Nat) < 2 ^ 63 := by rw [sizeLine_eq]; decide
/-! ### strs and bytes -/
theorem op_add_str : OpR X (binaryOp .Add) (fun x y H Q => ∃ i j, x = .str i ∧ y = .str j ∧ i.length + j.length ≤ sizeLine ∧ Q (.str (i ++ j)) H) := by
  intro pins s σ H x y v u Q I rx ry h
  obtain ⟨i, j, rfl, rfl, hz, q⟩ := h
  obtain ⟨t, rfl⟩ := rx
  obtain ⟨t', rfl⟩ := ry
  exact add_str (fun t' tk => ⟨.str (i ++ j), H, I.tok _, ⟨_, rfl⟩, q⟩) hz
/-! ### scalar builtins, by CallR -/
theorem vals1 {x : V} {us : List Value} (r : Vals [x] us) : ∃ u, us = [u] ∧ RelV x u := by
  cases r with
  | cons r1 r2 => cases r2; exact ⟨_, rfl, r1⟩
theorem vals2 {x y : V} {us : List Value} (r : Vals [x, y] us) : ∃ u w', us = [u, w'] ∧ RelV x u ∧ RelV y w' := by
  cases r with
  | cons r1 r2 =>
    cases r2 with
    | cons r3 r4 => cases r4; exact ⟨_, _, rfl, r1, r3⟩
theorem call_int1 : CallR X (.type "int") (fun xs H Q => (∃ i, xs = [.int i] ∧ Q (.int i) H) ∨ ∃ k, xs = [.bl k] ∧ Q (.int (if k then 1 else 0)) H) := by
  intro pins s σ H xs us Q I r h
  rcases h with ⟨i, rfl, q⟩ | ⟨k, rfl, q⟩
  · obtain ⟨u, rfl, t, rfl⟩ := vals1 r
    exact call_int_int ⟨.int i, H, I, ⟨_, rfl⟩, q⟩
  · obtain ⟨u, rfl, r1⟩ := vals1 r
    cases r1
    exact call_int_bool ⟨.int (if k then 1 else 0), H, I.tok _, ⟨_, rfl⟩, q⟩
end
end L2

namespace L2
open PySem PySem.Spec PyProof.Rows

/-! ### an instance, its attributes a map -/
structure ObjM (h : Heap) (x dx C : Addr) (mA : Str → Option Value) : Prop where
  obj : h.get? x = some (PySem.W.instObj C dx)
  ns : h.Ns1 dx mA
  ne : dx ≠ x

theorem lookIn_ns {h : Heap} {dx : Addr} {mA : Str → Option Value} (n : h.Ns1 dx mA) : ∃ od, h.get? dx = some od ∧ ∀ name, PySem.W.lookIn name od = some (mA name) := by
  obtain ⟨o, es, ep, ho, hd, hk, _, hm⟩ := n
  refine ⟨o, ho, fun name => ?_⟩
  have e := hm name
  unfold nsFind findBy at e
  rw [← Array.find?_toList] at e
  unfold PySem.W.lookIn
  rw [hd]
  dsimp only
  split
  · rename_i y q
    rw [q] at e
    exact congrArg some e
  · rename_i q
    rw [q] at e
    have a : es.toList.any (·.refKey) = false := by
      rw [List.any_eq_false]
      intro y hy
      obtain ⟨z, t, hkey⟩ := hk y (Array.mem_toList_iff.mp hy)
      simp [DictEntry.refKey, hkey]
    have a' : ¬ es.toList.any (·.refKey) = true := by rw [a]; exact Bool.false_ne_true
    rw [if_neg a']
    exact congrArg some e

theorem ObjM.look {h : Heap} {x dx C : Addr} {mA : Str → Option Value} (I : ObjM h x dx C mA) : ∃ od, PySem.W.InstAt h x (PySem.W.instObj C dx) C (some od) ∧ ∀ name, PySem.W.lookIn name od = some (mA name) :=
  let ⟨od, ho, hl⟩ := lookIn_ns I.ns
  ⟨od, ⟨I.obj, rfl, rfl, ho⟩, hl⟩

section
variable {prog : Program} {w : World} {A : Around} {E : Value → Shared → Prop} {s : Shared} {K : PySem.W.Frag} {x dx C f : Addr} {mA : Str → Option Value} {name : Str} {v : Value}

end

/-! ### the attributes as a list of pairs -/
section
variable {P : Program} {w : World} {H H' : Hp} {h h' : Heap} {a C dx : Addr} {fs fs' : List (Str × V)}
theorem ins_get (hok : HOk P w H h) (e : H a = some (.ins C dx fs)) : ∃ mA, ObjM h a dx C mA ∧ (∀ f, RelO (fs.lookup f) (mA f)) ∧ PySem.Within mA (fs.map (·.1)) ∧ fs.length ≤ 1000 ∧ H dx = some (.own a) := by
  obtain ⟨d, z, ne, ob, mA, n, r, q⟩ := (show ObjOk P w H h a (.ins C dx fs) from hok a _ e)
  exact ⟨mA, ⟨ob, n, ne⟩, r, q, z, d⟩
end

/-! ### what of the text a class must have -/
structure Cls (K : PySem.W.Frag) (C : Addr) : Prop where
  pg : PySem.W.plainGet K C Str.empty = true
  hd : PySem.W.hasDictIn K C = true
  po : PySem.W.plainOver K C = true
  sa : PySem.W.findIn K (.ref C) "__setattr__" = some (some (.builtin "object.__setattr__"))
theorem Cls.get {K : PySem.W.Frag} {C : Addr} (c : Cls K C) (f : Str) : PySem.W.plainGet K C f = true := c.pg
section
variable {X : Cx} {pins : List (Addr × Obj)} {σ : St} {H : Hp} {s : Shared} {a C dx : Addr} {fs : List (Str × V)} {f : Str} {v : V} {A : Around} {E : Value → Shared → Prop}

/-- a new instance, tracked, without attributes -/
theorem Inv.made (I : Inv X pins σ H s) : Inv X pins σ (upd (upd H s.heap.objs.size (.own (s.heap.objs.size + 1))) (s.heap.objs.size + 1) (.ins C s.heap.objs.size []))
    { s with heap := (s.heap.push PySem.W.emptyDict).push (PySem.W.instObj C s.heap.objs.size) } := by
  have e1 : (s.heap.push PySem.W.emptyDict).get? s.heap.objs.size = some PySem.W.emptyDict := Heap.get?_push_size s.heap rfl
  have e2 : ((s.heap.push PySem.W.emptyDict).push (PySem.W.instObj C s.heap.objs.size)).get? (s.heap.objs.size + 1) = some (PySem.W.instObj C s.heap.objs.size) := by
    have := Heap.get?_push_size (s.heap.push PySem.W.emptyDict) (o := PySem.W.instObj C s.heap.objs.size) rfl
    rwa [Heap.size_push] at this
  have e3 : (s.heap.push PySem.W.emptyDict).Ns s.heap.objs.size (fun _ => none) := ⟨PySem.W.emptyDict, #[], _, e1, rfl, (fun e he => absurd he (by simp)), fun _ => rfl⟩
  have I1 := I.laid (a := s.heap.objs.size) (o := .own (s.heap.objs.size + 1)) (h' := s.heap.push PySem.W.emptyDict) (t' := s.toks) (fun b u q => Heap.get?_push_of_some _ q) (Nat.le_refl _) ⟨_, e1⟩
  refine I1.laid (a := s.heap.objs.size + 1) (o := .ins C s.heap.objs.size []) (t' := s.toks) (fun b u q => Heap.get?_push_of_some _ q) (Nat.le_of_eq (Heap.size_push _ _)) ?_
  have ne : s.heap.objs.size ≠ s.heap.objs.size + 1 := Nat.ne_of_lt (Nat.lt_succ_self _)
  refine ⟨by rw [upd_ne ne, upd_same], Nat.zero_le _, ne, e2, fun _ => none, (Heap.Ns1.of_empty e3).at fun o q => Heap.get?_push_of_some _ q, fun _ => True.intro, fun y hy => absurd rfl hy⟩

end

/-! ### readings and rules -/
section
variable {X : Cx} {o e value : Expr} {f : Str} {pos pos' tpos : Pos} {ta tv : TE}
end

/-! ### isinstance -/
section
variable {X : Cx} {pins : List (Addr × Obj)} {σ : St} {H : Hp} {s : Shared} {A : Around} {E : Value → Shared → Prop} {Q : Value → Shared → Prop} {c : Value} {b : Bool}
/-- the type of a value, as the fragment's deciders take it; for an instance its class -/
inductive TyOf (K : PySem.W.Frag) (H : Hp) : V → Value → Prop where
  | non : TyOf K H .non (.type "NoneType")
  | bl (x : Bool) : TyOf K H (.bl x) (.type "bool")
  | int (i : Int) : TyOf K H (.int i) (.type "int")
  | str (x : Str) : TyOf K H (.str x) (.type "str")
  | flt (x : UInt64) : TyOf K H (.flt x) (.type "float")
  | lst {a : Addr} {xs : List V} (e : H a = some (.lst xs)) : TyOf K H (.ref a) (.type "list")
  | frz {a : Addr} {o : Obj} {xs : List V} (e : H a = some (.frz o (.lst xs))) : TyOf K H (.ref a) (.type "list")
  | tup {a : Addr} {xs : List V} (e : H a = some (.tup xs)) : TyOf K H (.ref a) (.type "tuple")
  | dK {a : Addr} {kvs : List (Key × V)} (e : H a = some (.dK kvs)) : TyOf K H (.ref a) (.type "dict")
  | dT {a : Addr} {kvs : List (List Key × V)} (e : H a = some (.dT kvs)) : TyOf K H (.ref a) (.type "dict")
  | ins {a C dx : Addr} {fs : List (Str × V)} (e : H a = some (.ins C dx fs)) (cl : Cls K C) (ha : PySem.W.findIn K (.ref C) "__class__" = some (some (.builtin "object.__class__")))
      (hn : PySem.W.specialIn K (.builtin "object.__class__") "__get__" = some (some (.builtin "getset_descriptor.__get__"))) (htk : PySem.W.takesIn K (.builtin "object.__class__") = some true)
      (hm : PySem.W.mroIn K C (.type "object") = some true) : TyOf K H (.ref a) (.ref C)
/-- isinstance(x, c) for one class c, a built-in or an own one: kitOne's answer -/
theorem isinst_ok {x : V} {u t : Value} (I : Inv X pins σ H s) (rx : RelV x u) (ty : TyOf X.K H x t) (e : PySem.W.kitOne X.K t c = some b) (h : ∀ tk, Q (.bool b) { s with toks := tk }) :
    wpAny (model X.prog X.w) A (call (.builtin "isinstance") [u, c]) Q E s := by
  cases ty with
  | non => cases (show u = Value.none from rx); exact PySem.W.kia_one PySem.W.kitx_none I.kIn True.intro e (fun z => nomatch z) h
  | bl y => cases (show u = Value.bool y from rx); exact PySem.W.kia_one PySem.W.kitx_bool I.kIn True.intro e (fun z => nomatch z) h
  | int i => obtain ⟨t, q⟩ := (show ∃ t, u = Value.int i t from rx); cases q; exact PySem.W.kia_one PySem.W.kitx_int I.kIn True.intro e (fun z => nomatch z) h
  | str y => obtain ⟨t, q⟩ := (show ∃ t, u = Value.str y t from rx); cases q; exact PySem.W.kia_one PySem.W.kitx_str I.kIn True.intro e (fun z => nomatch z) h
  | flt y => obtain ⟨t, q⟩ := (show ∃ t, u = Value.float y t from rx); cases q; exact PySem.W.kia_one PySem.W.kitx_float I.kIn True.intro e (fun z => nomatch z) h
  | @lst a xs ea =>
    cases (show u = Value.ref a from rx)
    obtain ⟨_, _, n, _, h1⟩ := (show ObjOk X.prog X.w H s.heap a (.lst xs) from I.hok a _ ea)
    exact PySem.W.kia_one PySem.W.kitx_list I.kIn ⟨_, h1, rfl⟩ e (fun z => nomatch z) h
  | @frz a ob xs ea =>
    cases (show u = Value.ref a from rx)
    obtain ⟨_, _, _, n, _, h1⟩ := (show ObjOk X.prog X.w H s.heap a (.frz ob (.lst xs)) from I.hok a _ ea)
    exact PySem.W.kia_one PySem.W.kitx_list I.kIn ⟨_, h1, rfl⟩ e (fun z => nomatch z) h
  | @tup a xs ea =>
    cases (show u = Value.ref a from rx)
    obtain ⟨_, _, _, p⟩ := (show ObjOk X.prog X.w H s.heap a (.tup xs) from I.hok a _ ea)
    obtain ⟨o, h1, h2, _⟩ := p
    exact PySem.W.kia_one PySem.W.kitx_tuple I.kIn ⟨o, h1, h2⟩ e (fun z => nomatch z) h
  | @dK a kvs ea =>
    cases (show u = Value.ref a from rx)
    obtain ⟨_, _, vs, _, p⟩ := (show ObjOk X.prog X.w H s.heap a (.dK kvs) from I.hok a _ ea)
    obtain ⟨o, es, ep, h1, h2, _⟩ := p
    exact PySem.W.kia_one PySem.W.kitx_dict I.kIn ⟨o, h1, h2.1⟩ e (fun z => nomatch z) h
  | @dT a kvs ea =>
    cases (show u = Value.ref a from rx)
    obtain ⟨_, _, xs, _, o, es, ep, h1, h2, _⟩ := (show ObjOk X.prog X.w H s.heap a (.dT kvs) from I.hok a _ ea)
    exact PySem.W.kia_one PySem.W.kitx_dict I.kIn ⟨o, h1, h2.1⟩ e (fun z => nomatch z) h
  | @ins a C dx fs ea cl ha hn htk hm =>
    cases (show u = Value.ref a from rx)
    obtain ⟨mA, O, _⟩ := ins_get I.hok ea
    obtain ⟨od, J, _⟩ := O.look
    exact PySem.W.kia_one (PySem.W.kitx_own (cl.get _) cl.hd ha hn htk hm) I.kIn J e (fun z => nomatch z) h
end
end L2

namespace L2
open PySem PySem.Spec PyProof.Rows

/-! ### room -/
structure Room (k : Nat) (A : Around) : Prop where
  hd : A.handled = none
  dp : A.depth + 3 * k + 5 < recursionLimit
  un : A.units + 16 * k + 200 < cLine
theorem Room.mono {j k : Nat} {A : Around} (r : Room k A) (h : j ≤ k) : Room j A := ⟨r.hd, by have := r.dp; omega, by have := r.un; omega⟩
theorem Room.deeper {k : Nat} {A : Around} (r : Room (k + 1) A) (env : Env) : Room k (A.deeper env) :=
  ⟨r.hd, by have := r.dp; show A.depth + 1 + 3 * k + 5 < _; omega, by have := r.un; show A.units + 3 + 16 * k + 200 < _; omega⟩
theorem Room.in1 {k : Nat} {A : Around} (r : Room (k + 1) A) : Room k A.in1 :=
  ⟨r.hd, by have := r.dp; show A.depth + 3 * k + 5 < _; omega, by have := r.un; show A.units + 1 + 16 * k + 200 < _; omega⟩
theorem Room.depth {k : Nat} {A : Around} (r : Room k A) : A.depth < recursionLimit := by have := r.dp; omega
theorem Room.units {k : Nat} {A : Around} (r : Room k A) : A.units + 64 < cLine := by have := r.un; omega
/-! ### argument lists and displays -/
def tNil : TA := fun _ H Q => Q [] H
def tCons (ta : TE) (tr : TA) : TA := fun σ H Q => ta σ H fun x H1 => tr σ H1 fun xs H2 => Q (x :: xs) H2
section
variable {X : Cx} {e : Expr} {es : List Expr} {te : TE} {t : TA} {pos : Pos}
theorem pa_nil : PA X [] tNil := fun _ _ _ _ H Q I h => Calls.spliced_nil ⟨[], H, I, .nil, h⟩
theorem pa_cons (ha : PE X e te) (hr : PA X es t) (hs : starEach (e :: es) X.env = (false, eval e X.env) :: starEach es X.env := by rfl) : PA X (e :: es) (tCons te t) := by
  intro pos pins s σ H Q I h
  rw [hs]
  show wpAny _ _ (spliced ((false, eval e X.env) :: backTo pos (starEach es X.env))) _ _ s
  refine Calls.spliced_cons (thn (ha pins s σ H _ I h) fun u s1 ⟨x, H1, I1, r1, q1⟩ => ?_)
  exact thn (hr pos pins s1 σ H1 _ I1 q1) fun us s2 ⟨xs, H2, I2, r2, q2⟩ => ⟨x :: xs, H2, I2, .cons r1 r2, q2⟩

/-- a tuple, a list of written items -/
def tTup (t : TA) : TE := fun σ H Q => t σ H fun xs H1 => xs.length ≤ sizeLine ∧ ∀ p, H1 p = none → Q (.ref p) (upd H1 p (.tup xs))
def tLst (t : TA) : TE := fun σ H Q => t σ H fun xs H1 => xs.length ≤ sizeLine ∧ ∀ p, H1 p = none → Q (.ref p) (upd H1 p (.lst xs))
theorem pe_tup {x1} (h : PA X es t) : PE X (.Tuple es x1 pos) (tTup t) := by
  intro pins s σ H Q I hq
  refine wpAny_Tuple_spliced (thn (h pos pins s σ H _ I hq) fun us s1 ⟨xs, H1, I1, r, z, q⟩ => ⟨by rw [← r.length]; exact z, ?_⟩)
  have hf : H1 s1.heap.objs.size = none := I1.hok.fresh (Nat.le_refl _)
  refine ⟨.ref s1.heap.objs.size, upd H1 s1.heap.objs.size (.tup xs), I1.laid (t' := s1.toks) (fun b u e => Heap.get?_push_of_some _ e) (Nat.le_refl _) ?_, rfl, q _ hf⟩
  exact ⟨z, us, r, ⟨_, Heap.get?_push_size _ rfl, rfl, _, rfl⟩⟩
theorem pe_lst (h : PA X es t) : PE X (.List es pos) (tLst t) := by
  intro pins s σ H Q I hq
  refine wpAny_List_spliced (thn (h pos pins s σ H _ I hq) fun us s1 ⟨xs, H1, I1, r, z, q⟩ => ⟨by rw [← r.length]; exact z, ?_⟩)
  have hf : H1 s1.heap.objs.size = none := I1.hok.fresh (Nat.le_refl _)
  refine ⟨.ref s1.heap.objs.size, upd H1 s1.heap.objs.size (.lst xs), I1.laid (t' := s1.toks) (fun b u e => Heap.get?_push_of_some _ e) (Nat.le_refl _) ?_, rfl, q _ hf⟩
  exact ⟨z, us, 0, r, Heap.get?_push_size _ rfl⟩
end

/-! ### what a def promises -/
/-- a def's promise: the bound arguments in the parameters' order, the heap, the wanted end, the wanted exception -/
abbrev Sp := List V → Hp → VK → XK → Prop
/-- how an exception lies behind a call (file 08 gives it): the callers' frames, abstract heap and state ahead of the call, the wish, the exception, the state -/
abbrev CXT := List Env → Hp → Shared → XK → Value → Shared → Prop

/-- the state at a call -/
structure Env0 (P : Program) (w : World) (K : PySem.W.Frag) (mg : Str → Option Value) (base : Heap) (A : Around) (outer : List Env) (s : Shared) (H : Hp) : Prop where
  frames : A.frames = some outer
  mod : Mod K mg base
  bs : ∀ b o, base.get? b = some o → s.heap.get? b = some o ∧ H b = none
  bsz : base.objs.size ≤ s.heap.objs.size
  funs : s.heap.FunFrames base outer
  frf : ∀ b ∈ frs outer, H b = none
  hok : HOk P w H s.heap
  bare : AllBare s.gens
/-- a call's end -/
def CE (outer : List Env) (P : Program) (w : World) (H : Hp) (s : Shared) (Q : VK) (u : Value) (s' : Shared) : Prop :=
  ∃ v H', s'.os = s.os ∧ AllBare s'.gens ∧ Un (frs outer) [] H H' s.heap s'.heap ∧ HOk P w H' s'.heap ∧ RelV v u ∧ Q v H'
def CR (CX : CXT) (outer : List Env) (P : Program) (w : World) (H : Hp) (s : Shared) (Q : VK) (E : XK) (r : Result) (s' : Shared) : Prop :=
  match r with
  | .ok (.ret u) => CE outer P w H s Q u s'
  | .ok _ => False
  | .error e => CX outer H s E e s'
structure FnOk (P : Program) (w : World) (K : PySem.W.Frag) (mg : Str → Option Value) (base : Heap) (CX : CXT) (k : Nat) (f : Addr) (fd : FuncData) (ps : List Str) (sp : Sp) : Prop where
  len : ∀ vs H Q E, sp vs H Q E → vs.length = ps.length
  run : ∀ (A : Around) (outer : List Env) (s : Shared) (H : Hp) (args : Args) (us : List Value) (vs : List V) (Q : VK) (E : XK), Room k A → Env0 P w K mg base A outer s H → BindsTo s fd args (ps.zip us) → Vals vs us → sp vs H Q E →
    codeAny (model P w) A (.call (.ref f) args) (CR CX outer P w H s Q E) s
theorem FnOk.mono {P : Program} {w : World} {K : PySem.W.Frag} {mg : Str → Option Value} {base : Heap} {CX : CXT} {j k : Nat} {f : Addr} {fd : FuncData} {ps : List Str} {sp : Sp} (F : FnOk P w K mg base CX j f fd ps sp) (h : j ≤ k) :
    FnOk P w K mg base CX k f fd ps sp := ⟨F.len, fun A outer s H args us vs Q E hr => F.run A outer s H args us vs Q E (hr.mono h)⟩
theorem Env0.in1 {P : Program} {w : World} {K : PySem.W.Frag} {mg : Str → Option Value} {base : Heap} {A : Around} {outer : List Env} {s : Shared} {H : Hp} (e : Env0 P w K mg base A outer s H) :
    Env0 P w K mg base A.in1 outer s H := ⟨e.frames, e.mod, e.bs, e.bsz, e.funs, e.frf, e.hok, e.bare⟩

section
variable {X : Cx} {pins : List (Addr × Obj)} {σ : St} {H : Hp} {s s' : Shared}
/-- from a body: what a callee wants -/
theorem Inv.env0 (I : Inv X pins σ H s) : Env0 X.prog X.w X.K X.mg X.base X.A X.stack s H :=
  ⟨I.ok.frames, I.ok.mod, I.bs, Nat.le_trans I.ok.bsz I.sz, I.stack, I.stkFree, I.hok, I.bare⟩
/-- behind a call -/
theorem Inv.after {Q : VK} {u : Value} (I : Inv X pins σ H s) (h : CE X.stack X.prog X.w H s Q u s') : EP X pins σ Q u s' := by
  obtain ⟨v, H', os, bare, un, hok, r, q⟩ := h
  obtain ⟨hh, g, d, t, os'⟩ := s'
  obtain rfl : os' = s.os := os
  exact ⟨v, H', I.call (h' := hh) (g' := g) (d' := d) (t' := t) (ch := []) un hok bare (fun b z => absurd z (by simp)), r, q⟩
end

/-! ### calls -/
/-- f(..): the written arguments, then the defaults dvs; E: what is wanted of an exception -/
def tCall (sp : Sp) (dvs : List V) (E : XK) (t : TA) : TE := fun σ H Q => t σ H fun vs H1 => sp (vs ++ dvs) H1 Q E
/-- how the parameters are bound: us the positional arguments, kw the keywords' values by name, ds the defaults that fill up -/
def Binds (K : PySem.W.Frag) (fd : FuncData) (ps : List Str) (ds : List Value) : Prop :=
  ∀ (s : Shared) (us : List Value), K.In s.heap → (us ++ ds).length = ps.length → BindsTo s fd ⟨us, []⟩ (ps.zip (us ++ ds))
/-- every parameter is given -/
theorem Binds.all {K : PySem.W.Frag} {fd : FuncData} {ps : List Str} (h : ∀ us : List Value, us.length = ps.length → bindArgs fd ⟨us, []⟩ = pure (ps.zip us)) : Binds K fd ps [] := fun s us _ hl => by
  rw [List.append_nil] at hl ⊢
  exact .of_eq (h us hl)

/-- an exception of a callee reaches what this body wants of exceptions -/
def Passes (CX : CXT) (X : Cx) (E : XK) : Prop := ∀ (pins : List (Addr × Obj)) (σ : St) (H : Hp) (s : Shared) (e : Value) (s' : Shared), Inv X pins σ H s → CX X.stack H s E e s' → X.xe e s'

section
variable {X : Cx} {CX : CXT} {k : Nat} {f C : Addr} {fd : FuncData} {ps : List Str} {sp : Sp} {dvs : List V} {ds : List Value} {E : XK} {x m : Str} {p pos apos : Pos} {e o : Expr} {es : List Expr} {ta : TE} {t : TA}

/-- the callee runs -/
theorem run_fn {pins : List (Addr × Obj)} {σ : St} {H : Hp} {s : Shared} {Q : VK} {us : List Value} {vs : List V} (F : FnOk X.prog X.w X.K X.mg X.base CX k f fd ps sp) (hr : Room k X.A) (hb : Binds X.K fd ps ds) (hd : Vals dvs ds) (hx : Passes CX X E)
    (I : Inv X pins σ H s) (r : Vals vs us) (h : sp (vs ++ dvs) H Q E) : wpAny (model X.prog X.w) X.A (call (.ref f) us) (EP X pins σ Q) X.xe s := by
  have r2 : Vals (vs ++ dvs) (us ++ ds) := r.append hd
  have hl : (us ++ ds).length = ps.length := by rw [← r2.length]; exact F.len _ _ _ _ h
  refine wpAny_call (codeAny_mono (F.run X.A X.stack s H ⟨us, []⟩ (us ++ ds) (vs ++ dvs) Q E hr I.env0 (hb s us I.kIn hl) r2 h) fun r s' hq => ?_)
  cases r with
  | error e => exact hx pins σ H s e s' I hq
  | ok fl =>
    cases fl with
    | ret u => exact I.after hq
    | next => exact False.elim hq
    | brk => exact False.elim hq
    | cont => exact False.elim hq

theorem pe_call (F : FnOk X.prog X.w X.K X.mg X.base CX k f fd ps sp) (hr : Room k X.A) (hg : Gl X x) (hm : X.mg x = some (.ref f)) (hk : PySem.W.keepIn X.K (.ref f) = true) (hb : Binds X.K fd ps ds) (hd : Vals dvs ds) (hx : Passes CX X E)
    (ha : PA X (e :: es) t) (hdb : (x == ("__debug__" : Str)) = false := by decide) (he : starEach (e :: es) X.env = (false, eval e X.env) :: starEach es X.env := by rfl) (hpl : (backTo pos (starEach es X.env)).any (·.1) = false := by rfl) :
    PE X (.Call (.Name x p) (e :: es) [] pos) (tCall sp dvs E t) := by
  intro pins s σ H Q I h
  refine wpAny_Call_Name_kw (ld_glob I hg hm ?_ hdb)
  refine PySem.W.callWith_K (h₀ := X.base) I.ok.mod.kin hk (thn (ha pos pins s σ H _ I h) fun us s1 ⟨vs, H1, I1, r, q⟩ => ⟨I1.kIn, ?_⟩) he hpl
  exact run_fn F hr hb hd hx I1 r q
end

/-! ### keywords -/
section
variable {X : Cx} {CX : CXT} {k : Nat} {f C : Addr} {fd : FuncData} {ps ks : List Str} {sp : Sp} {E : XK} {x m : Str} {p pos apos kpos : Pos} {e o : Expr} {es : List Expr} {kws : List Keyword} {te ta : TE} {t tk : TA} {nm : Option Str}
variable {g : List Value → List Value → List Value} {gV : List V → List V → List V}
end

/-! ### a def's body keeps its promise -/
/-- names: the parameters first -/
structure FnScope (N P : List Str) (sc : Scope) : Prop where
  kind : sc.kind = .function
  co : sc.isCoroutine = false
  gen : sc.isGenerator = false
  nd : N.Nodup
  pre : N.take P.length = P
  par : ∀ x ∈ P, sc.names.lookup x = some .local ∨ sc.names.lookup x = some .cell
  nofree : ∀ y ∈ sc.names, y.2 ≠ .free

theorem bindL_out {kindOf : Str → Option NameKind} {x : Str} : ∀ {binds : List (Str × Value)} {m : Str → Option Value}, (∀ v, (x, v) ∉ binds) → bindL kindOf binds m x = m x
  | [], _, _ => rfl
  | (n, v) :: r, m, h => by
    unfold bindL
    rw [bindL_out fun w hw => h w (List.mem_cons_of_mem _ hw)]
    split
    · have : x ≠ n := by rintro rfl; exact h v List.mem_cons_self
      simp [this]
    · rfl
theorem bindC_out {kindOf : Str → Option NameKind} {x : Str} : ∀ {binds : List (Str × Value)} {m : Str → Option Value}, (∀ v, (x, v) ∉ binds) → bindC kindOf binds m x = m x
  | [], _, _ => rfl
  | (n, v) :: r, m, h => by
    unfold bindC
    rw [bindC_out fun w hw => h w (List.mem_cons_of_mem _ hw)]
    split
    · rfl
    · have : x ≠ n := by rintro rfl; exact h v List.mem_cons_self
      simp [this]
theorem bindL_get {kindOf : Str → Option NameKind} {x : Str} {v : Value} : ∀ {P : List Str} {vs : List Value} {i : Nat} {m : Str → Option Value}, P.Nodup → P[i]? = some x → vs[i]? = some v → kindOf x = some .local →
    bindL kindOf (P.zip vs) m x = some v
  | [], _, _, _, _, h, _, _ => by simp at h
  | _ :: _, [], _, _, _, _, h, _ => by simp at h
  | p :: P, w :: vs, 0, m, nd, h1, h2, hk => by
    simp at h1 h2; subst h1; subst h2
    show bindL kindOf ((p, w) :: P.zip vs) m p = _
    unfold bindL
    rw [bindL_out fun v hv => (List.nodup_cons.mp nd).1 (List.of_mem_zip hv).1, if_pos hk]
    simp
  | p :: P, w :: vs, i + 1, m, nd, h1, h2, hk => by
    show bindL kindOf ((p, w) :: P.zip vs) m x = _
    unfold bindL
    exact bindL_get (i := i) (List.nodup_cons.mp nd).2 (by simpa using h1) (by simpa using h2) hk
theorem bindC_get {kindOf : Str → Option NameKind} {x : Str} {v : Value} : ∀ {P : List Str} {vs : List Value} {i : Nat} {m : Str → Option Value}, P.Nodup → P[i]? = some x → vs[i]? = some v → kindOf x ≠ some .local →
    bindC kindOf (P.zip vs) m x = some v
  | [], _, _, _, _, h, _, _ => by simp at h
  | _ :: _, [], _, _, _, _, h, _ => by simp at h
  | p :: P, w :: vs, 0, m, nd, h1, h2, hk => by
    simp at h1 h2; subst h1; subst h2
    show bindC kindOf ((p, w) :: P.zip vs) m p = _
    unfold bindC
    rw [bindC_out fun v hv => (List.nodup_cons.mp nd).1 (List.of_mem_zip hv).1, if_neg hk]
    simp
  | p :: P, w :: vs, i + 1, m, nd, h1, h2, hk => by
    show bindC kindOf ((p, w) :: P.zip vs) m x = _
    unfold bindC
    exact bindC_get (i := i) (List.nodup_cons.mp nd).2 (by simpa using h1) (by simpa using h2) hk

/-- the names' values at the entry -/
def start (N : List Str) (vs : List V) : St := vs.map some ++ List.replicate (N.length - vs.length) none

/-- the context of a def's body, at its entry; an exception leaves the frame, then lies as CX says -/
def cxOf (CX : CXT) (P : Program) (w : World) (K : PySem.W.Frag) (mg : Str → Option Value) (base : Heap) (N : List Str) (qual : Str) (scope : Scope) (f : Addr) (cd : Value) (A : Around) (outer : List Env) (s : Shared) (H : Hp) (E : XK) : Cx where
  prog := P
  w := w
  K := K
  mg := mg
  base := base
  A := A.deeper (envOfC qual scope s.heap.objs.size f cd)
  N := N
  s₀ := s
  H₀ := H
  env := envOfC qual scope s.heap.objs.size f cd
  outer := outer
  stack := envOfC qual scope s.heap.objs.size f cd :: outer
  ex := []
  calm := true
  fn := fun _ => true
  pn := []
  xe := fun e s' => wpAny (model P w) (A.deeper (envOfC qual scope s.heap.objs.size f cd)) (leaving (envOfC qual scope s.heap.objs.size f cd) e) (fun _ s'' => CX outer H s E e s'') (fun e' s'' => CX outer H s E e' s'') s'

theorem cell_has {sc : Scope} {n : Nat} {x : Str} (h : sc.names.lookup x = some .cell) : ∃ c, (cellsFrom n sc.names []).lookup x = some c := by
  have q := PySem.W.cellsFrom_some sc.names n [] (.inl h)
  exact Option.isSome_iff_exists.mp q

theorem inv_start {CX : CXT} {P : Program} {w : World} {K : PySem.W.Frag} {mg : Str → Option Value} {base : Heap} {N ps : List Str} {qual : Str} {scope : Scope} {f : Addr} {cd : Value} {A : Around} {outer : List Env} {s s1 : Shared} {H : Hp} {E : XK} {us : List Value} {vs : List V}
    (S : FnScope N ps scope) (hd : A.handled = none) (e0 : Env0 P w K mg base A outer s H) (hl : vs.length = ps.length) (r : Vals vs us)
    (x : InCallC s s.heap.objs.size (bindL (envOfC qual scope s.heap.objs.size f cd).kindOf (ps.zip us) fun _ => none) (cellsFrom (s.heap.objs.size + 1) scope.names []) (bindC (envOfC qual scope s.heap.objs.size f cd).kindOf (ps.zip us) fun _ => none) s1) :
    Inv (cxOf CX P w K mg base N qual scope f cd A outer s H E) [] (start N vs) H s1 := by
  have hpl : ps.length ≤ N.length := by have := congrArg List.length S.pre; rw [List.length_take] at this; omega
  obtain ⟨h1, tk, rfl, hk⟩ := x.done
  have noA : ∀ b : Addr, b ∉ (cxOf CX P w K mg base N qual scope f cd A outer s H E).ex := fun b z => absurd (show b ∈ ([] : List Addr) from z) (by simp)
  refine ⟨⟨e0.mod, S.kind, rfl, rfl, Nat.le_refl _, fun y z c h1 h2 => ?_, fun y hy => ?_, fun y c _ h => ?_, fun _ => hd, Around.frames_deeper e0.frames, .inr ⟨rfl, rfl⟩, fun b z => absurd z (noA b), e0.bs, e0.bsz, fun b _ _ => noA b, fun b z => absurd z (noA b), e0.funs, e0.frf⟩,
    rfl, e0.bare, Un.kept hk, ⟨_, x.toInCall.ns, fun i y v h1 h2 h3 => ?_⟩, fun y c h => ⟨_, x.cell y c h⟩, e0.hok.fresh (Nat.le_refl _), fun y c h => ?_, fun p hp => absurd (show p ∈ ([] : List (Addr × Obj)) from hp) (by simp), e0.hok.kept hk, ?_⟩
  · exact name_of_addr x.apart (PySem.mem_of_lookup h1) (PySem.mem_of_lookup h2)
  · have hy : scope.names.lookup y = some .cell ∨ scope.names.lookup y = some .free := hy
    rcases hy with hy | hy
    · exact cell_has hy
    · exact absurd rfl (S.nofree _ (PySem.mem_of_lookup hy))
  · exact Nat.le_of_lt (x.above y c (PySem.mem_of_lookup h))
  · have hi : i < vs.length := by
      unfold start at h2
      by_cases hi : i < vs.length
      · exact hi
      · rw [List.getElem?_append_right (by simpa using hi)] at h2
        rw [List.getElem?_replicate] at h2
        split at h2 <;> cases h2
    have ha : vs[i]? = some v := by
      unfold start at h2
      rw [List.getElem?_append_left (by simpa using hi), List.getElem?_map] at h2
      cases e : vs[i]? with
      | none => rw [e] at h2; cases h2
      | some a => rw [e] at h2; cases h2; rfl
    obtain ⟨u, hu, rv⟩ := r.get ha
    have hp : ps[i]? = some y := by
      rw [← S.pre, List.getElem?_take_of_lt (by omega)]; exact h1
    have ndP : ps.Nodup := by rw [← S.pre]; exact S.nd.sublist (List.take_sublist _ _)
    refine ⟨u, rv, ?_⟩
    rcases S.par y (List.mem_of_getElem? hp) with k | k
    · exact .inl ⟨k, bindL_get ndP hp hu k⟩
    · obtain ⟨c, e⟩ := cell_has (n := s.heap.objs.size + 1) k
      refine .inr ⟨.inl k, c, e, ?_⟩
      have q := x.cell y c e
      rw [bindC_get ndP hp hu (by show scope.names.lookup y ≠ _; rw [k]; decide)] at q
      exact q
  · exact e0.hok.fresh (Nat.le_of_lt (x.above y c (PySem.mem_of_lookup h)))
  · unfold start
    show _ = N.length
    rw [List.length_append, List.length_map, List.length_replicate]
    omega

/-- THE RULE: a def (or a method) of the text, by its body. The body's reading t is chosen for each entry; it is run at the parameters' values -/
theorem fn_of {CX : CXT} {P : Program} {w : World} {K : PySem.W.Frag} {mg : Str → Option Value} {base : Heap} {k : Nat} {f : Addr} {name qual : Str} {params : Arguments} {body : List Stmt} {scope : Scope} {dV kV doc pm cdv ct oc : Value} {an od : Option Addr}
    {osl : Array (Option Value)} {N ps : List Str} {sp : Sp} (lk : K.lookup f = some ⟨oc, od, .func (PySem.W.fnOf name qual params body scope dV kV doc pm an cdv ct), osl⟩) (hcd : PySem.W.codeIn K cdv qual = true) (S : FnScope N ps scope)
    (len : ∀ vs H Q E, sp vs H Q E → vs.length = ps.length)
    (hbody : ∀ (A : Around) (outer : List Env) (s : Shared) (H : Hp) (vs : List V) (Q : VK) (E : XK), Room k (A.deeper (envOfC qual scope s.heap.objs.size f cdv)) → sp vs H Q E →
      ∃ t, PSs (cxOf CX P w K mg base N qual scope f cdv A outer s H E) body t ∧ t { nx := fun _ H' => Q .non H', rt := Q } (start N vs) H) :
    FnOk P w K mg base CX (k + 1) f (PySem.W.fnOf name qual params body scope dV kV doc pm an cdv ct) ps sp := by
  refine ⟨len, fun A outer s H args us vs Q E hr e0 hb r hsp => ?_⟩
  have hl := len _ _ _ _ hsp
  have KX : K.In s.heap := e0.mod.kin.keeps fun b o e => (e0.bs b o e).1
  have lim : s.heap.NoLimit := e0.mod.nolimit.keeps fun b o e => (e0.bs b o e).1
  have hkind : ∀ y ∈ ps.zip us, scope.names.lookup y.1 = some .local ∨ (scope.names.lookup y.1 = some .cell ∧ ((cellsFrom (s.heap.objs.size + 1) scope.names []).lookup y.1).isSome = true) := fun ⟨n, v⟩ hy => by
    rcases S.par n (List.of_mem_zip hy).1 with q | q
    · exact .inl q
    · exact .inr ⟨q, PySem.W.cellsFrom_some _ _ _ (.inl q)⟩
  refine codeAny_call_function hr.depth (KX _ _ lk) rfl S.co S.gen rfl (PySem.W.codeRec_of KX hcd) (hb _ _ _ _ ?_)
  refine wpAny_newFunctionEnv_cells S.kind hkind fun env he s1 x => ?_
  subst he
  refine ⟨lim.keeps x.toInCall.keep, codeAny_func ?_⟩
  obtain ⟨t, ht, hq⟩ := hbody A outer s H vs Q E (hr.deeper _) hsp
  have I : Inv (cxOf CX P w K mg base N qual scope f cdv A outer s H E) [] (start N vs) H s1 := inv_start S hr.hd e0 hl r x
  refine wpAny_mono (ht [] s1 (start N vs) H _ I hq) (fun fl s' hs => ?_) fun e s' hs => hs
  have fin : ∀ {σ' : St} {H' : Hp} {v : V} {u : Value}, Inv (cxOf CX P w K mg base N qual scope f cdv A outer s H E) [] σ' H' s' → RelV v u → Q v H' → CE outer P w H s Q u s' :=
    fun {σ' H' v u} J rv q => ⟨v, H', J.os, J.bare, J.base, J.hok, rv, q⟩
  cases fl with
  | ret u =>
    obtain ⟨v, σ', H', J, rv, q⟩ := hs
    exact fin J rv q
  | next =>
    obtain ⟨σ', H', J, q⟩ := hs
    exact fin (v := V.non) (u := Value.none) J rfl q
  | brk =>
    obtain ⟨_, _, _, q⟩ := hs
    exact False.elim q
  | cont =>
    obtain ⟨_, _, _, q⟩ := hs
    exact False.elim q
end L2

namespace L2
open PySem PySem.Spec PyProof.Rows
section
variable {X : Cx} {x : Str} {p pos : Pos} {e : Expr} {es : List Expr} {t : TA} {id T : String} {r : List V → Hp → VK → Prop}

def tCB (r : List V → Hp → VK → Prop) (t : TA) : TE := fun σ H Q => t σ H fun vs H1 => r vs H1 Q
/-- f(e, ..), f a built-in function -/
theorem pe_callB (hc : CallR X (.builtin id) r) (hg : Gl X x) (hm : X.mg x = none) (hv : bootBuiltins x = some (.builtin id)) (ha : PA X (e :: es) t) (hn : x ≠ "__name__" := by decide) (hdb : (x == ("__debug__" : Str)) = false := by decide)
    (he : starEach (e :: es) X.env = (false, eval e X.env) :: starEach es X.env := by rfl) (hpl : (backTo pos (starEach es X.env)).any (·.1) = false := by rfl) : PE X (.Call (.Name x p) (e :: es) [] pos) (tCB r t) := by
  intro pins s σ H Q I h
  refine wpAny_Call_Name_kw (ld_blt I hg hm hv ?_ hn hdb)
  exact PyProof.Rows.callWith_builtin1 (thn (ha pos pins s σ H _ I h) fun us s1 ⟨vs, H1, I1, r1, q1⟩ => hc pins s1 σ H1 vs us Q I1 r1 q1) he hpl
/-- T(e, ..), T a built-in type -/
theorem pe_callTy (hc : CallR X (.type T) r) (hg : Gl X x) (hm : X.mg x = none) (hv : bootBuiltins x = some (.type T)) (ha : PA X (e :: es) t) (hn : x ≠ "__name__" := by decide) (hdb : (x == ("__debug__" : Str)) = false := by decide)
    (he : starEach (e :: es) X.env = (false, eval e X.env) :: starEach es X.env := by rfl) (hpl : (backTo pos (starEach es X.env)).any (·.1) = false := by rfl) : PE X (.Call (.Name x p) (e :: es) [] pos) (tCB r t) := by
  intro pins s σ H Q I h
  refine wpAny_Call_Name_kw (ld_blt I hg hm hv ?_ hn hdb)
  exact PyProof.Rows.callWith_type1 (thn (ha pos pins s σ H _ I h) fun us s1 ⟨vs, H1, I1, r1, q1⟩ => hc pins s1 σ H1 vs us Q I1 r1 q1) he hpl
end
end L2

namespace HT
open PySem PyProof.Rows

section
open PySem.SeqAt
open PySem.AutoSeq1 (wpAny_loadPart')
open PySem.MeetsSeq PySem.MeetsSeq2 PySem.MeetsSeq3

end

section
variable {prog : Program} {w : World} {A : Around} {E : Value → Shared → Prop} {s : Shared}

/-- t + u, t not empty -/
theorem cat_tup {t b : Addr} {vs ws : List Value} {Q : Value → Shared → Prop} (ht : IsTup s.heap t vs.toArray) (hb : IsTup s.heap b ws.toArray) (hv : vs ≠ [])
    (h1 : ws = [] → Q (.ref t) s) (h2 : ws ≠ [] → Q (.ref s.heap.objs.size) { s with heap := s.heap.push { cls := .type "tuple", data := .seq (vs ++ ws).toArray } })
    (hsz : vs.length + ws.length ≤ sizeLine) : wpAny (model prog w) A (binaryOp .Add (.ref t) (.ref b)) Q E s := by
  obtain ⟨⟨cls, dd, data, sl⟩, ho, hc, n, hd⟩ := id ht
  obtain ⟨⟨cls2, dd2, data2, sl2⟩, ho2, hc2, n2, hd2⟩ := id hb
  simp only at hc hd hc2 hd2
  subst hc hd hc2 hd2
  have e : vs.toArray ++ ws.toArray = (vs ++ ws).toArray := by simp
  by_cases hw : ws = []
  · exact concat_meets ⟨_, ho, rfl⟩ ⟨_, ho2, rfl⟩ noFill_tuple_add seq_tuple_add PySem.F.slot_tuple_add PySem.F.entry_tuple_add (PySem.F.args_tuple_add_2 _ _)
      (tuple_addW1 t b vs.toArray ws.toArray n n2 dd dd2 sl sl2 (by simpa using hv) (by simp [hw])) ⟨ho, ho2, h1 hw⟩
  · refine concat_meets ⟨_, ho, rfl⟩ ⟨_, ho2, rfl⟩ noFill_tuple_add seq_tuple_add PySem.F.slot_tuple_add PySem.F.entry_tuple_add (PySem.F.args_tuple_add_2 _ _)
      (tuple_addW2 t b vs.toArray ws.toArray n n2 dd dd2 sl sl2 (by simpa using hv) (by simpa using hw) (by rw [List.size_toArray, List.size_toArray]; exact hsz)) ⟨ho, ho2, ?_⟩
    rw [e]
    exact h2 hw

/-! ### t[a:b], not the whole -/
/-- a slice's bound as a place among n (d where it is left out) -/
def sIx (n d : Nat) : Option Int → Nat
  | none => d
  | some v => if v < 0 then (v + (n : Int)).toNat else min v.toNat n
theorem sIx_le (n d : Nat) (hd : d ≤ n) (o : Option Int) : sIx n d o ≤ n := by
  cases o with
  | none => exact hd
  | some v =>
    show (if v < 0 then (v + (n : Int)).toNat else min v.toNat n) ≤ n
    by_cases hv : v < 0
    · rw [if_pos hv]; omega
    · rw [if_neg hv]; exact Nat.min_le_right _ _
theorem clip_eq (v : Int) (n d : Nat) : (if v < 0 then max (v + (n : Int)) 0 else min v (n : Int)) = ((sIx n d (some v) : Nat) : Int) := by
  show (if v < 0 then max (v + (n : Int)) 0 else min v (n : Int)) = (((if v < 0 then (v + (n : Int)).toNat else min v.toNat n) : Nat) : Int)
  by_cases hv : v < 0
  · simp only [if_pos hv]; omega
  · simp only [if_neg hv]; omega
theorem adjust_gen (lo hi : Option Int) (n : Nat) : Builtin.Slice.sliceAdjust lo hi 1 (n : Int) = (((sIx n 0 lo : Nat) : Int), ((sIx n n hi : Nat) : Int)) := by
  have h1 : ¬ ((1 : Int) < 0) := by omega
  unfold Builtin.Slice.sliceAdjust
  simp only [h1, if_false]
  refine Prod.ext ?_ ?_
  · cases lo with
    | none => rfl
    | some v => exact clip_eq v n 0
  · cases hi with
    | none => rfl
    | some v => exact clip_eq v n n
theorem places_gen (i j : Nat) : Builtin.Slice.slicePlaces (i : Int) (j : Int) 1 = j - i := by
  unfold Builtin.Slice.slicePlaces
  have h1 : (1 : Int) > 0 := by omega
  simp only [h1, if_true, Int.ediv_one]
  split <;> omega
theorem slicePart_ {v : Value} {o : Option Int} {Q : Option Int → Shared → Prop} (p : IsPart v o) (h : Q o s) : wpAny (model prog w) A (Builtin.Slice.slicePartIndex v) Q E s := by
  cases p with
  | none => exact slicePart_none h
  | int i t => exact slicePart_int h
theorem sliceApplied_gen {sl : Addr} {vl vu : Value} {lo hi : Option Int} {n : Nat} {Q : Int × Int × Nat → Shared → Prop} (hs : s.heap.IsSliceOf sl vl vu .none) (pl : IsPart vl lo) (pu : IsPart vu hi)
    (h : Q (((sIx n 0 lo : Nat) : Int), 1, sIx n n hi - sIx n 0 lo) s) : wpAny (model prog w) A (Builtin.Slice.sliceApplied (.ref sl) (pure (n : Int))) Q E s := by
  obtain ⟨os, hos, hcs, hds⟩ := id hs
  unfold Builtin.Slice.sliceApplied Builtin.Slice.sliceFields
  refine wpAny_bind (wpAny_bind (wpAny_field hos hds (x := vl) rfl (wpAny_bind (wpAny_field hos hds (x := vu) rfl (wpAny_bind (wpAny_field hos hds (x := .none) rfl (wpAny_pure ?_)))))))
  refine wpAny_bind (slicePart_none ?_)
  show wpAny _ _ (if ((1 : Int) == 0) = true then _ else _) _ _ s
  rw [if_neg (by decide)]
  refine wpAny_bind (slicePart_ pl (wpAny_bind (slicePart_ pu (wpAny_bind (wpAny_pure ?_)))))
  show wpAny _ _ (match Builtin.Slice.sliceAdjust lo hi 1 (n : Int) with | (lo, hi) => pure (lo, (1 : Int), Builtin.Slice.slicePlaces lo hi 1)) _ _ s
  rw [adjust_gen lo hi n]
  show wpAny _ _ (pure (((sIx n 0 lo : Nat) : Int), (1 : Int), Builtin.Slice.slicePlaces ((sIx n 0 lo : Nat) : Int) ((sIx n n hi : Nat) : Int) 1)) _ _ s
  rw [places_gen]
  exact wpAny_pure h
theorem pick_gen (xs : Array Value) (i k : Nat) : ((List.range k).filterMap fun (m : Nat) => xs[((i : Int) + (m : Int) * 1).toNat]?).toArray = ((xs.toList.drop i).take k).toArray := by
  have e : (fun (m : Nat) => xs[((i : Int) + (m : Int) * 1).toNat]?) = fun m => xs[i + m]? := by
    funext m
    have : ((i : Int) + (m : Int) * 1).toNat = i + m := by omega
    rw [this]
  rw [e]
  have := pick_run xs i k
  rw [List.filterMap_map] at this
  have e2 : ((fun x => xs[x]?) ∘ fun x => i + x) = fun m => xs[i + m]? := rfl
  rw [e2] at this
  rw [this]

theorem getItem_tuple_cut {t sl : Addr} {items : Array Value} {vl vu : Value} {lo hi : Option Int} {Q : Value → Shared → Prop} (ht : IsTup s.heap t items) (hs : s.heap.IsSliceOf sl vl vu .none) (pl : IsPart vl lo) (pu : IsPart vu hi)
    (hw : ¬ (sIx items.size 0 lo = 0 ∧ sIx items.size items.size hi = items.size))
    (h : Q (.ref s.heap.objs.size) { s with heap := s.heap.push { cls := .type "tuple", data := .seq ((items.toList.drop (sIx items.size 0 lo)).take (sIx items.size items.size hi - sIx items.size 0 lo)).toArray } })
    (hsz : items.size ≤ sizeLine) : wpAny (model prog w) A (getItem (.ref t) (.ref sl)) Q E s := by
  have htake : sizeOk (.seq ((items.toList.drop (sIx items.size 0 lo)).take (sIx items.size items.size hi - sIx items.size 0 lo)).toArray) := by
    show ((items.toList.drop (sIx items.size 0 lo)).take (sIx items.size items.size hi - sIx items.size 0 lo)).toArray.size ≤ sizeLine
    rw [List.size_toArray, List.length_take, List.length_drop, Array.length_toList]
    omega
  have hj : sIx items.size items.size hi ≤ items.size := sIx_le _ _ (Nat.le_refl _) hi
  obtain ⟨os, hos, hcs, hds⟩ := id hs
  have hTs : s.TypeIs (.ref sl) "slice" := ⟨os, hos, hcs⟩
  unfold getItem
  try with_reducible refine wpAny_holding ?_
  first | refine wpAny_bind (wpAny_pure ?_) | skip
  refine wpAny_bind (wpAny_sequenceKey ht.typeIs (by decide) ?_)
  refine wpAny_bind (wpAny_callSpecial?_slot (name := Str.ofString "__getitem__") ht.typeIs PyProof.Rows.slot_tuple_getitem
    (wpAny_call_entry PyProof.Rows.slot_tuple_getitem ht.typeIs entry_tuple_getitem ?_ (args_tuple_getitem _ _)))
  show wpAny _ _ (Builtin.Tuple.tupleItemsOf (.ref t) >>= _) _ _ s
  refine wpAny_bind (tupleItemsOf_ ht ?_)
  refine wpAny_bind (wpAny_typeOf hTs ?_)
  rw [if_pos (by decide)]
  refine wpAny_bind (sliceApplied_gen hs pl pu ?_)
  have hno : ¬ ((((sIx items.size 0 lo : Nat) : Int) == 0 && (1 : Int) == 1 && (sIx items.size items.size hi - sIx items.size 0 lo) == items.size) = true) := by
    intro q
    rw [Bool.and_eq_true, Bool.and_eq_true] at q
    have q1 : ((sIx items.size 0 lo : Nat) : Int) = 0 := eq_of_beq q.1.1
    have q2 : sIx items.size items.size hi - sIx items.size 0 lo = items.size := eq_of_beq q.2
    exact hw ⟨by omega, by omega⟩
  show wpAny _ _ (if (((sIx items.size 0 lo : Nat) : Int) == 0 && (1 : Int) == 1 && (sIx items.size items.size hi - sIx items.size 0 lo) == items.size) = true then _ else _) _ _ s
  rw [if_neg hno, pick_gen]
  first
    | exact wpAny_bind (m := Builtin.Tuple.tupleExact _) (wpAny_newObj_type (wpAny_pure ⟨_, rfl, wpAny_pure h⟩) htake)
    | exact wpAny_bind (m := Builtin.Tuple.tupleExact _) (wpAny_newObj_type (wpAny_bind (wpAny_pure (wpAny_pure ⟨_, rfl, wpAny_pure h⟩))) htake)
    | exact wpAny_bind (wpAny_bind (m := Builtin.Tuple.tupleExact _) (wpAny_newObj_type (wpAny_pure (wpAny_pure ⟨_, rfl, wpAny_pure h⟩)) htake))
    | exact wpAny_bind (wpAny_bind (m := Builtin.Tuple.tupleExact _) (wpAny_newObj_type (wpAny_pure ⟨_, rfl, wpAny_pure h⟩) htake))
end
end HT

namespace L2
open PySem PySem.Spec PyProof.Rows

/-! ### the parts of a slice -/
abbrev TO := St → Hp → (Option Int → Hp → Prop) → Prop
/-- a slice's part (left out, or an int) -/
def PO (X : Cx) (e : Option Expr) (t : TO) : Prop :=
  ∀ (pins : List (Addr × Obj)) (s : Shared) (σ : St) (H : Hp) (Q : Option Int → Hp → Prop), Inv X pins σ H s → t σ H Q →
    wpAny (model X.prog X.w) X.A (evalPart e X.env) (fun u s' => ∃ o H', Inv X pins σ H' s' ∧ IsPart u o ∧ Q o H') X.xe s
def tNoPart : TO := fun _ H Q => Q none H
def tPart (t : TE) : TO := fun σ H Q => t σ H fun x H1 => ∃ i, x = .int i ∧ Q (some i) H1

theorem intsAre_of {ns : List Int} : ∀ {us : List Value}, Vals (ns.map V.int) us → IntsAre us ns := by
  induction ns with
  | nil => intro us r; rw [List.map_nil] at r; cases r; exact .nil
  | cons n ns ih =>
    intro us r
    rw [List.map_cons] at r
    cases r with
    | cons r1 r2 =>
      obtain ⟨t, e⟩ := r1
      subst e
      exact .cons n t (ih r2)

section
variable {X : Cx} {e : Expr} {te : TE} {lo hi : Option Expr} {tl th : TO} {pos p2 : Pos}

theorem po_none : PO X none tNoPart := by
  intro pins s σ H Q I h
  rw [evalPart_none]
  exact wpAny_pure ⟨none, H, I, .none, h⟩
theorem po_some (h : PE X e te) : PO X (some e) (tPart te) := by
  intro pins s σ H Q I hw
  rw [evalPart_some]
  refine thn (h pins s σ H _ I hw) fun u s1 ⟨x, H1, I1, r1, q1⟩ => ?_
  obtain ⟨i, rfl, q⟩ := q1
  obtain ⟨t, rfl⟩ := r1
  exact ⟨some i, H1, I1, .int i t, q⟩

/-- what a slice of a value is, by values: the slice object stands at sl -/
def SlR (X : Cx) (r : V → Option Int → Option Int → Hp → VK → Prop) : Prop :=
  ∀ (pins : List (Addr × Obj)) (s : Shared) (σ : St) (H : Hp) (x : V) (v vl vu : Value) (lo hi : Option Int) (sl : Addr) (Q : VK), Inv X pins σ H s → RelV x v → s.heap.IsSliceOf sl vl vu .none → IsPart vl lo → IsPart vu hi → r x lo hi H Q →
    ∃ T id, typeLookup (.type T) "__getitem__" = pure (some (.builtin id)) ∧ s.TypeIs v T ∧ wpAny (model X.prog X.w) X.A (getItem v (.ref sl)) (EP X pins σ Q) X.xe s
theorem SlR.or {r r' : V → Option Int → Option Int → Hp → VK → Prop} (h : SlR X r) (h' : SlR X r') : SlR X (fun x lo hi H Q => r x lo hi H Q ∨ r' x lo hi H Q) := by
  intro pins s σ H x v vl vu lo hi sl Q I rx hs pl pu q
  rcases q with q | q
  · exact h pins s σ H x v vl vu lo hi sl Q I rx hs pl pu q
  · exact h' pins s σ H x v vl vu lo hi sl Q I rx hs pl pu q
def tSl (r : V → Option Int → Option Int → Hp → VK → Prop) (te : TE) (tl th : TO) : TE := fun σ H Q => te σ H fun x H1 => tl σ H1 fun l H2 => th σ H2 fun u H3 => r x l u H3 Q
/-- a[lo:hi], any a -/
theorem pe_slice {r : V → Option Int → Option Int → Hp → VK → Prop} (hr : SlR X r) (he : PE X e te) (hl : PO X lo tl) (hu : PO X hi th) : PE X (.Subscript e (.Slice lo hi none p2) pos) (tSl r te tl th) := by
  intro pins s σ H Q I h
  refine Subscript_ (thn (he pins s σ H _ I h) fun v s1 ⟨x, H1, I1, r1, q1⟩ => ?_)
  refine wpAny_Slice (thn (hl pins s1 σ H1 _ I1 q1) fun vl s2 ⟨l, H2, I2, pl, q2⟩ => thn (hu pins s2 σ H2 _ I2 q2) fun vu s3 ⟨u, H3, I3, pu, q3⟩ => ?_)
  rw [evalPart_none]
  refine wpAny_pure ?_
  have I4 : Inv X pins σ H3 { s3 with heap := s3.heap.push { cls := .type "slice", data := .fields #[vl, vu, .none] } } := I3.kept (t' := s3.toks) fun b ob q => Heap.get?_push_of_some _ q
  obtain ⟨T, id, hT, ht, hg⟩ := hr pins { s3 with heap := s3.heap.push { cls := .type "slice", data := .fields #[vl, vu, .none] } } σ H3 x v vl vu l u s3.heap.objs.size Q I4 r1 (Heap.IsSliceOf.new ..) pl pu q3
  show wpAny (model X.prog X.w) X.A (subscriptTail e (.Slice lo hi none p2) v (.ref s3.heap.objs.size)) (EP X pins σ Q) X.xe { s3 with heap := s3.heap.push { cls := .type "slice", data := .fields #[vl, vu, .none] } }
  exact tail_any (ops := [.ref s3.heap.objs.size, v]) ht hT hg (by with_unfolding_all rfl)

/-- the items of xs[lo:hi] -/
def cutV (xs : List V) (lo hi : Option Int) : List V := (xs.drop (HT.sIx xs.length 0 lo)).take (HT.sIx xs.length xs.length hi - HT.sIx xs.length 0 lo)
theorem cutV_length (xs : List V) (lo hi : Option Int) : (cutV xs lo hi).length ≤ xs.length := by
  unfold cutV
  rw [List.length_take, List.length_drop]
  omega
/-- t[lo:hi], not the whole of it (the whole would be t itself) -/
def rSlT (K : PySem.W.Frag) : V → Option Int → Option Int → Hp → VK → Prop := fun x lo hi H Q => ∃ a xs, x = .ref a ∧ SqT K H a xs ∧
  ¬ (HT.sIx xs.length 0 lo = 0 ∧ HT.sIx xs.length xs.length hi = xs.length) ∧ ∀ p, H p = none → Q (.ref p) (upd H p (.tup (cutV xs lo hi)))
theorem sl_tup : SlR X (rSlT X.K) := by
  intro pins s σ H x v vl vu lo hi sl Q I rx hs pl pu h
  obtain ⟨a, xs, rfl, hx, hw, q⟩ := h
  cases rx
  obtain ⟨its, r, ht, hz⟩ := I.tuple hx
  have hlen : its.toArray.size = xs.length := by rw [List.size_toArray]; exact r.length.symm
  refine ⟨"tuple", _, PyProof.Rows.slot_tuple_getitem.lookup, ht.typeIs, ?_⟩
  refine HT.getItem_tuple_cut ht hs pl pu (by rw [hlen]; exact hw) ?_ (by rw [hlen]; exact hz)
  rw [hlen]
  refine ⟨.ref s.heap.objs.size, _, I.laid (t' := s.toks) (o := .tup (cutV xs lo hi)) (fun b ob q => Heap.get?_push_of_some _ q) (Nat.le_refl _) ?_, rfl, q _ (I.hok.fresh (Nat.le_refl _))⟩
  exact ⟨Nat.le_trans (cutV_length xs lo hi) hz, _, (r.drop (HT.sIx xs.length 0 lo)).take (HT.sIx xs.length xs.length hi - HT.sIx xs.length 0 lo), IsTupP.new _ _⟩

/-! ### t < u, t + u -/
/-- t + u, t not empty: u empty gives t itself -/
def rCatT (K : PySem.W.Frag) : R2 := fun x y H Q => ∃ a b xs ys, x = .ref a ∧ y = .ref b ∧ SqT K H a xs ∧ SqT K H b ys ∧ xs ≠ [] ∧ xs.length + ys.length ≤ sizeLine ∧
  (ys = [] → Q (.ref a) H) ∧ (ys ≠ [] → ∀ p, H p = none → Q (.ref p) (upd H p (.tup (xs ++ ys))))
theorem Vals.nil_iff {xs : List V} {us : List Value} (r : Vals xs us) : us = [] ↔ xs = [] := by
  cases r with
  | nil => simp
  | cons _ _ => simp
theorem op_catT : OpR X (binaryOp .Add) (rCatT X.K) := by
  intro pins s σ H x y v u Q I rx ry h
  obtain ⟨a, b, xs, ys, rfl, rfl, ha, hb, hx, hz, q1, q2⟩ := h
  cases rx
  cases ry
  obtain ⟨its, r1, p1, _⟩ := I.tuple ha
  obtain ⟨its2, r2, p2, _⟩ := I.tuple hb
  refine HT.cat_tup p1 p2 (fun z => hx (r1.nil_iff.mp z)) (fun z => ⟨.ref a, H, I, rfl, q1 (r2.nil_iff.mp z)⟩) (fun z => ?_) (by rw [← r1.length, ← r2.length]; exact hz)
  refine ⟨.ref s.heap.objs.size, _, I.laid (t' := s.toks) (o := .tup (xs ++ ys)) (fun b ob q => Heap.get?_push_of_some _ q) (Nat.le_refl _) ?_, rfl, q2 (fun w => z (r2.nil_iff.mpr w)) _ (I.hok.fresh (Nat.le_refl _))⟩
  exact ⟨by rw [List.length_append]; exact hz, _, r1.append r2, IsTupP.new _ _⟩
end
end L2

namespace L2
open PySem PySem.Spec PyProof.Rows

/-! ### places -/
/-- the place that an index of any sign means -/
def ixN (n : Nat) (i : Int) : Option Nat := if 0 ≤ i then (if i < n then some i.toNat else none) else if -(n : Int) ≤ i then some (i + n).toNat else none
def atI {α : Type} (xs : List α) (i : Int) : Option α := (ixN xs.length i).bind fun j => xs[j]?
theorem ixN_seq {n : Nat} {i : Int} {j : Nat} (h : ixN n i = some j) : seqIndex? i n = some j ∧ j < n ∧ -(n : Int) ≤ i ∧ i < n := by
  unfold ixN at h
  by_cases h0 : 0 ≤ i
  · rw [if_pos h0] at h
    by_cases h1 : i < n
    · rw [if_pos h1] at h
      have e : i.toNat = j := Option.some.inj h
      exact ⟨by rw [seqIndex_of h0 h1, e], by omega, by omega, h1⟩
    · rw [if_neg h1] at h; cases h
  · rw [if_neg h0] at h
    by_cases h1 : -(n : Int) ≤ i
    · rw [if_pos h1] at h
      have e : (i + n).toNat = j := Option.some.inj h
      exact ⟨by rw [seqIndex_neg (by omega) h1, e], by omega, h1, by omega⟩
    · rw [if_neg h1] at h; cases h
theorem atI_get {α : Type} {xs : List α} {i : Int} {v : α} (h : atI xs i = some v) : ∃ j, seqIndex? i xs.length = some j ∧ xs[j]? = some v ∧ j < xs.length ∧ -(xs.length : Int) ≤ i ∧ i < xs.length := by
  unfold atI at h
  cases e : ixN xs.length i with
  | none => rw [e] at h; cases h
  | some j =>
    rw [e] at h
    obtain ⟨h1, h2, h3, h4⟩ := ixN_seq e
    exact ⟨j, h1, h, h2, h3, h4⟩
theorem atI_nat {α : Type} {xs : List α} {j : Nat} {v : α} (h : xs[j]? = some v) : atI xs (j : Int) = some v := by
  have hj : j < xs.length := (List.getElem?_eq_some_iff.mp h).1
  have e : ixN xs.length (j : Int) = some j := by
    unfold ixN
    rw [if_pos (by omega), if_pos (by omega)]; simp
  unfold atI; rw [e]; exact h
/-! ### what may be subscripted -/
/-- what stands as an index of a plain subscript -/
def PlainIx (b : Expr) : Prop := ∀ o i, subscripted b false o i = operate [o, i] (getItem o i)
/-- a subscript by values -/
def IxR (X : Cx) (r : R2) : Prop :=
  ∀ (value slice : Expr) (pins : List (Addr × Obj)) (s : Shared) (σ : St) (H : Hp) (x y : V) (v u : Value) (Q : VK), Inv X pins σ H s → RelV x v → RelV y u → r x y H Q →
    subscripted slice false v u = operate [v, u] (getItem v u) → wpAny (model X.prog X.w) X.A (subscriptTail value slice v u) (EP X pins σ Q) X.xe s
/-- a call of a builtin's method by values: the receiver, the arguments -/
def MtR (X : Cx) (id : String) (r : V → List V → Hp → VK → Prop) : Prop :=
  ∀ (pins : List (Addr × Obj)) (s : Shared) (σ : St) (H : Hp) (x : V) (xs : List V) (v : Value) (us : List Value) (Q : VK), Inv X pins σ H s → RelV x v → Vals xs us → r x xs H Q →
    wpAny (model X.prog X.w) X.A (call (.builtin id) (v :: us)) (EP X pins σ Q) X.xe s
section
variable {X : Cx} {a b : Expr} {ta tb : TE} {pos : Pos}
theorem IxR.or {r r' : R2} (h : IxR X r) (h' : IxR X r') : IxR X (fun x y H Q => r x y H Q ∨ r' x y H Q) := by
  intro value slice pins s σ H x y v u Q I rx ry q hs
  rcases q with q | q
  · exact h value slice pins s σ H x y v u Q I rx ry q hs
  · exact h' value slice pins s σ H x y v u Q I rx ry q hs
theorem MtR.or {id : String} {r r' : V → List V → Hp → VK → Prop} (h : MtR X id r) (h' : MtR X id r') : MtR X id (fun x xs H Q => r x xs H Q ∨ r' x xs H Q) := by
  intro pins s σ H x xs v us Q I rx rs q
  rcases q with q | q
  · exact h pins s σ H x xs v us Q I rx rs q
  · exact h' pins s σ H x xs v us Q I rx rs q
/-- a[b] -/
theorem pe_ix {r : R2} (hr : IxR X r) (ha : PE X a ta) (hb : PE X b tb) (hs : PlainIx b) : PE X (.Subscript a b pos) (tOp r ta tb) := by
  intro pins s σ H Q I h
  exact Subscript_ (binT ha hb I h fun v u s2 x y H2 I2 rx ry q => hr a b pins s2 σ H2 x y v u Q I2 rx ry q (hs _ _))

def rIxL (K : PySem.W.Frag) : R2 := fun x y H Q => ∃ p xs i v, x = .ref p ∧ y = .int i ∧ SqL K H p xs ∧ atI xs i = some v ∧ Q v H
def rIxT (K : PySem.W.Frag) : R2 := fun x y H Q => ∃ p xs i v, x = .ref p ∧ y = .int i ∧ SqT K H p xs ∧ atI xs i = some v ∧ Q v H
def rIxS : R2 := fun x y H Q => ∃ z i c, x = .str z ∧ y = .int i ∧ z.length ≤ sizeLine ∧ atI z.cps.toList i = some c ∧ Q (.str ⟨#[c]⟩) H
theorem ix_list : IxR X (rIxL X.K) := by
  intro value slice pins s σ H x y v u Q I rx ry h hs
  obtain ⟨p, xs, i, z, rfl, rfl, hq, he, q⟩ := h
  cases rx
  obtain ⟨t, rfl⟩ := ry
  obtain ⟨its, r, pl, hz⟩ := I.list hq
  obtain ⟨j, h1, h2, h3, h4, h5⟩ := atI_get he
  obtain ⟨w, ew, rw'⟩ := r.get h2
  have hl := r.length
  have hn := line63
  have fin : EP X pins σ Q w s := ⟨z, H, I, rw', q⟩
  by_cases h0 : 0 ≤ i
  · have hj : i.toNat = j := by
      rw [seqIndex_of h0 h5] at h1
      exact Option.some.inj h1
    exact item_listR pl.isList h0 (by omega) (by rw [hj]; simpa using ew) fin hs
  · have hj : (i + (its.toArray.size : Int)).toNat = j := by
      rw [seqIndex_neg (by omega) h4] at h1
      rw [List.size_toArray, ← hl]
      exact Option.some.inj h1
    exact subscriptTail_builtinR (x := w) pl.isList.typeIs slot_list_getitem.lookup
      (wpAny_getItem_list_neg (Q := fun r s' => r = w ∧ EP X pins σ Q r s') pl.isList (by omega) (by rw [List.size_toArray] <;> omega) (by omega) (by rw [hj]; simpa using ew) ⟨rfl, fin⟩) hs
theorem ix_tup : IxR X (rIxT X.K) := by
  intro value slice pins s σ H x y v u Q I rx ry h hs
  obtain ⟨p, xs, i, z, rfl, rfl, hq, he, q⟩ := h
  cases rx
  obtain ⟨t, rfl⟩ := ry
  obtain ⟨its, r, pl, hz⟩ := I.tuple hq
  obtain ⟨j, h1, h2, h3, h4, h5⟩ := atI_get he
  obtain ⟨w, ew, rw'⟩ := r.get h2
  have hl := r.length
  have hn := line63
  have fin : EP X pins σ Q w s := ⟨z, H, I, rw', q⟩
  exact subscriptTail_builtinR (x := w) pl.typeIs slot_tuple_getitem.lookup
    (getItem_tuple (j := j) (Q := fun r s' => r = w ∧ EP X pins σ Q r s') pl (by omega) (by omega) (by rw [List.size_toArray, ← hl]; exact h1) (by simpa using ew) ⟨rfl, fin⟩) hs
theorem ix_str : IxR X rIxS := by
  intro value slice pins s σ H x y v u Q I rx ry h hs
  obtain ⟨z, i, c, rfl, rfl, hz, he, q⟩ := h
  obtain ⟨t, rfl⟩ := rx
  obtain ⟨t', rfl⟩ := ry
  obtain ⟨j, h1, h2, h3, h4, h5⟩ := atI_get he
  have hl : z.cps.toList.length = z.length := by simp [Str.length]
  rw [hl] at h1 h4 h5
  have hn := line63
  exact tail_any (typeIs_str s z t) slot_str_getitem.lookup (getItem_str (c := c) (by
    have e1 : decide (i < -(2 ^ 63 : Int)) = false := decide_eq_false (by omega)
    have e2 : decide (i ≥ 2 ^ 63) = false := decide_eq_false (by omega)
    rw [e1, e2, Bool.or_false]) (by rw [h1]; simpa using h2) ⟨.str ⟨#[c]⟩, H, I.tok _, ⟨_, rfl⟩, q⟩) hs
/-! ### xs[i] = v, any sign -/
/-- the list's object behind a store -/
theorem mapSeq_set (its : List Value) (n j : Nat) (u : Value) : Obj.mapSeq (·.setIfInBounds j u) { cls := .type "list", data := .seq its.toArray n } = { cls := .type "list", data := .seq (its.set j u).toArray n } := by
  simp [Obj.mapSeq]
theorem Inv.lst {pins : List (Addr × Obj)} {σ : St} {H : Hp} {s : Shared} {p : Addr} {xs : List V} (I : Inv X pins σ H s) (h : H p = some (.lst xs)) :
    ∃ (its : List Value) (n : Nat), Vals xs its ∧ s.heap.get? p = some { cls := .type "list", data := .seq its.toArray n } ∧ xs.length ≤ sizeLine := by
  obtain ⟨z, its, n, r, e⟩ := I.hok p _ h
  exact ⟨its, n, r, e, z⟩
/-- the list at p is written by an update of its object -/
theorem Inv.lstUpd {pins : List (Addr × Obj)} {σ : St} {H : Hp} {s : Shared} {p : Addr} {xs ys : List V} {its its' : List Value} {n n' : Nat} {f : Obj → Obj} (I : Inv X pins σ H s) (h : H p = some (.lst xs))
    (ho : s.heap.get? p = some { cls := .type "list", data := .seq its.toArray n }) (hf : f { cls := .type "list", data := .seq its.toArray n } = { cls := .type "list", data := .seq its'.toArray n' }) (r : Vals ys its') (hz : ys.length ≤ sizeLine) (t : Nat) :
    Inv X pins σ (upd H p (.lst ys)) { s with heap := s.heap.update p f, toks := t } := by
  have e : (s.heap.update p f).get? p = some { cls := .type "list", data := .seq its'.toArray n' } := by
    rw [Heap.get?_update_self f ho (by rw [hf] <;> rfl), hf]
  refine I.write (x := p) (e := p) (by rw [h]; trivial) (.inl rfl) (fun b u hb q => (Heap.get?_update_other _ _ (Ne.symm hb)).trans q) ⟨_, e⟩ ?_
  exact ⟨hz, its', n', r, e⟩
def rSetL : V → V → V → Hp → (Hp → Prop) → Prop := fun o i v H Q => ∃ p xs k j, o = .ref p ∧ i = .int k ∧ H p = some (.lst xs) ∧ ixN xs.length k = some j ∧ Q (upd H p (.lst (xs.set j v)))
theorem set_list : PSet X rSetL := by
  intro pins s σ H o i v ov iv u Q I ro ri rv h
  obtain ⟨p, xs, k, j, rfl, rfl, hp, hj, q⟩ := h
  cases ro
  obtain ⟨t, rfl⟩ := ri
  obtain ⟨its, n, r, ho, hz⟩ := I.lst hp
  obtain ⟨h1, h2, h3, h4⟩ := ixN_seq hj
  have hl := r.length
  have hn := line63
  have I' : Inv X pins σ (upd H p (.lst (xs.set j v))) { s with heap := s.heap.update p (Obj.mapSeq (·.setIfInBounds j u)) } :=
    I.lstUpd hp ho (mapSeq_set its n j u) (r.set rv j) (by rw [List.length_set]; exact hz) s.toks
  by_cases h0 : 0 ≤ k
  · have hk : k.toNat = j := by
      rw [seqIndex_of h0 h4] at h1
      exact Option.some.inj h1
    exact PySem.W.ki_setAt ho h0 (by omega) (by rw [List.size_toArray, ← hl]; exact h4) (by rw [hk]; exact ⟨_, I', q⟩)
  · have hk : (k + (its.toArray.size : Int)).toNat = j := by
      rw [seqIndex_neg (by omega) h3] at h1
      rw [List.size_toArray, ← hl]
      exact Option.some.inj h1
    exact PySem.W.ki_setBack ho (by omega) (by rw [List.size_toArray, ← hl]; exact h3) (by omega) (by rw [hk]; exact ⟨_, I', q⟩)

/-! ### slices -/
theorem slice_bounds (lo hi : Option Int) (n : Nat) : (sliceBounds lo hi none n).1 = ((HT.sIx n 0 lo : Nat) : Int) ∧ (sliceBounds lo hi none n).2.1 = ((HT.sIx n n hi : Nat) : Int) ∧ (sliceBounds lo hi none n).2.2 = 1 := by
  refine ⟨?_, ?_, rfl⟩
  · cases lo with
    | none => simp [sliceBounds, HT.sIx]
    | some i =>
      simp only [sliceBounds, HT.sIx, Option.getD_none, show (1 : Int) > 0 by decide, if_true]
      by_cases h : i < 0
      · simp only [h, if_true] <;> omega
      · simp only [h, if_false] <;> omega
  · cases hi with
    | none => simp [sliceBounds, HT.sIx]
    | some i =>
      simp only [sliceBounds, HT.sIx, Option.getD_none, show (1 : Int) > 0 by decide, if_true]
      by_cases h : i < 0
      · simp only [h, if_true] <;> omega
      · simp only [h, if_false] <;> omega
theorem slicePick_cut (its : List Value) (lo hi : Option Int) : slicePick its.toArray lo hi none = ((its.drop (HT.sIx its.length 0 lo)).take (HT.sIx its.length its.length hi - HT.sIx its.length 0 lo)).toArray := by
  obtain ⟨h1, h2, h3⟩ := slice_bounds lo hi its.toArray.size
  unfold slicePick
  rw [h1, h2, h3]
  simp only [sliceRange_one, pick_run, List.size_toArray] <;> rfl
/-- xs[lo:hi] of a list: a new list -/
def rSlL (K : PySem.W.Frag) : V → Option Int → Option Int → Hp → VK → Prop := fun x lo hi H Q => ∃ a xs, x = .ref a ∧ SqL K H a xs ∧ ∀ p, H p = none → Q (.ref p) (upd H p (.lst (cutV xs lo hi)))
theorem sl_list : SlR X (rSlL X.K) := by
  intro pins s σ H x v vl vu lo hi sl Q I rx hs pl pu h
  obtain ⟨a, xs, rfl, hx, q⟩ := h
  cases rx
  obtain ⟨its, r, ht, hz⟩ := I.list hx
  have hlen := r.length
  refine ⟨"list", _, slot_list_getitem.lookup, ht.isList.typeIs, ?_⟩
  refine wpAny_getItem_list_slice ht.isList hs pl pu .none (by simp) ?_ (by rw [List.size_toArray] <;> omega)
  rw [slicePick_cut, ← hlen]
  refine ⟨.ref s.heap.objs.size, _, I.laid (t' := s.toks) (o := .lst (cutV xs lo hi)) (fun b ob q => Heap.get?_push_of_some _ q) (Nat.le_refl _) ?_, rfl, q _ (I.hok.fresh (Nat.le_refl _))⟩
  exact ⟨Nat.le_trans (cutV_length xs lo hi) hz, _, 0, (r.drop (HT.sIx xs.length 0 lo)).take (HT.sIx xs.length xs.length hi - HT.sIx xs.length 0 lo), Heap.get?_push_size _ rfl⟩

/-! ### in, not in: flat items -/
def flatV : V → Bool
  | .non => true
  | .bl _ => true
  | .int _ => true
  | .str _ => true
  | _ => false
/-- == of flat values -/
def eqV : V → V → Bool
  | .non, .non => true
  | .bl a, .bl b => a == b
  | .bl a, .int b => (if a then 1 else 0) == b
  | .int a, .bl b => a == (if b then 1 else 0)
  | .int a, .int b => a == b
  | .str a, .str b => a == b
  | _, _ => false
theorem eqAt_V {A : Around} {s : Shared} {y x : V} {u v : Value} (ry : RelV y u) (rx : RelV x v) (fy : flatV y = true) (fx : flatV x = true) : SeqAt.EqAt A s u v (eqV y x) := by
  cases y with
  | non =>
    cases ry
    cases x with
    | non => cases rx; exact SeqAt.EqAt.same _
    | bl b => cases rx; exact SeqAt.EqAt.none_bool b
    | int b => obtain ⟨t, rfl⟩ := rx; exact SeqAt.EqAt.none_int b t
    | str b => obtain ⟨t, rfl⟩ := rx; exact SeqAt.EqAt.none_str b t
    | _ => exact absurd (show false = true from fx) Bool.false_ne_true
  | bl a =>
    cases ry
    cases x with
    | non => cases rx; exact SeqAt.EqAt.bool_none a
    | bl b => cases rx; exact SeqAt.EqAt.bool_bool a b
    | int b => obtain ⟨t, rfl⟩ := rx; exact SeqAt.EqAt.bool_int a b t
    | str b => obtain ⟨t, rfl⟩ := rx; exact SeqAt.EqAt.bool_str a b t
    | _ => exact absurd (show false = true from fx) Bool.false_ne_true
  | int a =>
    obtain ⟨t', rfl⟩ := ry
    cases x with
    | non => cases rx; exact SeqAt.EqAt.int_none a t'
    | bl b => cases rx; exact SeqAt.EqAt.int_bool a t' b
    | int b => obtain ⟨t, rfl⟩ := rx; exact SeqAt.EqAt.int_int a t' b t
    | str b => obtain ⟨t, rfl⟩ := rx; exact SeqAt.EqAt.int_str a t' b t
    | _ => exact absurd (show false = true from fx) Bool.false_ne_true
  | str a =>
    obtain ⟨t', rfl⟩ := ry
    cases x with
    | non => cases rx; exact SeqAt.EqAt.str_none a t'
    | bl b => cases rx; exact SeqAt.EqAt.str_bool a t' b
    | int b => obtain ⟨t, rfl⟩ := rx; exact SeqAt.EqAt.str_int a t' b t
    | str b => obtain ⟨t, rfl⟩ := rx; exact SeqAt.EqAt.str_str a t' b t
    | _ => exact absurd (show false = true from fx) Bool.false_ne_true
  | _ => exact absurd (show false = true from fy) Bool.false_ne_true
/-- the items' answers, read off the values (a value's own answer does not lean on its token) -/
def eqU (x : V) (u : Value) : Bool := match u with
  | .none => eqV .non x
  | .bool b => eqV (.bl b) x
  | .int i _ => eqV (.int i) x
  | .str z _ => eqV (.str z) x
  | _ => false
theorem eqU_of {x y : V} {u : Value} (r : RelV y u) (f : flatV y = true) : eqU x u = eqV y x := by
  cases y with
  | non => cases r; rfl
  | bl b => cases r; rfl
  | int i => obtain ⟨t, rfl⟩ := r; rfl
  | str z => obtain ⟨t, rfl⟩ := r; rfl
  | _ => exact absurd (show false = true from f) Bool.false_ne_true
theorem mem_eqAt {A : Around} {s : Shared} {x : V} {v : Value} (rx : RelV x v) (fx : flatV x = true) : ∀ {xs : List V} {us : List Value}, Vals xs us → xs.all flatV = true → ∀ u ∈ us, SeqAt.EqAt A s u v (eqU x u)
  | _, _, .nil, _ => fun u hu => by cases hu
  | y :: xs, u :: us, .cons r t, f => fun u' hu => by
    rw [List.all_cons, Bool.and_eq_true] at f
    rcases List.mem_cons.mp hu with rfl | hu
    · rw [eqU_of r f.1]; exact eqAt_V r rx f.1 fx
    · exact mem_eqAt rx fx t f.2 u' hu
/-! ### len, list(x), tuple(x) of any list or tuple that is read -/
theorem call_len_seq : CallR X (.builtin "len") (fun xs H Q => ∃ p ys, xs = [.ref p] ∧ (SqL X.K H p ys ∨ SqT X.K H p ys) ∧ Q (.int ys.length) H) := by
  intro pins s σ H xs us Q I r h
  obtain ⟨p, ys, rfl, hq, q⟩ := h
  obtain ⟨u, rfl, rx⟩ := vals1 r
  cases rx
  have hn := line63
  rcases hq with hq | hq
  · obtain ⟨its, r', pl, hz⟩ := I.list hq
    have hlen := r'.length
    exact Calls.call_len_list pl.isList (by simp only [List.size_toArray] <;> omega) ⟨.int ys.length, H, I.tok _, ⟨s.toks + 1, by rw [List.size_toArray, hlen]⟩, q⟩
  · obtain ⟨its, r', pl, hz⟩ := I.tuple hq
    have hlen := r'.length
    exact len_tuple pl (by simp only [List.size_toArray] <;> omega) ⟨.int ys.length, H, I.tok _, ⟨s.toks + 1, by rw [List.size_toArray, hlen]⟩, q⟩
theorem CallR.or {f : Value} {r r' : List V → Hp → VK → Prop} (h : CallR X f r) (h' : CallR X f r') : CallR X f (fun xs H Q => r xs H Q ∨ r' xs H Q) := by
  intro pins s σ H xs us Q I rs q
  rcases q with q | q
  · exact h pins s σ H xs us Q I rs q
  · exact h' pins s σ H xs us Q I rs q
theorem call_list_of : CallR X (.type "list") (fun xs H Q => ∃ p ys, xs = [.ref p] ∧ (SqL X.K H p ys ∨ SqT X.K H p ys) ∧ ∀ l, H l = none → Q (.ref l) (upd H l (.lst ys))) := by
  intro pins s σ H xs us Q I r h
  obtain ⟨p, ys, rfl, hq, q⟩ := h
  obtain ⟨u, rfl, rx⟩ := vals1 r
  cases rx
  have fin : ∀ (its : List Value), Vals ys its → ys.length ≤ sizeLine → ∀ (h' : Heap) (c' : Nat), (∀ b o', s.heap.get? b = some o' → h'.get? b = some o') →
      h'.get? s.heap.objs.size = some { cls := .type "list", dict := none, data := .seq its.toArray c', slots := #[] } → EP X pins σ Q (.ref s.heap.objs.size) { s with heap := h' } := fun its r' hz h' c' kp e =>
    ⟨.ref s.heap.objs.size, _, I.laid (t' := s.toks) kp (Nat.le_refl _) (show ObjOk X.prog X.w _ h' _ (.lst ys) from ⟨hz, its, c', r', e⟩), rfl, q _ (I.hok.fresh (Nat.le_refl _))⟩
  rcases hq with hq | hq
  · obtain ⟨its, r', pl, hz⟩ := I.list hq
    have hlen := r'.length
    obtain ⟨o, ho, hc, n, hd⟩ := pl.isList
    exact call_list_seq p (.inl rfl) ho hc hd (fun h' c' kp e => fin its r' hz h' c' kp e) (by simp only [List.size_toArray] <;> omega)
  · obtain ⟨its, r', pl, hz⟩ := I.tuple hq
    have hlen := r'.length
    obtain ⟨o, ho, hc, n, hd⟩ := pl
    exact call_list_seq p (.inr rfl) ho hc hd (fun h' c' kp e => fin its r' hz h' c' kp e) (by simp only [List.size_toArray] <;> omega)
theorem call_tuple_of : CallR X (.type "tuple") (fun xs H Q => ∃ p ys, xs = [.ref p] ∧ ((SqL X.K H p ys ∧ ∀ l, H l = none → Q (.ref l) (upd H l (.tup ys))) ∨ (SqT X.K H p ys ∧ Q (.ref p) H))) := by
  intro pins s σ H xs us Q I r h
  obtain ⟨p, ys, rfl, h⟩ := h
  obtain ⟨u, rfl, rx⟩ := vals1 r
  cases rx
  rcases h with ⟨hq, q⟩ | ⟨hq, q⟩
  · obtain ⟨its, r', pl, hz⟩ := I.list hq
    have hlen := r'.length
    refine call_tuple_list pl.isList (fun h' kp => ?_) (by simp only [List.size_toArray] <;> omega)
    have I1 : Inv X pins σ H { s with heap := h' } := I.kept (t' := s.toks) kp
    have I2 : Inv X pins σ (upd H h'.objs.size (.tup ys)) { s with heap := h'.push { cls := .type "tuple", data := .seq its.toArray } } :=
      I1.laid (t' := s.toks) (fun b o e => Heap.get?_push_of_some _ e) (Nat.le_refl _) (show ObjOk X.prog X.w _ _ _ (.tup ys) from ⟨hz, its, r', IsTupP.new _ _⟩)
    exact ⟨.ref h'.objs.size, _, I2, rfl, q _ (I1.hok.fresh (Nat.le_refl _))⟩
  · obtain ⟨its, r', pl, hz⟩ := I.tuple hq
    exact call_tuple_same pl ⟨.ref p, H, I, rfl, q⟩

/-! ### the call of a builtin's method: o.m(..) -/
/-- the value is of that builtin type -/
def tyV (K : PySem.W.Frag) (T : String) (x : V) (H : Hp) : Prop := match x with
  | .str _ => T = "str"
  | .int _ => T = "int"
  | .ref p => (T = "list" ∧ ∃ xs, SqL K H p xs) ∨ (T = "tuple" ∧ ∃ o, K.lookup p = some o ∧ o.cls = .type "tuple" ∧ o.dict = none) ∨
      (T = "dict" ∧ ((∃ kvs, H p = some (.dK kvs)) ∨ ∃ kvs, H p = some (.dT kvs))) ∨ (T = "set" ∧ ∃ S n, H p = some (.set S n))
  | _ => False
theorem tyV_is {pins : List (Addr × Obj)} {σ : St} {H : Hp} {s : Shared} {T : String} {x : V} {v : Value} (I : Inv X pins σ H s) (r : RelV x v) (ty : tyV X.K T x H) :
    s.TypeIs v T ∧ ∀ a, v = .ref a → ∃ ob, s.heap.get? a = some ob ∧ ob.dict = none := by
  cases x with
  | str z =>
    obtain ⟨t, rfl⟩ := r
    cases (show T = "str" from ty)
    exact ⟨typeIs_str s z t, fun _ e => nomatch e⟩
  | int i =>
    obtain ⟨t, rfl⟩ := r
    cases (show T = "int" from ty)
    exact ⟨typeIs_int s i t, fun _ e => nomatch e⟩
  | ref p =>
    cases r
    rcases ty with ⟨rfl, xs, hq⟩ | ⟨rfl, o, hk, hc, hd⟩ | ⟨rfl, hk⟩ | ⟨rfl, S, n, hk⟩
    · obtain ⟨its, _, pl, _⟩ := I.list hq
      refine ⟨pl.isList.typeIs, fun a e => ?_⟩
      cases e
      obtain ⟨o, n, e, c, hd, _⟩ := pl
      exact ⟨o, e, hd⟩
    · refine ⟨⟨o, I.kIn p o hk, hc⟩, fun a e => ?_⟩
      cases e
      exact ⟨o, I.kIn _ o hk, hd⟩
    · have z : ∃ o, s.heap.get? p = some o ∧ o.ExactDict := by
        rcases hk with ⟨kvs, hk⟩ | ⟨kvs, hk⟩
        · obtain ⟨_, _, _, _, o, _, _, e, ex, _⟩ := I.hok p _ hk
          exact ⟨o, e, ex⟩
        · obtain ⟨_, _, _, _, o, _, _, e, ex, _⟩ := I.hok p _ hk
          exact ⟨o, e, ex⟩
      obtain ⟨o, e, ex⟩ := z
      refine ⟨⟨o, e, ex.1⟩, fun a e2 => ?_⟩
      cases e2
      exact ⟨o, e, ex.2.1⟩
    · obtain ⟨o, _, _, _, e, ex, _⟩ := I.hok p _ hk
      refine ⟨⟨o, e, ex.1⟩, fun a e2 => ?_⟩
      cases e2
      exact ⟨o, e, ex.2.1⟩
  | _ => exact False.elim ty
def tBM (K : PySem.W.Frag) (T : String) (r : V → List V → Hp → VK → Prop) (to : TE) (t : TA) : TE := fun σ H Q => to σ H fun x H1 => tyV K T x H1 ∧ t σ H1 fun xs H2 => r x xs H2 Q
variable {o e : Expr} {es : List Expr} {to : TE} {t : TA} {name : Str} {apos cpos : Pos} {T id : String} {r : V → List V → Hp → VK → Prop}
theorem pe_bm (pa : PlainAttrs T) (slot : Slot T name id) (hty : typeOf (.builtin id) = pure (.type "method_descriptor")) (hm : MtR X id r) (ho : PE X o to) (ha : PA X (e :: es) t)
    (hbase : attributeBase o name X.env (eval o X.env) = eval o X.env := by rfl)
    (hfew : ((backTo cpos (starEach (e :: es) X.env)).all (fun x => !x.1) && (backToKw cpos (keywordEach [] X.env)).all (fun x => x.1.isSome)
      && decide ((e :: es).length + ([] : List Keyword).length + (if ([] : List Keyword).isEmpty then 0 else 1) < 30)) = true := by rfl)
    (hline : (apos.endLine == cpos.line) = true := by rfl) (hs : starEach (e :: es) X.env = (false, eval e X.env) :: starEach es X.env := by rfl) (hplain : (backTo cpos (starEach es X.env)).any (·.1) = false := by rfl) :
    PE X (.Call (.Attribute o name apos) (e :: es) [] cpos) (tBM X.K T r to t) := by
  intro pins s σ H Q I h
  refine wpAny_Call_method_late hbase hfew hline rfl (thn (ho pins s σ H _ I h) fun v s1 ⟨x, H1, I1, r1, ty, q1⟩ => ?_)
  obtain ⟨h1, h2⟩ := tyV_is I1 r1 ty
  refine ⟨T, id, pa, slot, hty, h1, h2, ?_⟩
  have hA := ha cpos pins s1 σ H1 _ I1 q1
  rw [hs] at hA ⊢
  refine Calls.callWith_builtin (by show (false || (backTo cpos (starEach es X.env)).any (·.1)) = false; rw [hplain] <;> rfl) (Calls.evalArgs_plain ?_)
  exact thn hA fun us s2 ⟨vs, H2, I2, r2, q2⟩ => hm pins s2 σ H2 x vs v us Q I2 r1 r2 q2
/- xs.append(e), list.index on a module's tuple .. are MtR facts of 06m -/
end
end L2

namespace L2
open PySem PySem.Spec PyProof.Rows

def MtM (X : Cx) (id : String) (r : V → List V → Hp → VK → Prop) : Prop :=
  ∀ (pins : List (Addr × Obj)) (s : Shared) (σ : St) (H : Hp) (x : V) (xs : List V) (v : Value) (us : List Value) (Q : VK), Inv X pins σ H s → RelV x v → Vals xs us → r x xs H Q →
    wpAny (model X.prog X.w) X.A (call (.builtin id) (v :: us)) (EP X pins σ Q) X.xe s

/-! ### lists of values -/
theorem Vals.one : ∀ {x : V} {us : List Value}, Vals [x] us → ∃ u, us = [u] ∧ RelV x u
  | _, _, .cons r .nil => ⟨_, rfl, r⟩
theorem Vals.two : ∀ {x y : V} {us : List Value}, Vals [x, y] us → ∃ u v, us = [u, v] ∧ RelV x u ∧ RelV y v
  | _, _, _, .cons r (.cons q .nil) => ⟨_, _, rfl, r, q⟩
theorem Vals.zero : ∀ {us : List Value}, Vals [] us → us = []
  | _, .nil => rfl
theorem Vals.rep {xs : List V} {us : List Value} (h : Vals xs us) : ∀ k : Nat, Vals (List.replicate k xs).flatten (List.replicate k us).flatten
  | 0 => .nil
  | k + 1 => by
    rw [List.replicate_succ, List.replicate_succ, List.flatten_cons, List.flatten_cons]
    exact Vals.append h (Vals.rep h k)
theorem foldl_rep (its : List Value) : ∀ (k : Nat) (acc : List Value),
    List.foldl (fun x1 x2 => x1 ++ x2) acc.toArray (List.replicate k its.toArray) = (acc ++ (List.replicate k its).flatten).toArray
  | 0, acc => by simp
  | k + 1, acc => by
    have e : acc.toArray ++ its.toArray = (acc ++ its).toArray := by simp
    have e2 : (acc ++ its) ++ (List.replicate k its).flatten = acc ++ (List.replicate (k + 1) its).flatten := by
      rw [List.replicate_succ, List.flatten_cons, List.append_assoc]
    rw [← e2, ← foldl_rep its k (acc ++ its), ← e, List.replicate_succ, List.foldl_cons]

section
variable {X : Cx} {pins : List (Addr × Obj)} {σ : St} {H : Hp} {s : Shared} {l b : Addr} {xs ys zs : List V}

/-! ### the two steps: a tracked list is rewritten, a new list is laid -/
theorem Inv.lset {its its' : List Value} {n : Nat} {f : Array Value → Array Value} {t' : Nat} (I : Inv X pins σ H s) (hH : H l = some (.lst xs))
    (e : s.heap.get? l = some { cls := .type "list", data := .seq its.toArray n }) (hf : f its.toArray = its'.toArray) (hv : Vals ys its') (hz : ys.length ≤ sizeLine) :
    Inv X pins σ (upd H l (.lst ys)) { s with heap := s.heap.update l (Obj.mapSeq f), toks := t' } := by
  have q := PySem.IsL.update e f
  rw [hf] at q
  refine I.write (x := l) (e := l) (by rw [hH]; exact trivial) (.inl rfl) (fun b' u hb hu => (Heap.get?_update_other s.heap (Obj.mapSeq f) (Ne.symm hb)).trans hu) ⟨_, q⟩ ?_
  exact ⟨hz, its', _, hv, q⟩
theorem Inv.lnew {its : List Value} {t' : Nat} (I : Inv X pins σ H s) (hv : Vals ys its) (hz : ys.length ≤ sizeLine) :
    Inv X pins σ (upd H s.heap.objs.size (.lst ys)) { s with heap := s.heap.push { cls := .type "list", data := .seq its.toArray }, toks := t' } :=
  I.laid (fun _ _ q => Heap.get?_push_of_some _ q) (Nat.le_refl _) ⟨hz, its, 0, hv, Heap.get?_push_size _ rfl⟩
theorem Inv.fresh (I : Inv X pins σ H s) : H s.heap.objs.size = none := I.hok.fresh (Nat.le_refl _)
theorem Inv.lstM (I : Inv X pins σ H s) (hH : H l = some (.lst xs)) : xs.length ≤ sizeLine ∧ ∃ (its : List Value) (n : Nat), Vals xs its ∧ xs.length = its.length ∧ s.heap.get? l = some { cls := .type "list", data := .seq its.toArray n } := by
  obtain ⟨z, its, n, r, e⟩ := I.hok l _ hH
  exact ⟨z, its, n, r, r.length, e⟩

theorem notLongL {n : Nat} (h : n ≤ sizeLine) : Builtin.List.listTooLong n = false := by
  unfold Builtin.List.listTooLong
  exact decide_eq_false (by omega)
end

section
variable {X : Cx}

/-! ### methods -/
def rAppend : V → List V → Hp → VK → Prop := fun x vs H Q => ∃ l xs y, x = .ref l ∧ vs = [y] ∧ H l = some (.lst xs) ∧ xs.length < sizeLine ∧ Q .non (upd H l (.lst (xs ++ [y])))
theorem mt_append : MtM X "list.append" rAppend := by
  intro pins s σ H x vs v us Q I rx rv h
  obtain ⟨l, xs, y, rfl, rfl, hH, hz, q⟩ := h
  cases rx
  obtain ⟨u, rfl, ru⟩ := rv.one
  obtain ⟨z, its, n, r, hl, e⟩ := I.lstM hH
  refine call_meets F.slot_list_append ⟨_, e, rfl⟩ F.entry_list_append (F.args_list_append_2 _ _) (PySem.list_append l its.toArray n u (by rw [List.size_toArray]; omega)) ⟨e, ?_⟩
  refine ⟨.non, _, I.lset (its' := its ++ [u]) hH e (by simp) (r.append (.cons ru .nil)) ?_, rfl, q⟩
  rw [List.length_append, List.length_singleton]
  omega

/-! ### list + list, list += list, list * int -/
def rCat : R2 := fun x y H Q => ∃ l b xs zs, x = .ref l ∧ y = .ref b ∧ H l = some (.lst xs) ∧ H b = some (.lst zs) ∧ xs.length + zs.length ≤ sizeLine ∧ ∀ p, H p = none → Q (.ref p) (upd H p (.lst (xs ++ zs)))
theorem op_cat : OpR X (binaryOp .Add) rCat := by
  intro pins s σ H x y v u Q I rx ry h
  obtain ⟨l, b, xs, zs, rfl, rfl, hH, hB, hz, q⟩ := h
  cases rx
  cases ry
  obtain ⟨z, its, n, r, hl, e⟩ := I.lstM hH
  obtain ⟨z2, its2, n2, r2, hl2, e2⟩ := I.lstM hB
  refine PySem.P.add_list e e2 ?_ (by rw [List.size_toArray, List.size_toArray]; omega)
  have ea : its.toArray ++ its2.toArray = (its ++ its2).toArray := by simp
  rw [ea]
  exact ⟨.ref _, _, I.lnew (t' := s.toks) (r.append r2) (by rw [List.length_append]; omega), rfl, q _ I.fresh⟩
/-- a list times an int (a negative one is nothing) -/
def rRep : R2 := fun x y H Q => ∃ l k xs, x = .ref l ∧ y = .int k ∧ H l = some (.lst xs) ∧ -(2 ^ 63) ≤ k ∧ k < 2 ^ 63 ∧ xs.length * k.toNat ≤ sizeLine ∧
  ∀ p, H p = none → Q (.ref p) (upd H p (.lst (List.replicate k.toNat xs).flatten))
theorem len_rep {α : Type} (xs : List α) (k : Nat) : (List.replicate k xs).flatten.length = k * xs.length := by
  induction k with
  | zero => simp
  | succ k ih => rw [List.replicate_succ, List.flatten_cons, List.length_append, ih, Nat.succ_mul, Nat.add_comm]
theorem op_rep : OpR X (binaryOp .Mult) rRep := by
  intro pins s σ H x y v u Q I rx ry h
  obtain ⟨l, k, xs, rfl, rfl, hH, h1, h2, hz, q⟩ := h
  cases rx
  obtain ⟨t, rfl⟩ := ry
  obtain ⟨z, its, n, r, hl, e⟩ := I.lstM hH
  have hlen : its.toArray.size * k.toNat ≤ sizeLine := by rw [List.size_toArray, ← hl]; exact hz
  have hcap : ¬ its.toArray.size * k.toNat > (2 ^ 63 - 1) / 8 := by
    have : (sizeLine : Nat) ≤ (2 ^ 63 - 1) / 8 := by decide
    omega
  have hfit : ¬ (!Builtin.List.listFitsIndex k) = true := by
    rw [fitsIndex_both h1 h2]
    exact Bool.false_ne_true
  have hlong : ¬ Builtin.List.listTooLong (its.toArray.size * k.toNat) = true := by
    rw [notLongL hlen]
    exact Bool.false_ne_true
  have hnew : List.foldl (fun x1 x2 => x1 ++ x2) #[] (List.replicate (if its.toArray.isEmpty = true then 0 else k.toNat) its.toArray) = (List.replicate k.toNat its).flatten.toArray := by
    have f0 : ∀ m : Nat, List.foldl (fun x1 x2 => x1 ++ x2) #[] (List.replicate m its.toArray) = (List.replicate m its).flatten.toArray := fun m => by
      have := foldl_rep its m []
      rw [List.nil_append] at this
      exact this
    rw [f0]
    cases its with
    | nil => simp
    | cons a r' => rw [if_neg (by simp)]
  refine wpAny_binaryOp_repeat_ref (T := "list") (U := "int") (by decide) ⟨_, e, rfl⟩ (fun s' => typeIs_int s' k t) noFill_list_mul F.fills_int_mul F.slot_int_rmul repeat_list F.slot_int_index.lookup
    (call_meets F.slot_int_rmul (typeIs_int s k t) F.entry_int_rmul (F.args_int_rmul_2 _ _) (int___rmul___int_list k t l its.toArray n)
      ⟨e, rfl, ⟨_, e, rfl⟩, call_meets F.slot_list_mul ⟨_, e, rfl⟩ F.entry_list_mul (F.args_list_mul_2 _ _) (AutoListH.list___mul___list_int_3 l its.toArray n k t hfit hcap hlong) ⟨e, ?_⟩⟩)
  rw [hnew]
  exact ⟨.ref _, _, I.lnew (t' := s.toks) (r.rep k.toNat) (by rw [len_rep, Nat.mul_comm]; exact hz), rfl, q _ I.fresh⟩

/-! ### del xs[i] -/
end

/-! ### xs[a:b] = ys -/
section
variable {prog : Program} {w : World} {A : Around} {E : Value → Shared → Prop} {s : Shared}
set_option maxRecDepth 100000 in
end

section
variable {X : Cx}
end
end L2

namespace Att
open PySem PySem.W PySem.Calls PyProof.Rows

/-! ### the script -/
theorem ints_of_wellAll {P : Params} {h : Heap} : ∀ (ns : List Int) (vs : List Value), WellAll P h vs (ns.map WData.int) → IntsAre vs ns := by
  intro ns
  induction ns with
  | nil =>
    intro vs w
    rw [List.map_nil] at w
    cases w
    exact .nil
  | cons n ns ih =>
    intro vs w
    rw [List.map_cons] at w
    cases w with
    | cons a b =>
      cases a
      exact .cons _ _ (ih _ b)

theorem script_of {l : OpenLaw} {n : Nat} (hn : l.most = some n) {P : Params} {h : Heap} {args : List WData} {vals : List Value}
    (hpre : l.row.toRowW.claim.pre args = true) (hwl : WellAll P h vals args) :
    ∃ a vs ns, vals = [Value.ref a] ∧ args = [WData.list (ns.map WData.int)] ∧ h.get? a = some { cls := .type "list", data := .seq vs.toArray } ∧ IntsAre vs ns ∧ ns.length ≤ n := by
  have hsh : WShape.hasAll [] args [.list .int] = true := (pre_splitW hpre).1
  have hc : l.pre.holds [] { args := args } = true := (pre_splitW hpre).2
  obtain ⟨d, r, rfl, h1, h2⟩ := hasAllW_cons hsh
  obtain rfl := hasAllW_nil h2
  obtain ⟨xs, rfl, h3⟩ := hasW_list h1
  obtain ⟨ns, rfl⟩ := items_int h3
  have hlen : ns.length ≤ n := by
    unfold OpenLaw.pre at hc
    have h4 : (WTm.not (.lt (.lit (.int (n : Int))) (.len (.arg 0)))).holds [] { args := [.list (ns.map .int)] } = true := by
      have h4 := (holds_andW hc).1
      rw [hn] at h4
      exact h4
    have h5 := condW_of h4 (w_not (w_lt w_lit (w_len_list (w_arg rfl))))
    rw [List.length_map] at h5
    refine Nat.le_of_not_lt fun q => ?_
    have q' : (n : Int) < ((ns.length : Nat) : Int) := by omega
    first
      | (rw [decide_eq_true q'] at h5; exact absurd h5 (by decide))
      | (simp at h5; omega)
  cases hwl with
  | cons w1 w2 =>
    cases w2
    cases w1 with
    | list ho hall => exact ⟨_, _, ns, rfl, rfl, ho, ints_of_wellAll ns _ hall, hlen⟩

theorem post_true (l : OpenLaw) (args : List WData) : l.row.toRowW.claim.post args (.bool true) args = true :=
  postW_of (r := l.row.toRowW) (X := (true == true))
    (show WShape.has [] (.bool true) .bool = true by first | rfl | decide | simp [WShape.has, WShape.arms, WShape.armsAll])
    (show (WTm.eq .res (.lit (.bool true))).value [] { args := args, res := some (.bool true), after := args } = some (.bool (true == true)) from w_eq_bool (w_res rfl) w_lit) rfl

/-! ### the attachment: holds_open's last premise (the goal 'hc' behind k_head) from a wpAny of the law's body -/
/-- the same from a codeAny of the CALL (for a layer whose function contracts speak of calls) -/
theorem attach_call {l : OpenLaw} {n : Nat} {q : Program} {loose : List Str} {XP : (Str → Option Value) → Heap → Prop} {YP : World → Heap → Prop} {d : DefRec}
    (hn : l.most = some n) (hdf : d.params.defaults = [])
    (call : ∀ (w : World) (s₀ s₁ : Shared) (mg mb : Str → Option Value) (fa : Addr) (o : Obj) (pm cd doc : Value) (a : Addr) (vs : List Value) (ns : List Int),
      Ground q loose [] XP w s₀ mg mb s₁.heap → YP w s₁.heap →
      s₁.heap.get? fa = some o → o.data = .func (docDef d.name d.params d.body d.scope pm cd doc) → s₁.heap.CodeRec cd d.name → mg d.name = some (.ref fa) →
      s₁.heap.get? a = some { cls := .type "list", data := .seq vs.toArray } → IntsAre vs ns → ns.length ≤ n → s₁.gens = #[] →
      codeAny (model l.prog w) callerA (.call (.ref fa) ⟨[.ref a], []⟩) (fun r s' => r = .ok (.ret (.bool true)) ∧ OldK s₁.heap s'.heap ∧ s'.os = s₁.os ∧ AllBare s'.gens) s₁) :
    WalkO q loose XP YP l.row.toRowW d [] (fun f vs => PySem.call f vs) := by
  intro w s₀ s₁ mg mb G Y fa o pm cd doc dV kV ho hd hcd hD hmg hg args vals as hpre hlay hrd hwl hlo
  obtain rfl : dV = .none := Dflts.none hD hdf
  obtain rfl : kV = .none := Dflts.noKw hD
  obtain ⟨a, vs, ns, rfl, rfl, hobj, hints, hlen⟩ := script_of hn hpre hwl
  refine enter_call (codeAny_mono (call w s₀ s₁ mg mb fa o pm cd doc a vs ns G Y ho (fd_plain hd) hcd hmg hobj hints hlen hg) fun r s' hq => ?_)
  obtain ⟨rfl, h2, h3, h4⟩ := hq
  exact ⟨.inl ⟨.bool true, .bool true, [], rfl, fun _ => rfl, .bool true, post_true l _, fun _ => ⟨List.Pairwise.nil, fun _ hm => (nomatch hm)⟩⟩, h2, h3, h4⟩

/-! ### rules over ANY heap (no ledger) from facts about the written part K: the library's own take a ledger (News) for what they write -/
section
variable {prog : Program} {w : World} {A : Around} {E : Value → Shared → Prop} {s : Shared} {K : Frag}

/-! the whole heap as the ledger: makes every rule that writes through a ledger a rule over any heap -/
def ledger (h : Heap) (L d : Addr) : List (Addr × Obj) := (List.range h.objs.size).filterMap fun a => if a = L ∨ a = d then none else (h.get? a).map fun o => (a, o)
end
end Att

namespace L2
open PySem PySem.Spec PyProof.Rows

theorem vals_ints : ∀ {vs : List Value} {ns : List Int}, IntsAre vs ns → Vals (ns.map V.int) vs
  | _, _, .nil => .nil
  | _, _, .cons n t h => .cons ⟨t, rfl⟩ (vals_ints h)

/-- nothing is tracked but the script, known to the object (or it is an object of the module) -/
def Only (H : Hp) : Prop := ∀ b, H b = none ∨ ∃ o xs, H b = some (.frz o (.lst xs))

/-- THE HEAD: the law's promise, at the heap behind the top. F, the promise of the law's def, may use that base is part of the heap (so K.In base, base.Ns mainGlobals mg stand in Mod) -/
theorem law_call {P : Program} {w : World} {K : PySem.W.Frag} {mg mb : Str → Option Value} {CX : CXT} {k : Nat} {fa a : Addr} {fd : FuncData} {x : Str} {sp : Sp} {s₁ : Shared} {vs : List Value} {ns : List Int}
    (KX : K.In s₁.heap) (hns : s₁.heap.Ns mainGlobals mg) (hb : s₁.heap.Ns builtinsNs mb) (hbb : ∀ x : Str, x ≠ "__name__" → mb x = bootBuiltins x) (hlim : s₁.heap.NoLimit) (hg : s₁.gens = #[])
    (ha : s₁.heap.get? a = some { cls := .type "list", data := .seq vs.toArray }) (hi : IntsAre vs ns) (hl : ns.length ≤ sizeLine) (hr : Room k callerA)
    (F : ∀ base : Heap, K.In base → base.Ns mainGlobals mg → FnOk P w K mg base CX k fa fd [x] sp) (hbind : ∀ (s : Shared) (u : Value), BindsTo s fd ⟨[u], []⟩ [(x, u)])
    (hsp : ∀ H : Hp, Only H → SqL K H a (ns.map V.int) → sp [.ref a] H (fun v _ => v = .bl true) fun _ _ _ => False)
    (hCX : ∀ H e s', CX [] H s₁ (fun _ _ _ => False) e s' → False) :
    codeAny (model P w) callerA (.call (.ref fa) ⟨[.ref a], []⟩) (fun r s' => r = .ok (.ret (.bool true)) ∧ OldK s₁.heap s'.heap ∧ s'.os = s₁.os ∧ AllBare s'.gens) s₁ := by
  have rv := vals_ints hi
  have lenV := hi.length
  -- from an abstract heap in which nothing but the script may be tracked
  have core : ∀ H : Hp, Only H → SqL K H a (ns.map V.int) → HOk P w H s₁.heap → (∀ b, H b ≠ none → b = a) → (H a ≠ none → K.lookup a = none) →
      codeAny (model P w) callerA (.call (.ref fa) ⟨[.ref a], []⟩) (fun r s' => r = .ok (.ret (.bool true)) ∧ OldK s₁.heap s'.heap ∧ s'.os = s₁.os ∧ AllBare s'.gens) s₁ := by
    intro H hO hS hok hA hK
    have base_of : ∀ {b : Addr} {o : Obj}, s₁.heap.get? b = some o → H b = none → (hidT s₁.heap H).get? b = some o := fun e n => hidT_get e n
    have noA : ∀ {b : Addr} {o : Obj} {es : Array DictEntry} {ep : Nat}, s₁.heap.get? b = some o → o.data = .dict es ep → H b = none := fun {b o es ep} e d => by
      cases q : H b with
      | none => rfl
      | some u =>
        have e' : b = a := hA b (by rw [q]; simp)
        subst e'
        rw [ha] at e; cases e
        have d' : Data.seq vs.toArray _ = Data.dict es ep := d
        cases d'
    have nsK : ∀ {b : Addr} {m : Str → Option Value}, s₁.heap.Ns b m → (hidT s₁.heap H).Ns b m := fun {b m} ⟨o, es, ep, e, d, r⟩ => ⟨o, es, ep, base_of e (noA e d), d, r⟩
    have hKb : K.In (hidT s₁.heap H) := fun b o e => base_of (KX b o e) (by
      cases q : H b with
      | none => rfl
      | some u =>
        have e' : b = a := hA b (by rw [q]; simp)
        subst e'
        rw [hK (by rw [q]; simp)] at e; cases e)
    have hM : Mod K mg (hidT s₁.heap H) := ⟨hKb, nsK hns, ⟨mb, nsK hb, hbb⟩, let ⟨mc, h1, h2⟩ := hlim; ⟨mc, nsK h1, h2⟩⟩
    have e0 : Env0 P w K mg (hidT s₁.heap H) callerA [] s₁ H := ⟨rfl, hM, fun b o e => of_hidT e, Nat.le_of_eq (hidT_size _ _), trivial, fun b hb => absurd (show b ∈ ([] : List Addr) from hb) (by simp), hok, .of_eq hg⟩
    refine codeAny_mono ((F _ hKb (nsK hns)).run callerA [] s₁ H ⟨[.ref a], []⟩ [.ref a] [.ref a] _ _ hr e0 (hbind s₁ (.ref a)) (.cons rfl .nil) (hsp H hO hS)) fun r s' h => ?_
    cases r with
    | error e => exact (hCX H e s' h).elim
    | ok fl =>
      cases fl with
      | next => exact False.elim h
      | brk => exact False.elim h
      | cont => exact False.elim h
      | ret u =>
        obtain ⟨v, H', os, bare, un, hok', r', q⟩ := h
        have q' : v = .bl true := q
        subst q'
        obtain rfl : u = Value.bool true := r'
        refine ⟨rfl, OldK.of_keep fun b o e => ?_, os, bare⟩
        cases q : H b with
        | none => exact un.keep b o e q (by intro z; exact absurd (show b ∈ ([] : List Addr) from z) (by simp)) (by simp)
        | some u =>
          rcases hO b with z | ⟨ob, xs, z⟩
          · rw [q] at z; cases z
          · have z2 := un.frzs b ob _ z
            obtain ⟨e1, _⟩ := hok b _ z
            obtain ⟨e2, _⟩ := hok' b _ z2
            rw [e] at e1; cases e1
            exact e2
  cases hk : K.lookup a with
  | some o =>
    -- the script is one of the module's own objects
    have e := KX a o hk
    rw [ha] at e
    cases e
    refine core (fun _ => none) (fun _ => .inl rfl) (.inr ⟨_, vs.toArray, _, hk, rfl, rfl, rfl, by rw [List.size_toArray, lenV]; exact hl, by simpa using rv⟩) (fun b u z => by have z' : (none : Option HO) = some u := z; cases z') (fun b z => absurd rfl z) fun z => absurd rfl z
  | none =>
    refine core (fun b => if b = a then some (.frz { cls := .type "list", data := .seq vs.toArray } (.lst (ns.map V.int))) else none) (fun b => ?_) (.inl (.inr ⟨{ cls := .type "list", data := .seq vs.toArray }, if_pos rfl⟩)) (fun b u z => ?_) (fun b z => ?_) fun _ => hk
    · by_cases hb : b = a
      · exact .inr ⟨_, _, if_pos hb⟩
      · exact .inl (if_neg hb)
    · by_cases hb : b = a
      · have z' := (if_pos hb).symm.trans z
        cases z'
        subst hb
        exact ⟨ha, by rw [List.length_map]; exact hl, vs, _, rv, ha⟩
      · have z' := (if_neg hb).symm.trans z
        cases z'
    · by_cases hb : b = a
      · exact hb
      · exact absurd (if_neg hb) z
end L2

namespace L2
open PySem PySem.Spec PyProof.Rows

abbrev KOf {K : PySem.W.Frag} {h : Heap} (_ : K.In h) : PySem.W.Frag := K

/-- the goal that k_head leaves (case hc), from the law's promise. F gives the function object fd (K's own) once, then the promise over every base -/
theorem walk_of {l : PySem.W.OpenLaw} {n k : Nat} {q : Program} {loose : List Str} {XP : (Str → Option Value) → Heap → Prop} {YP : World → Heap → Prop} {d : DefRec} {K : Params → PySem.W.Frag} {CX : World → CXT} {sp : World → Sp} {x : Str}
    (hn : l.most = some n) (hn2 : n ≤ sizeLine) (hdf : d.params.defaults = []) (hr : Room k callerA)
    (hY : ∀ (w : World) (h : Heap), YP w h → (K w.params).In h)
    (F : ∀ (w : World) (mg : Str → Option Value) (fa : Addr) (h : Heap), (K w.params).In h → h.Ns mainGlobals mg → mg d.name = some (.ref fa) →
      ∃ fd : FuncData, (∀ (s : Shared) (u : Value), BindsTo s fd ⟨[u], []⟩ [(x, u)]) ∧
        ∀ base : Heap, (K w.params).In base → base.Ns mainGlobals mg → FnOk l.prog w (K w.params) mg base (CX w) k fa fd [x] (sp w))
    (hsp : ∀ (w : World) (H : Hp) (a : Addr) (ns : List Int), ns.length ≤ n → Only H → SqL (K w.params) H a (ns.map V.int) → sp w [.ref a] H (fun v _ => v = .bl true) fun _ _ _ => False)
    (hCX : ∀ (w : World) (H : Hp) (s : Shared) (e : Value) (s' : Shared), CX w [] H s (fun _ _ _ => False) e s' → False) :
    PySem.W.WalkO q loose XP YP l.row.toRowW d [] (fun f vs => PySem.call f vs) := by
  refine Att.attach_call hn hdf fun w s₀ s₁ mg mb fa o pm cd doc a vs ns G Y ho hd hcd hmg hobj hints hlen hg => ?_
  have KX := hY w _ Y
  obtain ⟨fd, hb, hF⟩ := F w mg fa _ KX G.T.g hmg
  exact law_call KX G.T.g G.T.b G.T.builtins G.T.nolimit hg hobj hints (Nat.le_trans hlen hn2) hr hF hb (fun H hO hS => hsp w H a ns hlen hO hS) fun H e s' => hCX w H s₁ e s'
end L2


/-! SHORT WORDS over the layer: a def of the text, its body, what a loop and a test want. -/
namespace L2
open PySem PySem.Spec PyProof.Rows

/-! ### the text by places -/
def defArgs (s : Stmt) : Arguments := match s with
  | .FunctionDef _ a _ _ _ _ _ _ _ _ => a
  | _ => { posonlyargs := [], args := [], vararg := none, kwonlyargs := [], kw_defaults := [], kwarg := none, defaults := [] }
def defBody (s : Stmt) : List Stmt := match s with
  | .FunctionDef _ _ b _ _ _ _ _ _ _ => b
  | _ => []
def defScope (s : Stmt) : Scope := match s with
  | .FunctionDef _ _ _ _ _ _ sc _ _ _ => sc
  | _ => { kind := .function, names := [], isGenerator := false, isCoroutine := false }

/-! ### no exception leaves a def -/
abbrev CX0 : CXT := fun _ _ _ _ _ _ => False
abbrev E0 : XK := fun _ _ _ => False
/-! ### a def (or method) of the text as it stands behind the top -/
structure Fun (K : PySem.W.Frag) (x qual : Str) (st : Stmt) (f : Addr) (fd : FuncData) : Prop where
  ex : ∃ (oc : Value) (od : Option Addr) (kV doc pm : Value) (an : Option Addr) (cdv ct : Value) (osl : Array (Option Value)),
    fd = PySem.W.fnOf x qual (defArgs st) (defBody st) (defScope st) .none kV doc pm an cdv ct ∧ K.lookup f = some ⟨oc, od, .func fd, osl⟩ ∧ PySem.W.codeIn K cdv qual = true
  kp : PySem.W.keepIn K (.ref f) = true
section
variable {P : Program} {w : World} {K : PySem.W.Frag} {mg : Str → Option Value} {base : Heap}
/-- THE RULE for a def: its body as a term of rules, and the reading of that term -/
theorem Fun.ok {x qual : Str} {st : Stmt} {f : Addr} {fd : FuncData} {N ps : List Str} {k : Nat} {sp : Sp} (F : Fun K x qual st f fd) (S : FnScope N ps (defScope st)) (len : ∀ vs H Q E, sp vs H Q E → vs.length = ps.length)
    (hbody : ∀ (cdv : Value) (A : Around) (outer : List Env) (s : Shared) (H : Hp) (vs : List V) (Q : VK) (E : XK), Room k (A.deeper (envOfC qual (defScope st) s.heap.objs.size f cdv)) → sp vs H Q E →
      ∃ t, PSs (cxOf CX0 P w K mg base N qual (defScope st) f cdv A outer s H E).nox (defBody st) t ∧ t { nx := fun _ H' => Q .non H', rt := Q } (start N vs) H) : FnOk P w K mg base CX0 (k + 1) f fd ps sp := by
  obtain ⟨oc, od, kV, doc, pm, an, cdv, ct, osl, rfl, lk, hcd⟩ := F.ex
  refine fn_of lk hcd S len fun A outer s H vs Q E hr hsp => ?_
  obtain ⟨t, h, q⟩ := hbody cdv A outer s H vs Q E hr hsp
  exact ⟨t, h.nox, q⟩
/-- how its arguments bind (no defaults): h is «fun _ _ _ _ _ _ us hl => match us, hl with | [_, _], _ => rfl», one _ a parameter -/
theorem Fun.binds {x qual : Str} {st : Stmt} {f : Addr} {fd : FuncData} {ps : List Str} (F : Fun K x qual st f fd)
    (h : ∀ (kV doc pm : Value) (an : Option Addr) (cdv ct : Value) (us : List Value), us.length = ps.length → bindArgs (PySem.W.fnOf x qual (defArgs st) (defBody st) (defScope st) .none kV doc pm an cdv ct) ⟨us, []⟩ = pure (ps.zip us)) : Binds K fd ps [] := by
  obtain ⟨oc, od, kV, doc, pm, an, cdv, ct, osl, rfl, lk, hcd⟩ := F.ex
  exact .all (h kV doc pm an cdv ct)
theorem fun_mk {x qual : Str} {st : Stmt} {f : Addr} {oc : Value} {od an : Option Addr} {osl : Array (Option Value)} {kV doc pm cdv ct : Value} (l : K.lookup f = some ⟨oc, od, .func (PySem.W.fnOf x qual (defArgs st) (defBody st) (defScope st) .none kV doc pm an cdv ct), osl⟩)
    (c : PySem.W.codeIn K cdv qual = true) (k : PySem.W.keepIn K (.ref f) = true) : Fun K x qual st f (PySem.W.fnOf x qual (defArgs st) (defBody st) (defScope st) .none kV doc pm an cdv ct) := ⟨⟨oc, od, kV, doc, pm, an, cdv, ct, osl, rfl, l, c⟩, k⟩
end
theorem hu_of {A : Around} {k : Nat} (hr : Room k A) : A.units + 1 < cLine := Nat.lt_of_le_of_lt (Nat.add_le_add_left (by decide : 1 ≤ 64) _) hr.units
theorem small1000 {n : Nat} (h : n ≤ 1000) : n < sizeLine := Nat.lt_of_le_of_lt h (by decide)

/-! ### expressions in short: the name that stands in the i-th slot -/
section
variable {X : Cx}
end

/-! ### tests -/
theorem iteF {A B : Prop} (h : B) : if false = true then A else B := by
  rw [if_neg Bool.false_ne_true]
  exact h
theorem iteT {A B : Prop} (h : A) : if true = true then A else B := by
  rw [if_pos rfl]
  exact h
theorem ite2 {c A B : Prop} [Decidable c] (h1 : c → A) (h2 : ¬ c → B) : if c then A else B := by
  by_cases h : c
  · rw [if_pos h]
    exact h1 h
  · rw [if_neg h]
    exact h2 h
/-! ### heaps -/
/-- all that was tracked is as it was -/
def Same (H H' : Hp) : Prop := ∀ b o, H b = some o → H' b = some o
theorem Same.refl (H : Hp) : Same H H := fun _ _ h => h
theorem Same.trans {H H1 H2 : Hp} (a : Same H H1) (b : Same H1 H2) : Same H H2 := fun c o h => b c o (a c o h)
theorem Same.free {H H' : Hp} (e : Same H H') {l : Addr} (h : H' l = Option.none) : H l = Option.none := by
  cases q : H l with
  | none => rfl
  | some o =>
    rw [e l o q] at h
    cases h
theorem Same.seq {K : PySem.W.Frag} {H H' : Hp} {a : Addr} {xs : List V} (e : Same H H') (h : SqL K H a xs) : SqL K H' a xs := by
  rcases h with (h | ⟨o, h⟩) | h
  · exact .inl (.inl (e _ _ h))
  · exact .inl (.inr ⟨o, e _ _ h⟩)
  · exact .inr h

end L2

-- CHANGE: your row's module here, as the last of these rows
set_option Elab.async false
set_option linter.all false
set_option maxRecDepth 100000
/-! THE HAND LAYER, for ints, bools, texts, own classes, DICTS (int and text keys), calls, loops. Paste it whole ahead of your own text; what your proof does not reach may be deleted. -/
namespace L2
open PySem PySem.Spec PyProof.Rows

end L2

namespace L2
open PySem PySem.Spec PyProof.Rows

section
variable (P : Program) (w : World)
end

section
variable {P : Program} {w : World} {H H' : Hp} {h h' : Heap} {a : Addr} {o : HO}
end

section
variable {P : Program} {w : World} {H : Hp} {h h' : Heap} {x e : Addr} {o' : HO}
end

/-! ### kept unless tracked; of the frames at fs (the callers') the slots may change (an exception that passes writes there); of the records at ex (iterators) nothing is said -/
section
variable {fs fs' ex ex' : List Addr} {H H1 H2 : Hp} {h h1 h2 h' : Heap} {a x e : Addr} {o : HO}
end

/-! ### the heap without what is tracked -/
/-! ### OpenK's ledger, filled with every new object but one -/
end L2

namespace L2
open PySem PySem.Spec PyProof.Rows

section
variable {X : Cx} {pins : List (Addr × Obj)} {σ : List (Option V)} {H H' : Hp} {s : Shared} {h' : Heap}

end

/-! ### the judgements -/
end L2

namespace L2
open PySem PySem.Spec PyProof.Rows
section
variable {X : Cx}

/-! ### names and constants -/
/-! ### arithmetic -/
variable {a b : Expr} {ta tb : TE} {pos : Pos}
/-! ### comparisons -/
/-! ### and, or, not -/
variable {tA tB' : TT} {rest : List Expr}
end
end L2

namespace L2
open PySem PySem.Spec PyProof.Rows

/-! ### a list, a tuple that is read: tracked, frozen, or an object of the module -/
section
variable {X : Cx} {pins : List (Addr × Obj)} {σ : St} {H : Hp} {s : Shared} {a : Addr} {xs ys : List V}
end

/-! ### another wish about exceptions -/
section
variable {X : Cx} {pins : List (Addr × Obj)} {σ : St} {H : Hp} {s : Shared} {E : Value → Shared → Prop}
end

/-! ### blocks and small statements -/
section
variable {X : Cx} {st : Stmt} {rest : List Stmt} {t u : TS} {e : Expr} {te : TE} {pos : Pos}
end

/-! ### targets -/
section
variable {X : Cx} {pos : Pos}
end

/-! ### while -/
section
variable {X : Cx} {pos : Pos}
end

/-! ### what a loop or a comprehension walks -/
end L2

namespace L2
open PySem PySem.Spec PyProof.Rows
section
variable {X : Cx} {tg : Expr}
/-! ### for -/
end

/-! ### the forms one uses -/
end L2

namespace L2
open PySem PySem.Spec PyProof.Rows

section
variable {X : Cx} {a b c : Expr} {ta tb tc : TE} {pos : Pos}

/-! ### ints -/
/-! ### bools among ints: n += (a < b) -/
end

/-! ### comparisons -/
section
variable {X : Cx} {a b c : Expr} {ta tb tc : TE} {pos : Pos}
/-! ### truth -/
/-! ### strs and bytes -/
/-! ### scalar builtins, by CallR -/
end
end L2

namespace L2
open PySem PySem.Spec PyProof.Rows

/-! ### an instance, its attributes a map -/
section
variable {prog : Program} {w : World} {A : Around} {E : Value → Shared → Prop} {s : Shared} {K : PySem.W.Frag} {x dx C f : Addr} {mA : Str → Option Value} {name : Str} {v : Value}

end

/-! ### the attributes as a list of pairs -/
section
variable {P : Program} {w : World} {H H' : Hp} {h h' : Heap} {a C dx : Addr} {fs fs' : List (Str × V)}
end

/-! ### what of the text a class must have -/
section
variable {X : Cx} {pins : List (Addr × Obj)} {σ : St} {H : Hp} {s : Shared} {a C dx : Addr} {fs : List (Str × V)} {f : Str} {v : V} {A : Around} {E : Value → Shared → Prop}

end

/-! ### readings and rules -/
section
variable {X : Cx} {o e value : Expr} {f : Str} {pos pos' tpos : Pos} {ta tv : TE}
end

/-! ### isinstance -/
section
variable {X : Cx} {pins : List (Addr × Obj)} {σ : St} {H : Hp} {s : Shared} {A : Around} {E : Value → Shared → Prop} {Q : Value → Shared → Prop} {c : Value} {b : Bool}
end
end L2

namespace L2
open PySem PySem.Spec PyProof.Rows

/-! ### room -/
/-! ### argument lists and displays -/
section
variable {X : Cx} {e : Expr} {es : List Expr} {te : TE} {t : TA} {pos : Pos}
end

/-! ### what a def promises -/
section
variable {X : Cx} {pins : List (Addr × Obj)} {σ : St} {H : Hp} {s s' : Shared}
end

/-! ### calls -/
section
variable {X : Cx} {CX : CXT} {k : Nat} {f C : Addr} {fd : FuncData} {ps : List Str} {sp : Sp} {dvs : List V} {ds : List Value} {E : XK} {x m : Str} {p pos apos : Pos} {e o : Expr} {es : List Expr} {ta : TE} {t : TA}

end

/-! ### keywords -/
section
variable {X : Cx} {CX : CXT} {k : Nat} {f C : Addr} {fd : FuncData} {ps ks : List Str} {sp : Sp} {E : XK} {x m : Str} {p pos apos kpos : Pos} {e o : Expr} {es : List Expr} {kws : List Keyword} {te ta : TE} {t tk : TA} {nm : Option Str}
variable {g : List Value → List Value → List Value} {gV : List V → List V → List V}
end

/-! ### a def's body keeps its promise -/
end L2

namespace L2
open PySem PySem.Spec PyProof.Rows
section
variable {X : Cx} {x : Str} {p pos : Pos} {e : Expr} {es : List Expr} {t : TA} {id T : String} {r : List V → Hp → VK → Prop}

end
end L2

namespace L2
open PySem PySem.Spec PyProof.Rows

/-! ### lists of pairs as tables -/
section
variable {κ : Type} [DecidableEq κ]
def valV (kvs : List (κ × V)) (k : κ) : Option V := (kvs.find? fun kv => decide (kv.1 = k)).map (·.2)
/-- in its place, or at the end -/
def putK (kvs : List (κ × V)) (k : κ) (v : V) : List (κ × V) :=
  if (kvs.any fun kv => decide (kv.1 = k)) = true then kvs.map (fun kv => if kv.1 = k then (kv.1, v) else kv) else kvs ++ [(k, v)]
def dropK (kvs : List (κ × V)) (k : κ) : List (κ × V) := kvs.filter fun kv => decide (kv.1 ≠ k)

theorem valV_pos {p : κ × V} {r : List (κ × V)} {k : κ} (e : p.1 = k) : valV (p :: r) k = some p.2 := by simp [valV, List.find?_cons, e]
theorem valV_neg {p : κ × V} {r : List (κ × V)} {k : κ} (e : ¬ p.1 = k) : valV (p :: r) k = valV r k := by simp [valV, List.find?_cons, e]
theorem valV_any (k : κ) : ∀ kvs : List (κ × V), (kvs.any fun kv => decide (kv.1 = k)) = (valV kvs k).isSome
  | [] => rfl
  | p :: r => by
    rw [List.any_cons]
    by_cases e : p.1 = k
    · simp only [valV_pos e, decide_eq_true e, Bool.true_or, Option.isSome_some]
    · rw [valV_neg e, decide_eq_false e, Bool.false_or]; exact valV_any k r
theorem RelO.isSome_eq {o : Option V} {u : Option Value} (r : RelO o u) : o.isSome = u.isSome := by
  cases o with
  | none => cases u with
    | none => rfl
    | some _ => exact (show False from r).elim
  | some _ => cases u with
    | none => exact (show False from r).elim
    | some _ => rfl
theorem RelO.getD {o : Option V} {u : Option Value} {d : V} {d' : Value} (r : RelO o u) (rd : RelV d d') : RelV (o.getD d) (u.getD d') := by
  cases o with
  | none => cases u with
    | none => exact rd
    | some _ => exact (show False from r).elim
  | some _ => cases u with
    | none => exact (show False from r).elim
    | some _ => exact r

/-- raw tables of the same keys -/
theorem KV.val {kvs : List (κ × V)} {vs : List (κ × Value)} (r : KV kvs vs) (k : κ) : RelO (valV kvs k) (valueAt vs k) := by
  unfold KV at r
  induction r with
  | nil => exact True.intro
  | @cons p q ps qs h t ih =>
    obtain ⟨h1, h2⟩ := h
    by_cases e : p.1 = k
    · have e' : q.1 = k := h1.symm.trans e
      have b : valueAt (q :: qs) k = some q.2 := by simp [valueAt, List.find?_cons, e']
      rw [valV_pos e, b]; exact h2
    · have e' : ¬ q.1 = k := fun z => e (h1.trans z)
      have b : valueAt (q :: qs) k = valueAt qs k := by simp [valueAt, List.find?_cons, e']
      rw [valV_neg e, b]; exact ih
theorem KV.any {kvs : List (κ × V)} {vs : List (κ × Value)} (r : KV kvs vs) (k : κ) : (kvs.any fun kv => decide (kv.1 = k)) = vs.any fun kv => decide (kv.1 = k) := by
  unfold KV at r
  induction r with
  | nil => rfl
  | cons h t ih => rw [List.any_cons, List.any_cons, ih, h.1]
theorem KV.repl {kvs : List (κ × V)} {vs : List (κ × Value)} (r : KV kvs vs) (k : κ) {y : V} {u : Value} (ry : RelV y u) :
    KV (kvs.map fun kv => if kv.1 = k then (kv.1, y) else kv) (vs.map fun kv => if kv.1 = k then (kv.1, u) else kv) := by
  unfold KV at r ⊢
  induction r with
  | nil => exact .nil
  | @cons p q ps qs h t ih =>
    rw [List.map_cons, List.map_cons]
    refine .cons ?_ ih
    obtain ⟨h1, h2⟩ := h
    by_cases e : p.1 = k
    · rw [if_pos e, if_pos (h1.symm.trans e)]; exact ⟨h1, ry⟩
    · rw [if_neg e, if_neg (fun z => e (h1.trans z))]; exact ⟨h1, h2⟩
theorem KV.put {kvs : List (κ × V)} {vs : List (κ × Value)} (r : KV kvs vs) (k : κ) {y : V} {u : Value} (ry : RelV y u) : KV (putK kvs k y) (stored vs k u) := by
  unfold putK stored
  rw [r.any k]
  by_cases e : (vs.any fun kv => decide (kv.1 = k)) = true
  · rw [if_pos e, if_pos e]; exact r.repl k ry
  · rw [if_neg e, if_neg e]; exact Paired.snoc r ⟨rfl, ry⟩
theorem KV.drop {kvs : List (κ × V)} {vs : List (κ × Value)} (r : KV kvs vs) (k : κ) : KV (dropK kvs k) (without vs k) := by
  unfold KV at r ⊢
  unfold dropK without
  induction r with
  | nil => exact .nil
  | @cons p q ps qs h t ih =>
    obtain ⟨h1, h2⟩ := h
    rw [List.filter_cons, List.filter_cons]
    by_cases e : p.1 = k
    · have a : ¬ decide (p.1 ≠ k) = true := by simp [e]
      have b : ¬ decide (q.1 ≠ k) = true := by simp [h1.symm.trans e]
      rw [if_neg a, if_neg b]; exact ih
    · have e' : ¬ q.1 = k := fun z => e (h1.trans z)
      have a : decide (p.1 ≠ k) = true := by simp [e]
      have b : decide (q.1 ≠ k) = true := by simp [e']
      rw [if_pos a, if_pos b]; exact .cons ⟨h1, h2⟩ ih
theorem KV.keys {kvs : List (κ × V)} {vs : List (κ × Value)} (r : KV kvs vs) : kvs.map (·.1) = vs.map (·.1) := by
  unfold KV at r
  induction r with
  | nil => rfl
  | cons h t ih => rw [List.map_cons, List.map_cons, ih, h.1]
theorem KV.length {kvs : List (κ × V)} {vs : List (κ × Value)} (r : KV kvs vs) : kvs.length = vs.length := Paired.length r
end


/-! ### a tracked dict, its keys ints and texts or tuples of these -/
/-- raw entries of a dict with tuple keys -/
abbrev KT (H : Hp) : List (List Key × V) → List (List Key × Addr × Value) → Prop := Paired fun p q => p.1 = q.1 ∧ H q.2.1 = some (.tup (p.1.map kV)) ∧ RelV p.2 q.2.2
theorem KT.val {H : Hp} {kvs : List (List Key × V)} {xs : List (List Key × Addr × Value)} (r : KT H kvs xs) (k : List Key) : RelO (valV kvs k) ((atKey xs k).map (·.2)) := by
  induction r with
  | nil => exact True.intro
  | @cons p q ps qs h t ih =>
    obtain ⟨h1, _, h2⟩ := h
    by_cases e : p.1 = k
    · have e' : q.1 = k := h1.symm.trans e
      have b : atKey (q :: qs) k = some q.2 := by simp [atKey, List.find?_cons, e']
      rw [valV_pos e, b]; exact h2
    · have e' : ¬ q.1 = k := fun z => e (h1.trans z)
      have b : atKey (q :: qs) k = atKey qs k := by simp [atKey, List.find?_cons, e']
      rw [valV_neg e, b]; exact ih
theorem KT.repl {H : Hp} {kvs : List (List Key × V)} {xs : List (List Key × Addr × Value)} (r : KT H kvs xs) (k : List Key) {y : V} {u : Value} (ry : RelV y u) :
    KT H (kvs.map fun kv => if kv.1 = k then (kv.1, y) else kv) (xs.map (putAt k u)) := by
  induction r with
  | nil => exact .nil
  | @cons p q ps qs h t ih =>
    rw [List.map_cons, List.map_cons]
    refine .cons ?_ ih
    obtain ⟨h1, h2, h3⟩ := h
    unfold putAt
    by_cases e : p.1 = k
    · rw [if_pos e, if_pos (h1.symm.trans e)]; exact ⟨h1, h2, ry⟩
    · rw [if_neg e, if_neg (fun z => e (h1.trans z))]; exact ⟨h1, h2, h3⟩
theorem KT.put {H : Hp} {kvs : List (List Key × V)} {xs : List (List Key × Addr × Value)} (r : KT H kvs xs) (k : List Key) {b : Addr} {y : V} {u : Value} (hb : H b = some (.tup (k.map kV))) (ry : RelV y u) :
    KT H (putK kvs k y) (storedH xs k b u) := by
  have e : (kvs.any fun kv => decide (kv.1 = k)) = (atKey xs k).isSome := by
    rw [valV_any, (r.val k).isSome_eq, Option.isSome_map]
  unfold putK storedH
  rw [e]
  by_cases q : (atKey xs k).isSome = true
  · rw [if_pos q, if_pos q]; exact r.repl k ry
  · rw [if_neg q, if_neg q]; exact Paired.snoc r ⟨rfl, hb, ry⟩
theorem KT.keeps {H H' : Hp} {kvs : List (List Key × V)} {xs : List (List Key × Addr × Value)} (r : KT H kvs xs) (ht : ∀ b ys, H b = some (.tup ys) → H' b = some (.tup ys)) : KT H' kvs xs :=
  Paired.mapP r fun _ _ z => ⟨z.1, ht _ _ z.2.1, z.2.2⟩

section
variable {P : Program} {w : World} {H : Hp} {h : Heap} {a : Addr}
end

/-- what the dict at a holds at the key y -/
def DGet (H : Hp) (a : Addr) (y : V) (r : Option V) : Prop :=
  (∃ kvs k, Rd H a (.dK kvs) ∧ y = kV k ∧ r = valV kvs k) ∨ ∃ kvs k b, Rd H a (.dT kvs) ∧ y = .ref b ∧ H b = some (.tup (k.map kV)) ∧ r = valV kvs k
/-- the heap behind a[y] = v -/
def DPut (H : Hp) (a : Addr) (y v : V) (H' : Hp) : Prop :=
  (∃ kvs k, H a = some (.dK kvs) ∧ y = kV k ∧ kvs.length < sizeLine ∧ H' = upd H a (.dK (putK kvs k v))) ∨
  ∃ kvs k b, H a = some (.dT kvs) ∧ y = .ref b ∧ H b = some (.tup (k.map kV)) ∧ kvs.length < sizeLine ∧ H' = upd H a (.dT (putK kvs k v))
theorem DGet.k {H : Hp} {a : Addr} {kvs : List (Key × V)} {k : Key} (e : H a = some (.dK kvs)) : DGet H a (kV k) (valV kvs k) := .inl ⟨kvs, k, .inl e, rfl, rfl⟩
theorem DGet.t {H : Hp} {a b : Addr} {kvs : List (List Key × V)} {k : List Key} (e : H a = some (.dT kvs)) (eb : H b = some (.tup (k.map kV))) : DGet H a (.ref b) (valV kvs k) := .inr ⟨kvs, k, b, .inl e, rfl, eb, rfl⟩
theorem DPut.k {H : Hp} {a : Addr} {kvs : List (Key × V)} {k : Key} {v : V} (e : H a = some (.dK kvs)) (hl : kvs.length < sizeLine) : DPut H a (kV k) v (upd H a (.dK (putK kvs k v))) := .inl ⟨kvs, k, e, rfl, hl, rfl⟩
theorem DPut.t {H : Hp} {a b : Addr} {kvs : List (List Key × V)} {k : List Key} {v : V} (e : H a = some (.dT kvs)) (eb : H b = some (.tup (k.map kV))) (hl : kvs.length < sizeLine) :
    DPut H a (.ref b) v (upd H a (.dT (putK kvs k v))) := .inr ⟨kvs, k, b, e, rfl, eb, hl, rfl⟩


section
variable {X : Cx} {pins : List (Addr × Obj)} {σ : St} {H : Hp} {s : Shared} {a : Addr} {y v : V} {u r : Value} {o : Option V} {A : Around} {E : Value → Shared → Prop}

end

section
variable {X : Cx} {pins : List (Addr × Obj)} {σ : St} {H : Hp} {s : Shared} {a : Addr} {kvs : List (Key × V)} {k : Key} {u : Value} {A : Around} {E : Value → Shared → Prop}
end


/-! ### readings and rules -/
section
variable {X : Cx} {o i e value : Expr} {pos pos' tpos : Pos} {td ty tv : TE}
end


/-! ### displays -/
section
variable {X : Cx} {pos : Pos}
end

/-! ### methods -/
section
variable {X : Cx} {pins : List (Addr × Obj)} {σ : St} {H : Hp} {s : Shared} {a : Addr} {y d : V} {u r : Value} {o : Option V} {A : Around} {E : Value → Shared → Prop}
end

section
variable {X : Cx} {o e f : Expr} {apos cpos : Pos} {td ty tx : TE}
end

/-! ### dict(d): a copy -/
section
variable {X : Cx} {pins : List (Addr × Obj)} {σ : St} {H : Hp} {s : Shared} {a : Addr} {kvs : List (Key × V)} {A : Around} {E : Value → Shared → Prop}
end


section
variable {X : Cx} {pins : List (Addr × Obj)} {σ : St} {H : Hp} {s : Shared} {a : Addr} {y : V} {u : Value} {A : Around} {E : Value → Shared → Prop}
end
end L2

namespace Att
open PySem PySem.W PySem.Calls PyProof.Rows

/-! ### the script -/
/-! ### the attachment: holds_open's last premise (the goal 'hc' behind k_head) from a wpAny of the law's body -/
/-! ### rules over ANY heap (no ledger) from facts about the written part K: the library's own take a ledger (News) for what they write -/
section
variable {prog : Program} {w : World} {A : Around} {E : Value → Shared → Prop} {s : Shared} {K : Frag}

/-! the whole heap as the ledger: makes every rule that writes through a ledger a rule over any heap -/
end
end Att

namespace L2
open PySem PySem.Spec PyProof.Rows

end L2

namespace L2
open PySem PySem.Spec PyProof.Rows

end L2


/-! SHORT WORDS over the layer: a def of the text, its body, what a loop and a test want. -/
namespace L2
open PySem PySem.Spec PyProof.Rows

/-! ### the text by places -/
/-! ### no exception leaves a def -/
/-! ### a def (or method) of the text as it stands behind the top -/
section
variable {P : Program} {w : World} {K : PySem.W.Frag} {mg : Str → Option Value} {base : Heap}
end
/-! ### expressions in short: the name that stands in the i-th slot -/
section
variable {X : Cx}
end

/-! ### tests -/
/-! ### heaps -/
/-! ### a dict's pairs: keys that differ -/
section
variable {κ : Type} [DecidableEq κ]
end
end L2

namespace L2
open PySem PySem.Spec PyProof.Rows

/-! ### the closure of a comprehension's block -/
theorem forIn_yield_fold {α β : Type} {l : List α} {f : α → β → Sem (ForInStep β)} (g : α → β → β) (c : β) (h : ∀ x ∈ l, ∀ c, f x c = pure (.yield (g x c))) :
    forIn l c f = (pure (l.foldl (fun c x => g x c) c) : Sem β) := by
  induction l generalizing c with
  | nil => rfl
  | cons x l ih =>
    rw [List.forIn_cons, h x List.mem_cons_self, pure_bind]
    exact ih (g x c) fun y hy => h y (List.mem_cons_of_mem _ hy)
def closeL (env : Env) (names : List (Str × NameKind)) : List (Str × Addr) :=
  names.foldl (fun c x => if x.2 == .free then (x.1, (env.cells.lookup x.1).getD 0) :: c else c) []
theorem closureFor_eq {scope : Scope} {env : Env} (h : ∀ y ∈ scope.names, y.2 = .free → ∃ c, env.cells.lookup y.1 = some c) : closureFor scope env = pure (closeL env scope.names) := by
  unfold closeL
  simp only [closureFor]
  rw [forIn_yield_fold (fun x c => if x.2 == .free then (x.1, (env.cells.lookup x.1).getD 0) :: c else c) [] (fun x hx c => by
    obtain ⟨n, kind⟩ := x
    by_cases e : kind = NameKind.free
    · subst e
      obtain ⟨a, ha⟩ := h _ hx rfl
      have ha' : env.cells.lookup n = some a := ha
      simp only [beq_self_eq_true, if_true, cellOf, ha', Option.getD_some, pure_bind]
    · have e' : (kind == NameKind.free) = false := by simpa using e
      simp only [e', Bool.false_eq_true, if_false])]
  rfl
theorem mem_closeL {env : Env} : ∀ {names : List (Str × NameKind)} {acc : List (Str × Addr)} {p : Str × Addr},
    p ∈ names.foldl (fun c x => if x.2 == .free then (x.1, (env.cells.lookup x.1).getD 0) :: c else c) acc ↔ p ∈ acc ∨ ∃ y ∈ names, y.2 = .free ∧ p = (y.1, (env.cells.lookup y.1).getD 0)
  | [], acc, p => by simp
  | x :: r, acc, p => by
    rw [List.foldl_cons, mem_closeL]
    by_cases e : x.2 = NameKind.free
    · rw [if_pos (by simpa using e)]
      constructor
      · rintro (h | ⟨y, hy, h1, h2⟩)
        · rcases List.mem_cons.mp h with h | h
          · exact .inr ⟨x, List.mem_cons_self, e, h⟩
          · exact .inl h
        · exact .inr ⟨y, List.mem_cons_of_mem _ hy, h1, h2⟩
      · rintro (h | ⟨y, hy, h1, h2⟩)
        · exact .inl (List.mem_cons_of_mem _ h)
        · rcases List.mem_cons.mp hy with rfl | hy
          · exact .inl (h2 ▸ List.mem_cons_self)
          · exact .inr ⟨y, hy, h1, h2⟩
    · rw [if_neg (by simpa using e)]
      constructor
      · rintro (h | ⟨y, hy, h1, h2⟩)
        · exact .inl h
        · exact .inr ⟨y, List.mem_cons_of_mem _ hy, h1, h2⟩
      · rintro (h | ⟨y, hy, h1, h2⟩)
        · exact .inl h
        · rcases List.mem_cons.mp hy with rfl | hy
          · exact absurd h1 e
          · exact .inr ⟨y, hy, h1, h2⟩
theorem mem_of_lookup {β : Type} : ∀ {l : List (Str × β)} {x : Str} {c : β}, l.lookup x = some c → (x, c) ∈ l
  | [], _, _, h => by simp at h
  | (n, d) :: r, x, c, h => by
    rw [List.lookup_cons] at h
    cases e : x == n with
    | true =>
      rw [e] at h
      have e' : x = n := by simpa using e
      subst e'
      cases h
      exact List.mem_cons_self
    | false =>
      rw [e] at h
      exact List.mem_cons_of_mem _ (mem_of_lookup h)
theorem lookup_of_mem {β : Type} : ∀ {l : List (Str × β)} {x : Str} {c : β}, (x, c) ∈ l → ∃ d, l.lookup x = some d
  | [], _, _, h => nomatch h
  | (n, d) :: r, x, c, h => by
    rw [List.lookup_cons]
    cases e : x == n with
    | true => exact ⟨d, rfl⟩
    | false =>
      rcases List.mem_cons.mp h with h | h
      · injection h with h1 _
        subst h1
        simp at e
      · exact lookup_of_mem h
theorem closeL_sub {env : Env} {names : List (Str × NameKind)} (h : ∀ y ∈ names, y.2 = .free → ∃ c, env.cells.lookup y.1 = some c) {x : Str} {c : Addr} (e : (closeL env names).lookup x = some c) : env.cells.lookup x = some c := by
  rcases mem_closeL.mp (mem_of_lookup e) with z | ⟨y, hy, h1, h2⟩
  · cases z
  · obtain ⟨d, hd⟩ := h y hy h1
    injection h2 with e1 e2
    subst e1
    rw [hd] at e2
    rw [hd, e2]
    rfl
theorem closeL_has {env : Env} {names : List (Str × NameKind)} {x : Str} (h : (x, NameKind.free) ∈ names) : ∃ c, (closeL env names).lookup x = some c :=
  lookup_of_mem (mem_closeL.mpr (.inr ⟨_, h, rfl, rfl⟩))
theorem relabel_lookup {env : Env} : ∀ {names : List (Str × NameKind)} {x : Str} {k : NameKind},
    (names.map fun (n, k) => if (k == NameKind.free && env.scope.kind == .function && env.kindOf n == some .cell) then (n, NameKind.cell) else (n, k)).lookup x = some k →
    ∃ k0, names.lookup x = some k0 ∧ (k = k0 ∨ (k0 = .free ∧ k = .cell))
  | [], _, _, h => by simp at h
  | (n, k) :: r, x, k', h => by
    have ih := @relabel_lookup env r x k'
    rw [List.map_cons] at h
    by_cases hc : (k == NameKind.free && env.scope.kind == .function && env.kindOf n == some .cell) = true
    · dsimp only at h
      rw [if_pos hc, List.lookup_cons] at h
      rw [List.lookup_cons]
      cases e : x == n with
      | true =>
        rw [e] at h
        cases h
        refine ⟨k, rfl, .inr ⟨?_, rfl⟩⟩
        simp only [Bool.and_eq_true, beq_iff_eq] at hc
        exact hc.1.1
      | false =>
        rw [e] at h
        exact ih h
    · dsimp only at h
      rw [if_neg hc, List.lookup_cons] at h
      rw [List.lookup_cons]
      cases e : x == n with
      | true =>
        rw [e] at h
        cases h
        exact ⟨k, rfl, .inl rfl⟩
      | false =>
        rw [e] at h
        exact ih h
theorem relabel_free {env : Env} : ∀ {names : List (Str × NameKind)} {x : Str}, names.lookup x = some .free →
    (names.map fun (n, k) => if (k == NameKind.free && env.scope.kind == .function && env.kindOf n == some .cell) then (n, NameKind.cell) else (n, k)).lookup x = some .cell ∨
    (names.map fun (n, k) => if (k == NameKind.free && env.scope.kind == .function && env.kindOf n == some .cell) then (n, NameKind.cell) else (n, k)).lookup x = some .free
  | [], _, h => by simp at h
  | (n, k) :: r, x, h => by
    have ih := @relabel_free env r x
    rw [List.map_cons]
    rw [List.lookup_cons] at h
    by_cases hc : (k == NameKind.free && env.scope.kind == .function && env.kindOf n == some .cell) = true
    · dsimp only
      rw [if_pos hc, List.lookup_cons]
      cases e : x == n with
      | true => exact .inl rfl
      | false =>
        rw [e] at h
        exact ih h
    · dsimp only
      rw [if_neg hc, List.lookup_cons]
      cases e : x == n with
      | true =>
        rw [e] at h
        cases h
        exact .inr rfl
      | false =>
        rw [e] at h
        exact ih h

/-! ### a comprehension's loop, no exception -/
theorem comp_loop {prog : Program} {w : World} {A : Around} {R : Result → Shared → Prop} {s : Shared} {elt target iter : Expr} {ifs : List Expr} {scope : Scope} {pos : Pos} {it acc : Value} {env : Env} (I : Nat → Shared → Prop)
    (turn : ∀ n s, I n s → wpAny (model prog w) A (pyNext it) (fun r s₁ => match r with
      | none => R (.ok .next) s₁
      | some v => wpAny (model prog w) A (letOwnedTupleGo target it v) (fun _ s₁' => wpAny (model prog w) A (assign target env v) (fun _ s₂ =>
          wpAny (model prog w) A (forIn ifs true fun c r => if r = true then do let ok ← isTrue c env (eval c env); pure (ForInStep.yield ok) else pure (ForInStep.yield r)) (fun ok s₃ =>
            if ok = true then wpAny (model prog w) A (eval elt env) (fun x s₄ =>
              wpAny (model prog w) A (call (.builtin "list.append") [acc, x]) (fun _ s₅ => ∃ m, m < n ∧ I m s₅) (fun _ _ => False) s₄) (fun _ _ => False) s₃
            else ∃ m, m < n ∧ I m s₃) (fun _ _ => False) s₂) (fun _ _ => False) s₁') (fun _ _ => False) s₁) (fun _ _ => False) s)
    (n : Nat) (h : I n s) :
    codeAny (model prog w) A (.compLoop (.ListComp elt [⟨target, iter, ifs, 0⟩] scope pos) 0 it acc env) R s := by
  refine codeAny_loop rfl I (fun n s hI => ?_) n h
  show wpAny _ A ((compTurn (.ListComp elt [⟨target, iter, ifs, 0⟩] scope pos) 0 it acc env).onRaise (fun x => do noteFrame x env; theTreesLotGoes x)) _ _ s
  refine wpAny_noted ?_
  rw [compTurn_list]
  refine wpAny_bind (wpAny_standAt (wpAny_bind (wpAny_mono (turn n s hI) (fun r s₁ h₁ => ?_) fun _ _ h' => h'.elim)))
  cases r with
  | none => exact wpAny_pure h₁
  | some v =>
    refine wpAny_bind (wpAny_mono h₁ (fun _ s₁' h₁' => ?_) fun _ _ h' => h'.elim)
    refine wpAny_bind (wpAny_mono h₁' (fun _ s₂ h₂ => wpAny_bind (wpAny_mono h₂ (fun ok s₃ h₃ => ?_) fun _ _ h' => h'.elim)) fun _ _ h' => h'.elim)
    cases ok with
    | false => exact wpAny_pure ⟨rfl, h₃⟩
    | true =>
      exact wpAny_bind (wpAny_bind (wpAny_mono h₃ (fun x s₄ h₄ => wpAny_bind (wpAny_mono h₄ (fun _ s₅ h₅ => wpAny_pure (wpAny_pure ⟨rfl, h₅⟩)) fun _ _ h' => h'.elim)) fun _ _ h' => h'.elim))

/-! ### the block's context -/
def Cx.blk (X : Cx) (pins : List (Addr × Obj)) (scope : Scope) (cl : List (Str × Addr)) (C : Addr) (N' : List Str) (fp : List Addr) (s : Shared) (H : Hp) : Cx :=
  { X with N := N', s₀ := s, H₀ := H, env := compEnvC scope cl C X.env, outer := X.stack, ex := fp, fn := fun _ => false, pn := X.pn ++ pins, xe := fun _ _ => False }
/-- the block's names at its entry: for each its slot ahead (none: the block's own) -/
def blkSt (ix : List (Option Nat)) (σ : St) : St := ix.map fun o => o.bind fun i => (σ[i]?).join
/-- what is known ahead is known behind -/
def Ext : St → St → Prop
  | [], [] => True
  | none :: a, _ :: b => Ext a b
  | some v :: a, o :: b => o = some v ∧ Ext a b
  | _, _ => False
theorem Ext.get : ∀ {a b : St}, Ext a b → ∀ (j : Nat) (v : V), a[j]? = some (some v) → b[j]? = some (some v)
  | [], [], _, j, v, h => by simp at h
  | none :: a, _ :: b, e, 0, v, h => by simp at h
  | none :: a, _ :: b, e, j + 1, v, h => by
    have e : Ext a b := e
    rw [List.getElem?_cons_succ] at h ⊢
    exact e.get j v h
  | some u :: a, o :: b, e, 0, v, h => by
    have e1 : o = some u := e.1
    rw [List.getElem?_cons_zero] at h ⊢
    rw [e1]
    exact h
  | some u :: a, o :: b, e, j + 1, v, h => by
    have e : Ext a b := e.2
    rw [List.getElem?_cons_succ] at h ⊢
    exact e.get j v h
  | [], _ :: _, e, _, _, _ => e.elim
  | none :: _, [], e, _, _, _ => e.elim
  | some _ :: _, [], e, _, _, _ => e.elim
theorem Ext.length : ∀ {a b : St}, Ext a b → a.length = b.length
  | [], [], _ => rfl
  | none :: a, _ :: b, e => by
    have e : Ext a b := e
    simp [e.length]
  | some u :: a, o :: b, e => by
    have e : Ext a b := e.2
    simp [e.length]
  | [], _ :: _, e => e.elim
  | none :: _, [], e => e.elim
  | some _ :: _, [], e => e.elim

def blkOk (sc : Scope) (N : List Str) (scope : Scope) (N' : List Str) (ix : List (Option Nat)) : Bool :=
  decide (scope.kind = .function) && decide (∀ y ∈ scope.names, y.2 ≠ .cell) && decide (∀ y ∈ scope.names, y.2 = .local → scope.names.lookup y.1 = some .local) &&
  decide (∀ y ∈ scope.names, y.2 = .free → sc.names.lookup y.1 = some .cell ∨ sc.names.lookup y.1 = some .free) && decide (ix.length = N'.length) &&
  ((N'.zip ix).all fun p => p.2.all fun i => decide (N[i]? = some p.1) && decide (scope.names.lookup p.1 = some .free))
structure BlkOk (sc : Scope) (N : List Str) (scope : Scope) (N' : List Str) (ix : List (Option Nat)) : Prop where
  kind : scope.kind = .function
  nocell : ∀ y ∈ scope.names, y.2 ≠ .cell
  names : ∀ y ∈ scope.names, y.2 = .local → scope.names.lookup y.1 = some .local
  free : ∀ y ∈ scope.names, y.2 = .free → sc.names.lookup y.1 = some .cell ∨ sc.names.lookup y.1 = some .free
  len : ix.length = N'.length
  at_ : ∀ (j : Nat) (x : Str) (i : Nat), N'[j]? = some x → ix[j]? = some (some i) → N[i]? = some x ∧ scope.names.lookup x = some .free
theorem BlkOk.of {sc : Scope} {N : List Str} {scope : Scope} {N' : List Str} {ix : List (Option Nat)} (h : blkOk sc N scope N' ix = true) : BlkOk sc N scope N' ix := by
  unfold blkOk at h
  simp only [Bool.and_eq_true, decide_eq_true_eq] at h
  obtain ⟨⟨⟨⟨⟨h1, h2⟩, h3⟩, h4⟩, h5⟩, h6⟩ := h
  refine ⟨h1, h2, h3, h4, h5, fun j x i e1 e2 => ?_⟩
  have hz : (N'.zip ix)[j]? = some (x, some i) := by
    rw [List.getElem?_zip_eq_some]
    exact ⟨e1, e2⟩
  have hm : (x, some i) ∈ N'.zip ix := List.mem_of_getElem? hz
  have q := List.all_eq_true.mp h6 _ hm
  simp only [Option.all_some, Bool.and_eq_true, decide_eq_true_eq] at q
  exact q

abbrev aL (its : List Value) : Obj := { cls := .type "list", data := .seq its.toArray its.length }

section
variable {X : Cx} {pins : List (Addr × Obj)} {σ : St} {H : Hp} {s : Shared} {sc : Scope} {N N' : List Str} {scope : Scope} {ix : List (Option Nat)} {fp : List Addr} {C : Addr}
theorem blk_cells (ok : X.Ok) (hsc : X.env.scope = sc) (B : BlkOk sc N scope N' ix) : ∀ y ∈ scope.names, y.2 = .free → ∃ c, X.env.cells.lookup y.1 = some c := fun y hy e => by
  have q := B.free y hy e
  rw [← hsc] at q
  exact ok.has y.1 q
theorem blk_ok (I : Inv X pins σ H s) (hsc : X.env.scope = sc) (B : BlkOk sc N scope N' ix) (hf : ∀ b ∈ fp, FpOk X pins H b) (hlt : ∀ b ∈ fp, b < s.heap.objs.size) (hC : s.heap.objs.size ≤ C) :
    (X.blk pins scope (closeL X.env scope.names) C N' fp s H).Ok where
  mod := I.ok.mod
  kind := B.kind
  glob := I.ok.glob
  blt := I.ok.blt
  above := hC
  inj := fun x y c a b => I.ok.inj x y c (closeL_sub (blk_cells I.ok hsc B) a) (closeL_sub (blk_cells I.ok hsc B) b)
  has := fun x h => by
    have z : ∃ k, (relabel scope X.env).names.lookup x = some k ∧ (k = .cell ∨ k = .free) := by
      rcases h with h | h
      · exact ⟨_, h, .inl rfl⟩
      · exact ⟨_, h, .inr rfl⟩
    obtain ⟨k, hk, hk'⟩ := z
    obtain ⟨k0, h0, h1⟩ := relabel_lookup (env := X.env) (names := scope.names) hk
    have hm := mem_of_lookup h0
    have e : k0 = .free := by
      rcases h1 with h1 | h1
      · subst h1
        rcases hk' with e | e
        · exact absurd e (B.nocell _ hm)
        · exact e
      · exact h1.1
    subst e
    exact closeL_has hm
  cab := fun x c h _ => by cases h
  hd := I.ok.hd
  frames := I.ok.frames
  stk := .inl rfl
  exf := fun b hb => ⟨fun e => by
      have := hlt b hb
      have e' : b = C := e
      subst e'
      exact absurd (Nat.lt_of_lt_of_le this hC) (Nat.lt_irrefl _), fun x c e => (hf b hb).2.2.2.2.1 x c (closeL_sub (blk_cells I.ok hsc B) e)⟩
  bs := I.bs
  bsz := Nat.le_trans I.ok.bsz I.sz
  noex := fun b o e hb => by
    rcases (hf b hb).2.2.2.1 with z | z
    · exact I.ok.noex b o e z
    · have q := Heap.lt_size (I.ok.bs b o e).1
      exact absurd (Nat.lt_of_lt_of_le q z) (Nat.lt_irrefl _)
  exfs := fun b hb z => by
    rcases List.mem_cons.mp (I.stkSub b z) with e | e
    · exact (hf b hb).2.1 e
    · exact (hf b hb).2.2.1 e
  funs := I.stack
  frf := I.stkFree

/-- the block is entered -/
theorem blk_inv {s1 : Shared} {h1 : Heap} {tk : Nat} {D : Addr} {its : List Value} (I : Inv X pins σ H s) (hsc : X.env.scope = sc) (hN : X.N = N) (B : BlkOk sc N scope N' ix) (hf : ∀ b ∈ fp, FpOk X pins H b) (hlt : ∀ b ∈ fp, b < s.heap.objs.size) (hC : s.heap.objs.size ≤ C)
    (hD : s.heap.objs.size ≤ D) (hDC : D ≠ C) (old : ∀ b o, s.heap.get? b = some o → h1.get? b = some o) (hns : h1.Ns C (fun _ => none)) (ho : h1.get? D = some (aL its)) (e : s1 = { s with heap := h1, toks := tk }) :
    Inv (X.blk pins scope (closeL X.env scope.names) C N' fp s H) [(D, aL its)] (blkSt ix σ) H s1 := by
  subst e
  have ok' := blk_ok (C := C) I hsc B hf hlt hC
  have cells := blk_cells I.ok hsc B
  have fresh : ∀ a, s.heap.objs.size ≤ a → H a = none := fun a ha => I.hok.fresh ha
  refine ⟨ok', rfl, I.bare, Un.kept old, ?_, ?_, fresh C hC, ?_, ?_, I.hok.kept old, ?_⟩
  · refine ⟨_, hns, fun j x v e1 e2 hv => ?_⟩
    have e2 : (blkSt ix σ)[j]? = some (some v) := e2
    unfold blkSt at e2
    rw [List.getElem?_map] at e2
    cases q : ix[j]? with
    | none => rw [q] at e2; cases e2
    | some o =>
      rw [q] at e2
      cases o with
      | none => cases e2
      | some i =>
        have e3 : (σ[i]?).join = some v := by simpa using e2
        have e4 : σ[i]? = some (some v) := by
          cases r : σ[i]? with
          | none => rw [r] at e3; cases e3
          | some o =>
            rw [r] at e3
            have e3 : o = some v := e3
            rw [e3]
        obtain ⟨n1, n2⟩ := B.at_ j x i e1 q
        have n3 := B.free _ (mem_of_lookup n2) rfl
        obtain ⟨m, hm, hl⟩ := I.loc
        have vis : Vis X.env.scope x := by
          rw [hsc]
          exact .inr n3
        obtain ⟨u, r, l⟩ := hl i x v (by rw [hN]; exact n1) e4 vis
        refine ⟨u, r, .inr ⟨relabel_free (env := X.env) n2, ?_⟩⟩
        obtain ⟨c, hc⟩ := closeL_has (env := X.env) (mem_of_lookup n2)
        refine ⟨c, hc, ?_⟩
        have hc' := closeL_sub cells hc
        rcases l with ⟨k, _⟩ | ⟨_, c', e5, o', z1, z2⟩
        · have k : X.env.scope.names.lookup x = some .local := k
          rw [hsc] at k
          rcases n3 with z | z
          · rw [k] at z; cases z
          · rw [k] at z; cases z
        · rw [hc'] at e5
          cases e5
          exact ⟨o', old _ _ z1, z2⟩
  · intro x c e
    obtain ⟨v, o, z1, z2⟩ := I.cell x c (closeL_sub cells e)
    exact ⟨v, o, old _ _ z1, z2⟩
  · intro x c e
    exact I.freeC x c (closeL_sub cells e)
  · intro p hp
    rcases List.mem_append.mp hp with hp | hp
    · obtain ⟨p1, p2, p3, p4, p5⟩ := I.pin p hp
      refine ⟨old _ _ p1, p2, fun z => ?_, fun z => ?_, p5⟩
      · have z : p.1 = C := z
        have := Heap.lt_size p1
        rw [z] at this
        exact absurd (Nat.lt_of_lt_of_le this hC) (Nat.lt_irrefl _)
      · rcases List.mem_cons.mp (I.stkSub p.1 z) with e | e
        · exact p3 e
        · exact p4 e
    · have hp : p = (D, aL its) := List.mem_singleton.mp hp
      subst hp
      refine ⟨ho, fresh D hD, hDC, fun z => ?_, fun v e => by cases e⟩
      have q : ∃ o, s.heap.get? D = some o := by
        obtain ⟨_, o, z, _⟩ := I.stack.mem z
        exact ⟨o, z⟩
      obtain ⟨o, q⟩ := q
      exact absurd (Nat.lt_of_lt_of_le (Heap.lt_size q) hD) (Nat.lt_irrefl _)
  · show (ix.map _).length = N'.length
    rw [List.length_map]
    exact B.len

/-- the block is left: its list is tracked -/
theorem blk_leave {s4 : Shared} {H4 : Hp} {σ' : St} {D : Addr} {its : List Value} {ys : List V} {cl : List (Str × Addr)} (I : Inv X pins σ H s) (hf : ∀ b ∈ fp, FpOk X pins H b) (hD : s.heap.objs.size ≤ D) (hC : s.heap.objs.size ≤ C)
    (J : Inv (X.blk pins scope cl C N' fp s H) [(D, aL its)] σ' H4 s4) (rv : Vals ys its) (hl : ys.length ≤ sizeLine) : Inv X pins σ (upd H4 D (.lst ys)) s4 := by
  have pD := J.pin (D, aL its) (List.mem_append_right _ List.mem_cons_self)
  have hD4 : H4 D = none := pD.2.1
  have neD : ∀ b o, s.heap.get? b = some o → b ≠ D := fun b o e z => by
    have := Heap.lt_size e
    rw [z] at this
    exact absurd (Nat.lt_of_lt_of_le this hD) (Nat.lt_irrefl _)
  have u := J.base
  have u : Un (frs X.stack) fp H H4 s.heap s4.heap := u
  refine I.call' (ch := fp) J.os ⟨u.keep, u.slot, fun b o e n hx => ?_, u.there, fun b xs e => ?_, fun b o x e => ?_, fun b ps e => ?_⟩ ?_ J.bare (fun b hb => ⟨(hf b hb).2.2.2.1, (hf b hb).2.1, (hf b hb).2.2.2.2.1, (hf b hb).2.2.2.2.2⟩)
  · rw [upd_ne (neD b o e)]
    exact u.free b o e n hx
  · have q := u.tups b xs e
    rw [upd_ne (ne_of_none q hD4)]
    exact q
  · have q := u.frzs b o x e
    rw [upd_ne (ne_of_none q hD4)]
    exact q
  · obtain ⟨more, q⟩ := u.tbls b ps e
    exact ⟨more, by rw [upd_ne (ne_of_none q hD4)]; exact q⟩
  · intro b o e
    by_cases hb : b = D
    · subst hb
      rw [upd_same] at e
      cases e
      exact ⟨hl, its, _, rv, pD.1⟩
    · rw [upd_ne hb] at e
      exact (J.hok b o e).stay (fun _ _ _ q => q) (fun c q => by rw [upd_ne (ne_of_none q hD4)]; exact q) fun c xs q => by rw [upd_ne (ne_of_none q hD4)]; exact q
end

/-! ### the tests of a comprehension -/
def PTs (X : Cx) (ifs : List Expr) (t : TT) : Prop :=
  ∀ (pins : List (Addr × Obj)) (s : Shared) (σ : St) (H : Hp) (Q : Bool → Hp → Prop), Inv X pins σ H s → t σ H Q →
    wpAny (model X.prog X.w) X.A (forIn ifs true fun c r => if r = true then do let ok ← isTrue c X.env (eval c X.env); pure (ForInStep.yield ok) else pure (ForInStep.yield r)) (TP X pins σ Q) X.xe s
def tTrue : TT := fun _ H Q => Q true H
theorem pts_nil {X : Cx} : PTs X [] tTrue := fun pins s σ H Q I h => wpAny_tests_nil ⟨H, I, h⟩
theorem pts_one {X : Cx} {c : Expr} {t : TT} (h : PT X c t) : PTs X [c] t := fun pins s σ H Q I q => wpAny_tests_one (h pins s σ H Q I q)

/-- [elt for target in iter if ..]: W: the turn, a measure, the items so far, the heap -/
def CompGo (J : It) (ix : List (Option Nat)) (g : TG) (tt : TT) (te : TE) (σ : St) (H : Hp) (Q : VK) : Prop :=
  ∃ W : Nat → Nat → List V → Hp → Prop, (∃ m, W 0 m [] H) ∧ ∀ i m ys H, W i m ys H → ys.length ≤ sizeLine ∧
    ((J.stop i H ∧ ∀ p, H p = none → Q (.ref p) (upd H p (.lst ys))) ∨
    (J.go i H ∧ ∃ N : List V → Hp → Prop, (∀ ys' H', N ys' H' → ∃ m', m' < m ∧ W (i + 1) m' ys' H') ∧
      ∀ x H', J.yld i H x H' → g x (blkSt ix σ) H' fun σ2 H2 => Ext (blkSt ix σ) σ2 ∧ tt σ2 H2 fun ok H3 => if ok = true then te σ2 H3 fun y H4 => N (ys ++ [y]) H4 else N ys H3))
def tComp (wi : TI) (ix : List (Option Nat)) (g : TG) (tt : TT) (te : TE) : TE := fun σ H Q => wi σ H fun J H1 => CompGo J ix g tt te σ H1 Q

section
variable {X : Cx} {sc : Scope} {N N' : List Str} {scope : Scope} {ix : List (Option Nat)} {tg iter elt : Expr} {ifs : List Expr} {pos : Pos} {wi : TI} {g : TG} {tt : TT} {te : TE}
theorem blk_run {use : Option (Value → Sem Unit)} {QQ : Value → Shared → Prop} {pins : List (Addr × Obj)} {σ : St} {H : Hp} {s : Shared} {Q : VK} {cpos : Pos} (hc : X.calm = true) (hi : PI X tg iter wi)
    (hsc : X.env.scope = sc) (hN : X.N = N) (B : BlkOk sc N scope N' ix)
    (hg : ∀ pins cl C fp s H, PG (X.blk pins scope cl C N' fp s H) tg g) (ht : ∀ pins cl C fp s H, PTs (X.blk pins scope cl C N' fp s H) ifs tt) (he : ∀ pins cl C fp s H, PE (X.blk pins scope cl C N' fp s H) elt te)
    (hs : ∀ x, foldedSetIterable iter X.env x = pure x) (I : Inv X pins σ H s) (h : tComp wi ix g tt te σ H Q)
    (fin : ∀ (D C : Addr) (s4 : Shared) (H4 : Hp) (m : Str → Option Value), Inv X pins σ H4 s4 → Q (.ref D) H4 → s4.heap.Ns C m → FpOk X pins H4 C →
      compPost (model X.prog X.w) X.A X.xe use QQ (.ref D) C (.ok .next) s4) :
    wpAny (model X.prog X.w) X.A (comprehension (.ListComp elt [⟨tg, iter, ifs, 0⟩] scope pos) scope X.env cpos (newList []) false (eval iter X.env) use) QQ X.xe s := by
  refine wpAny_comprehension_free (use := use) rfl hs (closureFor_eq (blk_cells I.ok hsc B)) B.kind B.names (thn (hi pins s σ H _ I h) fun v s1 h1 => thn h1 fun itv s2 h2 => ?_)
  obtain ⟨it, fp, tn, J, H2, e, I2, T, st2, f2, W, ⟨m0, w0⟩, turn⟩ := h2
  subst e
  refine wpAny_newObj_type (wpAny_newFunctionEnv B.nocell (by intro y hy; simp at hy) (fun h₁ hns₁ hsb₁ => ?_) B.kind)
  dsimp only at hns₁ hsb₁ ⊢
  generalize hH2 : s2.heap.push { cls := .type "list", dict := none, data := .seq ([] : List Value).toArray } = G2 at hns₁ hsb₁ ⊢
  have hC : G2.objs.size = s2.heap.objs.size + 1 := by rw [← hH2, Heap.size_push]
  have hCle : s2.heap.objs.size ≤ G2.objs.size := by rw [hC]; exact Nat.le_succ _
  have hDC : s2.heap.objs.size ≠ G2.objs.size := by rw [hC]; exact Nat.ne_of_lt (Nat.lt_succ_self _)
  have old : ∀ b o, s2.heap.get? b = some o → h₁.get? b = some o := fun b o e => hsb₁.extBut b o (by rw [hC]; exact Nat.ne_of_lt (Nat.lt_succ_of_lt (Heap.lt_size e))) (Heap.get?_push_of_some _ (hH2 ▸ Heap.get?_push_of_some _ e))
  have hacc : h₁.get? s2.heap.objs.size = some (aL []) := hsb₁.extBut _ _ hDC (Heap.get?_push_of_some _ (hH2 ▸ Heap.get?_push_size _ rfl))
  have hlt : ∀ b ∈ fp, b < s2.heap.objs.size := fun b hb => by
    obtain ⟨o, e, _⟩ := T.obj _ _ st2 b hb
    exact Heap.lt_size e
  have st1 : tn 0 h₁ := T.keep _ _ _ st2 fun b _ o e => old b o e
  have I1 := blk_inv (fp := fp) (C := G2.objs.size) (D := s2.heap.objs.size) (its := []) (h1 := h₁) (tk := s2.toks + ([] : List (Str × Value)).length) I2 hsc hN B f2 hlt hCle (Nat.le_refl _) hDC old hns₁ hacc rfl
  -- the loop
  have fpk : ∀ {H' : Hp} {pl : List (Addr × Obj)}, (∀ b ∈ fp, H' b = none) → (∀ p ∈ pl, p.1 = s2.heap.objs.size) → ∀ b ∈ fp, FpOk (X.blk pins scope (closeL X.env scope.names) G2.objs.size N' fp s2 H2) pl H' b := fun hn hpl b hb => by
    refine ⟨hn b hb, fun z => ?_, fun z => ?_, .inl hb, fun x c e => (f2 b hb).2.2.2.2.1 x c (closeL_sub (blk_cells I2.ok hsc B) e), fun p hp => ?_⟩
    · have z : b = G2.objs.size := z
      have := hlt b hb
      rw [z, hC] at this
      exact absurd (Nat.lt_of_succ_lt this) (Nat.lt_irrefl _)
    · rcases List.mem_cons.mp (I2.stkSub b z) with e | e
      · exact (f2 b hb).2.1 e
      · exact (f2 b hb).2.2.1 e
    · rcases List.mem_append.mp hp with hp | hp
      · exact (f2 b hb).2.2.2.2.2 p hp
      · rw [hpl p hp]
        exact Nat.ne_of_gt (hlt b hb)
  have hpl1 : ∀ (o : Obj), ∀ p ∈ [(s2.heap.objs.size, o)], p.1 = s2.heap.objs.size := fun o p hp => by
    rw [List.mem_singleton.mp hp]
  have loop : codeAny (model X.prog X.w) X.A (.compLoop (.ListComp elt [⟨tg, iter, ifs, 0⟩] scope pos) 0 (.ref it) (.ref s2.heap.objs.size) (compEnvC scope (closeL X.env scope.names) G2.objs.size X.env))
      (compPost (model X.prog X.w) X.A X.xe use QQ (.ref s2.heap.objs.size) G2.objs.size) { s2 with heap := h₁, toks := s2.toks + ([] : List (Str × Value)).length } := by
    refine comp_loop (fun n s' => ∃ i ys H' its, Inv (X.blk pins scope (closeL X.env scope.names) G2.objs.size N' fp s2 H2) [(s2.heap.objs.size, aL its)] (blkSt ix σ) H' s' ∧ Vals ys its ∧ tn i s'.heap ∧ (∀ b ∈ fp, H' b = none) ∧ W i n ys H') ?_ m0
      ⟨0, [], H2, [], I1, .nil, st1, fun b hb => (f2 b hb).1, w0⟩
    rintro n s3 ⟨i, ys, H3, its, I3, rv, st3, fr3, w3⟩
    obtain ⟨hl, tr⟩ := turn i n ys H3 w3
    rcases tr with ⟨stop, q⟩ | ⟨go, N, hN, step⟩
    · refine thn (T.done (X.blk pins scope (closeL X.env scope.names) G2.objs.size N' fp s2 H2) rfl rfl rfl hc i _ s3 _ H3 _ I3 (fpk fr3 (hpl1 _)) st3 stop) fun r s4 ⟨hr, I4⟩ => ?_
      subst hr
      have I5 := blk_leave I2 f2 (Nat.le_refl _) hCle I4 rv hl
      obtain ⟨m, hm, _⟩ := I4.loc
      have hD4 := (I4.pin (s2.heap.objs.size, aL its) (List.mem_append_right _ List.mem_cons_self)).2.1
      refine fin _ _ s4 _ m I5 (q _ hD4) hm ?_
      have hCn : H3 G2.objs.size = none := I4.free
      refine I2.fpOk hCle ?_
      rw [upd_ne (Ne.symm hDC)]
      exact hCn
    · refine thn (T.item (X.blk pins scope (closeL X.env scope.names) G2.objs.size N' fp s2 H2) rfl rfl rfl hc i _ s3 _ H3 _ I3 (fpk fr3 (hpl1 _)) st3 go) fun r s4 ⟨u, hr, h4⟩ => ?_
      subst hr
      refine thn h4 fun _ s5 ⟨x, H5, I5, r5, y5, st5, fr5⟩ => ?_
      have I5' := I5.pinned (fpk fr5 (hpl1 _)) (T.obj _ _ st5)
      refine thn (hg _ _ _ _ _ _ _ s5 _ H5 x u _ I5' r5 (step x H5 y5)) fun _ s6 ⟨σ6, H6, I6, ex6, q6⟩ => ?_
      refine thn (ht _ _ _ _ _ _ _ s6 σ6 H6 _ I6 q6) fun ok s7 ⟨H7, I7, q7⟩ => ?_
      have back : ∀ {s8 : Shared} {H8 : Hp} {its' : List Value} {ys' : List V}, Inv (X.blk pins scope (closeL X.env scope.names) G2.objs.size N' fp s2 H2) ([(s2.heap.objs.size, aL its')] ++ pinsAt fp s5.heap) σ6 H8 s8 → Vals ys' its' → N ys' H8 →
          ∃ m, m < n ∧ ∃ i ys H' its, Inv (X.blk pins scope (closeL X.env scope.names) G2.objs.size N' fp s2 H2) [(s2.heap.objs.size, aL its)] (blkSt ix σ) H' s8 ∧ Vals ys its ∧ tn i s8.heap ∧ (∀ b ∈ fp, H' b = none) ∧ W i m ys H' := fun {s8 H8 its' ys'} I8 rv8 n8 => by
        obtain ⟨m', hm, w8⟩ := hN ys' H8 n8
        refine ⟨m', hm, i + 1, ys', H8, its', (I8.weak ex6.length fun j v e => ex6.get j v e).unpinned, rv8, T.keep _ _ _ st5 fun b hb o e => (I8.pin (b, o) (List.mem_append_right _ (List.mem_append_right _ (mem_pinsAt hb e)))).1, fun b hb => ?_, w8⟩
        obtain ⟨o, e, d⟩ := T.obj _ _ st5 b hb
        exact (I8.pin (b, o) (List.mem_append_right _ (List.mem_append_right _ (mem_pinsAt hb e)))).2.1
      cases ok with
      | false =>
        rw [if_neg Bool.false_ne_true] at q7 ⊢
        exact back I7 rv q7
      | true =>
        rw [if_pos rfl] at q7 ⊢
        refine thn (he _ _ _ _ _ _ _ s7 σ6 H7 _ I7 q7) fun yv s8 ⟨y, H8, I8, r8, q8⟩ => ?_
        have pD := I8.pin (s2.heap.objs.size, aL its) (List.mem_append_right _ (List.mem_append_left _ List.mem_cons_self))
        refine append_at (hsz := by show its.toArray.size ≤ sizeLine; rw [List.size_toArray, ← rv.length]; exact hl) pD.1 fun h9 hs9 hD9 => ?_
        have e9 : h9.get? s2.heap.objs.size = some (aL (its ++ [yv])) := by
          rw [hD9]
          show some ({ cls := .type "list", data := .seq (its.toArray.push yv) (its.length + 1) } : Obj) = some { cls := .type "list", data := .seq (its ++ [yv]).toArray (its ++ [yv]).length }
          rw [List.length_append, List.length_singleton, List.push_toArray]
        have I8' : Inv (X.blk pins scope (closeL X.env scope.names) G2.objs.size N' fp s2 H2) (pinsAt fp s5.heap) σ6 H8 s8 := I8.pins_of fun p hp => I8.pin p (List.mem_append_right _ (List.mem_append_right _ hp))
        have hpn : ∀ p ∈ (X.blk pins scope (closeL X.env scope.names) G2.objs.size N' fp s2 H2).pn ++ pinsAt fp s5.heap, p.1 ≠ s2.heap.objs.size := fun p hp => by
          rcases List.mem_append.mp hp with hp | hp
          · exact Nat.ne_of_lt (Heap.lt_size (I2.pin p hp).1)
          · exact Nat.ne_of_lt (hlt _ (of_pinsAt hp).1)
        have I9 := I8'.turned (t' := s8.toks) (it := s2.heap.objs.size) (fun b o hb e => hs9.extBut b o hb e) pD.2.1 hDC (.inr (Nat.le_refl _)) (fun x c e z => by
          subst z
          obtain ⟨v, o, z1, z2⟩ := I8.cell x _ e
          rw [pD.1] at z1
          cases z1
          cases z2) hpn
        refine back (its' := its ++ [yv]) (ys' := ys ++ [y]) (I9.pins_of fun p hp => ?_) (rv.append (.cons r8 .nil)) q8
        rcases List.mem_append.mp hp with hp | hp
        · rw [List.mem_singleton.mp hp]
          exact ⟨e9, pD.2.1, pD.2.2.1, pD.2.2.2.1, fun v e => by cases e⟩
        · exact I9.pin p (List.mem_append_right _ hp)
  exact codeAny_compStart_list loop (T.self X.A 0 _ _ _ st1 loop)

/-- a list comprehension of one clause -/
theorem pe_comp (hc : X.calm = true) (N' : List Str) (ix : List (Option Nat)) (hi : PI X tg iter wi) (hB : blkOk X.env.scope X.N scope N' ix = true)
    (hg : ∀ pins cl C fp s H, PG (X.blk pins scope cl C N' fp s H) tg g) (ht : ∀ pins cl C fp s H, PTs (X.blk pins scope cl C N' fp s H) ifs tt) (he : ∀ pins cl C fp s H, PE (X.blk pins scope cl C N' fp s H) elt te)
    (hs : ∀ x, foldedSetIterable iter X.env x = pure x := by intro _; rfl) : PE X (.ListComp elt [⟨tg, iter, ifs, 0⟩] scope pos) (tComp wi ix g tt te) := by
  intro pins s σ H Q I h
  rw [eval_ListComp]
  refine blk_run (use := none) hc hi rfl rfl (BlkOk.of hB) hg ht he hs I h fun D C s4 H4 m I4 q4 hm hf => ?_
  refine ⟨m, hm, fun h' hs' => ?_⟩
  exact ⟨.ref D, H4, I4.turned (t' := s4.toks) (fun b o hb e => hs'.extBut b o hb e) hf.1 hf.2.1 hf.2.2.2.1 hf.2.2.2.2.1 hf.2.2.2.2.2, rfl, q4⟩
/-- name = [..], the name a plain local of the def on the same line -/
theorem ps_setComp {i : Nat} {x : Str} {pos' spos : Pos} (hc : X.calm = true) (N' : List Str) (ix : List (Option Nat)) (hNd : X.N.Nodup) (hxi : X.N[i]? = some x) (hx : X.env.scope.names.lookup x = some .local) (hi : PI X tg iter wi) (hB : blkOk X.env.scope X.N scope N' ix = true)
    (hg : ∀ pins cl C fp s H, PG (X.blk pins scope cl C N' fp s H) tg g) (ht : ∀ pins cl C fp s H, PTs (X.blk pins scope cl C N' fp s H) ifs tt) (he : ∀ pins cl C fp s H, PE (X.blk pins scope cl C N' fp s H) elt te)
    (hsw : swapsWith (.ListComp elt [⟨tg, iter, ifs, 0⟩] scope pos) (some (.Name x pos')) spos.line X.env = pure true := by rfl)
    (hs : ∀ x, foldedSetIterable iter X.env x = pure x := by intro _; rfl) : PS X (.Assign [.Name x pos'] (.ListComp elt [⟨tg, iter, ifs, 0⟩] scope pos) spos) (tAsg (tComp wi ix g tt te) (gName i)) := by
  intro pins s σ H D I h
  rw [exec_Assign_Name_used _ _ _ _ hsw]
  refine wpAny_bind (wpAny_standAt (wpAny_bind ?_))
  show wpAny _ X.A (do let _ ← comprehension (.ListComp elt [⟨tg, iter, ifs, 0⟩] scope pos) scope X.env _ (newList []) false (eval iter X.env) (some (assign (.Name x pos') X.env))) _ _ s
  refine wpAny_bind (wpAny_mono (blk_run (use := some (assign (.Name x pos') X.env)) (QQ := fun _ s' => SP X pins D .next s') hc hi rfl rfl (BlkOk.of hB) hg ht he hs I h fun Da C s4 H4 m I4 q4 hm hf => ?_) (fun _ s' hq => wpAny_pure (wpAny_pure hq)) fun _ _ e => e)
  show wpAny _ X.A (assign (.Name x pos') X.env (.ref Da)) _ _ _
  refine wpAny_assign_Name (store_ok2 (v := .ref Da) I4 hNd hxi (.inl hx) rfl (fun s5 I5 hsb => ?_) (.inr hx))
  obtain ⟨a, hsb, ha⟩ := hsb
  have hCa : C ≠ a := by
    rcases ha with z | z
    · rw [z]; exact hf.2.1
    · exact fun e => hf.2.2.2.2.1 x a z e.symm
  refine ⟨m, hm.sameBut hsb hCa, fun h' hs' => ?_⟩
  exact ⟨_, H4, I5.turned (t' := s5.toks) (fun b o hb e => hs'.extBut b o hb e) hf.1 hf.2.1 hf.2.2.2.1 hf.2.2.2.2.1 hf.2.2.2.2.2, q4⟩
end
end L2

namespace L2
open PySem PySem.Spec PyProof.Rows

/-! ### slices of texts -/
section
variable {X : Cx}
/-! ### lists of texts -/
/-! ### any, all of bools -/
theorem vals_bl : ∀ {bs : List Bool} {us : List Value}, Vals (bs.map V.bl) us → us = bs.map Value.bool
  | [], _, h => by cases h; rfl
  | b :: bs, _, h => by
    cases h with
    | cons r t =>
      have r : _ = Value.bool b := r
      rw [List.map_cons, r, vals_bl t]
theorem range_all (bs : List Bool) : (List.range bs.length).all (fun i => bs.getD i false) = bs.all id := by
  induction bs with
  | nil => rfl
  | cons b r ih =>
    rw [List.length_cons, List.range_succ_eq_map, List.all_cons, List.all_cons, List.all_map, ← ih]
    rfl
def rAll (K : PySem.W.Frag) : List V → Hp → VK → Prop := fun xs H Q => ∃ (p : Addr) (bs : List Bool), xs = [.ref p] ∧ SqL K H p (bs.map V.bl) ∧ Q (.bl (bs.all id)) H
theorem truth_bl {prog : Program} {w : World} {A : Around} (bs : List Bool) : TruthOf prog w A (fun i v => (bs.map Value.bool).toArray[i]? = some v) (fun i => bs.getD i false) := by
  intro i v s Q E hP hQ
  have hP : (bs.map Value.bool)[i]? = some v := by simpa using hP
  rw [List.getElem?_map] at hP
  cases e : bs[i]? with
  | none => rw [e] at hP; cases hP
  | some b =>
    rw [e] at hP
    have hP := Option.some.inj hP
    subst hP
    have : bs.getD i false = b := by simp [List.getD, e]
    have hQ : Q (bs.getD i false) s := hQ
    rw [this] at hQ
    exact wpAny_truthy_bool hQ
theorem call_allB (hc : X.calm = true) : CallR X (.builtin "all") (rAll X.K) := by
  intro pins s σ H xs us Q I r h
  obtain ⟨p, bs, rfl, hp, q⟩ := h
  obtain ⟨u, rfl, ru⟩ := vals1 r
  cases ru
  obtain ⟨its, rv, pl, hz⟩ := I.list hp
  have ei := vals_bl rv
  subst ei
  have hlt : p < s.heap.objs.size := by
    obtain ⟨_, _, e, _⟩ := pl
    exact Heap.lt_size e
  have hh : X.A.handled = none := I.ok.hd hc
  refine call_all_walk (wpAny_pyIter_list pl.isList ⟨s.heap.objs.size, _, _, _, _, _, fun i => bs.getD i false, rfl, Walks.list (A := X.A.in1) hh s.heap.objs.size p (Nat.ne_of_lt hlt) (bs.map Value.bool).toArray, ⟨⟨_, Heap.get?_push_size _ rfl, rfl, rfl⟩, pl.isList.push _⟩, truth_bl bs, fun h' tk hk => ?_⟩)
  have e : (List.range (bs.map Value.bool).toArray.size).all (fun i => bs.getD i false) = bs.all id := by
    rw [List.size_toArray, List.length_map]
    exact range_all bs
  rw [e]
  refine ⟨.bl (bs.all id), H, I.kept (t' := tk) fun b o eb => hk b o (fun hm => ?_) (Heap.get?_push_of_some _ eb), rfl, q⟩
  exact absurd (Heap.lt_size eb) (by rw [List.mem_singleton.mp hm]; exact Nat.lt_irrefl _)

/-! ### max of a list of ints -/
/-! ### isinstance -/
def clsV : V → Option Value
  | .ty n => some (.type n)
  | .ref a => some (.ref a)
  | _ => none
/-! ### == of two lists of flat items -/
end
end L2

namespace L2
open PySem PySem.Spec PyProof.Rows
/-! ### comprehensions: the forms one uses -/
section
variable {ix : List (Option Nat)} {g : TG} {tt : TT} {te : TE} {σ : St} {H : Hp} {Q : VK} {K : PySem.W.Frag}
theorem comp_range {lo : Int} {n : Nat} (Pv : Nat → List V → Hp → Prop) (h0 : Pv 0 [] H) (hn : n ≤ sizeLine) (hl : ∀ i ys H, Pv i ys H → ys.length ≤ i)
    (hs : ∀ i ys H, i < n → Pv i ys H → g (.int (lo + i)) (blkSt ix σ) H fun σ2 H2 => Ext (blkSt ix σ) σ2 ∧ tt σ2 H2 fun ok H3 => if ok = true then te σ2 H3 fun y H4 => Pv (i + 1) (ys ++ [y]) H4 else Pv (i + 1) ys H3)
    (hd : ∀ ys H, Pv n ys H → ∀ p, H p = none → Q (.ref p) (upd H p (.lst ys))) : CompGo (Itr lo n) ix g tt te σ H Q := by
  refine ⟨fun i m ys H => m = n - i ∧ i ≤ n ∧ Pv i ys H, ⟨n, by simp, Nat.zero_le _, h0⟩, ?_⟩
  rintro i m ys H ⟨rfl, hi, p⟩
  refine ⟨Nat.le_trans (hl _ _ _ p) (Nat.le_trans hi hn), ?_⟩
  by_cases hlt : i < n
  · refine .inr ⟨hlt, Pv (i + 1), fun ys' H' p' => ⟨n - (i + 1), by omega, rfl, hlt, p'⟩, fun x H' y => ?_⟩
    obtain ⟨e, y⟩ := y
    subst e y
    exact hs i ys _ hlt p
  · have e : i = n := by omega
    subst e
    exact .inl ⟨Nat.le_refl _, hd ys H p⟩
theorem comp_list {a : Addr} {xs : List V} (Pv : Nat → List V → Hp → Prop) (h0 : Pv 0 [] H) (hn : xs.length ≤ sizeLine) (hl : ∀ i ys H, Pv i ys H → ys.length ≤ i) (hx : ∀ i ys H, Pv i ys H → SqL K H a xs)
    (hs : ∀ i x ys H, xs[i]? = some x → Pv i ys H → g x (blkSt ix σ) H fun σ2 H2 => Ext (blkSt ix σ) σ2 ∧ tt σ2 H2 fun ok H3 => if ok = true then te σ2 H3 fun y H4 => Pv (i + 1) (ys ++ [y]) H4 else Pv (i + 1) ys H3)
    (hd : ∀ ys H, Pv xs.length ys H → ∀ p, H p = none → Q (.ref p) (upd H p (.lst ys))) : CompGo (Itl K a) ix g tt te σ H Q := by
  refine ⟨fun i m ys H => m = xs.length - i ∧ i ≤ xs.length ∧ Pv i ys H, ⟨xs.length, by simp, Nat.zero_le _, h0⟩, ?_⟩
  rintro i m ys H ⟨rfl, hi, p⟩
  have q := hx i ys H p
  refine ⟨Nat.le_trans (hl _ _ _ p) (Nat.le_trans hi hn), ?_⟩
  by_cases hlt : i < xs.length
  · refine .inr ⟨⟨xs, xs[i], q, by simp [hlt]⟩, Pv (i + 1), fun ys' H' p' => ⟨xs.length - (i + 1), by omega, rfl, hlt, p'⟩, fun x H' y => ?_⟩
    obtain ⟨e, y⟩ := y
    subst e
    exact hs i x ys _ (y xs q) p
  · have e : i = xs.length := by omega
    subst e
    exact .inl ⟨⟨xs, q, Nat.le_refl _⟩, hd ys H p⟩
/-- [te for k in range(n)]: a value for each k, the heap stays -/
theorem comp_range_map {lo : Int} {n : Nat} (f : Nat → V) (hn : n ≤ sizeLine)
    (hs : ∀ i (R : VK), i < n → R (f i) H → Ext (blkSt ix σ) ((blkSt ix σ).set 0 (some (.int (lo + i)))) ∧ te ((blkSt ix σ).set 0 (some (.int (lo + i)))) H R)
    (hd : ∀ p, H p = none → Q (.ref p) (upd H p (.lst ((List.range n).map f)))) : CompGo (Itr lo n) ix (gName 0) tTrue te σ H Q := by
  refine comp_range (fun i ys H' => H' = H ∧ ys = (List.range i).map f) ⟨rfl, rfl⟩ hn (fun i ys H' ⟨_, e⟩ => by rw [e]; simp) ?_ (fun ys H' ⟨e1, e2⟩ p hp => by subst e1 e2; exact hd p hp)
  rintro i ys H' hi ⟨rfl, rfl⟩
  obtain ⟨h1, h2⟩ := hs i (fun y H4 => H4 = H' ∧ (List.range i).map f ++ [y] = (List.range (i + 1)).map f) hi ⟨rfl, by rw [List.range_succ, List.map_append]; rfl⟩
  exact ⟨h1, h2⟩
/-- [te for x in xs] -/
theorem comp_list_map {a : Addr} {xs : List V} (f : V → V) (hn : xs.length ≤ sizeLine) (hx : SqL K H a xs)
    (hs : ∀ x (R : VK), x ∈ xs → R (f x) H → Ext (blkSt ix σ) ((blkSt ix σ).set 0 (some x)) ∧ te ((blkSt ix σ).set 0 (some x)) H R)
    (hd : ∀ p, H p = none → Q (.ref p) (upd H p (.lst (xs.map f)))) : CompGo (Itl K a) ix (gName 0) tTrue te σ H Q := by
  refine comp_list (K := K) (a := a) (xs := xs) (fun i ys H' => H' = H ∧ ys = (xs.take i).map f) ⟨rfl, rfl⟩ hn (fun i ys H' ⟨_, e⟩ => by rw [e, List.length_map, List.length_take]; omega) (fun i ys H' ⟨e, _⟩ => by subst e; exact hx) ?_ (fun ys H' ⟨e1, e2⟩ p hp => by subst e1 e2; rw [List.take_length]; exact hd p hp)
  rintro i x ys H' hi ⟨rfl, rfl⟩
  obtain ⟨h1, h2⟩ := hs x (fun y H4 => H4 = H' ∧ (xs.take i).map f ++ [y] = (xs.take (i + 1)).map f) (List.mem_of_getElem? hi) ⟨rfl, by rw [List.take_add_one, hi, List.map_append]; rfl⟩
  exact ⟨h1, h2⟩
end
/-! ### places and slices -/
theorem atI_some {α : Type} {xs : List α} {i : Int} {v : α} (h0 : 0 ≤ i) (h : xs[i.toNat]? = some v) : atI xs i = some v := by
  have e : i = ((i.toNat : Nat) : Int) := by omega
  rw [e]
  exact atI_nat h
end L2

/-! ### the rules with K written (in a comprehension's block) -/
namespace L2
open PySem PySem.Spec PyProof.Rows
section
variable {X : Cx} {K : PySem.W.Frag} {tg l : Expr} {tl : TE} {pos : Pos} {es : List Expr} {t : TGs} {n : Nat}
theorem ix_tupK (h : X.K = K := by rfl) : IxR X (rIxT K) := h ▸ ix_tup
theorem pg_tupK {k : Nat} (hK : X.K = K) (hc : X.calm = true) (h : PGs X es t)
    (hn : (assignEach es X.env).length = n := by rfl) (hst : (assignEach es X.env).findIdx? (·.1) = none := by rfl) : PG X (.Tuple es k pos) (gTup K n t) := hK ▸ pg_tup hc h hn hst
variable {o e : Expr} {to : TE} {ta : TA} {name : Str} {apos cpos : Pos} {T id : String} {r : V → List V → Hp → VK → Prop}
end
end L2

namespace Bt
open PySem
theorem len : bootBuiltins "len" = some (.builtin "len") := by decide +kernel
theorem max : bootBuiltins "max" = some (.builtin "max") := by decide +kernel
theorem min : bootBuiltins "min" = some (.builtin "min") := by decide +kernel
theorem sum : bootBuiltins "sum" = some (.builtin "sum") := by decide +kernel
theorem sorted : bootBuiltins "sorted" = some (.builtin "sorted") := by decide +kernel
theorem any : bootBuiltins "any" = some (.builtin "any") := by decide +kernel
theorem all : bootBuiltins "all" = some (.builtin "all") := by decide +kernel
theorem isinstance : bootBuiltins "isinstance" = some (.builtin "isinstance") := by decide +kernel
theorem abs : bootBuiltins "abs" = some (.builtin "abs") := by decide +kernel
theorem int : bootBuiltins "int" = some (.type "int") := by decide +kernel
theorem str : bootBuiltins "str" = some (.type "str") := by decide +kernel
theorem bool : bootBuiltins "bool" = some (.type "bool") := by decide +kernel
theorem list : bootBuiltins "list" = some (.type "list") := by decide +kernel
theorem tuple : bootBuiltins "tuple" = some (.type "tuple") := by decide +kernel
theorem dict : bootBuiltins "dict" = some (.type "dict") := by decide +kernel
theorem range : bootBuiltins "range" = some (.type "range") := by decide +kernel
theorem zip : bootBuiltins "zip" = some (.type "zip") := by decide +kernel
theorem enumerate : bootBuiltins "enumerate" = some (.type "enumerate") := by decide +kernel
end Bt

/-! ### the rules whose looks at names the kernel alone checks -/
namespace L2
open PySem PySem.Spec PyProof.Rows
section
variable {X : Cx} {CX : CXT} {k : Nat} {f C : Addr} {fd : FuncData} {ps : List Str} {sp : Sp} {dvs : List V} {ds : List Value} {E : XK} {x m : Str} {p pos apos pos' : Pos} {e o : Expr} {es : List Expr} {ta te : TE} {t : TA} {id T : String} {r : List V → Hp → VK → Prop}
/-- a name of the frame's own -/
theorem pvl (i : Nat) (hN : X.N[i]? = some x := by kernel_rfl) (hv : X.env.scope.names.lookup x = some .local := by kernel_rfl) (hd : (x == ("__debug__" : Str)) = false := by kernel_rfl) (hcd : (x == ("__classdict__" : Str)) = false := by kernel_rfl) :
    PE X (.Name x pos) (tVar i) := pe_var hN (.inl hv) hd hcd
/-- a name with a cell -/
theorem pvc (i : Nat) (hN : X.N[i]? = some x := by kernel_rfl) (hv : X.env.scope.names.lookup x = some .cell := by kernel_rfl) (hd : (x == ("__debug__" : Str)) = false := by kernel_rfl) (hcd : (x == ("__classdict__" : Str)) = false := by kernel_rfl) :
    PE X (.Name x pos) (tVar i) := pe_var hN (.inr (.inl hv)) hd hcd
theorem pgl (i : Nat) (hN : X.N.Nodup) (hi : X.N[i]? = some x := by kernel_rfl) (hx : X.env.scope.names.lookup x = some .local := by kernel_rfl) : PG X (.Name x pos) (gName i) := pg_name hN hi (.inl hx) (.inr hx)
theorem pgc (i : Nat) (hN : X.N.Nodup) (hi : X.N[i]? = some x := by kernel_rfl) (hx : X.env.scope.names.lookup x = some .cell := by kernel_rfl) (hf : X.fn x = true := by kernel_rfl) : PG X (.Name x pos) (gName i) := pg_name hN hi (.inr hx) (.inl hf)
theorem psl (i : Nat) (hN : X.N.Nodup) (he : PE X e te) (hi : X.N[i]? = some x := by kernel_rfl) (hx : X.env.scope.names.lookup x = some .local := by kernel_rfl) (hs : swapsWith e (some (.Name x pos')) pos.line X.env = pure false := by rfl) :
    PS X (.Assign [.Name x pos'] e pos) (tAsg te (gName i)) := ps_set hN hi (.inl hx) he hs (.inr hx)
theorem psc (i : Nat) (hN : X.N.Nodup) (he : PE X e te) (hi : X.N[i]? = some x := by kernel_rfl) (hx : X.env.scope.names.lookup x = some .cell := by kernel_rfl) (hf : X.fn x = true := by kernel_rfl) (hs : swapsWith e (some (.Name x pos')) pos.line X.env = pure false := by kernel_rfl) :
    PS X (.Assign [.Name x pos'] e pos) (tAsg te (gName i)) := ps_set hN hi (.inr hx) he hs (.inl hf)
theorem pcall (F : FnOk X.prog X.w X.K X.mg X.base CX k f fd ps sp) (hr : Room k X.A) (hm : X.mg x = some (.ref f)) (hk : PySem.W.keepIn X.K (.ref f) = true) (hb : Binds X.K fd ps []) (hx : Passes CX X E) (ha : PA X (e :: es) t)
    (hg : X.env.scope.names.lookup x = some .globalImplicit := by kernel_rfl) (hdb : (x == ("__debug__" : Str)) = false := by kernel_rfl) (he : starEach (e :: es) X.env = (false, eval e X.env) :: starEach es X.env := by rfl) (hpl : (backTo pos (starEach es X.env)).any (·.1) = false := by rfl) :
    PE X (.Call (.Name x p) (e :: es) [] pos) (tCall sp [] E t) := pe_call F hr hg hm hk hb .nil hx ha hdb he hpl
theorem pcallB (hc : CallR X (.builtin id) r) (hm : X.mg x = none) (hv : bootBuiltins x = some (.builtin id)) (ha : PA X (e :: es) t) (hg : X.env.scope.names.lookup x = some .globalImplicit := by kernel_rfl) (hn : (x == ("__name__" : Str)) = false := by kernel_rfl) (hdb : (x == ("__debug__" : Str)) = false := by kernel_rfl)
    (he : starEach (e :: es) X.env = (false, eval e X.env) :: starEach es X.env := by rfl) (hpl : (backTo pos (starEach es X.env)).any (·.1) = false := by rfl) : PE X (.Call (.Name x p) (e :: es) [] pos) (tCB r t) := pe_callB hc hg hm hv ha (by simpa using hn) hdb he hpl
theorem pcallT (hc : CallR X (.type T) r) (hm : X.mg x = none) (hv : bootBuiltins x = some (.type T)) (ha : PA X (e :: es) t) (hg : X.env.scope.names.lookup x = some .globalImplicit := by kernel_rfl) (hn : (x == ("__name__" : Str)) = false := by kernel_rfl) (hdb : (x == ("__debug__" : Str)) = false := by kernel_rfl)
    (he : starEach (e :: es) X.env = (false, eval e X.env) :: starEach es X.env := by rfl) (hpl : (backTo pos (starEach es X.env)).any (·.1) = false := by rfl) : PE X (.Call (.Name x p) (e :: es) [] pos) (tCB r t) := pe_callTy hc hg hm hv ha (by simpa using hn) hdb he hpl
theorem pbltn {v : V} {u : Value} (hm : X.mg x = none) (hv : bootBuiltins x = some u) (hr : RelV v u) (hg : X.env.scope.names.lookup x = some .globalImplicit := by kernel_rfl) (hn : (x == ("__name__" : Str)) = false := by kernel_rfl) (hdb : (x == ("__debug__" : Str)) = false := by kernel_rfl) :
    PE X (.Name x pos) (tC v) := pe_bltn hg hm hv hr (by simpa using hn) hdb
theorem pglob {v : V} {u : Value} (hm : X.mg x = some u) (hr : RelV v u) (hg : X.env.scope.names.lookup x = some .globalImplicit := by kernel_rfl) (hdb : (x == ("__debug__" : Str)) = false := by kernel_rfl) : PE X (.Name x pos) (tC v) := pe_glob hg hm hr hdb
theorem prange1 {tg a : Expr} (hm : X.mg "range" = none) (ha : PA X [a] t) (hg : X.env.scope.names.lookup ("range" : Str) = some .globalImplicit := by kernel_rfl) (hs : starEach [a] X.env = [(false, eval a X.env)] := by rfl) : PI X tg (.Call (.Name "range" p) [a] [] pos) (iRng1 t) := pi_range1 hg hm ha hs
end
end L2

/-! ### exceptions of own classes: raised, passed on -/
namespace L2
open PySem PySem.Spec PyProof.Rows
/-- an exception of the class at C flies out of a call: s, H ahead of it, s', H' behind it -/
structure Fly (P : Program) (w : World) (outer : List Env) (H H' : Hp) (s s' : Shared) (a C : Addr) : Prop where
  os : s'.os = s.os
  bare : AllBare s'.gens
  un : Un (frs outer) [] H H' s.heap s'.heap
  hok : HOk P w H' s'.heap
  free : H' a = none
  fl : ∃ (B : Heap) (a0 : Value), Heap.FlyingW B outer a (.ref C) a0 s'.heap ∧ (∀ b o, s.heap.get? b = some o → H b = none → b ∉ frs outer → B.get? b = some o) ∧ (∀ b o, s.heap.get? b = some o → b ∉ frs outer → ∃ o', B.get? b = some o') ∧ ∀ b, H' b ≠ none → ∃ o, s'.heap.get? b = some o ∧ B.get? b = some o
/-- how an exception lies behind a call -/
def CX1 (P : Program) (w : World) : CXT := fun outer H s E e s' => ∃ a C H', e = .ref a ∧ Fly P w outer H H' s s' a C ∧ E (.ref C) none H'
theorem hok_there {P : Program} {w : World} {H : Hp} {h : Heap} (x : HOk P w H h) {b : Addr} (e : H b ≠ none) : ∃ o, h.get? b = some o := by
  cases q : H b with
  | none => exact absurd q e
  | some u =>
    have z := x b u q
    cases u with
    | lst xs => obtain ⟨_, _, _, _, e⟩ := z; exact ⟨_, e⟩
    | tup xs => obtain ⟨_, _, _, o, e, _⟩ := z; exact ⟨_, e⟩
    | dK kvs => obtain ⟨_, _, _, _, o, _, _, e, _⟩ := z; exact ⟨_, e⟩
    | dT kvs => obtain ⟨_, _, _, _, o, _, _, e, _⟩ := z; exact ⟨_, e⟩
    | set S n => obtain ⟨o, _, _, _, e, _⟩ := z; exact ⟨_, e⟩
    | ins C dx fs => obtain ⟨_, _, _, e, _⟩ := z; exact ⟨_, e⟩
    | own y => obtain ⟨_, e⟩ := z; exact ⟨_, e⟩
    | xd fs => obtain ⟨_, ⟨_, _, _, e, _⟩, _⟩ := z; exact ⟨_, e⟩
    | rng lo hi => obtain ⟨_, _, _, e⟩ := z; exact ⟨_, e⟩
    | frz ob v => obtain ⟨e, _⟩ := z; exact ⟨_, e⟩
    | tbl ps =>
      have z : h.get? b = some _ := z
      exact ⟨_, z⟩
    | met f y =>
      have z : h.get? b = some _ := z
      exact ⟨_, z⟩
    | ext φ => obtain ⟨_, ⟨_, e⟩, _⟩ := z; exact ⟨_, e⟩
/-- behind a step that keeps what is not hidden and the frames up to their slots -/
theorem un_after {fr : List Addr} {H0 H1 H2 : Hp} {h0 h1 h2 : Heap} (u : Un fr [] H0 H1 h0 h1) (keep : ∀ b o, h1.get? b = some o → H1 b = none → b ∉ fr → h0.get? b = some o → h2.get? b = some o)
    (slot : ∀ b o, h1.get? b = some o → H1 b = none → b ∈ fr → ∃ sl, h2.get? b = some { o with slots := sl }) (free : ∀ b, H1 b = none → (∃ o, h1.get? b = some o) → H2 b = none)
    (there : ∀ b o, h0.get? b = some o → ∃ o', h2.get? b = some o') (tups : ∀ b xs, H1 b = some (.tup xs) → H2 b = some (.tup xs)) (frzs : ∀ b o x, H1 b = some (.frz o x) → H2 b = some (.frz o x))
    (tbls : ∀ b ps, H1 b = some (.tbl ps) → ∃ more, H2 b = some (.tbl (ps ++ more))) : Un fr [] H0 H2 h0 h2 where
  keep := fun b o e n hb hx => keep b o (u.keep b o e n hb hx) (u.free b o e n hx) hb e
  slot := fun b o e n hb hx => by
    obtain ⟨sl, e1⟩ := u.slot b o e n hb hx
    obtain ⟨sl', e2⟩ := slot b _ e1 (u.free b o e n hx) hb
    exact ⟨sl', e2⟩
  free := fun b o e n hx => by
    obtain ⟨o', e1⟩ := u.there b o e hx
    exact free b (u.free b o e n hx) ⟨o', e1⟩
  there := fun b o e hx => there b o e
  tups := fun b xs e => tups b xs (u.tups b xs e)
  frzs := fun b o x e => frzs b o x (u.frzs b o x e)
  tbls := fun b ps e => by
    obtain ⟨m1, e1⟩ := u.tbls b ps e
    obtain ⟨m2, e2⟩ := tbls b _ e1
    exact ⟨m1 ++ m2, by rw [e2, Array.append_assoc]⟩
section
variable {P : Program} {w : World} {K : PySem.W.Frag} {mg : Str → Option Value} {base : Heap} {N : List Str} {qual : Str} {scope : Scope} {f : Addr} {cd : Value} {A : Around} {outer : List Env} {s : Shared} {H : Hp} {E : XK}
/-- raised in this frame -/
theorem fly_made {CX : CXT} {pins : List (Addr × Obj)} {σ : St} {H1 : Hp} {s1 : Shared} {h' : Heap} {e C : Addr} {vs : List Value} {Q : Unit → Shared → Prop} {EE : Value → Shared → Prop} (I : Inv (cxOf CX P w K mg base N qual scope f cd A outer s H E) pins σ H1 s1) (hx : Heap.MadeExcOf s1.heap h' e (.ref C) vs)
    (hQ : ∀ h2, Fly P w outer H H1 s { s1 with heap := h2 } e C → Q () { s1 with heap := h2 }) :
    wpAny (model P w) (cxOf CX P w K mg base N qual scope f cd A outer s H E).A (leaving (cxOf CX P w K mg base N qual scope f cd A outer s H E).env (.ref e)) Q EE { s1 with heap := h' } := by
  have fm : ∀ b ∈ frs (cxOf CX P w K mg base N qual scope f cd A outer s H E).stack, s1.heap.get? b ≠ none := fun b hb => by
    obtain ⟨_, o, ho, _⟩ := I.stack.mem hb
    rw [ho]
    exact fun z => by cases z
  have inB : ∀ b o, s1.heap.get? b = some o → b ∉ frs (cxOf CX P w K mg base N qual scope f cd A outer s H E).stack → (PySem.W.hideAll s1.heap (frs (cxOf CX P w K mg base N qual scope f cd A outer s H E).stack)).get? b = some o := fun b o e hb => PySem.W.hideAll_get _ e hb
  have hl : s1.heap.FunFrames (PySem.W.hideAll s1.heap (frs (cxOf CX P w K mg base N qual scope f cd A outer s H E).stack)) (cxOf CX P w K mg base N qual scope f cd A outer s H E).stack :=
    PySem.W.funFrames_hide I.stack fun env he b hb => List.mem_filterMap.mpr ⟨env, he, hb⟩
  refine wpAny_leaves_madeW (base := PySem.W.hideAll s1.heap (frs (cxOf CX P w K mg base N qual scope f cd A outer s H E).stack)) (h := s1.heap) I.ok.frames rfl (fun b o q => PySem.W.of_hideAll _ q) hl hx fun h2 t fl tup hnt hsm => hQ h2 ?_
  have keepB : ∀ b o, s1.heap.get? b = some o → b ∉ frs (cxOf CX P w K mg base N qual scope f cd A outer s H E).stack → h2.get? b = some o := fun b o e hb => fl.1 b o (inB b o e hb)
  have below : ∀ b o, s.heap.get? b = some o → b ∉ frs outer → b ∉ frs (cxOf CX P w K mg base N qual scope f cd A outer s H E).stack := fun b o e hb z => by
    rcases List.mem_cons.mp (I.stkSub b z) with q | q
    · have h1 := Heap.lt_size e
      rw [q] at h1
      exact absurd (Nat.lt_of_lt_of_le h1 I.ok.above) (Nat.lt_irrefl _)
    · exact hb q
  have frm : ∀ b ∈ frs (cxOf CX P w K mg base N qual scope f cd A outer s H E).stack, ∀ o, s1.heap.get? b = some o → ∃ sl, h2.get? b = some { o with slots := sl } := fun b hb o e => by
    obtain ⟨_, o', ho, hd⟩ := I.stack.mem hb
    rw [e] at ho
    cases ho
    exact hsm b o (hx.keeps b o e) hd
  have sub : ∀ b ∈ frs outer, b ∈ frs (cxOf CX P w K mg base N qual scope f cd A outer s H E).stack := fun b hb => by
    show b ∈ frs (_ :: outer)
    unfold frs at hb ⊢
    obtain ⟨env, he, hf⟩ := List.mem_filterMap.mp hb
    exact List.mem_filterMap.mpr ⟨env, List.mem_cons_of_mem _ he, hf⟩
  have trk : ∀ b, H1 b ≠ none → ∃ o, h2.get? b = some o ∧ (PySem.W.hideAll s1.heap (frs (cxOf CX P w K mg base N qual scope f cd A outer s H E).stack)).get? b = some o := fun b hb => by
    obtain ⟨o, ho⟩ := hok_there I.hok hb
    have nb : b ∉ frs (cxOf CX P w K mg base N qual scope f cd A outer s H E).stack := fun z => hb (I.stkFree b z)
    exact ⟨o, keepB b o ho nb, inB b o ho nb⟩
  refine ⟨I.os, I.bare, un_after I.base (fun b o e _ hb e0 => keepB b o e (below b o e0 hb)) (fun b o e _ hb => frm b (sub b hb) o e) (fun b n _ => n) (fun b o e => ?_) (fun _ _ q => q) (fun _ _ _ q => q) (fun b ps q => ⟨#[], by rw [q]; simp⟩), fun b o q => ?_, ?_, _, _, fl, fun b o e n hb => ?_, fun b o e hb => ?_, trk⟩
  · obtain ⟨o', e1⟩ := I.base.there b o e (by show b ∉ []; simp)
    by_cases hb : b ∈ frs (cxOf CX P w K mg base N qual scope f cd A outer s H E).stack
    · obtain ⟨sl, e2⟩ := frm b hb o' e1
      exact ⟨_, e2⟩
    · exact ⟨o', keepB b o' e1 hb⟩
  · refine (I.hok b o q).stay (fun c u hc e => ?_) (fun _ z => z) fun _ _ z => z
    have hc' : H1 c ≠ none := by
      rcases hc with rfl | hc
      · rw [q]; exact fun z => by cases z
      · rw [hc]; exact fun z => by cases z
    exact keepB c u e fun z => hc' (I.stkFree c z)
  · cases q : H1 e with
    | none => rfl
    | some u =>
      obtain ⟨o, ho⟩ := hok_there I.hok (b := e) (by rw [q]; exact fun z => by cases z)
      rw [hx.new] at ho
      cases ho
  · have e1 := I.base.keep b o e n hb (by show b ∉ []; simp)
    exact inB b o e1 (below b o e hb)
  · obtain ⟨o', e1⟩ := I.base.there b o e (by show b ∉ []; simp)
    exact ⟨o', inB b o' e1 (below b o e hb)⟩
/-- passed on from a callee -/
theorem fly_on {CX : CXT} {pins : List (Addr × Obj)} {σ : St} {H1 H2 : Hp} {s1 s2 : Shared} {e C : Addr} {Q : Unit → Shared → Prop} {EE : Value → Shared → Prop} (I : Inv (cxOf CX P w K mg base N qual scope f cd A outer s H E) pins σ H1 s1) (F : Fly P w (cxOf CX P w K mg base N qual scope f cd A outer s H E).stack H1 H2 s1 s2 e C)
    (hQ : ∀ h2, Fly P w outer H H2 s { s2 with heap := h2 } e C → Q () { s2 with heap := h2 }) :
    wpAny (model P w) (cxOf CX P w K mg base N qual scope f cd A outer s H E).A (leaving (cxOf CX P w K mg base N qual scope f cd A outer s H E).env (.ref e)) Q EE s2 := by
  obtain ⟨fos, fbare, fun_, fhok, ffree, B, a0, hfl, hst, hth, htr⟩ := F
  refine wpAny_leaves_onW I.ok.frames rfl hfl fun h2 fl hsm => hQ h2 ?_
  have below : ∀ b o, s.heap.get? b = some o → b ∉ frs outer → b ∉ frs (cxOf CX P w K mg base N qual scope f cd A outer s H E).stack := fun b o e hb z => by
    rcases List.mem_cons.mp (I.stkSub b z) with q | q
    · have h1 := Heap.lt_size e
      rw [q] at h1
      exact absurd (Nat.lt_of_lt_of_le h1 I.ok.above) (Nat.lt_irrefl _)
    · exact hb q
  have sub : ∀ b ∈ frs outer, b ∈ frs (cxOf CX P w K mg base N qual scope f cd A outer s H E).stack := fun b hb => by
    show b ∈ frs (_ :: outer)
    unfold frs at hb ⊢
    obtain ⟨env, he, hf⟩ := List.mem_filterMap.mp hb
    exact List.mem_filterMap.mpr ⟨env, List.mem_cons_of_mem _ he, hf⟩
  have frm : ∀ b ∈ frs (cxOf CX P w K mg base N qual scope f cd A outer s H E).stack, ∀ o, s1.heap.get? b = some o → ∃ sl, h2.get? b = some { o with slots := sl } := fun b hb o e => by
    obtain ⟨sl, e1⟩ := fun_.slot b o e (I.stkFree b hb) hb (by simp)
    obtain ⟨_, o', ho, hd⟩ := I.stack.mem hb
    rw [e] at ho
    cases ho
    obtain ⟨sl', e2⟩ := hsm b _ e1 hd
    exact ⟨sl', e2⟩
  have keepB : ∀ b o, s1.heap.get? b = some o → H1 b = none → b ∉ frs (cxOf CX P w K mg base N qual scope f cd A outer s H E).stack → h2.get? b = some o := fun b o e n hb => fl.1 b o (hst b o e n hb)
  have trk : ∀ b, H2 b ≠ none → ∃ o, s2.heap.get? b = some o ∧ h2.get? b = some o ∧ B.get? b = some o := fun b hb => by
    obtain ⟨o, e1, e2⟩ := htr b hb
    exact ⟨o, e1, fl.1 b o e2, e2⟩
  refine ⟨fos.trans I.os, fbare, un_after I.base (fun b o e n hb e0 => keepB b o e n (below b o e0 hb)) (fun b o e _ hb => frm b (sub b hb) o e) (fun b n ⟨o, e⟩ => fun_.free b o e n (by simp)) (fun b o e => ?_) (fun b xs q => fun_.tups b xs q) (fun b o x q => fun_.frzs b o x q) (fun b ps q => fun_.tbls b ps q), fun b o q => ?_, ffree, B, a0, fl, fun b o e n hb => ?_, fun b o e hb => ?_, fun b hb => ?_⟩
  · obtain ⟨o', e1⟩ := I.base.there b o e (by show b ∉ []; simp)
    by_cases hb : b ∈ frs (cxOf CX P w K mg base N qual scope f cd A outer s H E).stack
    · obtain ⟨sl, e2⟩ := frm b hb o' e1
      exact ⟨_, e2⟩
    · obtain ⟨o2, e2⟩ := hth b o' e1 hb
      exact ⟨o2, fl.1 b o2 e2⟩
  · refine (fhok b o q).stay (fun c u hc e => ?_) (fun _ z => z) fun _ _ z => z
    have hc' : H2 c ≠ none := by
      rcases hc with rfl | hc
      · rw [q]; exact fun z => by cases z
      · rw [hc]; exact fun z => by cases z
    obtain ⟨o', e1, e2, _⟩ := trk c hc'
    have e : s2.heap.get? c = some u := e
    rw [e1] at e
    cases e
    exact e2
  · have e1 := I.base.keep b o e n hb (by show b ∉ []; simp)
    exact hst b o e1 (I.base.free b o e n (by show b ∉ []; simp)) (below b o e hb)
  · obtain ⟨o', e1⟩ := I.base.there b o e (by show b ∉ []; simp)
    exact hth b o' e1 (below b o e hb)
  · obtain ⟨o, _, e2, e3⟩ := trk b hb
    exact ⟨o, e2, e3⟩
end
end L2

namespace L2
open PySem PySem.Spec PyProof.Rows
/-- what is raised in this frame reaches what is wanted of exceptions -/
def Raises (X : Cx) (E : XK) : Prop := ∀ (pins : List (Addr × Obj)) (σ : St) (H : Hp) (s : Shared) (h' : Heap) (e C : Addr) (vs : List Value), Inv X pins σ H s → Heap.MadeExcOf s.heap h' e (.ref C) vs → E (.ref C) none H → X.xe (.ref e) { s with heap := h' }
section
variable {P : Program} {w : World} {K : PySem.W.Frag} {mg : Str → Option Value} {base : Heap} {N : List Str} {qual : Str} {scope : Scope} {f : Addr} {cd : Value} {A : Around} {outer : List Env} {s : Shared} {H : Hp} {E : XK}
theorem raises1 : Raises (cxOf (CX1 P w) P w K mg base N qual scope f cd A outer s H E) E := fun pins σ H1 s1 h' e C vs I hx q => fly_made I hx fun h2 F => ⟨e, C, H1, rfl, F, q⟩
theorem passes1 : Passes (CX1 P w) (cxOf (CX1 P w) P w K mg base N qual scope f cd A outer s H E) E := fun pins σ H1 s1 e s2 I ⟨a, C, H2, ea, F, q⟩ => by
  subst ea
  exact fly_on I F fun h2 F2 => ⟨a, C, H2, rfl, F2, q⟩
theorem own1 : PassesOwn (model (cxOf (CX1 P w) P w K mg base N qual scope f cd A outer s H E).prog (cxOf (CX1 P w) P w K mg base N qual scope f cd A outer s H E).w) (cxOf (CX1 P w) P w K mg base N qual scope f cd A outer s H E).A (cxOf (CX1 P w) P w K mg base N qual scope f cd A outer s H E).env (cxOf (CX1 P w) P w K mg base N qual scope f cd A outer s H E).xe :=
  PassesOwn.leaving
end
/-- a callee that is shown not to raise -/
theorem never1 {P : Program} {w : World} {X : Cx} : Passes (CX1 P w) X E0 := fun _ _ _ _ _ _ _ ⟨_, _, _, _, _, q⟩ => q.elim
section
variable {P : Program} {w : World} {K : PySem.W.Frag} {mg : Str → Option Value} {base : Heap}
/-- THE RULE for a def that may raise -/
theorem Fun.ok1 {x qual : Str} {st : Stmt} {f : Addr} {fd : FuncData} {N ps : List Str} {k : Nat} {sp : Sp} (F : Fun K x qual st f fd) (S : FnScope N ps (defScope st)) (len : ∀ vs H Q E, sp vs H Q E → vs.length = ps.length)
    (hbody : ∀ (cdv : Value) (A : Around) (outer : List Env) (s : Shared) (H : Hp) (vs : List V) (Q : VK) (E : XK), Room k (A.deeper (envOfC qual (defScope st) s.heap.objs.size f cdv)) → sp vs H Q E →
      ∃ t, PSs (cxOf (CX1 P w) P w K mg base N qual (defScope st) f cdv A outer s H E) (defBody st) t ∧ t { nx := fun _ H' => Q .non H', rt := Q } (start N vs) H) : FnOk P w K mg base (CX1 P w) (k + 1) f fd ps sp := by
  obtain ⟨oc, od, kV, doc, pm, an, cdv, ct, osl, rfl, lk, hcd⟩ := F.ex
  exact fn_of lk hcd S len fun A outer s H vs Q E hr hsp => hbody cdv A outer s H vs Q E hr hsp
end
/-- the mro behind the own classes -/
abbrev bmV : List Value := [.type "ValueError", .type "Exception", .type "BaseException", .type "object"]
theorem own_obj {K : PySem.W.Frag} {h : Heap} {C : Addr} {bmB : List Value} {newId : String} (X : K.In h) (q : PySem.W.excIn K C bmB newId = true) :
    ∃ bm N nm qn bs hdct sn sub ab col dd k0 k1 k2 k3 k5 mN, h.get? C = some (excClassObj nm qn C N bs bm hdct sn sub ab col dd k0 k1 k2 k3 k5 newId) ∧ h.Ns N mN ∧ mN "__init__" = none ∧ OwnTail h bmB bm := by
  unfold PySem.W.excIn at q
  split at q
  · rename_i dd cd sl ho
    split at q
    · rename_i C' bm k0 k1 k2 k3 n k5 hm hs
      simp only [Bool.and_eq_true, beq_iff_eq, Bool.not_eq_true'] at q
      obtain ⟨⟨⟨⟨⟨e1, e2⟩, hdel⟩, ht⟩, hok⟩, hni⟩ := q
      subst e1 e2
      obtain ⟨nm, bs, mro, ns, qn, hd, sn, sub, ab, col, del⟩ := cd
      dsimp only at hm hdel hok hni
      subst hm hdel
      have hsl : sl = #[k0, k1, k2, k3, some (.builtin n), k5] := by
        obtain ⟨l⟩ := sl
        simp only at hs
        rw [hs]
      subst hsl
      exact ⟨bm, ns, nm, qn, bs, hd, sn, sub, ab, col, dd, k0, k1, k2, k3, k5, _, X _ _ ho, .of_isNs (PySem.W.isNs_of_in X hok), PySem.W.nsMap_none_of_in X hok hni, PySem.W.tail_of_in X ht⟩
    · cases q
  · cases q
/-- raise C(..) -/
def tRaise (C : Addr) (E : XK) (t : TA) : TS := fun _ σ H => t σ H fun vs H1 => vs.length ≤ sizeLine ∧ E (.ref C) none H1
section
variable {X : Cx} {E : XK} {C : Addr} {x : Str} {np cpos pos : Pos} {e : Expr} {es : List Expr} {t : TA}
theorem ps_raise (hR : Raises X E) (hc : X.calm = true) (hm : X.mg x = some (.ref C)) (q : PySem.W.excIn X.K C bmV "ValueError.__new__" = true) (ha : PA X (e :: es) t)
    (hg : X.env.scope.names.lookup x = some .globalImplicit := by kernel_rfl) (hdb : (x == ("__debug__" : Str)) = false := by kernel_rfl)
    (he : starEach (e :: es) X.env = (false, eval e X.env) :: starEach es X.env := by rfl) (hpl : (backTo cpos (starEach es X.env)).any (·.1) = false := by rfl) :
    PS X (.Raise (some (.Call (.Name x np) (e :: es) [] cpos)) none pos) (tRaise C E t) := by
  intro pins s σ H D I h
  obtain ⟨tl, N, nm, qn, bs, hdct, sn, sub, ab, col, dd, k0, k1, k2, k3, k5, mN, hC, hN, hni, T⟩ := own_obj I.mod.kin q
  refine wpAny_Raise_call_subT (C := C) (nm := nm) (q := qn) (N := N) (bs := bs) (bm := tl) (hdct := hdct) (sn := sn) (sub := sub) (ab := ab) (col := col) (dd := dd) (k0 := k0) (k1 := k1) (k2 := k2) (k3 := k3) (k5 := k5)
    PySem.F.excBase_ValueError (mN := mN) (T.hasType PySem.F.excBase_ValueError.hasBase) (I.ok.hd hc) (by rw [he]; show (false || (backTo cpos (starEach es X.env)).any (·.1)) = false; rw [hpl]; rfl) hni (ld_glob I hg hm ⟨rfl, ?_⟩ hdb)
  have ha' := ha cpos pins s σ H _ I h
  rw [he] at ha' ⊢
  refine Calls.evalArgs_plain (wpAny_mono ha' (fun us s2 h2 => ?_) fun _ _ y => y)
  obtain ⟨vs, H2, I2, rv, hl, hE⟩ := h2
  refine ⟨rfl, by rw [← rv.length]; exact hl, I2.bk _ _ hC, hN.keeps I2.bk, T.keeps I2.bk, fun h' e' hx => hR pins σ H2 s2 h' e' C us I2 hx hE⟩
end
end L2

/-! ### try: .. except C as n: .. -/
namespace L2
open PySem PySem.Spec PyProof.Rows
/-- an exception out of a callee, ahead of it the state with these locals -/
def XP (X : Cx) (pins : List (Addr × Obj)) (σ : St) (EX : XK) : Value → Shared → Prop := fun e s' => ∃ H1 s1, Inv X pins σ H1 s1 ∧ CX1 X.prog X.w X.stack H1 s1 EX e s'
abbrev TEX := St → Hp → VK → XK → Prop
abbrev TSX := Ends → XK → St → Hp → Prop
def PEX (X : Cx) (e : Expr) (t : TEX) : Prop :=
  ∀ (pins : List (Addr × Obj)) (s : Shared) (σ : St) (H : Hp) (Q : VK) (EX : XK), Inv X pins σ H s → t σ H Q EX → wpAny (model X.prog X.w) X.A (eval e X.env) (EP X pins σ Q) (XP X pins σ EX) s
def PSX (X : Cx) (st : Stmt) (t : TSX) : Prop :=
  ∀ (pins : List (Addr × Obj)) (s : Shared) (σ : St) (H : Hp) (D : Ends) (EX : XK), Inv X pins σ H s → t D EX σ H → wpAny (model X.prog X.w) X.A (exec st X.env) (SP X pins D) (XP X pins σ EX) s
def PSXs (X : Cx) (st : List Stmt) (t : TSX) : Prop :=
  ∀ (pins : List (Addr × Obj)) (s : Shared) (σ : St) (H : Hp) (D : Ends) (EX : XK), Inv X pins σ H s → t D EX σ H → wpAny (model X.prog X.w) X.A (execs st X.env) (SP X pins D) (XP X pins σ EX) s
def tCallX (sp : Sp) (dvs : List V) (t : TA) : TEX := fun σ H Q EX => t σ H fun vs H1 => sp (vs ++ dvs) H1 Q EX
section
variable {X : Cx} {k : Nat} {f C : Addr} {fd : FuncData} {ps : List Str} {sp : Sp} {dvs : List V} {ds : List Value} {x m : Str} {p pos apos : Pos} {e o : Expr} {es : List Expr} {ta : TE} {t : TA}
theorem run_fnX {pins : List (Addr × Obj)} {σ : St} {H : Hp} {s : Shared} {Q : VK} {EX : XK} {us : List Value} {vs : List V} (F : FnOk X.prog X.w X.K X.mg X.base (CX1 X.prog X.w) k f fd ps sp) (hr : Room k X.A) (hb : Binds X.K fd ps ds) (hd : Vals dvs ds)
    (I : Inv X pins σ H s) (r : Vals vs us) (h : sp (vs ++ dvs) H Q EX) : wpAny (model X.prog X.w) X.A (call (.ref f) us) (EP X pins σ Q) (XP X pins σ EX) s := by
  have r2 : Vals (vs ++ dvs) (us ++ ds) := r.append hd
  have hl : (us ++ ds).length = ps.length := by rw [← r2.length]; exact F.len _ _ _ _ h
  refine wpAny_call (codeAny_mono (F.run X.A X.stack s H ⟨us, []⟩ (us ++ ds) (vs ++ dvs) Q EX hr I.env0 (hb s us I.kIn hl) r2 h) fun r s' hq => ?_)
  cases r with
  | error e => exact ⟨H, s, I, hq⟩
  | ok fl =>
    cases fl with
    | ret u => exact I.after hq
    | next => exact False.elim hq
    | brk => exact False.elim hq
    | cont => exact False.elim hq
theorem pex_call (F : FnOk X.prog X.w X.K X.mg X.base (CX1 X.prog X.w) k f fd ps sp) (hr : Room k X.A) (hg : Gl X x) (hm : X.mg x = some (.ref f)) (hk : PySem.W.keepIn X.K (.ref f) = true) (hb : Binds X.K fd ps ds) (hd : Vals dvs ds)
    (ha : PA X.nox (e :: es) t) (hdb : (x == ("__debug__" : Str)) = false := by decide) (he : starEach (e :: es) X.env = (false, eval e X.env) :: starEach es X.env := by rfl) (hpl : (backTo pos (starEach es X.env)).any (·.1) = false := by rfl) :
    PEX X (.Call (.Name x p) (e :: es) [] pos) (tCallX sp dvs t) := by
  intro pins s σ H Q EX I h
  refine wpAny_Call_Name_kw (ld_glob I hg hm ?_ hdb)
  refine PySem.W.callWith_K (h₀ := X.base) I.ok.mod.kin hk (wpAny_mono (ha pos pins s σ H _ (I.wish _) h) (fun us s1 ⟨vs, H1, I1, r, q⟩ => ⟨I1.kIn, ?_⟩) fun _ _ z => False.elim z) he hpl
  exact run_fnX F hr hb hd I1.unwish r q
def tDropX (te : TEX) : TSX := fun D EX σ H => te σ H (fun _ H1 => D.nx σ H1) EX
theorem psx_expr {te : TEX} (he : PEX X e te) (hs : swapsWith e none pos.line X.env = pure false := by rfl) : PSX X (.Expr e pos) (tDropX te) := by
  intro pins s σ H D EX I h
  exact wpAny_Expr_any (wpAny_mono (he pins s σ H _ EX I h) (fun v s1 ⟨x, H1, I1, r1, q1⟩ => ⟨σ, H1, I1, q1⟩) fun _ _ z => z) I.quiet hs
def tIfX (c : TT) (t u : TSX) : TSX := fun D EX σ H => c σ H fun b H1 => if b = true then t D EX σ H1 else u D EX σ H1
theorem psx_if {c : Expr} {a b : List Stmt} {tc : TT} {t u : TSX} (hc : PT X.nox c tc) (ha : PSXs X a t) (hb : PSXs X b u) : PSX X (.If c a b pos) (tIfX tc t u) := by
  intro pins s σ H D EX I h
  refine wpAny_If (wpAny_mono (hc pins s σ H _ (I.wish _) h) (fun d s1 ⟨H1, I1, q1⟩ => ?_) fun _ _ z => False.elim z)
  cases d with
  | true => exact ha pins s1 σ H1 D EX I1.unwish q1
  | false => exact hb pins s1 σ H1 D EX I1.unwish q1
theorem psxs_one {st : Stmt} {t : TSX} (h1 : PSX X st t) : PSXs X [st] t := by
  intro pins s σ H D EX I h
  refine wpAny_execs_cons (wpAny_mono (h1 pins s σ H D EX I h) (fun f s1 q => ?_) fun _ _ z => z)
  cases f with
  | next => exact wpAny_execs_nil q
  | ret v => exact q
  | brk => exact q
  | cont => exact q
end
/-- a class of exceptions of one's own: the mro behind it -/
def ecls (K : PySem.W.Frag) (C : Addr) : Option (List Value) := match K.lookup C with
  | some ⟨.type "type", _, .cls cd, sl⟩ => (match cd.mro, sl.toList with
    | .ref C' :: bm, [_, _, _, _, some (.builtin _), _] => if (C' == C && !cd.hasDel) = true then some bm else none
    | _, _ => none)
  | _ => none
theorem ecls_obj {K : PySem.W.Frag} {h : Heap} {C : Addr} {bm : List Value} (X : K.In h) (q : ecls K C = some bm) :
    ∃ N nm qn bs hdct sn sub ab col dd k0 k1 k2 k3 k5 newId, h.get? C = some (excClassObj nm qn C N bs bm hdct sn sub ab col dd k0 k1 k2 k3 k5 newId) := by
  unfold ecls at q
  split at q
  · rename_i dd cd sl ho
    split at q
    · rename_i C' bm' k0 k1 k2 k3 n k5 hm hs
      split at q
      · rename_i hc
        cases q
        simp only [Bool.and_eq_true, beq_iff_eq, Bool.not_eq_true'] at hc
        obtain ⟨e1, hdel⟩ := hc
        subst e1
        obtain ⟨nm, bs, mro, ns, qn, hd, sn, sub, ab, col, del⟩ := cd
        dsimp only at hm hdel
        subst hm hdel
        have hsl : sl = #[k0, k1, k2, k3, some (.builtin n), k5] := by
          obtain ⟨l⟩ := sl
          simp only at hs
          rw [hs]
        subst hsl
        exact ⟨ns, nm, qn, bs, hd, sn, sub, ab, col, dd, k0, k1, k2, k3, k5, n, X _ _ ho⟩
      · cases q
    · cases q
  · cases q
/-- the class at C is one of the class at M's -/
def under (K : PySem.W.Frag) (C M : Addr) : Bool := (ecls K C).any fun bm => (Value.ref C :: bm).contains (.ref M)
def catches (K : PySem.W.Frag) (M : Addr) : Bool := (ecls K M).any fun bm => bm.contains (.type "BaseException")
section
variable {M : Model} {A : Around} {E : Value → Shared → Prop}
variable {nm q nm' q' : Str} {C N C' N' : Addr} {bs bm bs' bm' : List Value} {hdct hdct' : Bool} {sn sn' : List Str} {sub sub' : List Value} {ab ab' : Bool} {col col' : Option Bool} {dd dd' : Option Addr} {k0 k1 k2 k3 k5 j0 j1 j2 j3 j5 : Option Value} {newId newId' : String}
theorem excMatches_under {h : Heap} {g : Array GenState} {d : Drawn} {t : Nat} {os : OsState} {e : Addr} {oe : Obj} {Q : Bool → Shared → Prop}
    (hC : h.get? C = some (excClassObj nm q C N bs bm hdct sn sub ab col dd k0 k1 k2 k3 k5 newId)) (hM : h.get? C' = some (excClassObj nm' q' C' N' bs' bm' hdct' sn' sub' ab' col' dd' j0 j1 j2 j3 j5 newId')) (he : h.get? e = some oe) (hcls : oe.cls = .ref C)
    (hbase : bm'.contains (.type "BaseException") = true) (hsub : (Value.ref C :: bm).contains (.ref C') = true)
    (hq : Q true ⟨h, g, d, t, os⟩) : wpAny M A (excMatches (.ref e) (.ref C')) Q E ⟨h, g, d, t, os⟩ := by
  have hcB : (Value.ref C' :: bm').contains (.type "BaseException") = true := by rw [List.contains_cons, hbase, Bool.or_true]
  have f := tc_notTuple
  unfold excMatches
  repeat (first | (with_reducible refine wpAny_loadPart_at he ?_; rw [hcls]) | with_reducible refine wpAny_loadPart_at hM ?_ | (with_reducible refine wpAny_isSubtype_exc hM ?_; rw [hcB]) | (with_reducible refine wpAny_isSubtype_exc hC ?_; rw [hsub]) | wp_step)
  exact hq
end
end L2

namespace L2
open PySem PySem.Spec PyProof.Rows
/-- within the handler of the exception at e -/
abbrev Cx.caught (X : Cx) (e : Addr) : Cx := { X with A := X.A.mark (some (.ref e)), calm := false, xe := fun _ _ => False }
theorem Cx.Ok.caught {X : Cx} (ok : X.Ok) (e : Addr) : (X.caught e).Ok :=
  ⟨ok.mod, ok.kind, ok.glob, ok.blt, ok.above, ok.inj, ok.has, ok.cab, (fun z => by cases z), ok.frames, ok.stk, ok.exf, ok.bs, ok.bsz, ok.noex, ok.exfs, ok.funs, ok.frf⟩
section
variable {X : Cx} {pins : List (Addr × Obj)} {σ : St} {H : Hp} {s : Shared}
theorem Inv.caught (I : Inv X pins σ H s) (e : Addr) : Inv (X.caught e) pins σ H s := ⟨I.ok.caught e, I.os, I.bare, I.base, I.loc, I.cell, I.free, I.freeC, I.pin, I.hok, I.len⟩
theorem Inv.uncaught {e : Addr} (I : Inv (X.caught e) pins σ H s) (ok : X.Ok) : Inv X pins σ H s := ⟨ok, I.os, I.bare, I.base, I.loc, I.cell, I.free, I.freeC, I.pin, I.hok, I.len⟩
/-- a thing that stood untracked, made here, is tracked from now on -/
theorem Inv.track {a : Addr} {o : HO} (I : Inv X pins σ H s) (hf : H a = none) (h0 : X.s₀.heap.get? a = none) (hL : a ≠ X.env.locals) (hc : ∀ x c, X.env.cells.lookup x = some c → c ≠ a) (hp : ∀ p ∈ X.pn ++ pins, p.1 ≠ a) (new : ObjOk X.prog X.w (upd H a o) s.heap a o) :
    Inv X pins σ (upd H a o) s := by
  have ne : ∀ b u, H b = some u → b ≠ a := fun b u e z => by rw [z, hf] at e; cases e
  refine ⟨I.ok, I.os, I.bare, ⟨I.base.keep, I.base.slot, fun b o' e n hx => ?_, I.base.there, fun b xs e => ?_, fun b o' u e => ?_, fun b ps e => ?_⟩, I.loc, I.cell, ?_, fun x c e => ?_, fun p q => ?_, fun b u e => ?_, I.len⟩
  · rw [upd_ne (fun z => by rw [z, h0] at e; cases e)]; exact I.base.free b o' e n hx
  · have z := I.base.tups b xs e; rw [upd_ne (ne _ _ z)]; exact z
  · have z := I.base.frzs b o' u e; rw [upd_ne (ne _ _ z)]; exact z
  · obtain ⟨more, z⟩ := I.base.tbls b ps e; exact ⟨more, by rw [upd_ne (ne _ _ z)]; exact z⟩
  · rw [upd_ne (Ne.symm hL)]; exact I.free
  · rw [upd_ne (hc x c e)]; exact I.freeC x c e
  · obtain ⟨e, n, r⟩ := I.pin p q
    exact ⟨e, by rw [upd_ne (hp p q)]; exact n, r⟩
  · by_cases hb : b = a
    · subst hb
      rw [upd_same] at e
      cases e
      exact new
    · rw [upd_ne hb] at e
      exact (I.hok b u e).stay (fun _ _ _ z => z) (fun c z => by rw [upd_ne (ne _ _ z)]; exact z) fun c xs z => by rw [upd_ne (ne _ _ z)]; exact z
/-- a local name is unbound -/
theorem goes_ok {M : Model} {A : Around} {E : Value → Shared → Prop} {i : Nat} {x : Str} {pos : Pos} {Q : Unit → Shared → Prop} (I : Inv X pins σ H s) (hN : X.N.Nodup) (hi : X.N[i]? = some x) (hk : X.env.scope.names.lookup x = some .local)
    (h : ∀ s', Inv X pins (σ.set i none) H s' → Q () s') : wpAny M A (do bindName X.env x .none; unbindBehindTheSuite X.env x pos) Q E s := by
  obtain ⟨m, hn, hl⟩ := id I.loc
  have hcls : (X.env.scope.kind == .class || (X.env.scope.kind == .module && X.env.locals != X.env.globals)) = false := by rw [I.ok.kind]; rfl
  have hiσ : i < σ.length := by rw [I.len]; exact (List.getElem?_eq_some_iff.mp hi).1
  have cne := I.cne
  refine wpAny_nameGoes_keeps hk hn hcls fun h' v hn' hs => h _ ?_
  obtain ⟨oL, _, _, hoL, _⟩ := id hn
  refine ⟨I.ok, I.os, I.bare, ⟨fun b o e n hb hx => ?_, fun b o e n hb hx => ?_, I.base.free, fun b o e hx => ?_, I.base.tups, I.base.frzs, I.base.tbls⟩, ⟨_, hn', fun j y v' e1 e2 e3 => ?_⟩, fun y c e => ?_, I.free, I.freeC, fun p hp => ?_, fun b ob e => ?_, by simpa using I.len⟩
  · exact (hs.2 b (Nat.ne_of_lt (Nat.lt_of_lt_of_le (Heap.lt_size e) I.ok.above))).trans (I.base.keep b o e n hb hx)
  · obtain ⟨sl, e1⟩ := I.base.slot b o e n hb hx
    exact ⟨sl, (hs.2 b (Nat.ne_of_lt (Nat.lt_of_lt_of_le (Heap.lt_size e) I.ok.above))).trans e1⟩
  · obtain ⟨o', e1⟩ := I.base.there b o e hx
    exact ⟨o', (hs.2 b (Nat.ne_of_lt (Nat.lt_of_lt_of_le (Heap.lt_size e) I.ok.above))).trans e1⟩
  · by_cases hj : j = i
    · subst hj
      rw [List.getElem?_set_self hiσ] at e2
      cases e2
    · rw [List.getElem?_set_ne (Ne.symm hj)] at e2
      obtain ⟨u', r', q⟩ := hl j y v' e1 e2 e3
      refine ⟨u', r', ?_⟩
      rcases q with ⟨k, e⟩ | ⟨k, c, e, z⟩
      · refine .inl ⟨k, ?_⟩
        have : y ≠ x := fun e => hj (nodup_ix hN e1 (e ▸ hi))
        simp [this, e]
      · exact .inr ⟨k, c, e, z.sameBut hs (cne y c e)⟩
  · obtain ⟨w', z⟩ := I.cell y c e
    exact ⟨w', z.sameBut hs (cne y c e)⟩
  · obtain ⟨e, n, ne, nf, d⟩ := I.pin p hp
    exact ⟨(hs.2 p.1 ne).trans e, n, ne, nf, d⟩
  · refine (I.hok b ob e).stay (fun c w' hc q => (hs.2 c ?_).trans q) (fun _ q => q) fun _ _ q => q
    rintro rfl
    have hfree := I.free
    rcases hc with rfl | hc
    · rw [hfree] at e; cases e
    · rw [hfree] at hc; cases hc
end
/-- an exception of the class at C, made by raise C(..) -/
def ExcAt (a C : Addr) (h : Heap) : Prop := ∃ o, h.get? a = some o ∧ o.cls = .ref C ∧ ∃ vs, o.data = .fields vs
def excO (a C : Addr) : HO := .ext (ExcAt a C)
/-- try: .. except M as n: .. with the handler's reading ts -/
def tTry (K : PySem.W.Frag) (M : Addr) (i : Nat) (tb : TSX) (ts : TS) : TS := fun D σ H => tb D (fun c _ H1 => ∃ C, c = .ref C ∧ under K C M = true ∧
  ∀ a, H1 a = none → ts { nx := fun σ' H' => D.nx (σ'.set i none) H', rt := D.rt, bk := fun σ' H' => D.bk (σ'.set i none) H', ct := fun σ' H' => D.ct (σ'.set i none) H' } (σ.set i (some (.ref a))) (upd H1 a (excO a C))) σ H
section
variable {X : Cx} {pins : List (Addr × Obj)} {σ : St} {H : Hp} {s : Shared}
/-- the state behind the landing -/
theorem Inv.landed {H1 H2 : Hp} {s1 s2 : Shared} {a C : Addr} {B h6 : Heap} {a0 : Value} (I : Inv X pins σ H1 s1) (hstk : X.stack = X.env :: X.outer) (os : s2.os = s1.os) (bare : AllBare s2.gens) (u : Un (frs X.stack) [] H1 H2 s1.heap s2.heap) (hok : HOk X.prog X.w H2 s2.heap)
    (hst : ∀ b o, s1.heap.get? b = some o → H1 b = none → b ∉ frs X.stack → B.get? b = some o) (hth : ∀ b o, s1.heap.get? b = some o → b ∉ frs X.stack → ∃ o', B.get? b = some o') (htr : ∀ b, H2 b ≠ none → ∃ o, s2.heap.get? b = some o ∧ B.get? b = some o)
    (fl : Heap.FlyingW B X.stack a (.ref C) a0 h6) (sm : s2.heap.UpToSlots h6) : Inv X pins σ H2 { s2 with heap := h6 } := by
  have frm : ∀ b ∈ frs X.stack, ∀ o, s1.heap.get? b = some o → ∃ sl, h6.get? b = some { o with slots := sl } := fun b hb o e => by
    obtain ⟨sl, e1⟩ := u.slot b o e (I.stkFree b hb) hb (by simp)
    obtain ⟨_, o', ho, hd⟩ := I.stack.mem hb
    rw [e] at ho
    cases ho
    obtain ⟨sl', e2⟩ := sm b _ e1 hd
    exact ⟨sl', e2⟩
  refine I.call' (s' := { s2 with heap := h6 }) (ch := []) os ⟨fun b o e n hb _ => fl.1 b o (hst b o e n hb), fun b o e _ hb _ => frm b hb o e, u.free, fun b o e _ => ?_, u.tups, u.frzs, u.tbls⟩ (fun b o q => ?_) bare (fun b z => absurd z (by simp))
  · by_cases hb : b ∈ frs X.stack
    · obtain ⟨sl, e2⟩ := frm b hb o e
      exact ⟨_, e2⟩
    · obtain ⟨o2, e2⟩ := hth b o e hb
      exact ⟨o2, fl.1 b o2 e2⟩
  · refine (hok b o q).stay (fun c v hc e => ?_) (fun _ z => z) fun _ _ z => z
    have hc' : H2 c ≠ none := by
      rcases hc with rfl | hc
      · rw [q]; exact fun z => by cases z
      · rw [hc]; exact fun z => by cases z
    obtain ⟨o', e1, e2⟩ := htr c hc'
    rw [e1] at e
    cases e
    exact fl.1 c _ e2
theorem ps_try {M : Addr} {i : Nat} {body : List Stmt} {tb : TSX} {b₀ : Stmt} {suite : List Stmt} {ts : TS} {x n : Str} {np hpos pos : Pos} (hb : PSXs X body tb) (hs : ∀ e, PSs (X.caught e) (b₀ :: suite) ts) (hm : X.mg x = some (.ref M)) (hM : catches X.K M = true)
    (hN : X.N.Nodup) (hi : X.N[i]? = some n) (hk : X.env.scope.names.lookup n = some .local := by kernel_rfl) (hg : X.env.scope.names.lookup x = some .globalImplicit := by kernel_rfl) (hdb : (x == ("__debug__" : Str)) = false := by kernel_rfl)
    (hstk : X.stack = X.env :: X.outer := by rfl) (hfr : X.env.frame = some X.env.locals := by rfl) (hex : X.ex = [] := by rfl) :
    PS X (.Try body [.ExceptHandler (some (.Name x np)) (some n) (b₀ :: suite) hpos] [] [] pos) (tTry X.K M i tb ts) := by
  intro pins s σ H D I h
  refine wpAny_Try_except (wpAny_mono (hb pins s σ H D _ I h) (fun f s1 q => ?_) fun e s2 q => ?_)
  · cases f with
    | next => exact wpAny_execs_nil q
    | ret v => exact q
    | brk => exact q
    | cont => exact q
  obtain ⟨H1, s1, I1, a, C, H2, ea, F, C', ec, hu, k⟩ := q
  subst ea
  cases ec
  obtain ⟨fos, fbare, fun_, fhok, ffree, B, a0, hfl, hst, hth, htr⟩ := F
  have hfrm : X.A.frames = some (X.env :: X.outer) := by rw [← hstk]; exact I1.ok.frames
  rw [hstk] at hfl
  refine wpAny_looks_onW hfrm hfr hfl fun h4 held4 sm4 => ?_
  refine wpAny_landsW held4 fun h5 fl5 sm5 => ?_
  have sm45 := sm4.trans sm5
  rw [← hstk] at fl5
  have I5 : Inv X pins σ H2 { s2 with heap := h5 } := I1.landed hstk fos fbare fun_ fhok hst hth htr fl5 sm45
  obtain ⟨ob, hob, hobc⟩ := fl5.there
  refine wpAny_handleBy_cons (codeAny_handlers_test (ld_glob (X := X.caught a) (I5.caught a) hg hm ?_ hdb)) (by intro q; cases q)
  obtain ⟨bm, q1, q2⟩ : ∃ bm, ecls X.K C = some bm ∧ (Value.ref C :: bm).contains (.ref M) = true := by
    unfold under at hu
    cases e : ecls X.K C with
    | none => rw [e] at hu; cases hu
    | some bm => rw [e] at hu; exact ⟨bm, rfl, hu⟩
  obtain ⟨bm', q3, q4⟩ : ∃ bm, ecls X.K M = some bm ∧ bm.contains (.type "BaseException") = true := by
    unfold catches at hM
    cases e : ecls X.K M with
    | none => rw [e] at hM; cases hM
    | some bm => rw [e] at hM; exact ⟨bm, rfl, hM⟩
  have KI : X.K.In h5 := I5.kIn
  obtain ⟨_, _, _, _, _, _, _, _, _, _, _, _, _, _, _, _, oC⟩ := ecls_obj KI q1
  obtain ⟨_, _, _, _, _, _, _, _, _, _, _, _, _, _, _, _, oM⟩ := ecls_obj KI q3
  refine excMatches_under oC oM hob hobc q4 q2 (codeAny_handlers_suite_as ?_)
  refine lands_againW fl5 fun h6 fl6 sm6 => ?_
  have I6 : Inv X pins σ H2 { s2 with heap := h6 } := I1.landed hstk fos fbare fun_ fhok hst hth htr fl6 (sm45.trans sm6)
  obtain ⟨oe, ws, hoe, hoec, hoed, hoe0⟩ := fl6.first
  have noCell : ∀ x c, X.env.cells.lookup x = some c → c ≠ a := fun x c e z => by
    obtain ⟨v, o, ho, hd⟩ := I6.cell x c e
    have ho : h6.get? c = some o := ho
    rw [z, hoe] at ho; cases ho; rw [hoed] at hd; cases hd
  have noLoc : a ≠ X.env.locals := fun z => by
    obtain ⟨m, ⟨o', es, ep, ho', hd', _⟩, _⟩ := I6.loc
    have ho' : h6.get? X.env.locals = some o' := ho'
    rw [← z, hoe] at ho'; cases ho'; rw [hoed] at hd'; cases hd'
  have noStk : a ∉ frs X.stack := fun z => by
    obtain ⟨_, o, ho, hd⟩ := I6.stack.mem z
    have ho : h6.get? a = some o := ho
    rw [hoe] at ho; cases ho; exact hd _ hoed
  have no1 : s1.heap.get? a = none := by
    cases e : s1.heap.get? a with
    | none => rfl
    | some o =>
      obtain ⟨o', e'⟩ := hth a o e noStk
      rw [fl6.2.1] at e'; cases e'
  have no0 : X.s₀.heap.get? a = none := by
    cases e : X.s₀.heap.get? a with
    | none => rfl
    | some o =>
      by_cases hx : a ∈ X.ex
      · rw [hex] at hx; cases hx
      · obtain ⟨o', e'⟩ := I1.base.there a o e hx
        rw [no1] at e'; cases e'
  have noPin : ∀ p ∈ X.pn ++ pins, p.1 ≠ a := fun p hp z => by
    obtain ⟨e, _⟩ := I1.pin p hp
    rw [z, no1] at e; cases e
  have I7 : Inv X pins σ (upd H2 a (excO a C)) { s2 with heap := h6 } := I6.track ffree no0 noLoc noCell noPin ⟨⟨oe, hoe, hoec, ws, hoed⟩, ⟨oe, hoe⟩, fun h1 h2 ⟨o, z1, z2, z3⟩ kk => ⟨o, kk o z1, z2, z3⟩⟩
  refine store_ok (X := X.caught a) (v := .ref a) (I7.caught a) hN hi (.inl hk) rfl (fun s8 I8 => ?_) (.inr hk)
  refine wpAny_mono (hs a pins s8 _ _ _ I8 (k a ffree)) (fun f s9 q => ?_) fun _ _ z => False.elim z
  cases f with
  | next =>
    obtain ⟨σ', H', I9, q⟩ := q
    exact goes_ok (I9.uncaught I1.ok) hN hi hk fun s' I' => ⟨_, _, I', q⟩
  | brk =>
    obtain ⟨σ', H', I9, q⟩ := q
    exact goes_ok (I9.uncaught I1.ok) hN hi hk fun s' I' => ⟨_, _, I', q⟩
  | cont =>
    obtain ⟨σ', H', I9, q⟩ := q
    exact goes_ok (I9.uncaught I1.ok) hN hi hk fun s' I' => ⟨_, _, I', q⟩
  | ret u =>
    obtain ⟨v, σ', H', I9, r, q⟩ := q
    exact goes_ok (I9.uncaught I1.ok) hN hi hk fun s' I' => ⟨v, _, _, I', r, q⟩
end
end L2

/-! ### the class of a caught exception -/
namespace L2
open PySem PySem.Spec PyProof.Rows PySem.W
section
open PySem.Builtin PySem.Builtin.ObjectAttr PySem.Builtin.Getset_descriptor
variable {prog : Program} {w : World} {A : Around} {E : Value → Shared → Prop} {s : Shared} {K : PySem.W.Frag} {x C : Addr} {R : Result → Shared → Prop} {ox : Obj}
theorem x_type {M : Model} {h : Heap} (hx : h.get? x = some ox) (hc : ox.cls = .ref C) : Looks M h (typeOf (.ref x)) (.ref C) := hc ▸ (Looks.ld hx).andThen .now
theorem x_class_get {tp : Value} (X : K.In s.heap) (hx : s.heap.get? x = some ox) (hc : ox.cls = .ref C) (hm : PySem.W.mroIn K C (.type "object") = some true)
    (h : R (.ok (.ret (.ref C))) s) : codeAny (model prog w) A (.call (.builtin "getset_descriptor.__get__") ⟨[.builtin "object.__class__", .ref x, tp], []⟩) R s := by
  have H0 := x_type (M := model prog w) hx hc
  have H1 := looks_mroIn (M := model prog w) X hm
  rcases s with ⟨s1, s2, s3, s4, s5⟩
  refine codeAny_call_builtin KF.slot_gs.plain
    KF.entry_gs
    (KF.slot_gs.check _ _ _ _ _ _ _ _ KF.type_class
      (KF.args_gs _ _ _) ?_)
  unfold Builtin.«getset_descriptor.__get__»
  unfold descrGet
  rw [dga_obj]
  refine wpAny_bind (wpAny_pure ?_)
  unfold descrGetter descrCheckInstance
    descrNameAndClass isInstance
  simp only [KF.owner_class]
  repeat lk
  refine ⟨Code.quiet_builtin _ (by decide +kernel),
    codeAny_builtin KF.entry_class ?_⟩
  unfold Builtin.«object.__class__»
  unfold shownTypeOf
  repeat lk
  exact h
theorem x_find {M : Model} {h : Heap} {a g : Value} (X : K.In h) (ha : PySem.W.findIn K (.ref C) "__class__" = some (some a)) (hg : PySem.W.specialIn K a "__get__" = some (some g)) (ht : PySem.W.takesIn K a = some true) :
    Looks M h (find (.ref x) (.ref C) "__class__") (.bind g a) := by
  have H1 := looks_findIn (M := M) X ha
  have H2 : Looks M h (getOf (some a)) (some g) := looks_specialIn X hg
  have H3 := looks_takesIn (M := M) X ht
  have H4 : Looks M h (dataDescriptor? (some a) (some g)) (some (g, a)) := H3.andThen .now
  exact H1.andThen (H2.andThen (H4.andThen (Looks.tag .now)))
theorem x_check {M : Model} {nameV : Value} {Q : Unit → Shared → Prop} (X : K.In s.heap) (hx : s.heap.get? x = some ox) (hc : ox.cls = .ref C) (hm : PySem.W.mroIn K C (.type "BaseException") = some true)
    (hq : Q () s) : wpAny M A (checkBuiltinCall "BaseException.__getattribute__" ⟨[.ref x, nameV], []⟩) Q E s := by
  have k1 : builtinKind "BaseException.__getattribute__" = some .slot := by decide +kernel
  have k2 : splitId "BaseException.__getattribute__" = some ("BaseException", "__getattribute__") := by decide +kernel
  have k3 := F.args_bexc_ga (.ref x) nameV
  have H0 := x_type (M := M) hx hc
  have H1 := looks_mroIn (M := M) X hm
  have HI : Looks M s.heap (isInstance (.ref x) (.type "BaseException")) true := H0.andThen H1
  rcases s with ⟨s1, s2, s3, s4, s5⟩
  simp only [checkBuiltinCall, k1, k2]
  refine wpAny_bind (HI.at ?_)
  repeat (first | assumption | wp_step)
theorem x_class_entry {tk : Tok} {Q : PySem.Fin → Shared → Prop} (X : K.In s.heap) (hx : s.heap.get? x = some ox) (hc : ox.cls = .ref C) (ha : PySem.W.findIn K (.ref C) "__class__" = some (some (.builtin "object.__class__")))
    (hn : PySem.W.specialIn K (.builtin "object.__class__") "__get__" = some (some (.builtin "getset_descriptor.__get__"))) (ht : PySem.W.takesIn K (.builtin "object.__class__") = some true) (hm : PySem.W.mroIn K C (.type "object") = some true)
    (hq : Q (.done (.ret (.ref C))) s) : wpAny (model prog w) A (Builtin.«object.__getattribute__» ⟨[.ref x, .str "__class__" tk], []⟩) Q E s := by
  have H0 := x_type (M := model prog w) hx hc
  have H1 := x_find (M := model prog w) (x := x) X ha hn ht
  refine wpAny_bind (wpAny_pure (wpAny_bind (wpAny_pure (wpAny_bind (H0.here (wpAny_bind (H1.here ?_)))))))
  show wpAny _ _ (holding [_] (call _ _) >>= ret) _ _ _
  exact wpAny_bind (wpAny_holding (wpAny_call (x_class_get X hx hc hm (wpAny_pure hq))))
variable (hg : PySem.W.findIn K (.ref C) "__getattribute__" = some (some (.builtin "BaseException.__getattribute__"))) (hh : PySem.W.findIn K (.ref C) "__getattr__" = some none)
  (ha : PySem.W.findIn K (.ref C) "__class__" = some (some (.builtin "object.__class__")))
  (hn : PySem.W.specialIn K (.builtin "object.__class__") "__get__" = some (some (.builtin "getset_descriptor.__get__"))) (ht : PySem.W.takesIn K (.builtin "object.__class__") = some true)
  (hm : PySem.W.mroIn K C (.type "object") = some true) (hB : PySem.W.mroIn K C (.type "BaseException") = some true)
include hg hh ha hn ht hm hB
theorem x_class {Q : Option Value → Shared → Prop} (X : K.In s.heap) (hx : s.heap.get? x = some ox) (hc : ox.cls = .ref C) (h : Q (some (.ref C)) { s with toks := s.toks + 1 }) : wpAny (model prog w) A (getAttr? (.ref x) "__class__") Q E s := by
  obtain ⟨s1, s2, s3, s4, s5⟩ := s
  have H0 := x_type (M := model prog w) hx hc
  have H1 := looks_findIn (M := model prog w) X hg
  have H2 := looks_findIn (M := model prog w) X hh
  unfold getAttr? getAttrBy?
  unfold getAttrBy
  refine wpAny_bind (wpAny_mkText (wpAny_bind (wpAny_attempt (wpAny_holding (wpAny_bind (H0.at (wpAny_bind (H1.at ?_))))))))
  show wpAny _ _ (getAttrByItsOwn _ _ _ _ _ _) _ _ _
  unfold getAttrByItsOwn
  refine wpAny_bind (H2.at ?_)
  refine wpAny_bind (wpAny_attempt (wpAny_holding ?_))
  show wpAny _ _ (boundAndCalled _ _ _) _ _ _
  unfold boundAndCalled
  rw [PySem.F.attr_ValueError.ga.bind]
  refine wpAny_bind (wpAny_pure ?_)
  show wpAny _ _ (call _ [_, _]) _ _ _
  refine wpAny_call (codeAny_call_builtin PySem.F.attr_ValueError.ga.plain F.entry_bexc_ga (x_check (s := ⟨s1, s2, s3, s4 + 1, s5⟩) X hx hc hB (x_class_entry (s := ⟨s1, s2, s3, s4 + 1, s5⟩) X hx hc ha hn ht hm ?_)))
  exact wpAny_pure (wpAny_pure h)
/-- what isinstance asks of a caught exception -/
theorem kitx_exc (hcl : (PySem.W.clsIn K C).isSome = true) : PySem.W.KitX K (.ref x) (.ref C) (ExcAt x C) where
  ty := fun _ _ _ ⟨o, h1, h2, _⟩ => x_type h1 h2
  it := fun _ _ X _ => by
    obtain ⟨cd, hcd⟩ := Option.isSome_iff_exists.mp hcl
    unfold PySem.W.clsIn at hcd
    split at hcd
    · rename_i ho
      intro A' Q' E' s' k q
      unfold isType loadHead
      exact wpAny_bind (wpAny_loadPart (k _ _ (X _ _ ho)) (wpAny_pure q))
    · cases hcd
  ne := fun h tp dd its n sl X htp => by
    obtain ⟨cd, hcd⟩ := Option.isSome_iff_exists.mp hcl
    refine Bool.eq_false_iff.mpr fun q => ?_
    have e : C = tp := Value.ref.inj (beq_iff_eq.mp q)
    subst e
    unfold PySem.W.clsIn at hcd
    split at hcd
    · rename_i ho
      have z := (X _ _ ho).symm.trans htp
      cases z
    · cases hcd
  ca := fun X ⟨o, h1, h2, _⟩ k => x_class hg hh ha hn ht hm hB X h1 h2 k
end
/-- the facts of a class of exceptions -/
structure ExC (K : PySem.W.Frag) (C : Addr) : Prop where
  hg : PySem.W.findIn K (.ref C) "__getattribute__" = some (some (.builtin "BaseException.__getattribute__"))
  hh : PySem.W.findIn K (.ref C) "__getattr__" = some none
  ha : PySem.W.findIn K (.ref C) "__class__" = some (some (.builtin "object.__class__"))
  hn : PySem.W.specialIn K (.builtin "object.__class__") "__get__" = some (some (.builtin "getset_descriptor.__get__"))
  ht : PySem.W.takesIn K (.builtin "object.__class__") = some true
  hm : PySem.W.mroIn K C (.type "object") = some true
  hB : PySem.W.mroIn K C (.type "BaseException") = some true
  hcl : PySem.W.hasDictIn K C = true
section
variable {X : Cx} {pins : List (Addr × Obj)} {σ : St} {H : Hp} {s : Shared} {A : Around} {E : Value → Shared → Prop} {Q : Value → Shared → Prop} {c : Value} {b : Bool}
theorem isinst_exc {a C : Addr} (I : Inv X pins σ H s) (F : ExC X.K C) (ea : H a = some (excO a C)) (e : PySem.W.kitOne X.K (.ref C) c = some b) (h : ∀ tk, Q (.bool b) { s with toks := tk }) :
    wpAny (model X.prog X.w) A (call (.builtin "isinstance") [.ref a, c]) Q E s := by
  obtain ⟨p, _, _⟩ := (show ObjOk X.prog X.w H s.heap a (excO a C) from I.hok a _ ea)
  exact PySem.W.kia_one (kitx_exc F.hg F.hh F.ha F.hn F.ht F.hm F.hB (by obtain ⟨cd, hc, _⟩ := PySem.W.any_some F.hcl; rw [hc]; rfl)) I.kIn p e (fun z => nomatch z) h
end
end L2

namespace L2
open PySem PySem.Spec PyProof.Rows
/-- the class of a value, a caught exception's too -/
def TyX (K : PySem.W.Frag) (H : Hp) (x : V) (t : Value) : Prop := TyOf K H x t ∨ ∃ a C, x = .ref a ∧ t = .ref C ∧ H a = some (excO a C) ∧ ExC K C
def rIsX (K : PySem.W.Frag) : List V → Hp → VK → Prop := fun xs H Q => ∃ x c t cv b, xs = [x, c] ∧ clsV c = some cv ∧ TyX K H x t ∧ PySem.W.kitOne K t cv = some b ∧ Q (.bl b) H
section
variable {X : Cx}
theorem call_isX : CallR X (.builtin "isinstance") (rIsX X.K) := by
  intro pins s σ H xs us Q I r h
  obtain ⟨x, c, t, cv, b, rfl, hc, ty, hk, q⟩ := h
  obtain ⟨u, w', rfl, ru, rw'⟩ := vals2 r
  have e : w' = cv := by
    cases c with
    | ty n => have rw' : w' = Value.type n := rw'; rw [rw']; exact Option.some.inj hc
    | ref a => have rw' : w' = Value.ref a := rw'; rw [rw']; exact Option.some.inj hc
    | _ => cases hc
  subst e
  rcases ty with ty | ⟨a, C, rfl, rfl, ea, F⟩
  · exact isinst_ok I ru ty hk fun tk => ⟨.bl b, H, I.tok tk, rfl, q⟩
  · cases ru
    exact isinst_exc I F ea hk fun tk => ⟨.bl b, H, I.tok tk, rfl, q⟩
/-! ### min of a list of ints -/
def rMinL (K : PySem.W.Frag) : List V → Hp → VK → Prop := fun xs H Q => ∃ (p : Addr) (ns : List Int), xs = [.ref p] ∧ SqL K H p (ns.map V.int) ∧ 0 < ns.length ∧ ∀ M, M ∈ ns → (∀ a ∈ ns, M ≤ a) → Q (.int M) H
theorem call_minL (hc : X.calm = true) : CallR X (.builtin "min") (rMinL X.K) := by
  intro pins s σ H xs us Q I r h
  obtain ⟨p, ns, rfl, hp, hne, q⟩ := h
  obtain ⟨u, rfl, ru⟩ := vals1 r
  cases ru
  obtain ⟨its, rv, pl, hz⟩ := I.list hp
  have hi := intsAre_of rv
  have hh : X.A.handled = none := I.ok.hd hc
  obtain ⟨xs, e⟩ := hi.allInts.items
  have hns : ns = xs.toList.map (·.1) := by
    rw [← hi.numsOf, ← nums_intItems, ← e]
  have hsz : 0 < xs.size := by
    have h3 := hne; rw [hns, List.length_map, Array.length_toList] at h3; exact h3
  have hl := pl.isList
  rw [e] at hl
  refine min_intList hh hl hsz fun v h' tk hv hk => ?_
  obtain ⟨t, rfl⟩ := intItems_at hv
  obtain ⟨h1, h2⟩ := argBest_lt (numAt xs) (xs.size - 1)
  refine ⟨.int _, H, I.kept (t' := tk) hk, ⟨t, rfl⟩, q _ ?_ fun a ha => ?_⟩
  · rw [hns, numAt_eq]; exact getD_mem (by rw [List.length_map, Array.length_toList]; omega)
  · rw [hns] at ha
    obtain ⟨j, hj, rfl⟩ := mem_getD ha
    rw [List.length_map, Array.length_toList] at hj
    rw [← numAt_eq]; exact h2 j (by omega)
/-! ### sum of a list of small ints -/
theorem preSum_take (ns : List Int) : ∀ k, k ≤ ns.length → preSum (fun i => ns.getD i 0) k = (ns.take k).sum
  | 0, _ => by simp [preSum]
  | k + 1, h => by
    have h' : k < ns.length := by omega
    rw [preSum, preSum_take ns k (by omega), List.take_succ_eq_append_getElem h', List.sum_append]
    simp [List.getD, h']
/-! ### list.index, tuple.index -/
theorem idx_eqU {x : V} {xs : List V} {us : List Value} (r : Vals xs us) (f : xs.all flatV = true) {j : Nat} {u : Value} (e : us[j]? = some u) : eqU x u = eqV (xs.getD j .non) x := by
  induction r generalizing j with
  | nil => simp at e
  | @cons y v ys vs rv t ih =>
    rw [List.all_cons, Bool.and_eq_true] at f
    cases j with
    | zero => simp at e; subst e; simpa using eqU_of rv f.1
    | succ j => simpa using ih f.2 (by simpa using e)
def rIndex (K : PySem.W.Frag) : V → List V → Hp → VK → Prop := fun y vs H Q => ∃ (p : Addr) (xs : List V) (x : V) (j : Nat), y = .ref p ∧ vs = [x] ∧ SqL K H p xs ∧ flatV x = true ∧ xs.all flatV = true ∧ j < xs.length ∧ eqV (xs.getD j .non) x = true ∧ (∀ m, m < j → eqV (xs.getD m .non) x = false) ∧ Q (.int j) H
theorem mt_index : MtR X "list.index" (rIndex X.K) := by
  intro pins s σ H y vs v us Q I ry r h
  obtain ⟨p, xs, x, j, rfl, rfl, hp, fx, fs, hj, hit, hno, q⟩ := h
  cases ry
  obtain ⟨u, rfl, ru⟩ := vals1 r
  obtain ⟨its, rv, pl, hz⟩ := I.list hp
  obtain ⟨⟨cls, dd, data, sl⟩, n, ho, hc, hd1, hd2⟩ := pl
  simp only at hc hd1 hd2
  subst hc hd1 hd2
  have hlen := rv.length
  refine call_meets PySem.F.slot_list_index ⟨_, ho, rfl⟩ PySem.F.entry_list_index (PySem.F.args_list_index_2 _ _)
    (SeqAt.list_indexAt p its.toArray n none sl u (eqU x) j (by simpa [hlen] using hj) (by have := hz; unfold sizeLine at this; omega) ?_ ?_) ⟨ho, fun y hy => mem_eqAt ru fx rv fs y (by simpa using hy), ⟨.int j, H, I.tok _, ⟨_, rfl⟩, q⟩⟩
  · rw [idx_eqU (x := x) rv fs (j := j) (by simp)]; exact hit
  · intro m hm hlt
    rw [idx_eqU (x := x) rv fs (j := m) (by simp)]; exact hno m hlt
end
end L2

/-! ### for i, x in enumerate(list) -/
namespace L2
open PySem PySem.Spec PyProof.Rows
/-- the iterator's records have turned, a new thing stands at p -/
theorem Inv.turns {X : Cx} {pins : List (Addr × Obj)} {σ : St} {H : Hp} {s : Shared} {h' : Heap} {fp : List Addr} {p : Addr} {o : HO} {t' : Nat} (I : Inv X pins σ H s) (hf : ∀ b ∈ fp, FpOk X pins H b) (k : ∀ b u, b ∉ fp → s.heap.get? b = some u → h'.get? b = some u)
    (hp : s.heap.objs.size ≤ p) (new : ObjOk X.prog X.w (upd H p o) h' p o) : Inv X pins σ (upd H p o) { s with heap := h', toks := t' } := by
  have hn : H p = none := I.hok.fresh hp
  have ne : ∀ b u, H b = some u → b ≠ p := fun b u e z => by rw [z, hn] at e; cases e
  have nf : ∀ b u, H b = some u → b ∉ fp := fun b u e z => by rw [(hf b z).1] at e; cases e
  have old : ∀ b u, s.heap.get? b = some u → b ≠ p := fun b u e => Nat.ne_of_lt (Nat.lt_of_lt_of_le (Heap.lt_size e) hp)
  refine I.step (g' := s.gens) (d' := s.drawn) (ch := fp) (fun b hb => ?_) (fun b u _ _ hc e _ => k b u hc e) (fun b u _ _ hc e _ => ⟨u.slots, k b u hc e⟩) (fun b u _ e n => by rw [upd_ne (old b u e)]; exact n)
    (fun b u hc e => ⟨u, k b u hc e⟩) (fun b xs e => by rw [upd_ne (ne _ _ e)]; exact e) (fun b o' u e => by rw [upd_ne (ne _ _ e)]; exact e) (fun b ps e => ⟨#[], by rw [upd_ne (ne _ _ e), e]; simp⟩) (fun m hm => ?_) (fun b u e => ?_) I.bare
  · obtain ⟨_, f1, _, f3, f4, f5⟩ := hf b hb
    exact ⟨f3, f1, f4, f5⟩
  · obtain ⟨ob, es, ep, ho, r⟩ := hm
    exact ⟨ob, es, ep, k _ ob (fun z => (hf _ z).2.1 rfl) ho, r⟩
  · by_cases hb : b = p
    · subst hb
      rw [upd_same] at e
      cases e
      exact new
    · rw [upd_ne hb] at e
      refine (I.hok b u e).stay (fun c v hc q => k c v ?_ q) (fun c q => by rw [upd_ne (ne _ _ q)]; exact q) fun c xs q => by rw [upd_ne (ne _ _ q)]; exact q
      rcases hc with z | z
      · rw [z]; exact nf b u e
      · exact nf c _ z
end L2

/-! ### for c in text -/
namespace L2
open PySem PySem.Spec PyProof.Rows
/-! ### the loops' and the comprehensions' ends -/
section
variable {K : PySem.W.Frag} {g : TG} {tb : TS} {D : Ends} {σ : St} {H : Hp} {ix : List (Option Nat)} {tt : TT} {te : TE} {Q : VK}
end
end L2

/-! ### f-strings of two parts -/
namespace L2
open PySem PySem.Spec PyProof.Rows
section
variable {X : Cx} {e a b : Expr} {te ta tb : TE} {pos : Pos}
end
end L2

/-! ### a module's dict of texts and ints: read alone -/
namespace L2
open PySem PySem.Spec PyProof.Rows
/-- the dict that the module has written at a -/
def MdK (P : Program) (w : World) (K : PySem.W.Frag) (a : Addr) (kvs : List (Key × V)) : Prop :=
  (a == sysModules) = false ∧ ∃ o es ep vs, K.lookup a = some o ∧ o.ExactDict ∧ o.data = .dict es ep ∧ KeysOf (mixKind P w) es ∧ Pairs (mixKind P w) es.toList vs ∧ (vs.map (·.1)).Nodup ∧ KV kvs vs
section
variable {X : Cx} {pins : List (Addr × Obj)} {σ : St} {H : Hp} {s : Shared} {a : Addr} {kvs : List (Key × V)} {o i : Expr} {td ty : TE} {pos : Pos}
theorem MdK.at (M : MdK X.prog X.w X.K a kvs) (I : Inv X pins σ H s) : ∃ vs, KV kvs vs ∧ s.heap.DictOf (mixKind X.prog X.w) a vs := by
  obtain ⟨_, o, es, ep, vs, h1, h2, h3, h4, h5, h6, h7⟩ := M
  exact ⟨vs, h7, o, es, ep, I.kIn a o h1, h2, h3, h4, h5, h6⟩
end
/-- a dict as the module has written it: its entries, one by one -/
def MdE (w : World) : List DictEntry → List (Key × V) → Prop
  | e :: es, (.inr x, v) :: r => e.hash = hashStr w x ∧ (∃ t, e.key = .str x t) ∧ RelV v e.val ∧ MdE w es r
  | e :: es, (.inl i, v) :: r => e.hash = hashInt i ∧ (∃ t, e.key = .int i t) ∧ RelV v e.val ∧ MdE w es r
  | [], [] => True
  | _, _ => False
theorem MdE.out {P : Program} {w : World} : ∀ {es : List DictEntry} {kvs : List (Key × V)}, MdE w es kvs → ∃ vs, (∀ e ∈ es, ∃ k, (mixKind P w).is k e.key = true ∧ e.hash = (mixKind P w).hash k) ∧ Pairs (mixKind P w) es vs ∧ vs.map (·.1) = kvs.map (·.1) ∧ KV kvs vs
  | [], [], _ => ⟨[], (fun _ z => nomatch z), .nil, rfl, .nil⟩
  | e :: es, (.inr x, v) :: r, ⟨h1, ⟨t, h2⟩, h3, h4⟩ => by
    obtain ⟨vs, a1, a2, a3, a4⟩ := MdE.out (P := P) h4
    have q : (mixKind P w).is (.inr x) e.key = true := by rw [h2]; exact mixKind_str P w x t
    refine ⟨(.inr x, e.val) :: vs, fun e' he => ?_, .cons q rfl a2, by simp [a3], .cons ⟨rfl, h3⟩ a4⟩
    rcases List.mem_cons.mp he with rfl | he
    · exact ⟨.inr x, q, h1⟩
    · exact a1 e' he
  | e :: es, (.inl i, v) :: r, ⟨h1, ⟨t, h2⟩, h3, h4⟩ => by
    obtain ⟨vs, a1, a2, a3, a4⟩ := MdE.out (P := P) h4
    have q : (mixKind P w).is (.inl i) e.key = true := by rw [h2]; exact mixKind_int P w i t
    refine ⟨(.inl i, e.val) :: vs, fun e' he => ?_, .cons q rfl a2, by simp [a3], .cons ⟨rfl, h3⟩ a4⟩
    rcases List.mem_cons.mp he with rfl | he
    · exact ⟨.inl i, q, h1⟩
    · exact a1 e' he
end L2

/-! ### texts compared; short words for calls in programs with refusals -/
namespace L2
open PySem PySem.Spec PyProof.Rows
section
variable {X : Cx}
end
namespace Bt
theorem ValueError : bootBuiltins "ValueError" = some (.type "ValueError") := by decide +kernel
end Bt
section
variable {X : Cx} {CX : CXT} {k : Nat} {f C : Addr} {fd : FuncData} {ps : List Str} {sp : Sp} {E : XK} {x m : Str} {p pos apos : Pos} {e o : Expr} {es : List Expr} {ta : TE} {t : TA}
theorem pcallX (F : FnOk X.prog X.w X.K X.mg X.base (CX1 X.prog X.w) k f fd ps sp) (hr : Room k X.A) (hm : X.mg x = some (.ref f)) (hk : PySem.W.keepIn X.K (.ref f) = true) (hb : Binds X.K fd ps []) (ha : PA X.nox (e :: es) t)
    (hg : X.env.scope.names.lookup x = some .globalImplicit := by kernel_rfl) (hdb : (x == ("__debug__" : Str)) = false := by kernel_rfl) (he : starEach (e :: es) X.env = (false, eval e X.env) :: starEach es X.env := by rfl) (hpl : (backTo pos (starEach es X.env)).any (·.1) = false := by rfl) :
    PEX X (.Call (.Name x p) (e :: es) [] pos) (tCallX sp [] t) := pex_call F hr hg hm hk hb .nil ha hdb he hpl
end
/-- the walk of a law whose defs may raise -/
theorem walk_ofX {l : PySem.W.OpenLaw} {n k : Nat} {q : Program} {loose : List Str} {XP : (Str → Option Value) → Heap → Prop} {YP : World → Heap → Prop} {d : DefRec} {K : Params → PySem.W.Frag} {sp : PySem.W.Frag → Sp} {x : Str}
    (hn : l.most = some n) (hn2 : n ≤ sizeLine) (hdf : d.params.defaults = []) (hr : Room k callerA)
    (hY : ∀ (w : World) (h : Heap), YP w h → (K w.params).In h)
    (F : ∀ (w : World) (mg : Str → Option Value) (fa : Addr) (h : Heap), (K w.params).In h → h.Ns mainGlobals mg → mg d.name = some (.ref fa) →
      ∃ fd : FuncData, (∀ (s : Shared) (u : Value), BindsTo s fd ⟨[u], []⟩ [(x, u)]) ∧
        ∀ base : Heap, (K w.params).In base → base.Ns mainGlobals mg → FnOk l.prog w (K w.params) mg base (CX1 l.prog w) k fa fd [x] (sp (K w.params)))
    (hsp : ∀ (K : PySem.W.Frag) (H : Hp) (a : Addr) (ns : List Int), ns.length ≤ n → Only H → SqL K H a (ns.map V.int) → sp K [.ref a] H (fun v _ => v = .bl true) fun _ _ _ => False) :
    PySem.W.WalkO q loose XP YP l.row.toRowW d [] (fun f vs => PySem.call f vs) :=
  walk_of (K := K) (CX := fun w => CX1 l.prog w) (sp := fun w => sp (K w.params)) hn hn2 hdf hr hY F (fun w H a ns h1 h2 h3 => hsp (K w.params) H a ns h1 h2 h3) fun _ _ _ _ _ ⟨_, _, _, _, _, z⟩ => z
end L2

/-! ### f-strings of three parts, plain fields -/
namespace L2
open PySem PySem.Spec PyProof.Rows
section
variable {X : Cx} {e a b c : Expr} {te ta tb tc : TE} {pos : Pos}
end
end L2

/-! ### sum of ints of any size -/
namespace L2
open PySem PySem.Spec PyProof.Rows
section
variable {X : Cx}
def rSumG (K : PySem.W.Frag) : List V → Hp → VK → Prop := fun xs H Q => ∃ (p : Addr) (ns : List Int), xs = [.ref p] ∧ SqL K H p (ns.map V.int) ∧ Q (.int ns.sum) H
theorem call_sumG (hc : X.calm = true) : CallR X (.builtin "sum") (rSumG X.K) := by
  intro pins s σ H xs us Q I r h
  obtain ⟨p, ns, rfl, hp, q⟩ := h
  obtain ⟨u, rfl, ru⟩ := vals1 r
  cases ru
  obtain ⟨its, rv, pl, hz⟩ := I.list hp
  have hi := intsAre_of rv
  have hh : X.A.handled = none := I.ok.hd hc
  obtain ⟨xs, e⟩ := hi.allInts.items
  have hns : ns = xs.toList.map (·.1) := by
    rw [← hi.numsOf, ← nums_intItems, ← e]
  have hlen : ns.length = xs.size := by rw [hns, List.length_map, Array.length_toList]
  have hn : numAt xs = fun i => ns.getD i 0 := by
    funext i; rw [hns]; exact numAt_eq _ _
  have hl := pl.isList
  rw [e] at hl
  refine sum_intListG hh hl fun h' tk t' hk => ?_
  rw [hn, preSum_take ns xs.size (by omega), ← hlen, List.take_length]
  exact ⟨.int _, H, I.kept (t' := tk) hk, ⟨t', rfl⟩, q⟩
end
end L2
/-! ### enumerate(tuple) -/
namespace PySem
open AutoSeq1 (wpAny_loadPart')
section
variable {P : Program} {w : World} {A : Around} {E : Value → Shared → Prop} {z : Shared}
theorem nextT_item {it c0 : Addr} {i : Nat} {its : Array Value} {x : Value} {Q : Value → Shared → Prop} (hit : z.heap.IsTupleIter it c0 i) (ht : z.heap.IsTuple c0 its) (hx : its[i]? = some x)
    (hQ : ∀ h', h'.IsTupleIter it c0 (i + 1) → Heap.SameBut it z.heap h' → Q x { z with heap := h' }) : wpAny (model P w) A (Builtin.SmallTypes.nextOf (.ref it)) Q E z := by
  obtain ⟨o, q1, hc, hd⟩ := id hit
  obtain ⟨ol, q2, _, nl, q3⟩ := ht
  unfold Builtin.SmallTypes.nextOf
  refine wpAny_bind (wpAny_callSpecial?_slot (name := Str.ofString "__next__") hit.typeIs F.slot_tuple_iterator_next (wpAny_call_entry F.slot_tuple_iterator_next hit.typeIs F.entry_tuple_iterator_next ?_ (F.args_tuple_iterator_next_1 _)))
  show wpAny _ _ (field (.ref it) 0 >>= _) _ _ z
  refine wpAny_bind (wpAny_field q1 hd (x := .ref c0) rfl ?_)
  show wpAny _ _ (if (Value.ref c0 == Value.none) = true then _ else _) _ _ z
  rw [if_neg (show ¬ ((Value.ref c0 == Value.none) = true) from Bool.false_ne_true)]
  show wpAny _ _ (field (.ref it) 1 >>= _) _ _ z
  refine wpAny_bind (wpAny_field q1 hd (x := .int i 0) rfl ?_)
  show wpAny _ _ (seqItems? (.ref c0) >>= _) _ _ z
  refine wpAny_bind (wpAny_seqItems q2 q3 ?_)
  simp only [Int.toNat_natCast, hx]
  refine wpAny_bind (wpAny_setField q1 hd (by simp) (wpAny_pure ⟨x, rfl, wpAny_pure (hQ _ ?_ (Heap.SameBut.update ..))⟩))
  exact ⟨_, Heap.get?_update_self _ q1 (Obj.isFreed_of_fields (Obj.data_mapFields hd _)), (Obj.cls_mapFields ..).trans hc, by rw [Obj.data_mapFields hd]; simp [rawInt]⟩
end
theorem Heap.IsTuple.on {h h' : Heap} {c0 : Addr} {its : Array Value} (y : h.IsTuple c0 its) (k : ∀ o, h.get? c0 = some o → h'.get? c0 = some o) : h'.IsTuple c0 its := let ⟨o, e, r⟩ := y; ⟨o, k o e, r⟩
theorem Heap.IsTupleIter.on {h h' : Heap} {it c0 : Addr} {i : Nat} (y : h.IsTupleIter it c0 i) (k : ∀ o, h.get? it = some o → h'.get? it = some o) : h'.IsTupleIter it c0 i := let ⟨o, e, r⟩ := y; ⟨o, k o e, r⟩
end PySem
namespace L2
open PySem PySem.Spec PyProof.Rows
section
variable {X : Cx} {elts : List Expr} {x1 : Nat} {pt p cpos : Pos} {l : Expr} {tl : TE}
end
section
variable {K : PySem.W.Frag} {g : TG} {tb : TS} {D : Ends} {σ : St} {H : Hp} {ix : List (Option Nat)} {tt : TT} {te : TE} {Q : VK}
end
end L2

/-! ### t[a:b], also the whole -/
namespace HT
open PySem PySem.Spec PyProof.Rows
section
variable {P : Program} {w : World} {A : Around} {E : Value → Shared → Prop} {z : Shared}
theorem tuple_all {c0 sl : Addr} {its : Array Value} {vl vu : Value} {lo hi : Option Int} {Q : Value → Shared → Prop} (ht : IsTup z.heap c0 its) (hs : z.heap.IsSliceOf sl vl vu .none) (pl : IsPart vl lo) (pu : IsPart vu hi)
    (hw : sIx its.size 0 lo = 0 ∧ sIx its.size its.size hi = its.size) (h : Q (.ref c0) z) : wpAny (model P w) A (getItem (.ref c0) (.ref sl)) Q E z := by
  obtain ⟨os, q1, q2, hds⟩ := id hs
  have hTs : z.TypeIs (.ref sl) "slice" := ⟨os, q1, q2⟩
  unfold getItem
  try with_reducible refine wpAny_holding ?_
  first | refine wpAny_bind (wpAny_pure ?_) | skip
  refine wpAny_bind (wpAny_sequenceKey ht.typeIs (by decide) ?_)
  refine wpAny_bind (wpAny_callSpecial?_slot (name := Str.ofString "__getitem__") ht.typeIs PyProof.Rows.slot_tuple_getitem (wpAny_call_entry PyProof.Rows.slot_tuple_getitem ht.typeIs entry_tuple_getitem ?_ (args_tuple_getitem _ _)))
  show wpAny _ _ (Builtin.Tuple.tupleItemsOf (.ref c0) >>= _) _ _ z
  refine wpAny_bind (tupleItemsOf_ ht ?_)
  refine wpAny_bind (wpAny_typeOf hTs ?_)
  rw [if_pos (by decide)]
  refine wpAny_bind (sliceApplied_gen hs pl pu ?_)
  have hyes : ((((sIx its.size 0 lo : Nat) : Int) == 0 && (1 : Int) == 1 && (sIx its.size its.size hi - sIx its.size 0 lo) == its.size) = true) := by
    rw [hw.1, hw.2]
    simp
  show wpAny _ _ (if (((sIx its.size 0 lo : Nat) : Int) == 0 && (1 : Int) == 1 && (sIx its.size its.size hi - sIx its.size 0 lo) == its.size) = true then _ else _) _ _ z
  rw [if_pos hyes]
  refine wpAny_bind ?_
  unfold Builtin.Tuple.tupleIsExact
  refine wpAny_bind (wpAny_typeOf ht.typeIs ?_)
  refine wpAny_pure ?_
  rw [if_pos (by decide)]
  refine wpAny_bind (wpAny_rule ?_)
  exact wpAny_pure ⟨_, rfl, wpAny_pure h⟩
end
end HT
namespace L2
open PySem PySem.Spec PyProof.Rows
section
variable {X : Cx}
/-- the whole slice -/
def Whole (n : Nat) (lo hi : Option Int) : Prop := HT.sIx n 0 lo = 0 ∧ HT.sIx n n hi = n
instance (n : Nat) (lo hi : Option Int) : Decidable (Whole n lo hi) := by unfold Whole; infer_instance
def rSlA (K : PySem.W.Frag) : V → Option Int → Option Int → Hp → VK → Prop := fun x lo hi H Q => ∃ a xs, x = .ref a ∧ SqT K H a xs ∧
  (Whole xs.length lo hi → Q (.ref a) H) ∧ (¬ Whole xs.length lo hi → ∀ p, H p = none → Q (.ref p) (upd H p (.tup (cutV xs lo hi))))
theorem sl_tupA : SlR X (rSlA X.K) := by
  intro pins s σ H x v vl vu lo hi sl Q I rx hs pl pu h
  obtain ⟨a, xs, rfl, hx, h1, h2⟩ := h
  by_cases hw : Whole xs.length lo hi
  · cases rx
    obtain ⟨its, r, ht, hz⟩ := I.tuple hx
    have hlen : its.toArray.size = xs.length := by rw [List.size_toArray]; exact r.length.symm
    refine ⟨"tuple", _, PyProof.Rows.slot_tuple_getitem.lookup, ht.typeIs, ?_⟩
    exact HT.tuple_all ht hs pl pu (by rw [hlen]; exact hw) ⟨.ref a, H, I, rfl, h1 hw⟩
  · exact sl_tup pins s σ H _ v vl vu lo hi sl Q I rx hs pl pu ⟨a, xs, rfl, hx, hw, h2 hw⟩
def rCatA (K : PySem.W.Frag) : R2 := fun x y H Q => ∃ a b xs ys, x = .ref a ∧ y = .ref b ∧ SqT K H a xs ∧ SqT K H b ys ∧ xs.length + ys.length ≤ sizeLine ∧
  (xs = [] → Q (.ref b) H) ∧ (xs ≠ [] → ys = [] → Q (.ref a) H) ∧ (xs ≠ [] → ys ≠ [] → ∀ p, H p = none → Q (.ref p) (upd H p (.tup (xs ++ ys))))
theorem op_catTA : OpR X (binaryOp .Add) (rCatA X.K) := by
  intro pins s σ H x y v u Q I rx ry h
  obtain ⟨a, b, xs, ys, rfl, rfl, ha, hb, hz, q0, q1, q2⟩ := h
  by_cases hx : xs = []
  · cases rx
    cases ry
    obtain ⟨its, r1, p1, _⟩ := I.tuple ha
    obtain ⟨its2, r2, p2, _⟩ := I.tuple hb
    have hi : its = [] := r1.nil_iff.mpr hx
    obtain ⟨⟨cls, dd, data, sl⟩, ho, hc, n, hd⟩ := id p1
    obtain ⟨⟨cls2, dd2, data2, sl2⟩, ho2, hc2, n2, hd2⟩ := id p2
    simp only at hc hd hc2 hd2
    subst hc hd hc2 hd2
    exact concat_meets ⟨_, ho, rfl⟩ ⟨_, ho2, rfl⟩ noFill_tuple_add seq_tuple_add PySem.F.slot_tuple_add PySem.F.entry_tuple_add (PySem.F.args_tuple_add_2 _ _) (tuple_addW0 a b its.toArray its2.toArray n n2 dd dd2 sl sl2 (by simp [hi])) ⟨ho, ho2, ⟨.ref b, H, I, rfl, q0 hx⟩⟩
  · exact op_catT pins s σ H _ _ v u Q I rx ry ⟨a, b, xs, ys, rfl, rfl, ha, hb, hx, hz, q1 hx, q2 hx⟩
/-! ### t.m(..) of a tuple that was made -/
variable {o e : Expr} {es : List Expr} {to : TE} {t : TA} {name : Str} {apos cpos : Pos} {id : String} {r : V → List V → Hp → VK → Prop}
end
end L2

/-! ### min(list, default=d) -/
namespace PySem
section
variable {P0 : Program} {w : World} {A : Around} {R : Result → Shared → Prop} {I : Addr} {fp wr : List Addr} {n : Nat} {P : Nat → Value → Prop} {St : Nat → Heap → Prop}
end
section
variable {P0 : Program} {w : World} {A : Around} {E : Value → Shared → Prop} {z : Shared} {l : Addr} {xs : Array (Int × Tok)}
end
end PySem
namespace L2
open PySem PySem.Spec PyProof.Rows
/-- a text times an int -/
theorem op_mul_str {X : Cx} : OpR X (binaryOp .Mult) (fun x y H Q => ∃ z n, x = .str z ∧ y = .int n ∧ z.length ≤ 1000 ∧ -1000 ≤ n ∧ n ≤ 1000 ∧ Q (.str (Txt.mul z n)) H) := by
  intro pins s σ H x y v u Q I rx ry h
  obtain ⟨z, n, rfl, rfl, hz, h1, h2, q⟩ := h
  obtain ⟨t, rfl⟩ := rx
  obtain ⟨t', rfl⟩ := ry
  exact SB.mul (mulOk_of 1000 1000 hz h2 (by omega) (by decide) (by decide)) fun t' k => ⟨.str _, H, I.tok _, ⟨t', rfl⟩, q⟩
end L2

/-! ### a list of objects beside another one of the same -/
namespace L2
open PySem
variable {X : Cx}
end L2

/-! ### tuples beside one another; a list beside another one of the same objects, == -/
namespace L2
open PySem PyProof.Rows
variable {X : Cx}
end L2

namespace PySem
open Sem (wp)
open Builtin
open AutoSeq1 (wpAny_loadPart')
end PySem
namespace L2
open PySem PyProof.Rows
variable {X : Cx}
end L2

/-! ### two minds beside one another: the same names, ranks of their own -/
namespace L2
open PySem PyProof.Rows
variable {X : Cx}
end L2

/-! ### zip(list, tuple) -/
namespace PySem
open AutoSeq1 (wpAny_loadPart')
abbrev zq1 (h : Heap) (a : Addr) : Heap := h.push { cls := .type "list_iterator", data := .fields #[.ref a, .int 0 0] }
abbrev zq2 (h : Heap) (a b : Addr) : Heap := (zq1 h a).push { cls := .type "tuple_iterator", data := .fields #[.ref b, .int 0 0] }
abbrev zq3 (h : Heap) (a b : Addr) : Heap := (zq2 h a b).push { cls := .type "tuple", data := .seq #[.ref h.objs.size, .ref (zq1 h a).objs.size] }
abbrev zq4 (h : Heap) (a b : Addr) : Heap := (zq3 h a b).push { cls := .type "tuple", data := .seq #[.none, .none] }
abbrev zq5 (h : Heap) (a b : Addr) : Heap := (zq4 h a b).push { cls := .type "zip", data := .fields #[.none, .bool false, .bool false, .ref (zq2 h a b).objs.size, .ref (zq3 h a b).objs.size] }
theorem zipNewLT (a b : Addr) (us vs : Array Value) :
    Meets (Builtin.«zip.__new__» ⟨[.type "zip", .ref a, .ref b], []⟩) (fun _ R z => z.heap.IsList a us ∧ z.heap.IsTuple b vs ∧ R (.ok (.ret (.ref (zq4 z.heap a b).objs.size))) { z with heap := zq5 z.heap a b }) :=
  .of_wp fun P w A R z h => by
    obtain ⟨hp, g, d, tk, os⟩ := z; obtain ⟨q1, q2, h⟩ := h
    have hsub := sub_zip
    have L1 : Heap.IsList (Shared.heap ⟨hp, g, d, tk, os⟩) a us := q1
    have L2 : Heap.IsTuple (Shared.heap ⟨hp.push { cls := .type "list_iterator", data := .fields #[.ref a, .int 0 0] }, g, d, tk, os⟩) b vs := by
      obtain ⟨o, e, r⟩ := q2
      exact ⟨o, Heap.get?_push_of_some _ e, r⟩
    wp_walk using wpAny_pyIter_list L1, wpAny_pyIter_tuple L2
    exact ⟨_, rfl, h⟩
section
variable {P : Program} {w : World} {A : Around} {E : Value → Shared → Prop} {z : Shared}
/-- the five records of zip(list, tuple), as they lie one behind the other -/
structure ZipSt (n a b : Nat) (i : Nat) (f : Value) (h : Heap) : Prop where
  out : IsZip h (n + 4) (n + 2) (n + 3) f
  its : IsPair h (n + 2) (.ref n) (.ref (n + 1))
  own : ∃ x y, IsPair h (n + 3) x y
  fst : h.IsListIter n a i
  snd : h.IsTupleIter (n + 1) b i
theorem ZipSt.on {n a b : Nat} {i : Nat} {f : Value} {h h' : Heap} (x : ZipSt n a b i f h) (k : ∀ c : Nat, n ≤ c → c ≤ n + 4 → ∀ o, h.get? c = some o → h'.get? c = some o) : ZipSt n a b i f h' :=
  ⟨k (n + 4) (Nat.le_add_right _ _) (Nat.le_refl _) _ x.out, k (n + 2) (Nat.le_add_right _ _) (Nat.add_le_add_left (by decide) _) _ x.its, let ⟨u, v, q⟩ := x.own; ⟨u, v, k (n + 3) (Nat.le_add_right _ _) (Nat.add_le_add_left (by decide) _) _ q⟩, x.fst.at fun o q => k n (Nat.le_refl _) (Nat.le_add_right _ _) o q, x.snd.on fun o q => k (n + 1) (Nat.le_add_right _ _) (Nat.add_le_add_left (by decide) _) o q⟩
theorem zipCallLT {a b : Nat} {us vs : Array Value} {Q : Value → Shared → Prop} (q1 : z.heap.IsList a us) (q2 : z.heap.IsTuple b vs)
    (h : ∀ h', ZipSt z.heap.objs.size a b 0 .none h' → (∀ (c : Nat) o, z.heap.get? c = some o → h'.get? c = some o) → Q (.ref (z.heap.objs.size + 4)) { z with heap := h' }) :
    wpAny (model P w) A (call (.type "zip") [.ref a, .ref b]) Q E z := by
  refine callType_new F.called_zip (by decide) (F.typeCall_zip_2 _ _) (F.newCall_zip_2 _ _) (fun obj => F.args_object_init_3 obj _ _) F.entry_zip_new (zipNewLT a b us vs) ⟨q1, q2, ?_⟩
  have s1 : (zq1 z.heap a).objs.size = z.heap.objs.size + 1 := Heap.size_push ..
  have s2 : (zq2 z.heap a b).objs.size = z.heap.objs.size + 2 := by rw [Heap.size_push, s1]
  have s3 : (zq3 z.heap a b).objs.size = z.heap.objs.size + 3 := by rw [Heap.size_push, s2]
  have s4 : (zq4 z.heap a b).objs.size = z.heap.objs.size + 4 := by rw [Heap.size_push, s3]
  have e5 : (zq5 z.heap a b).get? (zq4 z.heap a b).objs.size = some _ := Heap.get?_push_size _ rfl
  have e4 : (zq5 z.heap a b).get? (zq3 z.heap a b).objs.size = some _ := Heap.get?_push_of_some _ (Heap.get?_push_size _ rfl)
  have e3 : (zq5 z.heap a b).get? (zq2 z.heap a b).objs.size = some _ := Heap.get?_push_of_some _ (Heap.get?_push_of_some _ (Heap.get?_push_size _ rfl))
  have e2 : (zq5 z.heap a b).get? (zq1 z.heap a).objs.size = some _ := Heap.get?_push_of_some _ (Heap.get?_push_of_some _ (Heap.get?_push_of_some _ (Heap.get?_push_size _ rfl)))
  have e1 : (zq5 z.heap a b).get? z.heap.objs.size = some _ := Heap.get?_push_of_some _ (Heap.get?_push_of_some _ (Heap.get?_push_of_some _ (Heap.get?_push_of_some _ (Heap.get?_push_size _ rfl))))
  show _ ∧ _
  rw [s2, s3, s4] at e5
  rw [s1, s2] at e3
  rw [s3] at e4
  rw [s1] at e2
  rw [s4]
  exact ⟨⟨_, e5, rfl⟩, h _ ⟨e5, e3, ⟨_, _, e4⟩, ⟨_, e1, rfl, rfl⟩, ⟨_, e2, rfl, rfl⟩⟩ fun c o x => Heap.get?_push_of_some _ (Heap.get?_push_of_some _ (Heap.get?_push_of_some _ (Heap.get?_push_of_some _ (Heap.get?_push_of_some _ x))))⟩
theorem zipNextLT {n a b : Nat} {i : Nat} {us vs : Array Value} {x y : Value} {Q : Option Value → Shared → Prop} (ha : a < n) (hb : b < n) (st : ZipSt n a b i .none z.heap) (la : z.heap.IsList a us) (lb : z.heap.IsTuple b vs) (hx : us[i]? = some x) (hy : vs[i]? = some y)
    (hQ : ∀ h', ZipSt n a b (i + 1) (rawInt z.heap.objs.size) h' → IsPair h' z.heap.objs.size x y → (∀ (c : Nat) o, (c < n ∨ n + 4 < c) → z.heap.get? c = some o → h'.get? c = some o) → Q (some (.ref z.heap.objs.size)) { z with heap := h' }) :
    wpAny (model P w) A (pyNext (.ref (n + 4))) Q E z := by
  obtain ⟨qz, qi, ⟨u0, v0, qo⟩, q1, q2⟩ := st
  have hT : z.TypeIs (.ref (n + 4)) "zip" := ⟨_, qz, rfl⟩
  unfold pyNext
  refine wpAny_bind (wpAny_attempt (wpAny_callSpecial?_slot (name := Str.ofString "__next__") hT F.slot_zip_next (wpAny_call_entry F.slot_zip_next hT F.entry_zip_next ?_ (F.args_zip_next_1 _))))
  show wpAny _ _ (field (.ref (n + 4)) 2 >>= _) _ _ _
  refine wpAny_bind (wpAny_field qz rfl (x := .bool false) rfl ?_)
  show wpAny _ _ (field (.ref (n + 4)) 3 >>= _) _ _ _
  refine wpAny_bind (wpAny_field qz rfl (x := .ref (n + 2)) rfl ?_)
  refine wpAny_bind (wpAny_seqItems qi rfl ?_)
  show wpAny _ _ (Builtin.SmallTypes.ownedTupleIsFree (.ref (n + 4)) >>= _) _ _ _
  refine wpAny_bind ?_; unfold Builtin.SmallTypes.ownedTupleIsFree
  refine wpAny_bind (wpAny_field qz rfl (x := .none) rfl (wpAny_pure ?_))
  simp only [if_true]
  refine wpAny_bind (wpAny_rule ?_)
  refine wpAny_bind (wpAny_field qz rfl (x := .ref (n + 3)) rfl ?_)
  refine wpAny_bind (wpAny_setField_rec qz (by simp) fun h1 qz1 k1 => ?_)
  replace qz1 : IsZip h1 (n + 4) (n + 2) (n + 3) .ellipsis := qz1
  refine wpAny_bind ?_; simp only [List.zipIdx_nil, List.zipIdx_cons, List.forIn_nil, List.forIn_cons]
  refine wpAny_bind (wpAny_bind (wpAny_onRaise ?_))
  show wpAny _ _ (Builtin.SmallTypes.nextOf (.ref n) >>= _) _ _ _
  refine wpAny_bind (wpAny_nextOf_list_item (q1.extBut k1.extBut (by first | omega | (refine (?_ : @Ne Nat _ _); omega))) (la.extBut k1.extBut (by first | omega | (refine (?_ : @Ne Nat _ _); omega))) hx fun h2 q12 k2 => wpAny_pure ?_)
  have qo2 : IsPair h2 (n + 3) u0 v0 := k2.extBut _ _ (by first | omega | (refine (?_ : @Ne Nat _ _); omega)) (k1.extBut _ _ (by first | omega | (refine (?_ : @Ne Nat _ _); omega)) qo)
  refine wpAny_bind (wpAny_seqItems qo2 rfl ?_)
  refine wpAny_bind (wpAny_updateSeq_pair qo2 fun h3 qo3 k3 => ?_)
  replace qo3 : IsPair h3 (n + 3) x v0 := qo3
  refine wpAny_bind (wpAny_letGo (wpAny_pure ?_))
  refine wpAny_bind (wpAny_bind (wpAny_onRaise ?_))
  show wpAny _ _ (Builtin.SmallTypes.nextOf (.ref (n + 1)) >>= _) _ _ _
  have up3 : ∀ (c : Nat) o, c ≠ n + 4 → c ≠ n + 3 → c ≠ n → z.heap.get? c = some o → h3.get? c = some o := fun c o c1 c2 c3 e => k3.extBut _ _ c2 (k2.extBut _ _ c3 (k1.extBut _ _ c1 e))
  refine wpAny_bind (nextT_item (q2.on fun o e => up3 _ o (by first | omega | (refine (?_ : @Ne Nat _ _); omega)) (by first | omega | (refine (?_ : @Ne Nat _ _); omega)) (by first | omega | (refine (?_ : @Ne Nat _ _); omega)) e) (lb.on fun o e => up3 _ o (by first | omega | (refine (?_ : @Ne Nat _ _); omega)) (by first | omega | (refine (?_ : @Ne Nat _ _); omega)) (by first | omega | (refine (?_ : @Ne Nat _ _); omega)) e) hy fun h4 q24 k4 => wpAny_pure ?_)
  have qo4 : IsPair h4 (n + 3) x v0 := k4.extBut _ _ (by first | omega | (refine (?_ : @Ne Nat _ _); omega)) qo3
  refine wpAny_bind (wpAny_seqItems qo4 rfl ?_)
  refine wpAny_bind (wpAny_updateSeq_pair qo4 fun h5 qo5 k5 => ?_)
  replace qo5 : IsPair h5 (n + 3) x y := qo5
  refine wpAny_bind (wpAny_letGo (wpAny_pure (wpAny_pure ?_)))
  refine wpAny_bind (wpAny_seqItems qo5 rfl ?_)
  refine wpAny_bind (wpAny_newTuple ?_)
  have hsz : h5.objs.size = z.heap.objs.size := by rw [k5.1, k4.1, k3.1, k2.1, k1.1]
  have up5 : ∀ (c : Nat) o, c ≠ n + 4 → c ≠ n + 3 → c ≠ n → c ≠ n + 1 → z.heap.get? c = some o → h5.get? c = some o := fun c o c1 c2 c3 c4 e => k5.extBut _ _ c2 (k4.extBut _ _ c4 (up3 c o c1 c2 c3 e))
  have qz5 : IsZip h5 (n + 4) (n + 2) (n + 3) .ellipsis := k5.extBut _ _ (by first | omega | (refine (?_ : @Ne Nat _ _); omega)) (k4.extBut _ _ (by first | omega | (refine (?_ : @Ne Nat _ _); omega)) (k3.extBut _ _ (by first | omega | (refine (?_ : @Ne Nat _ _); omega)) (k2.extBut _ _ (by first | omega | (refine (?_ : @Ne Nat _ _); omega)) qz1)))
  have q15 : h5.IsListIter n a (i + 1) := ((q12.extBut k3.extBut (by first | omega | (refine (?_ : @Ne Nat _ _); omega))).extBut k4.extBut (by first | omega | (refine (?_ : @Ne Nat _ _); omega))).extBut k5.extBut (by first | omega | (refine (?_ : @Ne Nat _ _); omega))
  have q25 : h5.IsTupleIter (n + 1) b (i + 1) := q24.extBut k5.extBut (by first | omega | (refine (?_ : @Ne Nat _ _); omega))
  have lz : n + 4 < h5.objs.size := Heap.lt_size qz5
  show wpAny _ _ (Builtin.SmallTypes.ownedTupleHandOut (.ref (n + 4)) (.ref h5.objs.size) >>= _) _ _ _
  refine wpAny_bind ?_; unfold Builtin.SmallTypes.ownedTupleHandOut
  have qz6 : IsZip (h5.push { cls := .type "tuple", data := .seq #[x, y] }) (n + 4) (n + 2) (n + 3) .ellipsis := Heap.get?_push_of_some _ qz5
  refine wpAny_bind (wpAny_setField_rec qz6 (by simp) fun h7 qz7 k7 => ?_)
  replace qz7 : IsZip h7 (n + 4) (n + 2) (n + 3) (rawInt h5.objs.size) := qz7
  refine wpAny_setField_rec qz7 (by simp) fun h8 qz8 k8 => ?_
  replace qz8 : IsZip h8 (n + 4) (n + 2) (n + 3) (rawInt h5.objs.size) := qz8
  have up : ∀ (c : Nat) o, c ≠ n + 4 → h5.get? c = some o → h8.get? c = some o := fun c o c1 e => k8.extBut _ _ c1 (k7.extBut _ _ c1 (Heap.get?_push_of_some _ e))
  have qt8 : IsPair h8 h5.objs.size x y := k8.extBut _ _ (Nat.ne_of_gt lz) (k7.extBut _ _ (Nat.ne_of_gt lz) (Heap.get?_push_size _ rfl))
  rw [hsz] at qz8 qt8
  refine wpAny_pure ⟨_, rfl, wpAny_pure ?_⟩
  show Q (some (.ref h5.objs.size)) _
  rw [hsz]
  exact hQ h8 ⟨qz8, up _ _ (by first | omega | (refine (?_ : @Ne Nat _ _); omega)) (up5 _ _ (by first | omega | (refine (?_ : @Ne Nat _ _); omega)) (by first | omega | (refine (?_ : @Ne Nat _ _); omega)) (by first | omega | (refine (?_ : @Ne Nat _ _); omega)) (by first | omega | (refine (?_ : @Ne Nat _ _); omega)) qi), ⟨_, _, up _ _ (by first | omega | (refine (?_ : @Ne Nat _ _); omega)) qo5⟩, q15.at fun o e => up _ o (by first | omega | (refine (?_ : @Ne Nat _ _); omega)) e, q25.on fun o e => up _ o (by first | omega | (refine (?_ : @Ne Nat _ _); omega)) e⟩ qt8
    fun c o hc e => up c o (by first | omega | (refine (?_ : @Ne Nat _ _); omega)) (up5 c o (by first | omega | (refine (?_ : @Ne Nat _ _); omega)) (by first | omega | (refine (?_ : @Ne Nat _ _); omega)) (by first | omega | (refine (?_ : @Ne Nat _ _); omega)) (by first | omega | (refine (?_ : @Ne Nat _ _); omega)) e)
theorem zipEndLT {n a b : Nat} {i : Nat} {us vs : Array Value} {Q : Option Value → Shared → Prop} (hh : A.handled = none) (ha : a < n) (hb : b < n) (st : ZipSt n a b i .none z.heap) (la : z.heap.IsList a us) (lb : z.heap.IsTuple b vs) (hx : us[i]? = none)
    (hQ : ∀ h', (∀ (c : Nat) o, (c < n ∨ n + 4 < c) → z.heap.get? c = some o → h'.get? c = some o) → Q none { z with heap := h' }) :
    wpAny (model P w) A (pyNext (.ref (n + 4))) Q E z := by
  obtain ⟨qz, qi, ⟨u0, v0, qo⟩, q1, q2⟩ := st
  have hT : z.TypeIs (.ref (n + 4)) "zip" := ⟨_, qz, rfl⟩
  unfold pyNext
  refine wpAny_bind (wpAny_attempt (wpAny_callSpecial?_slot (name := Str.ofString "__next__") hT F.slot_zip_next (wpAny_call_entry F.slot_zip_next hT F.entry_zip_next ?_ (F.args_zip_next_1 _))))
  show wpAny _ _ (field (.ref (n + 4)) 2 >>= _) _ _ _
  refine wpAny_bind (wpAny_field qz rfl (x := .bool false) rfl ?_)
  show wpAny _ _ (field (.ref (n + 4)) 3 >>= _) _ _ _
  refine wpAny_bind (wpAny_field qz rfl (x := .ref (n + 2)) rfl ?_)
  refine wpAny_bind (wpAny_seqItems qi rfl ?_)
  show wpAny _ _ (Builtin.SmallTypes.ownedTupleIsFree (.ref (n + 4)) >>= _) _ _ _
  refine wpAny_bind ?_; unfold Builtin.SmallTypes.ownedTupleIsFree
  refine wpAny_bind (wpAny_field qz rfl (x := .none) rfl (wpAny_pure ?_))
  simp only [if_true]
  refine wpAny_bind (wpAny_rule ?_)
  refine wpAny_bind (wpAny_field qz rfl (x := .ref (n + 3)) rfl ?_)
  refine wpAny_bind (wpAny_setField_rec qz (by simp) fun h1 qz1 k1 => ?_)
  replace qz1 : IsZip h1 (n + 4) (n + 2) (n + 3) .ellipsis := qz1
  refine wpAny_bind ?_; simp only [List.zipIdx_nil, List.zipIdx_cons, List.forIn_nil, List.forIn_cons]
  refine wpAny_bind (wpAny_bind (wpAny_onRaise ?_))
  show wpAny _ _ (Builtin.SmallTypes.nextOf (.ref n) >>= _) _ _ _
  refine wpAny_bind (wpAny_nextOf_list_end hh (q1.extBut k1.extBut (by first | omega | (refine (?_ : @Ne Nat _ _); omega))) (la.extBut k1.extBut (by first | omega | (refine (?_ : @Ne Nat _ _); omega))) hx fun h2 e k2 he => ?_)
  obtain ⟨oe, e1, e2⟩ := he
  have qz2 : IsZip h2 (n + 4) (n + 2) (n + 3) .ellipsis := k2 _ _ (by first | omega | (refine (?_ : @Ne Nat _ _); omega)) qz1
  have hez : e ≠ n + 4 := fun x => by subst x; rw [qz2] at e1; cases e1; simp at e2
  refine wpAny_setField_rec qz2 (by simp) fun h3 _ k3 => ?_
  refine wpAny_bind (wpAny_isInstance (T := "StopIteration") (b := true) ⟨oe, k3.extBut _ _ hez e1, e2⟩ isSubtype_stop ?_)
  exact wpAny_pure (hQ _ fun c o hc q => k3.extBut _ _ (by first | omega | (refine (?_ : @Ne Nat _ _); omega)) (k2 _ _ (by first | omega | (refine (?_ : @Ne Nat _ _); omega)) (k1.extBut _ _ (by first | omega | (refine (?_ : @Ne Nat _ _); omega)) q)))
end
end PySem
namespace L2
open PySem PySem.Spec PyProof.Rows
/-- records of an iterator have turned, nothing is new -/
theorem Inv.turnedAll {X : Cx} {pins : List (Addr × Obj)} {σ : St} {H : Hp} {s : Shared} {h' : Heap} {fp : List Addr} {t' : Nat} (I : Inv X pins σ H s) (hf : ∀ b ∈ fp, FpOk X pins H b) (k : ∀ b u, b ∉ fp → s.heap.get? b = some u → h'.get? b = some u) :
    Inv X pins σ H { s with heap := h', toks := t' } := by
  have nf : ∀ b u, H b = some u → b ∉ fp := fun b u e z => by rw [(hf b z).1] at e; cases e
  refine I.step (g' := s.gens) (d' := s.drawn) (ch := fp) (fun b hb => ?_) (fun b u _ _ hc e _ => k b u hc e) (fun b u _ _ hc e _ => ⟨u.slots, k b u hc e⟩) (fun _ _ _ _ n => n)
    (fun b u hc e => ⟨u, k b u hc e⟩) (fun _ _ e => e) (fun _ _ _ e => e) (fun b ps e => ⟨#[], by rw [e]; simp⟩) (fun m hm => ?_) (fun b u e => ?_) I.bare
  · obtain ⟨_, f1, _, f3, f4, f5⟩ := hf b hb
    exact ⟨f3, f1, f4, f5⟩
  · obtain ⟨ob, es, ep, ho, r⟩ := hm
    exact ⟨ob, es, ep, k _ ob (fun z => (hf _ z).2.1 rfl) ho, r⟩
  · refine (I.hok b u e).stay (fun c v hc q => k c v ?_ q) (fun _ q => q) fun _ _ q => q
    rcases hc with z | z
    · rw [z]; exact nf b u e
    · exact nf c _ z
/-- (x0, y0), (x1, y1), .. of the list at a and the tuple at b, of one length: each a new tuple -/
def Itz (K : PySem.W.Frag) (a b : Addr) : It :=
  ⟨fun i H => ∃ xs ys x y, SqL K H a xs ∧ SqT K H b ys ∧ xs[i]? = some x ∧ ys[i]? = some y, fun i H v H' => ∃ p x y, v = .ref p ∧ H p = none ∧ (∀ xs, SqL K H a xs → xs[i]? = some x) ∧ (∀ ys, SqT K H b ys → ys[i]? = some y) ∧ H' = upd H p (.tup [x, y]),
    fun i H => ∃ xs ys, SqL K H a xs ∧ SqT K H b ys ∧ xs.length ≤ i⟩
theorem zmem {c n : Nat} : c ∈ [n + 4, n + 3, n + 2, n + 1, n] ↔ n ≤ c ∧ c ≤ n + 4 := by
  simp only [List.mem_cons, List.not_mem_nil, or_false]
  omega
theorem turn_zip {P : Program} {w : World} {K : PySem.W.Frag} {elts : List Expr} {x1} {pos : Pos} (a b n : Nat) (ha : a < n) (hb : b < n) :
    Turn P w K (.Tuple elts x1 pos) (Itz K a b) [n + 4, n + 3, n + 2, n + 1, n] (n + 4) (fun i h => ZipSt n a b i .none h) where
  mem := by simp
  obj := fun i h st c hc => by
    have field : ∀ {o : Obj} {vs : Array Value}, o.data = .fields vs → ∀ v, o.data ≠ .cell v := fun d v q => by rw [d] at q; cases q
    have seqs : ∀ {o : Obj} {vs : Array Value} {m : Nat}, o.data = .seq vs m → ∀ v, o.data ≠ .cell v := fun d v q => by rw [d] at q; cases q
    simp only [List.mem_cons, List.not_mem_nil, or_false] at hc
    rcases hc with rfl | rfl | rfl | rfl | rfl
    · exact ⟨_, st.out, field rfl⟩
    · obtain ⟨u, v, q⟩ := st.own
      exact ⟨_, q, seqs rfl⟩
    · exact ⟨_, st.its, seqs rfl⟩
    · obtain ⟨o, e, _, d⟩ := st.snd
      exact ⟨o, e, field d⟩
    · obtain ⟨o, e, _, d⟩ := st.fst
      exact ⟨o, e, field d⟩
  keep := fun i h h' st k => st.on fun c c1 c2 o q => k c (zmem.mpr ⟨c1, c2⟩) o q
  item := by
    intro X hP hw hK hc i pins s σ H E I hf st hg
    subst hP hw hK
    obtain ⟨xs, ys, x, y, hq, hr, hx, hy⟩ := hg
    obtain ⟨its, rv, p, hz⟩ := I.list hq
    obtain ⟨jts, rw', p', hz'⟩ := I.tuple hr
    obtain ⟨u, hu, ru⟩ := rv.get hx
    obtain ⟨v, hv, rv'⟩ := rw'.get hy
    refine zipNextLT ha hb st p.isList (show s.heap.IsTuple b jts.toArray from p') (x := u) (y := v) (by simpa using hu) (by simpa using hv) fun h' st' tp kk => ?_
    have lz : n + 4 < s.heap.objs.size := Heap.lt_size st.out
    refine ⟨_, rfl, wpAny_letOwnedTupleGo_zip (s := { s with heap := h' }) st'.out fun h2 qz2 sb => ?_⟩
    have ptn : ∀ c ∈ [n + 4, n + 3, n + 2, n + 1, n], c ≠ s.heap.objs.size := fun c hc => Nat.ne_of_lt (Nat.lt_of_le_of_lt (zmem.mp hc).2 lz)
    have tp2 : h2.get? s.heap.objs.size = some { cls := .type "tuple", data := .seq #[u, v] } := (sb.2 _ (by first | omega | (refine (?_ : @Ne Nat _ _); omega))).trans tp
    have I2 : Inv X pins σ (upd H s.heap.objs.size (.tup [x, y])) { s with heap := h2, toks := s.toks } := by
      refine I.turns (fp := [n + 4, n + 3, n + 2, n + 1, n]) hf (fun (c : Nat) o hc q => ?_) (Nat.le_refl _) ⟨(by show 2 ≤ sizeLine; decide), [u, v], .cons ru (.cons rv' .nil), ⟨_, tp2, rfl, _, rfl⟩⟩
      have hc1 : ¬ (n ≤ c ∧ c ≤ n + 4) := fun z => hc (zmem.mpr z)
      have hc2 : c < n ∨ n + 4 < c := by omega
      exact (sb.2 c (by refine (?_ : @Ne Nat _ _); omega)).trans (kk c o hc2 q)
    refine ⟨.ref s.heap.objs.size, _, I2, rfl, ⟨_, x, y, rfl, I.hok.fresh (Nat.le_refl _), (fun zs hy => by rw [I.list_inj hy hq]; exact hx), (fun zs hz => by rw [I.tuple_inj hz hr]; exact hy), rfl⟩, ?_, fun c hc => ?_⟩
    · refine ⟨qz2, (sb.2 _ (by first | omega | (refine (?_ : @Ne Nat _ _); omega))).trans st'.its, let ⟨u, v, q⟩ := st'.own; ⟨u, v, (sb.2 _ (by first | omega | (refine (?_ : @Ne Nat _ _); omega))).trans q⟩, st'.fst.at fun o q => (sb.2 _ (by first | omega | (refine (?_ : @Ne Nat _ _); omega))).trans q, st'.snd.on fun o q => (sb.2 _ (by first | omega | (refine (?_ : @Ne Nat _ _); omega))).trans q⟩
    · rw [upd_ne (ptn c hc)]; exact (hf c hc).1
  done := by
    intro X hP hw hK hc i pins s σ H E I hf st hg
    subst hP hw hK
    obtain ⟨xs, ys, hq, hr, hx⟩ := hg
    obtain ⟨its, rv, p, hz⟩ := I.list hq
    obtain ⟨jts, rw', p', hz'⟩ := I.tuple hr
    have hl := rv.length
    refine zipEndLT (I.ok.hd hc) ha hb st p.isList (show s.heap.IsTuple b jts.toArray from p') (by simp; omega) fun h' kk => ⟨rfl, ?_⟩
    exact I.turnedAll (fp := [n + 4, n + 3, n + 2, n + 1, n]) hf fun (c : Nat) o hc q => kk c o (by
      have hc1 : ¬ (n ≤ c ∧ c ≤ n + 4) := fun z => hc (zmem.mpr z)
      omega) q
  self := fun _ _ _ _ _ st h => wpAny_pyIter_zip st.out h
def iZip (K : PySem.W.Frag) (t : TA) : TI := fun σ H R => t σ H fun vs H1 => ∃ a b, vs = [.ref a, .ref b] ∧ (∃ xs, SqL K H1 a xs) ∧ (∃ ys, SqT K H1 b ys) ∧ R (Itz K a b) H1
theorem pi_zip {X : Cx} {elts : List Expr} {x1} {pt p cpos : Pos} {l m : Expr} {t : TA} (ha : PA X [l, m] t) (hg : Gl X "zip") (hm : X.mg "zip" = none)
    (he : starEach [l, m] X.env = (false, eval l X.env) :: starEach [m] X.env := by rfl) (hpl : (backTo cpos (starEach [m] X.env)).any (·.1) = false := by rfl) :
    PI X (.Tuple elts x1 pt) (.Call (.Name "zip" p) [l, m] [] cpos) (iZip X.K t) := by
  intro pins s σ H R I h
  refine wpAny_Call_Name_kw (ld_blt I hg hm Bt.zip ?_ (by decide) (by decide))
  refine PyProof.Rows.callWith_type1 (thn (ha cpos pins s σ H _ I h) fun us s1 ⟨vs, H1, I1, r1, q1⟩ => ?_) he hpl
  obtain ⟨a, b, rfl, ⟨xs, hq⟩, ⟨ys, hr⟩, q⟩ := q1
  cases r1 with
  | cons ra rr =>
    cases rr with
    | cons rb rr =>
      cases rr
      cases ra
      cases rb
      obtain ⟨its, rv, p, hz⟩ := I1.list hq
      obtain ⟨jts, rw', p', hz'⟩ := I1.tuple hr
      have pT : s1.heap.IsTuple b jts.toArray := p'
      have la : a < s1.heap.objs.size := by
        obtain ⟨_, e1, _⟩ := p.isList
        exact Heap.lt_size e1
      have lb : b < s1.heap.objs.size := by
        obtain ⟨_, e1, _⟩ := pT
        exact Heap.lt_size e1
      refine zipCallLT p.isList pT fun h' st kk => ?_
      refine wpAny_pyIter_zip st.out ?_
      refine ⟨s1.heap.objs.size + 4, _, _, _, H1, rfl, I1.kept (t' := s1.toks) kk, turn_zip a b s1.heap.objs.size la lb, st, fun c hc => ?_, q⟩
      have hc : s1.heap.objs.size ≤ c := (zmem.mp hc).1
      exact I1.fpOk hc (I1.hok.fresh hc)
theorem pzip {X : Cx} {elts : List Expr} {x1} {pt p cpos : Pos} {l m : Expr} {t : TA} (ha : PA X [l, m] t) (hm : X.mg "zip" = none) (hg : X.env.scope.names.lookup ("zip" : Str) = some .globalImplicit := by kernel_rfl)
    (he : starEach [l, m] X.env = (false, eval l X.env) :: starEach [m] X.env := by rfl) (hpl : (backTo cpos (starEach [m] X.env)).any (·.1) = false := by rfl) :
    PI X (.Tuple elts x1 pt) (.Call (.Name "zip" p) [l, m] [] cpos) (iZip X.K t) := pi_zip ha hg hm he hpl
section
variable {K : PySem.W.Frag} {g : TG} {σ : St} {H : Hp} {ix : List (Option Nat)} {tt : TT} {te : TE} {Q : VK}
theorem comp_zip {a b : Addr} {xs ys : List V} (hxy : xs.length = ys.length) (Pv : Nat → List V → Hp → Prop) (h0 : Pv 0 [] H) (hn : xs.length ≤ sizeLine) (hl : ∀ i zs H, Pv i zs H → zs.length ≤ i) (hx : ∀ i zs H, Pv i zs H → SqL K H a xs ∧ SqT K H b ys)
    (hs : ∀ i x y zs H, xs[i]? = some x → ys[i]? = some y → Pv i zs H → ∀ p, H p = none → g (.ref p) (blkSt ix σ) (upd H p (.tup [x, y])) fun σ2 H2 => Ext (blkSt ix σ) σ2 ∧ tt σ2 H2 fun ok H3 => if ok = true then te σ2 H3 fun v H4 => Pv (i + 1) (zs ++ [v]) H4 else Pv (i + 1) zs H3)
    (hd : ∀ zs H, Pv xs.length zs H → ∀ p, H p = none → Q (.ref p) (upd H p (.lst zs))) : CompGo (Itz K a b) ix g tt te σ H Q := by
  refine ⟨fun i m zs H => m = xs.length - i ∧ i ≤ xs.length ∧ Pv i zs H, ⟨xs.length, by simp, Nat.zero_le _, h0⟩, ?_⟩
  rintro i m zs H ⟨rfl, hi, p⟩
  obtain ⟨q, q'⟩ := hx i zs H p
  refine ⟨Nat.le_trans (hl _ _ _ p) (Nat.le_trans hi hn), ?_⟩
  by_cases hlt : i < xs.length
  · refine .inr ⟨⟨xs, ys, xs[i], ys[i], q, q', by simp [hlt], by simp [hxy ▸ hlt]⟩, Pv (i + 1), fun ys' H' p' => ⟨xs.length - (i + 1), by omega, rfl, hlt, p'⟩, fun x H' y => ?_⟩
    obtain ⟨r, z1, z2, rfl, hn', hz1, hz2, rfl⟩ := y
    exact hs i z1 z2 zs _ (hz1 xs q) (hz2 ys q') p r hn'
  · have e : i = xs.length := by omega
    subst e
    exact .inl ⟨⟨xs, ys, q, q', Nat.le_refl _⟩, hd zs H p⟩
end
/-! ### great products -/
def CBig (i j : Int) : Prop := i.natAbs < 2 ^ 1024 ∧ j.natAbs < 2 ^ 1024
theorem bits_big {a : Int} (ha : a.natAbs < 2 ^ 1024) : Builtin.Int.intBits a ≤ 2 ^ 20 := by
  have h : Builtin.Int.intBits a ≤ 1024 := intBits_le ha
  have h2 : 1024 ≤ 2 ^ 20 := by decide
  omega
theorem op_mulB {X : Cx} : OpR X (binaryOp .Mult) (rI CBig fun i j => .int (i * j)) := opI fun _ _ _ _ _ _ _ hc q => mul_int q (.of_bits (bits_big hc.1) (bits_big hc.2))
/-! ### two tuples of texts -/
theorem all_strs (ns ms : List Str) : ((List.range (min ns.length ms.length)).all (fun j => ns.getD j ⟨#[]⟩ == ms.getD j ⟨#[]⟩) && ns.length == ms.length) = decide (ns = ms) := by
  by_cases h : ns = ms
  · subst h
    rw [decide_eq_true rfl]
    simp
  · rw [decide_eq_false h]
    cases hl : (ns.length == ms.length) with
    | false => simp
    | true =>
      have hl : ns.length = ms.length := by simpa using hl
      rw [Bool.and_true]
      refine Bool.eq_false_iff.mpr fun z => h (List.ext_getElem hl fun j h1 h2 => ?_)
      have := List.all_eq_true.mp z j (List.mem_range.mpr (by omega))
      have this : ns.getD j ⟨#[]⟩ = ms.getD j ⟨#[]⟩ := by simpa using this
      rw [List.getD, List.getD, List.getElem?_eq_getElem h1, List.getElem?_eq_getElem h2] at this
      exact this
theorem strs_at {us : List Value} {ns : List Str} (r : Vals (ns.map V.str) us) : us.length = ns.length ∧ ∀ (j : Nat) (h : j < us.length), ∃ t, us[j] = .str (ns.getD j ⟨#[]⟩) t := by
  have hl : us.length = ns.length := by
    have := r.length
    rw [List.length_map] at this
    exact this.symm
  refine ⟨hl, fun j h => ?_⟩
  have hj : j < ns.length := by omega
  obtain ⟨u, hu, ru⟩ := r.get (i := j) (x := V.str ns[j]) (by rw [List.getElem?_map, List.getElem?_eq_getElem hj]; rfl)
  obtain ⟨t, rfl⟩ := ru
  refine ⟨t, ?_⟩
  rw [List.getElem?_eq_getElem h] at hu
  rw [Option.some.inj hu, List.getD, List.getElem?_eq_getElem hj]
  rfl
def rNeTN (K : PySem.W.Frag) : R2 := fun x y H Q => ∃ (a b : Addr) (ns ms : List Str), x = .ref a ∧ y = .ref b ∧ SqT K H a (ns.map V.str) ∧ SqT K H b (ms.map V.str) ∧ Q (.bl (!decide (ns = ms))) H
theorem op_neTN {X : Cx} (hu : X.A.units < cLine) : OpR X (compareOp .NotEq) (rNeTN X.K) := by
  intro pins s σ H x y v u Q I rx ry h
  obtain ⟨a, b, ns, ms, rfl, rfl, ha, hb, q⟩ := h
  cases rx
  cases ry
  obtain ⟨its, r1, p1, _⟩ := I.tuple ha
  obtain ⟨its2, r2, p2, _⟩ := I.tuple hb
  obtain ⟨l1, i1⟩ := strs_at r1
  obtain ⟨l2, i2⟩ := strs_at r2
  refine SeqAt.RcNeAt.tuples (e := fun j => ns.getD j ⟨#[]⟩ == ms.getD j ⟨#[]⟩) p1 p2 hu (fun j h1 h2 => ?_) _ _ _ _ ?_
  · obtain ⟨t1, e1⟩ := i1 j (by simpa using h1)
    obtain ⟨t2, e2⟩ := i2 j (by simpa using h2)
    have e1' : its.toArray[j] = .str (ns.getD j ⟨#[]⟩) t1 := by simpa using e1
    have e2' : its2.toArray[j] = .str (ms.getD j ⟨#[]⟩) t2 := by simpa using e2
    rw [e1', e2']
    exact SeqAt.EqAt.str_str _ _ _ _
  · rw [show its.toArray.size = ns.length by simpa using l1, show its2.toArray.size = ms.length by simpa using l2, all_strs]
    exact ⟨.bl (!decide (ns = ms)), H, I, rfl, q⟩
end L2

/-! ### two lists of the same numbers -/
namespace L2
open PySem PyProof.Rows
variable {X : Cx}
end L2

/-! ### a list turned about, and something put into one -/
namespace L2
open PySem PyProof.Rows
variable {X : Cx}
end L2

/-! ### max of a tuple -/
namespace L2
open PySem PySem.Spec PyProof.Rows
variable {X : Cx}
end L2

namespace Mc
open PySem PySem.Spec PyProof.Rows

/-! ### sentences -/
inductive Op where
  | and | or | thn | same
  deriving DecidableEq
def Op.str : Op → Str
  | .and => "and"
  | .or => "or"
  | .thn => "then"
  | .same => "same"
inductive Tr where
  | nm (x : Str) | yes | no | not (t : Tr) | bin (o : Op) (a b : Tr)
def Tr.tag : Tr → Str
  | .nm _ => "name"
  | .yes => "yes"
  | .no => "no"
  | .not _ => "not"
  | .bin o _ _ => o.str
def Tr.kids : Tr → List Tr
  | .not t => [t]
  | .bin _ a b => [a, b]
  | _ => []
def Tr.depth : Tr → Nat
  | .not t => t.depth + 1
  | .bin _ a b => max a.depth b.depth + 1
  | _ => 1
def Tr.size : Tr → Nat
  | .not t => t.size + 1
  | .bin _ a b => a.size + b.size + 1
  | _ => 1
def Tr.names : Tr → List Str
  | .nm x => [x]
  | .not t => t.names
  | .bin _ a b => a.names ++ b.names
  | _ => []
def Tr.isNm : Tr → Bool
  | .nm _ => true
  | _ => false
/-! ### rows of sentences -/
/-! ### sorted rows of texts -/
end Mc
namespace Mc
open PySem

abbrev Str.l (x : Str) : List Nat := x.cps.toList
theorem str_ext {a b : Str} (h : a.cps.toList = b.cps.toList) : a = b := by
  have e2 : a.cps = b.cps := Array.toList_inj.mp h
  cases a; cases b; exact congrArg Str.mk e2
theorem app_l (a b : Str) : (a ++ b).cps.toList = a.cps.toList ++ b.cps.toList := by
  show (a.cps ++ b.cps).toList = _
  simp
theorem len_l (a : Str) : a.length = a.cps.toList.length := by
  show a.cps.size = _
  simp
/-! ### names -/
abbrev letters : Str := "abcdefghijklmnopqrstuvwxyz"
theorem letters_at (i : Nat) (h : i < 26) : letters.cps.toList[i]? = some (97 + i) := by
  have : ∀ i : _root_.Fin 26, letters.cps.toList[i.val]? = some (97 + i.val) := by decide +kernel
  exact this ⟨i, h⟩
theorem letters_len : letters.length = 26 := by decide +kernel
/-- a name of point 3 -/
structure IsName (y : Str) : Prop where
  pos : 1 ≤ y.cps.toList.length
  le : y.cps.toList.length ≤ 8
  ok : ∀ c ∈ y.cps.toList, 97 ≤ c ∧ c ≤ 122
end Mc
/-! ### sentences in the heap -/
namespace Mc
open PySem PySem.Spec PyProof.Rows L2

inductive TrAt (H : Hp) : V → Tr → Prop where
  | nm {a : Addr} {x : Str} : H a = some (.tup [.str "name", .str x]) → TrAt H (.ref a) (.nm x)
  | yes {a : Addr} : H a = some (.tup [.str "yes"]) → TrAt H (.ref a) .yes
  | no {a : Addr} : H a = some (.tup [.str "no"]) → TrAt H (.ref a) .no
  | not {a : Addr} {v : V} {t : Tr} : H a = some (.tup [.str "not", v]) → TrAt H v t → TrAt H (.ref a) (.not t)
  | bin {a : Addr} {o : Op} {v u : V} {t t' : Tr} : H a = some (.tup [.str o.str, v, u]) → TrAt H v t → TrAt H u t' → TrAt H (.ref a) (.bin o t t')
/-- the tuples stay -/
def Tups (H H' : Hp) : Prop := ∀ b xs, H b = some (.tup xs) → H' b = some (.tup xs)
theorem Tups.refl (H : Hp) : Tups H H := fun _ _ h => h
theorem Tups.trans {H H1 H2 : Hp} (a : Tups H H1) (b : Tups H1 H2) : Tups H H2 := fun c o h => b c o (a c o h)
theorem _root_.L2.Same.tups {H H' : Hp} (s : Same H H') : Tups H H' := fun b xs h => s b _ h
theorem TrAt.mono {H H' : Hp} (k : Tups H H') {v : V} {t : Tr} (h : TrAt H v t) : TrAt H' v t := by
  induction h with
  | nm e => exact .nm (k _ _ e)
  | yes e => exact .yes (k _ _ e)
  | no e => exact .no (k _ _ e)
  | not e _ ih => exact .not (k _ _ e) ih
  | bin e _ _ ih1 ih2 => exact .bin (k _ _ e) ih1 ih2
theorem TrAt.open {H : Hp} {v : V} {t : Tr} (h : TrAt H v t) : ∃ a rest, v = .ref a ∧ H a = some (.tup (.str t.tag :: rest)) ∧ (t.isNm = true → ∃ x, t = .nm x ∧ rest = [.str x]) ∧ (t.isNm = false → Paired (TrAt H) rest t.kids) := by
  cases h with
  | nm e => exact ⟨_, _, rfl, e, fun _ => ⟨_, rfl, rfl⟩, fun z => by cases z⟩
  | yes e => exact ⟨_, _, rfl, e, (fun z => by cases z), fun _ => .nil⟩
  | no e => exact ⟨_, _, rfl, e, (fun z => by cases z), fun _ => .nil⟩
  | not e h1 => exact ⟨_, _, rfl, e, (fun z => by cases z), fun _ => .cons h1 .nil⟩
  | bin e h1 h2 => exact ⟨_, _, rfl, e, (fun z => by cases z), fun _ => .cons h1 (.cons h2 .nil)⟩
theorem paired_app {α β : Type} {F : α → β → Prop} : ∀ {a c : List α} {b d : List β}, Paired F a b → Paired F c d → Paired F (a ++ c) (b ++ d)
  | _, _, _, _, .nil, s => s
  | _, _, _, _, .cons r t, s => .cons r (paired_app t s)
theorem paired_get {α β : Type} {F : α → β → Prop} : ∀ {a : List α} {b : List β}, Paired F a b → ∀ (i : Nat) x, a[i]? = some x → ∃ y, b[i]? = some y ∧ F x y
  | _, _, .nil, i, x, h => by simp at h
  | _, _, .cons r t, 0, x, h => by
    rw [List.getElem?_cons_zero] at h
    cases h
    exact ⟨_, rfl, r⟩
  | _, _, .cons r t, i + 1, x, h => by
    rw [List.getElem?_cons_succ] at h
    exact paired_get t i x h
theorem same_upd {H : Hp} {l : Addr} {o : HO} (h : H l = none) : Same H (upd H l o) := fun b u e => by
  rw [upd_ne (ne_of_none e h)]
  exact e
theorem tups_upd {H : Hp} {b : Addr} {xs : List V} {o : HO} (h : H b = some (.lst xs)) : Tups H (upd H b o) := fun c ys e => by
  rw [upd_ne (fun z => by subst z; rw [h] at e; cases e)]
  exact e
end Mc
namespace Mc
open PySem PySem.Spec PyProof.Rows L2
theorem lk {n : Nat} (h : n ≤ 1000) : n ≤ sizeLine := Nat.le_of_lt (small1000 h)
end Mc

/-! ### bits, worlds, tables -/
namespace Mc
open PySem
/-! the sides of a sentence -/
end Mc

/-! ### columns, tables by bits, the least of some ranks -/
namespace Mc
open PySem
end Mc

/-! ### ranks that are turned -/
namespace Mc
open PySem
theorem getD_mem {rs : List Int} {i : Nat} (h : i < rs.length) : rs.getD i 0 ∈ rs := by
  rw [List.getD, List.getElem?_eq_getElem h]
  exact List.getElem_mem h
theorem mem_getD {rs : List Int} {x : Int} (h : x ∈ rs) : ∃ i, i < rs.length ∧ rs.getD i 0 = x := by
  obtain ⟨i, hi, e⟩ := List.mem_iff_getElem.mp h
  exact ⟨i, hi, by rw [List.getD, List.getElem?_eq_getElem hi]; exact e⟩
end Mc

/-! ### minds that are poured together -/
namespace Mc
open PySem
/-- the sum of a world, of pairs (ranks, weight) -/
def sumAt (ps : List (List Int × Int)) (i : Nat) : Int := (ps.map fun x => x.2 * x.1.getD i 0).sum
def sumsW (N : Nat) (ps : List (List Int × Int)) : List Int := (List.range N).map (sumAt ps)
theorem sumsW_len (N : Nat) (ps : List (List Int × Int)) : (sumsW N ps).length = N := by unfold sumsW; simp
theorem sumsW_nil (N : Nat) : sumsW N [] = List.replicate N 0 := by
  unfold sumsW
  rw [show sumAt [] = fun _ => (0 : Int) from funext fun _ => rfl, List.map_const', List.length_range]
theorem sumAt_app (ps qs : List (List Int × Int)) (i : Nat) : sumAt (ps ++ qs) i = sumAt ps i + sumAt qs i := by
  unfold sumAt
  rw [List.map_append, List.sum_append]
theorem sumAt_snoc (ps : List (List Int × Int)) (x : List Int × Int) (i : Nat) : sumAt (ps ++ [x]) i = sumAt ps i + x.2 * x.1.getD i 0 := by
  rw [sumAt_app]
  simp [sumAt]
theorem sumsW_at {N i : Nat} (ps : List (List Int × Int)) (h : i < N) : (sumsW N ps).getD i 0 = sumAt ps i := by
  unfold sumsW
  rw [List.getD, List.getElem?_map, List.getElem?_range h]
  rfl
/-- one pair more, as far as the world m -/
def moreTo (N : Nat) (ps : List (List Int × Int)) (x : List Int × Int) (m : Nat) : List Int := (List.range m).map fun i => (sumsW N ps).getD i 0 + x.2 * x.1.getD i 0
theorem moreTo_succ (N : Nat) (ps : List (List Int × Int)) (x : List Int × Int) (m : Nat) : moreTo N ps x (m + 1) = moreTo N ps x m ++ [(sumsW N ps).getD m 0 + x.2 * x.1.getD m 0] := by
  unfold moreTo
  rw [List.range_succ, List.map_append]
  rfl
theorem moreTo_len (N : Nat) (ps : List (List Int × Int)) (x : List Int × Int) (m : Nat) : (moreTo N ps x m).length = m := by unfold moreTo; simp
theorem moreTo_all (N : Nat) (ps : List (List Int × Int)) (x : List Int × Int) : moreTo N ps x N = sumsW N (ps ++ [x]) := by
  unfold moreTo
  show _ = (List.range N).map (sumAt (ps ++ [x]))
  refine List.map_congr_left fun i hi => ?_
  rw [sumsW_at _ (List.mem_range.mp hi), sumAt_snoc]
/-- the least of a row -/
def leastOf (l : List Int) (m : Int) : Prop := m ∈ l ∧ ∀ a ∈ l, m ≤ a
theorem leastOf.eq {l : List Int} {m k : Int} (h1 : leastOf l m) (h2 : leastOf l k) : m = k := by
  have := h1.2 k h2.1
  have := h2.2 m h1.1
  omega
theorem ten30 : (10 : Int) ^ (30 : Int).toNat = 1000000000000000000000000000000 := by decide
theorem big_of {z : Int} (h0 : 0 ≤ z) (h : z ≤ 10 ^ 100) : z.natAbs < 2 ^ 1024 := by
  have h1 : (z.natAbs : Int) ≤ 10 ^ 100 := by omega
  have h2 : z.natAbs ≤ 10 ^ 100 := by exact_mod_cast h1
  exact Nat.lt_of_le_of_lt h2 (by decide +kernel)
end Mc

set_option Elab.async false
set_option linter.all false
set_option maxRecDepth 100000
set_option maxHeartbeats 8000000
namespace K50
open PySem L2
def top (i : Nat) : Stmt := PySem.Challenge.pw_mindchange_k50_pouring_refused.main.body.getD i (.Pass ⟨0, 0, 0, 0⟩)
abbrev s_less_the_least : Stmt := top 13
abbrev s_need_alike : Stmt := top 15
abbrev s_poured : Stmt := top 16
abbrev s_is_nearest_in_all : Stmt := top 17
abbrev s_common : Stmt := top 18
abbrev s__law_cell_at : Stmt := top 20
abbrev s__law_names_by : Stmt := top 21
abbrev s__law_mind_by : Stmt := top 22
abbrev s__law_pairs_by : Stmt := top 23
abbrev s__law_class : Stmt := top 24
abbrev s__law_other_names : Stmt := top 25
abbrev s__law_asked : Stmt := top 26
abbrev s_law : Stmt := top 27
set_option genSizeOf false in
set_option genInjectivity false in
/-- the addresses and the records -/
structure Adr where
  a_less_the_least : Addr
  fd_less_the_least : FuncData
  a_need_alike : Addr
  fd_need_alike : FuncData
  a_poured : Addr
  fd_poured : FuncData
  a_is_nearest_in_all : Addr
  fd_is_nearest_in_all : FuncData
  a_common : Addr
  fd_common : FuncData
  a__law_cell_at : Addr
  fd__law_cell_at : FuncData
  a__law_names_by : Addr
  fd__law_names_by : FuncData
  a__law_mind_by : Addr
  fd__law_mind_by : FuncData
  a__law_pairs_by : Addr
  fd__law_pairs_by : FuncData
  a__law_class : Addr
  fd__law_class : FuncData
  a__law_other_names : Addr
  fd__law_other_names : FuncData
  a__law_asked : Addr
  fd__law_asked : FuncData
  a_law : Addr
  fd_law : FuncData
  c_MindError : Addr
  c_NoSentence : Addr
  c_TooDeep : Addr
  c_NoName : Addr
  c_Always : Addr
  c_Never : Addr
  c_NoMinds : Addr
  c_Unlike : Addr
  c_NoBack : Addr
  c_NoAgain : Addr
  c_Refused : Addr
/-- what the top has written -/
structure Txt (P : Program) (w : World) (K : PySem.W.Frag) (mg : Str → Option Value) (t : Adr) : Prop where
  F_less_the_least : Fun K "less_the_least" "less_the_least" s_less_the_least t.a_less_the_least t.fd_less_the_least
  b_less_the_least : Binds K t.fd_less_the_least ["marks"] []
  m_less_the_least : mg "less_the_least" = some (.ref t.a_less_the_least)
  k_less_the_least : PySem.W.keepIn K (.ref t.a_less_the_least) = true
  F_need_alike : Fun K "need_alike" "need_alike" s_need_alike t.a_need_alike t.fd_need_alike
  b_need_alike : Binds K t.fd_need_alike ["minds"] []
  m_need_alike : mg "need_alike" = some (.ref t.a_need_alike)
  k_need_alike : PySem.W.keepIn K (.ref t.a_need_alike) = true
  F_poured : Fun K "poured" "poured" s_poured t.a_poured t.fd_poured
  b_poured : Binds K t.fd_poured ["pairs"] []
  m_poured : mg "poured" = some (.ref t.a_poured)
  k_poured : PySem.W.keepIn K (.ref t.a_poured) = true
  F_is_nearest_in_all : Fun K "is_nearest_in_all" "is_nearest_in_all" s_is_nearest_in_all t.a_is_nearest_in_all t.fd_is_nearest_in_all
  b_is_nearest_in_all : Binds K t.fd_is_nearest_in_all ["minds", "world"] []
  m_is_nearest_in_all : mg "is_nearest_in_all" = some (.ref t.a_is_nearest_in_all)
  k_is_nearest_in_all : PySem.W.keepIn K (.ref t.a_is_nearest_in_all) = true
  F_common : Fun K "common" "common" s_common t.a_common t.fd_common
  b_common : Binds K t.fd_common ["minds"] []
  m_common : mg "common" = some (.ref t.a_common)
  k_common : PySem.W.keepIn K (.ref t.a_common) = true
  F__law_cell_at : Fun K "_law_cell_at" "_law_cell_at" s__law_cell_at t.a__law_cell_at t.fd__law_cell_at
  b__law_cell_at : Binds K t.fd__law_cell_at ["_law_script", "_law_k"] []
  m__law_cell_at : mg "_law_cell_at" = some (.ref t.a__law_cell_at)
  k__law_cell_at : PySem.W.keepIn K (.ref t.a__law_cell_at) = true
  F__law_names_by : Fun K "_law_names_by" "_law_names_by" s__law_names_by t.a__law_names_by t.fd__law_names_by
  b__law_names_by : Binds K t.fd__law_names_by ["_law_cell", "_law_many"] []
  m__law_names_by : mg "_law_names_by" = some (.ref t.a__law_names_by)
  k__law_names_by : PySem.W.keepIn K (.ref t.a__law_names_by) = true
  F__law_mind_by : Fun K "_law_mind_by" "_law_mind_by" s__law_mind_by t.a__law_mind_by t.fd__law_mind_by
  b__law_mind_by : Binds K t.fd__law_mind_by ["_law_names", "_law_cells", "_law_way"] []
  m__law_mind_by : mg "_law_mind_by" = some (.ref t.a__law_mind_by)
  k__law_mind_by : PySem.W.keepIn K (.ref t.a__law_mind_by) = true
  F__law_pairs_by : Fun K "_law_pairs_by" "_law_pairs_by" s__law_pairs_by t.a__law_pairs_by t.fd__law_pairs_by
  b__law_pairs_by : Binds K t.fd__law_pairs_by ["_law_names", "_law_script", "_law_at", "_law_many"] []
  m__law_pairs_by : mg "_law_pairs_by" = some (.ref t.a__law_pairs_by)
  k__law_pairs_by : PySem.W.keepIn K (.ref t.a__law_pairs_by) = true
  F__law_class : Fun K "_law_class" "_law_class" s__law_class t.a__law_class t.fd__law_class
  b__law_class : Binds K t.fd__law_class ["_law_caught"] []
  m__law_class : mg "_law_class" = some (.ref t.a__law_class)
  k__law_class : PySem.W.keepIn K (.ref t.a__law_class) = true
  F__law_other_names : Fun K "_law_other_names" "_law_other_names" s__law_other_names t.a__law_other_names t.fd__law_other_names
  b__law_other_names : Binds K t.fd__law_other_names ["_law_names", "_law_more", "_law_cell"] []
  m__law_other_names : mg "_law_other_names" = some (.ref t.a__law_other_names)
  k__law_other_names : PySem.W.keepIn K (.ref t.a__law_other_names) = true
  F__law_asked : Fun K "_law_asked" "_law_asked" s__law_asked t.a__law_asked t.fd__law_asked
  b__law_asked : Binds K t.fd__law_asked ["_law_pairs", "_law_pouring"] []
  m__law_asked : mg "_law_asked" = some (.ref t.a__law_asked)
  k__law_asked : PySem.W.keepIn K (.ref t.a__law_asked) = true
  F_law : Fun K "law" "law" s_law t.a_law t.fd_law
  b_law : Binds K t.fd_law ["_law_script"] []
  m_law : mg "law" = some (.ref t.a_law)
  k_law : PySem.W.keepIn K (.ref t.a_law) = true
  m_MindError : mg "MindError" = some (.ref t.c_MindError)
  h_MindError : catches K t.c_MindError = true
  m_NoSentence : mg "NoSentence" = some (.ref t.c_NoSentence)
  m_TooDeep : mg "TooDeep" = some (.ref t.c_TooDeep)
  m_NoName : mg "NoName" = some (.ref t.c_NoName)
  m_Always : mg "Always" = some (.ref t.c_Always)
  m_Never : mg "Never" = some (.ref t.c_Never)
  m_NoMinds : mg "NoMinds" = some (.ref t.c_NoMinds)
  x_NoMinds : ExC K t.c_NoMinds
  u_NoMinds : under K t.c_NoMinds t.c_MindError = true
  e_NoMinds : PySem.W.excIn K t.c_NoMinds bmV "ValueError.__new__" = true
  o_NoMinds_NoName : PySem.W.kitOne K (.ref t.c_NoMinds) (.ref t.c_NoName) = some false
  o_NoMinds_Always : PySem.W.kitOne K (.ref t.c_NoMinds) (.ref t.c_Always) = some false
  o_NoMinds_Never : PySem.W.kitOne K (.ref t.c_NoMinds) (.ref t.c_Never) = some false
  o_NoMinds_ValueError : PySem.W.kitOne K (.ref t.c_NoMinds) (.type "ValueError") = some true
  o_NoMinds_MindError : PySem.W.kitOne K (.ref t.c_NoMinds) (.ref t.c_MindError) = some true
  o_NoMinds_NoSentence : PySem.W.kitOne K (.ref t.c_NoMinds) (.ref t.c_NoSentence) = some false
  o_NoMinds_TooDeep : PySem.W.kitOne K (.ref t.c_NoMinds) (.ref t.c_TooDeep) = some false
  o_NoMinds_NoMinds : PySem.W.kitOne K (.ref t.c_NoMinds) (.ref t.c_NoMinds) = some true
  o_NoMinds_Unlike : PySem.W.kitOne K (.ref t.c_NoMinds) (.ref t.c_Unlike) = some false
  o_NoMinds_NoBack : PySem.W.kitOne K (.ref t.c_NoMinds) (.ref t.c_NoBack) = some false
  o_NoMinds_NoAgain : PySem.W.kitOne K (.ref t.c_NoMinds) (.ref t.c_NoAgain) = some false
  o_NoMinds_Refused : PySem.W.kitOne K (.ref t.c_NoMinds) (.ref t.c_Refused) = some false
  m_Unlike : mg "Unlike" = some (.ref t.c_Unlike)
  x_Unlike : ExC K t.c_Unlike
  u_Unlike : under K t.c_Unlike t.c_MindError = true
  e_Unlike : PySem.W.excIn K t.c_Unlike bmV "ValueError.__new__" = true
  o_Unlike_NoName : PySem.W.kitOne K (.ref t.c_Unlike) (.ref t.c_NoName) = some false
  o_Unlike_Always : PySem.W.kitOne K (.ref t.c_Unlike) (.ref t.c_Always) = some false
  o_Unlike_Never : PySem.W.kitOne K (.ref t.c_Unlike) (.ref t.c_Never) = some false
  o_Unlike_ValueError : PySem.W.kitOne K (.ref t.c_Unlike) (.type "ValueError") = some true
  o_Unlike_MindError : PySem.W.kitOne K (.ref t.c_Unlike) (.ref t.c_MindError) = some true
  o_Unlike_NoSentence : PySem.W.kitOne K (.ref t.c_Unlike) (.ref t.c_NoSentence) = some false
  o_Unlike_TooDeep : PySem.W.kitOne K (.ref t.c_Unlike) (.ref t.c_TooDeep) = some false
  o_Unlike_NoMinds : PySem.W.kitOne K (.ref t.c_Unlike) (.ref t.c_NoMinds) = some false
  o_Unlike_Unlike : PySem.W.kitOne K (.ref t.c_Unlike) (.ref t.c_Unlike) = some true
  o_Unlike_NoBack : PySem.W.kitOne K (.ref t.c_Unlike) (.ref t.c_NoBack) = some false
  o_Unlike_NoAgain : PySem.W.kitOne K (.ref t.c_Unlike) (.ref t.c_NoAgain) = some false
  o_Unlike_Refused : PySem.W.kitOne K (.ref t.c_Unlike) (.ref t.c_Refused) = some false
  m_NoBack : mg "NoBack" = some (.ref t.c_NoBack)
  m_NoAgain : mg "NoAgain" = some (.ref t.c_NoAgain)
  m_Refused : mg "Refused" = some (.ref t.c_Refused)
  n_ValueError : mg "ValueError" = none
  n_min : mg "min" = none
  n_tuple : mg "tuple" = none
  n_all : mg "all" = none
  n_range : mg "range" = none
  n_len : mg "len" = none
  n_isinstance : mg "isinstance" = none
  n_sum : mg "sum" = none
  n_list : mg "list" = none
  n_zip : mg "zip" = none
  n_int : mg "int" = none
  bl : ∀ (s : Shared) (u : Value), BindsTo s t.fd_law ⟨[u], []⟩ [("_law_script", u)]
end K50
seal L2.PE L2.PT L2.PW L2.PA L2.PS L2.PSs L2.PG L2.PGs L2.PI L2.PC L2.PO L2.PTs
open PyProof.Rows
namespace K50
open PySem L2 Mc
def spCell (K : PySem.W.Frag) : Sp := fun vs H Q _ => ∃ (a : Addr) (ns : List Int) (k : Int), vs = [.ref a, .int k] ∧ SqL K H a (ns.map V.int) ∧ 0 ≤ k ∧ Q (.int (ns.getD k.toNat 0)) H
section
variable {P : Program} {w : World} {K : PySem.W.Frag} {mg : Str → Option Value} {base : Heap} {t : Adr}
theorem scCell : FnScope ["_law_script", "_law_k"] ["_law_script", "_law_k"] (defScope s__law_cell_at) := ⟨rfl, rfl, rfl, by decide +kernel, rfl, by decide +kernel, by decide +kernel⟩
theorem ok_cell (T : Txt P w K mg t) : FnOk P w K mg base (CX1 P w) 1 t.a__law_cell_at t.fd__law_cell_at ["_law_script", "_law_k"] (spCell K) := by
  refine T.F__law_cell_at.ok1 scCell (fun vs H Q E h => by obtain ⟨a, ns, k, rfl, _⟩ := h; rfl) (fun cdv A outer s H vs Q E hr h => ?_)
  obtain ⟨a, ns, k, rfl, hS, hk, q⟩ := h
  refine ⟨_, (pss_cons (ps_if (pt_cmpR op_lt (pvl 1) (pcallB call_len_seq T.n_len Bt.len (pa_cons (pvl 0) pa_nil)) (nomark _))
        (pss_one (ps_ret (pe_ix ix_list (pvl 0) (pvl 1) (fun _ _ => rfl))))
        pss_nil)
      (pss_one (ps_ret pe_int))), ?_⟩
  refine ⟨_, rfl, _, rfl, a, _, rfl, .inl hS, _, _, rfl, rfl, _, rfl, ?_⟩
  refine ite2 (fun e => ?_) (fun e => ?_)
  · have e : k < ((ns.map V.int).length : Nat) := of_decide_eq_true e
    rw [List.length_map] at e
    refine ⟨_, rfl, _, rfl, a, _, k, .int (ns.getD k.toNat 0), rfl, rfl, hS, atI_some hk ?_, q⟩
    rw [List.getElem?_map]
    have : k.toNat < ns.length := by omega
    rw [List.getElem?_eq_getElem this]
    simp [List.getD, List.getElem?_eq_getElem this]
  · have e : ¬ k < ((ns.map V.int).length : Nat) := fun z => e (decide_eq_true z)
    rw [List.length_map] at e
    have z : ns.getD k.toNat 0 = 0 := by
      rw [List.getD, List.getElem?_eq_none (by omega)]
      rfl
    rw [z] at q
    exact q
end
end K50

namespace K50
open PySem L2 Mc
/-! ### a mind in the heap -/
def MindAt (H : Hp) (a : Addr) (p r : Addr) (rs : List Int) : Prop := H a = some (.tup [.ref p, .ref r]) ∧ H r = some (.tup (rs.map V.int)) ∧ rs.length ≤ 256
theorem MindAt.mono {H H' : Hp} {a p r : Addr} {rs : List Int} (s : Same H H') (h : MindAt H a p r rs) : MindAt H' a p r rs := ⟨s _ _ h.1, s _ _ h.2.1, h.2.2⟩
theorem pw1 (k : Nat) : (1 : Int) * 2 ^ ((k : Nat) : Int).toNat = ((2 ^ k : Nat) : Int) := by rw [Int.toNat_natCast]; simp
theorem pw256 {k : Nat} (h : k ≤ 8) : 2 ^ k ≤ 256 := Nat.pow_le_pow_right (n := 2) (by decide) h
end K50

namespace K50
open PySem L2 Mc
/-! ### the law's names -/
/-- names, none twice -/
structure Names (ns : List Str) : Prop where
  nd : ns.Nodup
  nm : ∀ x ∈ ns, IsName x
def spNames2 : Sp := fun vs H Q _ => ∃ (c n : Int), vs = [.int c, .int n] ∧ 1 ≤ n ∧ n ≤ 8 ∧ ∀ (p : Addr) (ns : List Str) (H' : Hp), Same H H' → H' p = some (.tup (ns.map V.str)) → ns.length = n.toNat → Names ns → Q (.ref p) H'
/-- so many times one letter -/
def repL (c : Nat) (n : Nat) : Str := ⟨(List.replicate n c).toArray⟩
theorem repL_l (c n : Nat) : (repL c n).cps.toList = List.replicate n c := by simp [repL]
theorem mul_rep (c : Nat) (n : Int) : Txt.mul ⟨#[c]⟩ n = repL c n.toNat := by
  refine str_ext ?_
  rw [mul_one_list, repL_l]
theorem names_of {n : Nat} (f : Nat → Str) (hi : ∀ i j, i < 8 → j < 8 → f i = f j → i = j) (hn : ∀ i, i < 8 → IsName (f i)) (h8 : n ≤ 8) : Names ((List.range n).map f) := by
  refine ⟨?_, fun x hx => ?_⟩
  · rw [List.nodup_iff_pairwise_ne, List.pairwise_map]
    refine List.Pairwise.imp_of_mem (R := fun a b => a ≠ b) (fun {a b} ha hb hab e => hab ?_) (List.nodup_iff_pairwise_ne.mp List.nodup_range)
    have ha := List.mem_range.mp ha
    have hb := List.mem_range.mp hb
    exact hi a b (by omega) (by omega) e
  · obtain ⟨i, h, rfl⟩ := List.mem_map.mp hx
    have h := List.mem_range.mp h
    exact hn i (by omega)
def nmA (fill : Nat) (first : Int) (k : Nat) : Str := repL fill (1 + (first + 3 * k) % 8).toNat
def nmB (fill : Nat) (first size place : Int) (k : Nat) : Str := repL fill place.toNat ++ ⟨#[97 + ((first + 5 * k) % 26).toNat]⟩ ++ repL fill (size - 1 - place).toNat
theorem nmA_name {fill : Nat} (hf : 97 ≤ fill ∧ fill ≤ 122) (first : Int) (k : Nat) : IsName (nmA fill first k) := by
  unfold nmA
  refine ⟨?_, ?_, fun c hc => ?_⟩
  · rw [repL_l, List.length_replicate]; omega
  · rw [repL_l, List.length_replicate]; omega
  · rw [repL_l] at hc
    rw [(List.mem_replicate.mp hc).2]; exact hf
theorem nmA_inj (fill : Nat) (first : Int) (i j : Nat) (hi : i < 8) (hj : j < 8) (h : nmA fill first i = nmA fill first j) : i = j := by
  unfold nmA at h
  have h := congrArg (fun z : Str => z.cps.toList.length) h
  rw [repL_l, repL_l, List.length_replicate, List.length_replicate] at h
  omega
theorem nmB_l (fill : Nat) (first size place : Int) (k : Nat) : (nmB fill first size place k).cps.toList = List.replicate place.toNat fill ++ [97 + ((first + 5 * k) % 26).toNat] ++ List.replicate (size - 1 - place).toNat fill := by
  unfold nmB
  rw [app_l, app_l, repL_l, repL_l]
theorem nmB_name {fill : Nat} (hf : 97 ≤ fill ∧ fill ≤ 122) (first : Int) {size place : Int} (h1 : 1 ≤ size) (h8 : size ≤ 8) (h0 : 0 ≤ place) (hp : place < size) (k : Nat) : IsName (nmB fill first size place k) := by
  refine ⟨?_, ?_, fun c hc => ?_⟩
  · rw [nmB_l]; simp only [List.length_append, List.length_replicate, List.length_singleton]; omega
  · rw [nmB_l]; simp only [List.length_append, List.length_replicate, List.length_singleton]; omega
  · rw [nmB_l] at hc
    rcases List.mem_append.mp hc with hc | hc
    · rcases List.mem_append.mp hc with hc | hc
      · rw [(List.mem_replicate.mp hc).2]; exact hf
      · rw [List.mem_singleton.mp hc]; omega
    · rw [(List.mem_replicate.mp hc).2]; exact hf
theorem nmB_inj (fill : Nat) (first size place : Int) (i j : Nat) (hi : i < 8) (hj : j < 8) (h : nmB fill first size place i = nmB fill first size place j) : i = j := by
  have h := congrArg (fun z : Str => z.cps.toList) h
  rw [nmB_l, nmB_l, List.append_assoc, List.append_assoc] at h
  have h := List.append_cancel_left h
  simp only [List.singleton_append, List.cons.injEq] at h
  have h := h.1
  omega
theorem letter_at2 {i : Int} (h0 : 0 ≤ i) (h : i < 26) : atI letters.cps.toList i = some (97 + i.toNat) := atI_some h0 (letters_at i.toNat (by omega))
theorem one_len (c : Nat) : (⟨#[c]⟩ : Str).length = 1 := rfl
theorem repL_len (c n : Nat) : (repL c n).length = n := by rw [len_l, repL_l, List.length_replicate]
section
variable {P : Program} {w : World} {K : PySem.W.Frag} {mg : Str → Option Value} {base : Heap} {t : Adr}
theorem scNames2 : FnScope ["_law_cell", "_law_many", "_law_letters", "_law_m", "_law_fill", "_law_first", "_law_size", "_law_place", "_law_row"] ["_law_cell", "_law_many"] (defScope s__law_names_by) := ⟨rfl, rfl, rfl, by decide +kernel, rfl, by decide +kernel, by decide +kernel⟩
theorem ok_names2 (T : Txt P w K mg t) : FnOk P w K mg base (CX1 P w) 1 t.a__law_names_by t.fd__law_names_by ["_law_cell", "_law_many"] spNames2 := by
  refine T.F__law_names_by.ok1 scNames2 (fun vs H Q E h => by obtain ⟨c, n, rfl, _⟩ := h; rfl) (fun cdv A outer s H vs Q E hr h => ?_)
  obtain ⟨c, n, rfl, hn1, hn8, k⟩ := h
  have nd := scNames2.nd
  refine ⟨_, (pss_cons (psc 2 nd pe_str)
      (pss_cons (psl 3 nd (pe_op op_mod (pvl 0) pe_int))
      (pss_cons (psc 4 nd (pe_ix ix_str (pvc 2) (pe_op op_mod (pe_op op_fdiv (pvl 3) pe_int) pe_int) (fun _ _ => rfl)))
      (pss_cons (psc 5 nd (pe_op op_mod (pe_op op_fdiv (pvl 3) pe_int) pe_int))
      (pss_cons (ps_if (pt_cmpR op_eq (pe_op op_mod (pvl 3) pe_int) pe_int (nomark _))
        (pss_one (ps_ret (pcallT call_tuple_of T.n_tuple Bt.tuple (pa_cons (pe_comp rfl ["_law_k", "_law_fill", "_law_first"] [none, some 4, some 5] (prange1 T.n_range (pa_cons (pvl 1) pa_nil)) (by kernel_rfl) (fun _ _ _ _ _ _ => (pgl 0 (show List.Nodup (α := PySem.Str) ["_law_k", "_law_fill", "_law_first"] by decide +kernel))) (fun _ _ _ _ _ _ => pts_nil) (fun _ _ _ _ _ _ => (pe_op op_mul_str (pvc 1) (pe_op op_add pe_int (pe_op op_mod (pe_op op_add (pvc 2) (pe_op op_mul pe_int (pvl 0))) pe_int))))) pa_nil))))
        pss_nil)
      (pss_cons (psc 6 nd (pe_op op_add pe_int (pe_op op_mod (pe_op op_fdiv (pvl 3) pe_int) pe_int)))
      (pss_cons (psc 7 nd (pe_op op_mod (pe_op op_fdiv (pvl 3) pe_int) (pvc 6)))
      (pss_cons (ps_setComp (i := 8) rfl ["_law_k", "_law_letters", "_law_first"] [none, some 2, some 5] nd rfl rfl (prange1 T.n_range (pa_cons (pvl 1) pa_nil)) (by kernel_rfl) (fun _ _ _ _ _ _ => (pgl 0 (show List.Nodup (α := PySem.Str) ["_law_k", "_law_letters", "_law_first"] by decide +kernel))) (fun _ _ _ _ _ _ => pts_nil) (fun _ _ _ _ _ _ => (pe_ix ix_str (pvc 1) (pe_op op_mod (pe_op op_add (pvc 2) (pe_op op_mul pe_int (pvl 0))) pe_int) (fun _ _ => rfl))))
      (pss_one (ps_ret (pcallT call_tuple_of T.n_tuple Bt.tuple (pa_cons (pe_comp rfl ["_law_letter", "_law_fill", "_law_place", "_law_size"] [none, some 4, some 7, some 6] (pi_list (pvl 8)) (by kernel_rfl) (fun _ _ _ _ _ _ => (pgl 0 (show List.Nodup (α := PySem.Str) ["_law_letter", "_law_fill", "_law_place", "_law_size"] by decide +kernel))) (fun _ _ _ _ _ _ => pts_nil) (fun _ _ _ _ _ _ => (pe_op op_add_str (pe_op op_add_str (pe_op op_mul_str (pvc 1) (pvc 2)) (pvl 0)) (pe_op op_mul_str (pvc 1) (pe_op op_sub (pe_op op_sub (pvc 3) pe_int) (pvc 2)))))) pa_nil)))))))))))), ?_⟩
  refine ⟨_, rfl, _, _, rfl, rfl, (by show (0 : Int) < 2147483629; decide), ?_⟩
  try dsimp (config := { proj := false, iota := false }) only
  have hm0 := Int.emod_nonneg c (show (2147483629 : Int) ≠ 0 by decide)
  generalize c % 2147483629 = m at hm0 ⊢
  refine ⟨_, rfl, _, rfl, _, _, rfl, rfl, ⟨by decide, by decide⟩, _, _, rfl, rfl, (by show (0 : Int) < 26; decide), _, _, _, rfl, rfl, (by show letters.length ≤ _; rw [letters_len]; decide), letter_at2 (by omega) (by omega), ?_⟩
  refine ⟨_, rfl, _, _, rfl, rfl, ⟨by decide, by decide⟩, _, _, rfl, rfl, (by show (0 : Int) < 26; decide), ?_⟩
  try dsimp (config := { proj := false, iota := false }) only
  obtain ⟨fill, hfe, hff⟩ : ∃ fill : Nat, 97 + (m / 4 % 26).toNat = fill ∧ 97 ≤ fill ∧ fill ≤ 122 := ⟨_, rfl, by omega, by omega⟩
  rw [hfe]
  obtain ⟨first, hfi, hf0, hf1⟩ : ∃ first : Int, m / 104 % 26 = first ∧ 0 ≤ first ∧ first < 26 := ⟨_, rfl, by omega, by omega⟩
  rw [hfi]
  have hn : n.toNat ≤ 8 := by omega
  have fin : ∀ (f : Nat → Str) (p3 : Addr) (H2 H3 : Hp), Same H H2 → H2 p3 = none → H3 = upd H2 p3 (.lst (((List.range n.toNat).map f).map V.str)) → Names ((List.range n.toNat).map f) → ∀ l, H3 l = none → Q (.ref l) (upd H3 l (.tup (((List.range n.toNat).map f).map V.str))) := by
    rintro f p3 H2 H3 s2 hp3 rfl hN l hl
    exact k l _ _ ((s2.trans (same_upd hp3)).trans (same_upd hl)) upd_same (by simp) hN
  refine ⟨_, rfl, _, _, rfl, rfl, (by show (0 : Int) < 4; decide), rfl, _, rfl, ite2 (fun _ => ?_) (fun _ => ?_)⟩
  · refine ⟨_, rfl, n, rfl, by omega, by omega, ?_⟩
    refine comp_range_map (n := n.toNat) (fun i => .str (nmA fill first i)) (lk (by omega)) (fun i R hi r => ?_) (fun p3 hp3 => ?_)
    · refine ⟨⟨rfl, rfl, trivial⟩, ?_⟩
      refine ⟨_, rfl, _, rfl, _, rfl, _, _, rfl, rfl, .inl ⟨by decide, by decide⟩, _, _, rfl, rfl, _, _, rfl, rfl, (by show (0 : Int) < 8; decide), _, _, rfl, rfl, _, _, rfl, rfl, (by rw [one_len]; decide), ?_, ?_, ?_⟩
      · show (-1000 : Int) ≤ 1 + (first + 3 * (0 + (i : Int))) % 8
        omega
      · show 1 + (first + 3 * (0 + (i : Int))) % 8 ≤ (1000 : Int)
        omega
      · have e : Txt.mul ⟨#[fill]⟩ (1 + (first + 3 * (0 + (i : Int))) % 8) = nmA fill first i := by
          rw [mul_rep, Int.zero_add]
          rfl
        rw [← e] at r
        exact r
    · have e : ((List.range n.toNat).map fun i => V.str (nmA fill first i)) = ((List.range n.toNat).map (nmA fill first)).map V.str := by rw [List.map_map]; rfl
      rw [e]
      exact ⟨p3, _, rfl, .inl ⟨SqL.of upd_same, fun l hl => fin _ p3 _ _ (Same.refl H) hp3 rfl (names_of _ (nmA_inj fill first) (fun i _ => nmA_name hff first i) hn) l hl⟩⟩
  · refine ⟨_, rfl, _, _, rfl, rfl, ⟨by decide, by decide⟩, _, _, rfl, rfl, (by show (0 : Int) < 8; decide), _, _, rfl, rfl, ?_⟩
    try dsimp (config := { proj := false, iota := false }) only
    obtain ⟨size, hse, hs1, hs8⟩ : ∃ size : Int, 1 + m / 2704 % 8 = size ∧ 1 ≤ size ∧ size ≤ 8 := ⟨_, rfl, by omega, by omega⟩
    rw [hse]
    refine ⟨_, rfl, _, _, rfl, rfl, ⟨by decide, by decide⟩, _, rfl, _, _, rfl, rfl, (by show (0 : Int) < size; omega), ?_⟩
    try dsimp (config := { proj := false, iota := false }) only
    have hp0 := Int.emod_nonneg (m / 21632) (show size ≠ 0 by omega)
    have hp1 := Int.emod_lt_of_pos (m / 21632) (show 0 < size by omega)
    generalize m / 21632 % size = place at hp0 hp1 ⊢
    refine ⟨_, rfl, n, rfl, by omega, by omega, ?_⟩
    refine comp_range_map (n := n.toNat) (fun (i : Nat) => .str ⟨#[97 + ((first + 5 * (i : Int)) % 26).toNat]⟩) (lk (by omega)) (fun i R hi r => ?_) (fun p2 hp2 => ?_)
    · refine ⟨⟨rfl, rfl, trivial⟩, ?_⟩
      refine ⟨_, rfl, _, rfl, _, rfl, _, _, rfl, rfl, .inl ⟨by decide, by decide⟩, _, _, rfl, rfl, _, _, rfl, rfl, (by show (0 : Int) < 26; decide), _, _, _, rfl, rfl, (by show letters.length ≤ _; rw [letters_len]; decide), letter_at2 (by omega) (by omega), ?_⟩
      have e : 97 + ((first + 5 * (0 + (i : Int))) % 26).toNat = 97 + ((first + 5 * (i : Int)) % 26).toNat := by rw [Int.zero_add]
      rw [← e] at r
      exact r
    have s2 := same_upd (o := .lst ((List.range n.toNat).map fun (i : Nat) => V.str ⟨#[97 + ((first + 5 * (i : Int)) % 26).toNat]⟩)) hp2
    have h2 : (upd H p2 (.lst ((List.range n.toNat).map fun (i : Nat) => V.str ⟨#[97 + ((first + 5 * (i : Int)) % 26).toNat]⟩))) p2 = some (.lst ((List.range n.toNat).map fun (i : Nat) => V.str ⟨#[97 + ((first + 5 * (i : Int)) % 26).toNat]⟩)) := upd_same
    generalize upd H p2 (.lst ((List.range n.toNat).map fun (i : Nat) => V.str ⟨#[97 + ((first + 5 * (i : Int)) % 26).toNat]⟩)) = H2 at s2 h2 ⊢
    refine ⟨_, rfl, p2, rfl, ⟨_, SqL.of h2⟩, ?_⟩
    refine comp_list_map (a := p2) (xs := (List.range n.toNat).map fun (i : Nat) => V.str ⟨#[97 + ((first + 5 * (i : Int)) % 26).toNat]⟩)
      (fun x => match x with | .str z => .str (repL fill place.toNat ++ z ++ repL fill (size - 1 - place).toNat) | x => x) (lk (by simp; omega)) (SqL.of h2) (fun x R hx r => ?_) (fun p3 hp3 => ?_)
    · obtain ⟨i, hi, rfl⟩ := List.mem_map.mp hx
      refine ⟨⟨rfl, rfl, rfl, trivial⟩, ?_⟩
      refine ⟨_, rfl, _, rfl, _, _, rfl, rfl, (by rw [one_len]; decide), by omega, by omega, _, rfl, ?_⟩
      rw [mul_rep]
      refine ⟨_, _, rfl, rfl, lk (by rw [repL_len, one_len]; omega), _, rfl, _, rfl, _, _, rfl, rfl, _, rfl, _, _, rfl, rfl, _, _, rfl, rfl, (by rw [one_len]; decide), ?_, ?_, ?_⟩
      · show (-1000 : Int) ≤ size - 1 - place
        omega
      · show size - 1 - place ≤ (1000 : Int)
        omega
      try dsimp (config := { proj := false, iota := false }) only
      rw [mul_rep]
      exact ⟨_, _, rfl, rfl, lk (by rw [Str.length_append, repL_len, repL_len, one_len]; omega), r⟩
    · have e : ((List.range n.toNat).map fun (i : Nat) => V.str ⟨#[97 + ((first + 5 * (i : Int)) % 26).toNat]⟩).map (fun x => match x with | .str z => .str (repL fill place.toNat ++ z ++ repL fill (size - 1 - place).toNat) | x => x) = ((List.range n.toNat).map (nmB fill first size place)).map V.str := by
        rw [List.map_map, List.map_map]
        rfl
      rw [e]
      exact ⟨p3, _, rfl, .inl ⟨SqL.of upd_same, fun l hl => fin _ p3 _ _ s2 hp3 rfl (names_of _ (nmB_inj fill first size place) (fun i _ => nmB_name hff first hs1 hs8 hp0 hp1 i) hn) l hl⟩⟩
end
end K50

namespace K50
open PySem L2 Mc
def spMindBy (K : PySem.W.Frag) : Sp := fun vs H Q _ => ∃ (p c : Addr) (ns : List Str) (cs : List Int) (way : Int), vs = [.ref p, .ref c, .int way] ∧ H p = some (.tup (ns.map V.str)) ∧ ns.length ≤ 8 ∧ SqL K H c (cs.map V.int) ∧
  ∀ (a r : Addr) (rs : List Int) (H' : Hp), Same H H' → MindAt H' a p r rs → rs.length = 2 ^ ns.length → (∀ z ∈ rs, 0 ≤ z ∧ z ≤ 2 * 10 ^ 30) → 0 ∈ rs → Q (.ref a) H'
theorem r30_0 {z : Int} (h : 0 ≤ z ∧ z < 10 ^ 30) : 0 ≤ z % 4 ∧ z % 4 < 10 ^ 30 := by omega
theorem r30_1 {z : Int} (h : 0 ≤ z ∧ z < 10 ^ 30) : 0 ≤ z % 3 * z ∧ z % 3 * z ≤ 2 * 10 ^ 30 := by
  rcases (by omega : z % 3 = 0 ∨ z % 3 = 1 ∨ z % 3 = 2) with e | e | e <;> rw [e] <;> omega
theorem r30_u {z : Int} (h : 0 ≤ z ∧ z < 10 ^ 30) : 0 ≤ z ∧ z ≤ 2 * 10 ^ 30 := by omega
theorem r30_2 {z : Int} (h : 0 ≤ z ∧ z ≤ 2 * 10 ^ 30) : 0 ≤ z % 2 ∧ z % 2 ≤ 2 * 10 ^ 30 := by omega
section
variable {P : Program} {w : World} {K : PySem.W.Frag} {mg : Str → Option Value} {base : Heap} {t : Adr}
theorem scMindBy : FnScope ["_law_names", "_law_cells", "_law_way", "_law_ranks", "_law_world", "_law_turn", "_law_cell", "_law_rank", "_law_low"] ["_law_names", "_law_cells", "_law_way"] (defScope s__law_mind_by) := ⟨rfl, rfl, rfl, by decide +kernel, rfl, by decide +kernel, by decide +kernel⟩
theorem ok_mindby (T : Txt P w K mg t) : FnOk P w K mg base (CX1 P w) 2 t.a__law_mind_by t.fd__law_mind_by ["_law_names", "_law_cells", "_law_way"] (spMindBy K) := by
  have G__law_cell_at : FnOk P w K mg base (CX1 P w) 1 t.a__law_cell_at t.fd__law_cell_at ["_law_script", "_law_k"] (spCell K) := ok_cell T
  refine T.F__law_mind_by.ok1 scMindBy (fun vs H Q E h => by obtain ⟨p, c, ns, cs, way, rfl, _⟩ := h; rfl) (fun cdv A outer s H vs Q E hr h => ?_)
  obtain ⟨p, c, ns, cs, way, rfl, hp, h8, hC, k⟩ := h
  have nd := scMindBy.nd
  refine ⟨_, (pss_cons (psl 3 nd (pe_lst pa_nil))
      (pss_cons (ps_for own1 rfl (prange1 T.n_range (pa_cons (pe_op op_shl pe_int (pcallB call_len_seq T.n_len Bt.len (pa_cons (pvl 0) pa_nil))) pa_nil)) (pgl 4 nd)
        (pss_cons (psl 5 nd (pe_op op_fdiv (pvl 4) pe_int))
        (pss_cons (psl 6 nd (pe_op op_mod (pcall G__law_cell_at (hr.mono (by first | decide | omega)) T.m__law_cell_at T.k__law_cell_at T.b__law_cell_at never1 (pa_cons (pvl 1) (pa_cons (pe_op op_mod (pvl 4) pe_int) pa_nil))) (pe_op op_pow pe_int pe_int)))
        (pss_cons (psl 7 nd (pe_op op_mod (pe_op op_mul (pe_op op_add (pvl 6) (pvl 5)) (pe_op op_add (pe_op op_mul (pe_op op_mul (pvl 5) (pvl 5)) pe_int) pe_int)) (pe_op op_pow pe_int pe_int)))
        (pss_cons (ps_if (pt_cmpR op_eq (pe_op op_mod (pvl 2) pe_int) pe_int (nomark _))
          (pss_one (psl 7 nd (pe_op op_mod (pvl 7) pe_int)))
          pss_nil)
        (pss_cons (ps_if (pt_cmpR op_eq (pe_op op_mod (pvl 2) pe_int) pe_int (nomark _))
          (pss_one (psl 7 nd (pe_op op_mul (pe_op op_mod (pvl 7) pe_int) (pvl 7))))
          pss_nil)
        (pss_cons (ps_if (pt_cmpR op_eq (pe_op op_mod (pvl 2) pe_int) pe_int (nomark _))
          (pss_one (psl 7 nd (pe_op op_mod (pvl 7) pe_int)))
          pss_nil)
        (pss_one (ps_expr (pe_bm PySem.F.plainAttrs_list PySem.F.slot_list_append PySem.F.type_list_append mt_append (pvl 3) (pa_cons (pvl 7) pa_nil)))))))))))
      (pss_cons (psc 8 nd (pcallB (call_minL rfl) T.n_min Bt.min (pa_cons (pvl 3) pa_nil)))
      (pss_one (ps_ret (pe_tup (pa_cons (pvl 0) (pa_cons (pcallT call_tuple_of T.n_tuple Bt.tuple (pa_cons (pe_comp rfl ["_law_rank", "_law_low"] [none, some 8] (pi_list (pvl 3)) (by kernel_rfl) (fun _ _ _ _ _ _ => (pgl 0 (show List.Nodup (α := PySem.Str) ["_law_rank", "_law_low"] by decide +kernel))) (fun _ _ _ _ _ _ => pts_nil) (fun _ _ _ _ _ _ => (pe_op op_sub (pvl 0) (pvc 1)))) pa_nil)) pa_nil)))))))), ?_⟩
  have el : (ns.map V.str).length = ns.length := List.length_map _
  have c1 : CPow 1 (((ns.map V.str).length : Nat) : Int) := ⟨by omega, by rw [el]; omega, by decide⟩
  have e1 : (1 : Int) * 2 ^ (((ns.map V.str).length : Nat) : Int).toNat = ((2 ^ ns.length : Nat) : Int) := by rw [el, pw1]
  have h256 := pw256 h8
  have hpos : 0 < 2 ^ ns.length := Nat.two_pow_pos _
  refine ⟨Nat.zero_le _, fun l hl0 => ?_⟩
  have s0 : Same H (upd H l (.lst [])) := same_upd hl0
  refine ⟨_, rfl, p, _, rfl, .inr (SqT.of (s0 _ _ hp)), _, _, rfl, rfl, c1, ?_⟩
  try dsimp (config := { proj := false, iota := false }) only
  rw [e1]
  generalize 2 ^ ns.length = N at h256 hpos k
  refine ⟨_, rfl, by omega, by omega, ?_⟩
  rw [Int.toNat_natCast]
  have p30 : (0 : Int) < 10 ^ (30 : Int).toNat := by decide
  have cp : CPow 10 30 := ⟨by decide, by decide, by decide⟩
  refine for_range (lo := 0) (n := N) (fun i σ H2 => ∃ (o4 o5 o6 o7 : Option V) (zs : List Int), σ = [some (.ref p), some (.ref c), some (.int way), some (.ref l), o4, o5, o6, o7, none] ∧ Same H H2 ∧ H2 l = some (.lst (zs.map V.int)) ∧ zs.length = i ∧ ∀ z ∈ zs, 0 ≤ z ∧ z ≤ 2 * 10 ^ 30)
    ⟨none, none, none, none, [], rfl, s0, upd_same, rfl, fun z hz => nomatch hz⟩ ?_ ?_
  · rintro i σ H2 hi ⟨o4, o5, o6, o7, zs, rfl, s2, hl2, hzl, hzb⟩
    refine ⟨_, rfl, _, _, rfl, rfl, ⟨by decide, by decide⟩, ?_⟩
    refine ⟨_, rfl, _, rfl, _, _, rfl, rfl, (by show (0 : Int) < 8; decide), c, cs, _, rfl, s2.seq hC, (by show (0 : Int) ≤ (0 + (i : Int)) % 8; omega), _, _, rfl, rfl, cp, _, _, rfl, rfl, p30, ?_⟩
    have ht : (0 : Int) ≤ (0 + (i : Int)) / 8 ∧ (0 + (i : Int)) / 8 ≤ 31 := by omega
    try dsimp (config := { proj := false, iota := false }) only
    generalize (0 + (i : Int)) / 8 = turn at ht ⊢
    generalize cs.getD ((0 + (i : Int)) % 8).toNat 0 % 10 ^ (30 : Int).toNat = cell
    have htt : 0 ≤ turn * turn ∧ turn * turn ≤ 961 := by
      obtain ⟨a1, a2⟩ := ht
      have : turn.toNat ≤ 31 := by omega
      obtain ⟨n, hn⟩ : ∃ n : Nat, turn = n := ⟨turn.toNat, by omega⟩
      subst hn
      have h31 : n ≤ 31 := by omega
      have := Nat.mul_le_mul h31 h31
      constructor
      · exact Int.mul_nonneg (by omega) (by omega)
      · have e : (n : Int) * (n : Int) = ((n * n : Nat) : Int) := by simp
        omega
    refine ⟨_, rfl, _, rfl, _, _, rfl, rfl, _, rfl, _, rfl, _, _, rfl, rfl, .inl ⟨by omega, by omega⟩, _, _, rfl, rfl, .inr ⟨by decide, by decide⟩, _, _, rfl, rfl, _, _, rfl, rfl, .inr ⟨?_, ?_⟩, _, _, rfl, rfl, cp, _, _, rfl, rfl, p30, ?_⟩
    · show -(2 ^ 64) < turn * turn * 48271 + 1
      omega
    · show turn * turn * 48271 + 1 < 2 ^ 64
      omega
    try dsimp (config := { proj := false, iota := false }) only
    have b0 : 0 ≤ (cell + turn) * (turn * turn * 48271 + 1) % 10 ^ (30 : Int).toNat ∧ (cell + turn) * (turn * turn * 48271 + 1) % 10 ^ (30 : Int).toNat < 10 ^ 30 := by
      rw [ten30]
      generalize (cell + turn) * (turn * turn * 48271 + 1) = u
      omega
    generalize (cell + turn) * (turn * turn * 48271 + 1) % 10 ^ (30 : Int).toNat = rank at b0 ⊢
    have app : ∀ z : Int, (0 ≤ z ∧ z ≤ 2 * 10 ^ 30) → ∃ zs' : List Int, (upd H2 l (.lst (zs.map V.int ++ [V.int z]))) l = some (.lst (zs'.map V.int)) ∧ zs'.length = i + 1 ∧ ∀ z ∈ zs', 0 ≤ z ∧ z ≤ 2 * 10 ^ 30 := fun z hz => ⟨zs ++ [z], by rw [upd_same, List.map_append]; rfl, by rw [List.length_append, hzl]; rfl, fun y hy => by
      rcases List.mem_append.mp hy with hy | hy
      · exact hzb y hy
      · rw [List.mem_singleton.mp hy]; exact hz⟩
    have sm : ∀ o, Same H (upd H2 l o) := fun o b u e => by
      rw [upd_ne (ne_of_none e hl0)]
      exact s2 _ _ e
    have mul3 : ∀ z : Int, CMul (z % 3) z := fun z => .inl ⟨by omega, by omega⟩
    refine ⟨_, rfl, _, _, rfl, rfl, (by show (0 : Int) < 4; decide), rfl, _, rfl, ite2 (fun _ => ⟨_, rfl, _, _, rfl, rfl, (by show (0 : Int) < 4; decide), ?_⟩) (fun _ => ?_)⟩ <;>
    refine ⟨_, rfl, _, _, rfl, rfl, (by show (0 : Int) < 4; decide), rfl, _, rfl, ite2 (fun _ => ⟨_, rfl, _, _, rfl, rfl, (by show (0 : Int) < 3; decide), _, rfl, _, _, rfl, rfl, mul3 _, ?_⟩) (fun _ => ?_)⟩ <;>
    refine ⟨_, rfl, _, _, rfl, rfl, (by show (0 : Int) < 4; decide), rfl, _, rfl, ite2 (fun _ => ⟨_, rfl, _, _, rfl, rfl, (by show (0 : Int) < 2; decide), ?_⟩) (fun _ => ?_)⟩ <;>
    (refine ⟨_, rfl, .inl ⟨rfl, _, SqL.of hl2⟩, _, rfl, l, _, .int _, rfl, rfl, hl2, small1000 (by rw [List.length_map]; omega), ?_⟩
     exact (app _ (by first | exact r30_2 (r30_1 (r30_0 b0)) | exact r30_2 (r30_1 b0) | exact r30_2 (r30_u (r30_0 b0)) | exact r30_2 (r30_u b0) | exact r30_1 (r30_0 b0) | exact r30_1 b0 | exact r30_u (r30_0 b0) | exact r30_u b0)).elim fun zs' h => ⟨_, _, _, _, zs', rfl, sm _, h.1, h.2.1, h.2.2⟩)
  · rintro σ H2 ⟨o4, o5, o6, o7, zs, rfl, s2, hl2, hzl, hzb⟩
    refine ⟨_, rfl, l, zs, rfl, SqL.of hl2, by omega, fun M hM1 hM2 => ?_⟩
    refine ⟨_, rfl, _, rfl, l, rfl, ⟨_, SqL.of hl2⟩, ?_⟩
    refine comp_list_map (a := l) (xs := zs.map V.int) (fun x => match x with | .int z => .int (z - M) | x => x) (lk (by rw [List.length_map]; omega)) (SqL.of hl2) (fun x R hx r => ?_) (fun l3 hl3 => ?_)
    · obtain ⟨z, _, rfl⟩ := List.mem_map.mp hx
      exact ⟨⟨rfl, trivial⟩, ⟨_, rfl, _, rfl, _, _, rfl, rfl, r⟩⟩
    have em : (zs.map V.int).map (fun x => match x with | .int z => .int (z - M) | x => x) = (zs.map fun z => z - M).map V.int := by rw [List.map_map, List.map_map]; rfl
    rw [em]
    have s3 := s2.trans (same_upd (o := .lst ((zs.map fun z => z - M).map V.int)) hl3)
    refine ⟨l3, _, rfl, .inl ⟨SqL.of upd_same, fun q hq => ?_⟩⟩
    have s4 := same_upd (o := .tup ((zs.map fun z => z - M).map V.int)) hq
    refine ⟨lk (by first | exact Nat.le_of_ble_eq_true rfl | simp), fun a ha => ?_⟩
    have s5 := same_upd (o := .tup [.ref p, .ref q]) ha
    exact k a q (zs.map fun z => z - M) _ ((s3.trans s4).trans s5) ⟨upd_same, s5 _ _ upd_same, by rw [List.length_map]; omega⟩ (by rw [List.length_map]; exact hzl) (fun z hz => by
      obtain ⟨y, hy, rfl⟩ := List.mem_map.mp hz
      have h1 := hM2 y hy
      have h2 := hzb y hy
      have h3 := hzb M hM1
      show 0 ≤ y - M ∧ y - M ≤ 2 * 10 ^ 30
      omega) (List.mem_map.mpr ⟨M, hM1, by omega⟩)
end
end K50

namespace K50
open PySem L2 Mc
/-! ### less the least -/
def spLess : Sp := fun vs H Q _ => ∃ (l : Addr) (ms : List Int), vs = [.ref l] ∧ H l = some (.lst (ms.map V.int)) ∧ 0 < ms.length ∧ ms.length ≤ 256 ∧
  ∀ (q : Addr) (m : Int) (H' : Hp), Same H H' → leastOf ms m → H' q = some (.tup ((ms.map fun x => x - m).map V.int)) → Q (.ref q) H'
section
variable {P : Program} {w : World} {K : PySem.W.Frag} {mg : Str → Option Value} {base : Heap} {t : Adr}
theorem scLess : FnScope ["marks", "least"] ["marks"] (defScope s_less_the_least) := ⟨rfl, rfl, rfl, by decide +kernel, rfl, by decide +kernel, by decide +kernel⟩
theorem ok_less (T : Txt P w K mg t) : FnOk P w K mg base (CX1 P w) 1 t.a_less_the_least t.fd_less_the_least ["marks"] spLess := by
  refine T.F_less_the_least.ok1 scLess (fun vs H Q E h => by obtain ⟨l, ms, rfl, _⟩ := h; rfl) (fun cdv A outer s H vs Q E hr h => ?_)
  obtain ⟨l, ms, rfl, hl, h0, h256, k⟩ := h
  have nd := scLess.nd
  refine ⟨_, (pss_cons (psc 1 nd (pcallB (call_minL rfl) T.n_min Bt.min (pa_cons (pvl 0) pa_nil)))
      (pss_one (ps_ret (pcallT call_tuple_of T.n_tuple Bt.tuple (pa_cons (pe_comp rfl ["mark", "least"] [none, some 1] (pi_list (pvl 0)) (by kernel_rfl) (fun _ _ _ _ _ _ => (pgl 0 (show List.Nodup (α := PySem.Str) ["mark", "least"] by decide +kernel))) (fun _ _ _ _ _ _ => pts_nil) (fun _ _ _ _ _ _ => (pe_op op_sub (pvl 0) (pvc 1)))) pa_nil))))), ?_⟩
  refine ⟨_, rfl, l, ms, rfl, SqL.of hl, h0, fun m hm1 hm2 => ?_⟩
  refine ⟨_, rfl, l, rfl, ⟨_, SqL.of hl⟩, ?_⟩
  refine comp_list (K := K) (a := l) (xs := ms.map V.int) (fun i ys H' => H' = H ∧ ys = ((ms.take i).map fun x => x - m).map V.int) ⟨rfl, rfl⟩ (lk (by rw [List.length_map]; omega)) (fun i ys H' ⟨_, e⟩ => by rw [e, List.length_map, List.length_map, List.length_take]; omega) (fun i ys H' ⟨e, _⟩ => by subst e; exact SqL.of hl) ?_ ?_
  · rintro i z ys H' hi ⟨rfl, rfl⟩
    rw [List.getElem?_map] at hi
    obtain ⟨c, hc, rfl⟩ : ∃ c, ms[i]? = some c ∧ z = V.int c := by
      cases q : ms[i]? with
      | none => rw [q] at hi; cases hi
      | some c => rw [q] at hi; exact ⟨c, rfl, (Option.some.inj hi).symm⟩
    refine ⟨⟨rfl, trivial⟩, ?_⟩
    refine ⟨_, rfl, _, rfl, _, _, rfl, rfl, rfl, ?_⟩
    rw [List.take_add_one, hc, List.map_append, List.map_append]
    rfl
  · rintro ys H' ⟨rfl, rfl⟩ lc hlc
    rw [List.length_map, List.take_length]
    refine ⟨lc, _, rfl, .inl ⟨SqL.of upd_same, fun q hq => ?_⟩⟩
    exact k q m _ ((same_upd hlc).trans (same_upd hq)) ⟨hm1, hm2⟩ upd_same
end
end K50

namespace K50
open PySem L2 Mc
/-! ### minds of the same names, poured together -/
/-- what begins with these names -/
def NmAt (H : Hp) (v : V) (ns : List Str) : Prop := ∃ (a p : Addr) (u : V), v = .ref a ∧ H a = some (.tup [.ref p, u]) ∧ H p = some (.tup (ns.map V.str))
theorem NmAt.tups {H H' : Hp} (s : Tups H H') {v : V} {ns : List Str} : NmAt H v ns → NmAt H' v ns := fun ⟨a, p, u, h1, h2, h3⟩ => ⟨a, p, u, h1, s _ _ h2, s _ _ h3⟩
/-- a mind of the names at p and its weight -/
def PairAt (H : Hp) (p : Addr) (v : V) (x : List Int × Int) : Prop := ∃ (q a r : Addr), v = .ref q ∧ H q = some (.tup [.ref a, .int x.2]) ∧ H a = some (.tup [.ref p, .ref r]) ∧ H r = some (.tup (x.1.map V.int))
theorem PairAt.tups {H H' : Hp} (s : Tups H H') {p : Addr} {v : V} {x : List Int × Int} : PairAt H p v x → PairAt H' p v x := fun ⟨q, a, r, h1, h2, h3, h4⟩ => ⟨q, a, r, h1, s _ _ h2, s _ _ h3, s _ _ h4⟩
theorem PairAt.mono {H H' : Hp} (s : Same H H') {p : Addr} {v : V} {x : List Int × Int} (h : PairAt H p v x) : PairAt H' p v x := h.tups s.tups
/-- ranks of so many worlds and a weight, none of them too great -/
def FitP (N : Nat) (x : List Int × Int) : Prop := x.1.length = N ∧ x.2.natAbs < 2 ^ 1024 ∧ ∀ z ∈ x.1, z.natAbs < 2 ^ 1024
def spAlike (t : Adr) : Sp := fun vs H Q E => ∃ (l : Addr) (us : List V) (nss : List (List Str)), vs = [.ref l] ∧ H l = some (.lst us) ∧ Paired (NmAt H) us nss ∧
  (nss = [] → E (.ref t.c_NoMinds) none H) ∧ (∀ n r, nss = n :: r → (∀ m ∈ nss, m = n) → Q .non H) ∧ (∀ n r, nss = n :: r → (¬ ∀ m ∈ nss, m = n) → E (.ref t.c_Unlike) none H)
def spPoured (t : Adr) : Sp := fun vs H Q _ => ∃ (l p : Addr) (ns : List Str) (us : List V) (ps : List (List Int × Int)) (N : Nat), vs = [.ref l] ∧ H l = some (.lst us) ∧ H p = some (.tup (ns.map V.str)) ∧ Paired (PairAt H p) us ps ∧ 0 < us.length ∧ us.length ≤ 100 ∧ 0 < N ∧ N ≤ 256 ∧ (∀ x ∈ ps, FitP N x) ∧
  ∀ (a r : Addr) (m : Int) (H' : Hp), Same H H' → leastOf (sumsW N ps) m → MindAt H' a p r ((sumsW N ps).map fun x => x - m) → Q (.ref a) H'
theorem paired_len {α β : Type} {F : α → β → Prop} {a : List α} {b : List β} (h : Paired F a b) : a.length = b.length := Paired.length h
section
variable {P : Program} {w : World} {K : PySem.W.Frag} {mg : Str → Option Value} {base : Heap} {t : Adr}
theorem scAlike : FnScope ["minds", "mind"] ["minds"] (defScope s_need_alike) := ⟨rfl, rfl, rfl, by decide +kernel, rfl, by decide +kernel, by decide +kernel⟩
theorem ok_alike (T : Txt P w K mg t) : FnOk P w K mg base (CX1 P w) 1 t.a_need_alike t.fd_need_alike ["minds"] (spAlike t) := by
  refine T.F_need_alike.ok1 scAlike (fun vs H Q E h => by obtain ⟨l, us, nss, rfl, _⟩ := h; rfl) (fun cdv A outer s H vs Q E hr h => ?_)
  obtain ⟨l, us, nss, rfl, hl, hp, k0, k1, k2⟩ := h
  have nd := scAlike.nd
  have hu := hu_of hr
  have hlen := paired_len hp
  refine ⟨_, (pss_cons (ps_if (pt_cmpR op_eq (pcallB call_len_seq T.n_len Bt.len (pa_cons (pvl 0) pa_nil)) pe_int (nomark _))
        (pss_one (ps_raise raises1 rfl T.m_NoMinds T.e_NoMinds (pa_cons pe_str pa_nil)))
        pss_nil)
      (pss_one (ps_for own1 rfl (pi_list (pvl 0)) (pgl 1 nd)
        (pss_one (ps_if (pt_cmpR (op_neTN (Nat.lt_of_succ_lt hu)) (pe_ix ix_tup (pvl 1) pe_int (fun _ _ => rfl)) (pe_ix ix_tup (pe_ix ix_list (pvl 0) pe_int (fun _ _ => rfl)) pe_int (fun _ _ => rfl)) (nomark _))
          (pss_one (ps_raise raises1 rfl T.m_Unlike T.e_Unlike (pa_cons pe_str pa_nil)))
          pss_nil))))), ?_⟩
  refine ⟨_, rfl, l, _, rfl, .inl (SqL.of hl), rfl, _, rfl, ?_⟩
  cases nss with
  | nil =>
    have e : us.length = 0 := hlen
    rw [e]
    exact iteT ⟨(by show 1 ≤ sizeLine; decide), k0 rfl⟩
  | cons n r =>
    refine ite2 (fun c => ?_) (fun _ => ?_)
    · have c := of_decide_eq_true c
      have c : ((us.length : Nat) : Int) = 0 := V.int.inj c
      rw [List.length_cons] at hlen
      omega
    obtain ⟨u0, us', rfl⟩ : ∃ u us', us = u :: us' := by
      cases us with
      | nil => rw [List.length_cons] at hlen; cases hlen
      | cons u us' => exact ⟨u, us', rfl⟩
    obtain ⟨y0, hy0, a0, p0, w0, rfl, ha0, hp0⟩ := paired_get hp 0 u0 rfl
    obtain rfl : n = y0 := Option.some.inj hy0
    refine ⟨_, rfl, l, rfl, ⟨_, SqL.of hl⟩, for_list (K := K) (a := l) (xs := V.ref a0 :: us') (fun i σ H2 => ∃ o : Option V, σ = [some (.ref l), o] ∧ H2 = H ∧ ∀ m ∈ (n :: r).take i, m = n)
      ⟨none, rfl, rfl, by simp⟩ (fun i σ H2 _ ⟨_, _, e, _⟩ => by subst e; exact SqL.of hl) ?_ ?_⟩
    · rintro i y σ H2 hi ⟨o, rfl, rfl, hin⟩
      obtain ⟨m, hm, a1, p1, w1, rfl, ha1, hp1⟩ := paired_get hp i y hi
      refine ⟨_, rfl, a1, _, 0, .ref p1, rfl, rfl, SqT.of ha1, rfl, _, rfl, l, _, 0, .ref a0, rfl, rfl, SqL.of hl, atI_nat (j := 0) rfl, a0, _, 0, .ref p0, rfl, rfl, SqT.of ha0, rfl, p1, p0, m, n, rfl, rfl, SqT.of hp1, SqT.of hp0, _, rfl, ?_⟩
      by_cases hmn : m = n
      · rw [decide_eq_true hmn]
        refine iteF ⟨_, rfl, rfl, fun z hz => ?_⟩
        rw [List.take_add_one, hm] at hz
        rcases List.mem_append.mp hz with hz | hz
        · exact hin z hz
        · have : z = m := by simpa using hz
          rw [this]; exact hmn
      · rw [decide_eq_false hmn]
        exact iteT ⟨(by show 1 ≤ sizeLine; decide), k2 n r rfl fun z => hmn (z m (List.mem_of_getElem? hm))⟩
    · rintro σ H2 ⟨o, rfl, rfl, hin⟩
      rw [hlen, List.take_length] at hin
      exact k1 n r rfl hin
theorem scPoured : FnScope ["pairs", "first", "sums", "mind", "weight"] ["pairs"] (defScope s_poured) := ⟨rfl, rfl, rfl, by decide +kernel, rfl, by decide +kernel, by decide +kernel⟩
theorem ok_poured (T : Txt P w K mg t) : FnOk P w K mg base (CX1 P w) 2 t.a_poured t.fd_poured ["pairs"] (spPoured t) := by
  have G_need_alike : FnOk P w K mg base (CX1 P w) 1 t.a_need_alike t.fd_need_alike ["minds"] (spAlike t) := ok_alike T
  have G_less_the_least : FnOk P w K mg base (CX1 P w) 1 t.a_less_the_least t.fd_less_the_least ["marks"] spLess := ok_less T
  refine T.F_poured.ok1 scPoured (fun vs H Q E h => by obtain ⟨l, p, ns, us, ps, N, rfl, _⟩ := h; rfl) (fun cdv A outer s H vs Q E hr h => ?_)
  obtain ⟨l, p, ns, us, ps, N, rfl, hl, hp, hpp, h0, h100, hN0, hN256, hfit, k⟩ := h
  have nd := scPoured.nd
  have hlen := paired_len hpp
  refine ⟨_, (pss_cons (ps_expr (pcall G_need_alike (hr.mono (by first | decide | omega)) T.m_need_alike T.k_need_alike T.b_need_alike passes1 (pa_cons (pe_comp rfl ["mind", "weight"] [none, none] (pi_list (pvl 0)) (by kernel_rfl) (fun _ _ _ _ _ _ => (pg_tupK (K := K) (n := 2) rfl rfl (pgs_cons (pgl 0 (show List.Nodup (α := PySem.Str) ["mind", "weight"] by decide +kernel)) (pgs_cons (pgl 1 (show List.Nodup (α := PySem.Str) ["mind", "weight"] by decide +kernel)) pgs_nil)))) (fun _ _ _ _ _ _ => pts_nil) (fun _ _ _ _ _ _ => (pvl 0))) pa_nil)))
      (pss_cons (psl 1 nd (pe_ix ix_tup (pe_ix ix_list (pvl 0) pe_int (fun _ _ => rfl)) pe_int (fun _ _ => rfl)))
      (pss_cons (psl 2 nd (pe_op op_rep (pe_lst (pa_cons pe_int pa_nil)) (pcallB call_len_seq T.n_len Bt.len (pa_cons (pe_ix ix_tup (pvl 1) pe_int (fun _ _ => rfl)) pa_nil))))
      (pss_cons (ps_for own1 rfl (pi_list (pvl 0)) (pg_tup (n := 2) rfl (pgs_cons (pgl 3 nd) (pgs_cons (pgc 4 nd) pgs_nil)))
        (pss_one (ps_setComp (i := 2) rfl ["total", "rank", "weight"] [none, none, some 4] nd rfl rfl (pzip (pa_cons (pvl 2) (pa_cons (pe_ix ix_tup (pvl 3) pe_int (fun _ _ => rfl)) pa_nil)) T.n_zip) (by kernel_rfl) (fun _ _ _ _ _ _ => (pg_tupK (K := K) (n := 2) rfl rfl (pgs_cons (pgl 0 (show List.Nodup (α := PySem.Str) ["total", "rank", "weight"] by decide +kernel)) (pgs_cons (pgl 1 (show List.Nodup (α := PySem.Str) ["total", "rank", "weight"] by decide +kernel)) pgs_nil)))) (fun _ _ _ _ _ _ => pts_nil) (fun _ _ _ _ _ _ => (pe_op op_add (pvl 0) (pe_op op_mulB (pvc 2) (pvl 1)))))))
      (pss_one (ps_ret (pe_tup (pa_cons (pe_ix ix_tup (pvl 1) pe_int (fun _ _ => rfl)) (pa_cons (pcall G_less_the_least (hr.mono (by first | decide | omega)) T.m_less_the_least T.k_less_the_least T.b_less_the_least never1 (pa_cons (pvl 2) pa_nil)) pa_nil))))))))), ?_⟩
  -- the minds alone
  refine ⟨_, rfl, l, rfl, ⟨_, SqL.of hl⟩, ?_⟩
  refine comp_list (K := K) (a := l) (xs := us) (fun i ys H' => H' = H ∧ ys.length = i ∧ Paired (NmAt H) ys (List.replicate i ns)) ⟨rfl, rfl, .nil⟩ (lk (by omega)) (fun i ys H' ⟨_, e, _⟩ => by omega) (fun i ys H' ⟨e, _⟩ => by subst e; exact SqL.of hl) ?_ ?_
  · rintro i z ys H' hi ⟨rfl, hyl, hpy⟩
    obtain ⟨x, hx, q, a, r, rfl, hq, ha, hr'⟩ := paired_get hpp i z hi
    refine ⟨q, _, rfl, SqT.of hq, rfl, _, _, rfl, _, _, rfl, rfl, ⟨trivial, ?_⟩⟩
    refine ⟨_, rfl, rfl, by rw [List.length_append, hyl]; rfl, ?_⟩
    rw [List.replicate_succ']
    exact paired_app hpy (.cons ⟨a, p, .ref r, rfl, ha, hp⟩ .nil)
  rintro ys H' ⟨rfl, hyl, hpy⟩ lc hlc
  have u1 := same_upd (o := .lst ys) hlc
  have hpy1 := Paired.mapP hpy fun _ _ z => NmAt.tups u1.tups z
  refine ⟨lc, ys, _, rfl, upd_same, hpy1, fun z => ?_, fun n r hnr _ => ?_, fun n r hnr z => ?_⟩
  · have := congrArg List.length z
    rw [List.length_replicate] at this
    exact absurd this (by show us.length ≠ 0; omega)
  rotate_left
  · refine absurd (fun m hm => ?_) z
    have hm1 := (List.mem_replicate.mp hm).2
    have hn1 : n ∈ List.replicate us.length ns := by rw [hnr]; exact List.mem_cons_self
    rw [hm1, (List.mem_replicate.mp hn1).2]
  have hl1 := u1 _ _ hl
  have hp1 := u1 _ _ hp
  have hpp1 := Paired.mapP hpp fun _ _ z => PairAt.mono u1 z
  generalize upd H' lc (.lst ys) = H1 at u1 hl1 hp1 hpp1 ⊢
  -- the first one
  obtain ⟨u0, us', rfl⟩ : ∃ u us', us = u :: us' := by
    cases us with
    | nil => exact absurd h0 (by simp)
    | cons u us' => exact ⟨u, us', rfl⟩
  obtain ⟨x0, hx0, q0, a0, r0, rfl, hq0, ha0, hr0⟩ := paired_get hpp1 0 u0 rfl
  obtain ⟨f1, f2, f3⟩ := hfit x0 (List.mem_of_getElem? hx0)
  refine ⟨_, rfl, l, _, 0, .ref q0, rfl, rfl, SqL.of hl1, atI_nat (j := 0) rfl, q0, _, 0, .ref a0, rfl, rfl, SqT.of hq0, rfl, ?_⟩
  -- the noughts
  refine ⟨lk (by first | exact Nat.le_of_ble_eq_true rfl | simp), fun l0 hl0 => ?_⟩
  have u2 := same_upd (o := .lst [.int 0]) hl0
  refine ⟨_, rfl, a0, _, 1, .ref r0, rfl, rfl, SqT.of (u2 _ _ ha0), rfl, r0, _, rfl, .inr (SqT.of (u2 _ _ hr0)), l0, _, [.int 0], rfl, rfl, upd_same, by omega, by rw [List.length_map, f1]; omega, ?_, fun l2 hl2 => ?_⟩
  · rw [List.length_map, f1, Int.toNat_natCast]
    exact lk (by simp; omega)
  have er : (List.replicate ((((x0.1.map V.int).length : Nat) : Int).toNat) [V.int 0]).flatten = (sumsW N []).map V.int := by
    rw [List.length_map, f1, Int.toNat_natCast, sumsW_nil]
    simp
  rw [er]
  have u3 := u2.trans (same_upd (o := .lst ((sumsW N []).map V.int)) hl2)
  have hl2' : (upd (upd H1 l0 (.lst [.int 0])) l2 (.lst ((sumsW N []).map V.int))) l2 = some (.lst ((sumsW N []).map V.int)) := upd_same
  generalize upd (upd H1 l0 (.lst [.int 0])) l2 (.lst ((sumsW N []).map V.int)) = H2 at u3 hl2' ⊢
  refine ⟨_, rfl, l, rfl, ⟨_, SqL.of (u3 _ _ hl1)⟩, for_list (K := K) (a := l) (xs := V.ref q0 :: us')
    (fun i σ H3 => ∃ (o1 o2 : Option V) (lm : Addr), σ = [some (.ref l), some (.ref a0), some (.ref lm), o1, o2] ∧ Same H1 H3 ∧ H3 lm = some (.lst ((sumsW N (ps.take i)).map V.int)))
    ⟨none, none, l2, rfl, u3, hl2'⟩ (fun i σ H3 _ ⟨_, _, _, _, s3, _⟩ => SqL.of (s3 _ _ hl1)) ?_ ?_⟩
  · rintro i y σ H3 hi ⟨o1, o2, lm, rfl, s3, hlm⟩
    obtain ⟨x, hx, q, a, r, rfl, hq, ha, hr'⟩ := paired_get hpp1 i y hi
    obtain ⟨g1, g2, g3⟩ := hfit x (List.mem_of_getElem? hx)
    have hr3 := s3 _ _ hr'
    refine ⟨q, _, rfl, SqT.of (s3 _ _ hq), rfl, _, _, rfl, _, _, rfl, rfl, ?_⟩
    refine ⟨_, rfl, _, rfl, a, _, 1, .ref r, rfl, rfl, SqT.of (s3 _ _ ha), rfl, lm, r, rfl, ⟨_, SqL.of hlm⟩, ⟨_, SqT.of hr3⟩, ?_⟩
    refine comp_zip (K := K) (a := lm) (b := r) (xs := (sumsW N (ps.take i)).map V.int) (ys := x.1.map V.int) (by rw [List.length_map, List.length_map, sumsW_len, g1])
      (fun j zs H' => Same H3 H' ∧ zs = (moreTo N (ps.take i) x j).map V.int) ⟨Same.refl _, rfl⟩ (lk (by rw [List.length_map, sumsW_len]; omega)) (fun j zs H' ⟨_, e⟩ => by rw [e, List.length_map, moreTo_len]; exact Nat.le_refl _) (fun j zs H' ⟨s4, _⟩ => ⟨SqL.of (s4 _ _ hlm), SqT.of (s4 _ _ hr3)⟩) ?_ ?_
    · rintro j v1 v2 zs H4 h1 h2 ⟨s4, rfl⟩ e he
      rw [List.getElem?_map] at h1 h2
      obtain ⟨c1, hc1, rfl⟩ : ∃ c, (sumsW N (ps.take i))[j]? = some c ∧ v1 = V.int c := by
        cases qq : (sumsW N (ps.take i))[j]? with
        | none => rw [qq] at h1; cases h1
        | some c => rw [qq] at h1; exact ⟨c, rfl, (Option.some.inj h1).symm⟩
      obtain ⟨c2, hc2, rfl⟩ : ∃ c, x.1[j]? = some c ∧ v2 = V.int c := by
        cases qq : x.1[j]? with
        | none => rw [qq] at h2; cases h2
        | some c => rw [qq] at h2; exact ⟨c, rfl, (Option.some.inj h2).symm⟩
      have s5 := s4.trans (same_upd (o := .tup [.int c1, .int c2]) he)
      refine ⟨e, _, rfl, SqT.of upd_same, rfl, _, _, rfl, _, _, rfl, rfl, ⟨rfl, trivial⟩, ?_⟩
      refine ⟨_, rfl, _, rfl, _, rfl, _, _, rfl, rfl, ⟨g2, g3 c2 (List.mem_of_getElem? hc2)⟩, _, _, rfl, rfl, s5, ?_⟩
      rw [moreTo_succ, List.map_append]
      have e1 : (sumsW N (ps.take i)).getD j 0 = c1 := by rw [List.getD, hc1]; rfl
      have e2 : x.1.getD j 0 = c2 := by rw [List.getD, hc2]; rfl
      rw [e1, e2]
      rfl
    · rintro zs H4 ⟨s4, rfl⟩ lq hlq
      refine ⟨_, _, lq, rfl, s3.trans (s4.trans (same_upd hlq)), ?_⟩
      rw [upd_same, List.length_map, sumsW_len, moreTo_all, List.take_add_one, hx]
      rfl
  · rintro σ H3 ⟨o1, o2, lm, rfl, s3, hlm⟩
    rw [hlen, List.take_length] at hlm
    have sl := sumsW_len N ps
    refine ⟨_, rfl, a0, _, 0, .ref p, rfl, rfl, SqT.of (s3 _ _ ha0), rfl, _, rfl, lm, sumsW N ps, rfl, hlm, by omega, by omega, fun q m H4 s4 hm hq4 => ⟨lk (by first | exact Nat.le_of_ble_eq_true rfl | simp), fun a ha => ?_⟩⟩
    have u5 := same_upd (o := .tup [.ref p, .ref q]) ha
    exact k a q m _ (u1.trans ((s3.trans s4).trans u5)) hm ⟨upd_same, u5 _ _ hq4, by rw [List.length_map, sl]; exact hN256⟩
end
end K50

namespace K50
open PySem L2 Mc
/-- a mind's ranks and a weight, as the law draws them -/
def GoodP (N : Nat) (x : List Int × Int) : Prop := x.1.length = N ∧ (1 ≤ x.2 ∧ x.2 ≤ 1 + 10 ^ 30) ∧ (∀ z ∈ x.1, 0 ≤ z ∧ z ≤ 2 * 10 ^ 30) ∧ 0 ∈ x.1
theorem GoodP.fit {N : Nat} {x : List Int × Int} (h : GoodP N x) : FitP N x := ⟨h.1, big_of (by have := h.2.1.1; omega) (by have := h.2.1.2; omega), fun z hz => big_of (h.2.2.1 z hz).1 (by have := (h.2.2.1 z hz).2; omega)⟩
end K50

namespace K50
open PySem L2 Mc
/-! ### the law's pairs and their sums -/
def spPairsBy (K : PySem.W.Frag) : Sp := fun vs H Q _ => ∃ (p a : Addr) (ns : List Str) (cs : List Int) (at' : Int) (m : Nat), vs = [.ref p, .ref a, .int at', .int m] ∧ H p = some (.tup (ns.map V.str)) ∧ ns.length ≤ 8 ∧ SqL K H a (cs.map V.int) ∧ 0 ≤ at' ∧ at' ≤ 100 ∧ m ≤ 20 ∧
  ∀ (l : Addr) (us : List V) (ps : List (List Int × Int)) (H' : Hp), Same H H' → H' l = some (.lst us) → H l = none → us.length = m → Paired (PairAt H' p) us ps → (∀ x ∈ ps, GoodP (2 ^ ns.length) x) → Q (.ref l) H'
section
variable {P : Program} {w : World} {K : PySem.W.Frag} {mg : Str → Option Value} {base : Heap} {t : Adr}
theorem scPairsBy : FnScope ["_law_names", "_law_script", "_law_at", "_law_many", "_law_pairs", "_law_k", "_law_cells", "_law_weight"] ["_law_names", "_law_script", "_law_at", "_law_many"] (defScope s__law_pairs_by) := ⟨rfl, rfl, rfl, by decide +kernel, rfl, by decide +kernel, by decide +kernel⟩
theorem ok_pairsby (T : Txt P w K mg t) : FnOk P w K mg base (CX1 P w) 3 t.a__law_pairs_by t.fd__law_pairs_by ["_law_names", "_law_script", "_law_at", "_law_many"] (spPairsBy K) := by
  have G__law_cell_at : FnOk P w K mg base (CX1 P w) 1 t.a__law_cell_at t.fd__law_cell_at ["_law_script", "_law_k"] (spCell K) := ok_cell T
  have G__law_mind_by : FnOk P w K mg base (CX1 P w) 2 t.a__law_mind_by t.fd__law_mind_by ["_law_names", "_law_cells", "_law_way"] (spMindBy K) := ok_mindby T
  refine T.F__law_pairs_by.ok1 scPairsBy (fun vs H Q E h => by obtain ⟨p, a, ns, cs, at', m, rfl, _⟩ := h; rfl) (fun cdv A outer s H vs Q E hr h => ?_)
  obtain ⟨p, a, ns, cs, at', m, rfl, hp, h8, hS, ha0, ha1, hm, k⟩ := h
  have nd := scPairsBy.nd
  refine ⟨_, (pss_cons (psl 4 nd (pe_lst pa_nil))
      (pss_cons (ps_for own1 rfl (prange1 T.n_range (pa_cons (pvl 3) pa_nil)) (pgc 5 nd)
        (pss_cons (ps_setComp (i := 6) rfl ["_law_j", "_law_script", "_law_k", "_law_at"] [none, some 1, some 5, some 2] nd rfl rfl (prange1 T.n_range (pa_cons pe_int pa_nil)) (by kernel_rfl) (fun _ _ _ _ _ _ => (pgl 0 (show List.Nodup (α := PySem.Str) ["_law_j", "_law_script", "_law_k", "_law_at"] by decide +kernel))) (fun _ _ _ _ _ _ => pts_nil) (fun _ _ _ _ _ _ => (pe_op op_add (pe_op op_mul (pe_op op_mul (pcall G__law_cell_at (hr.mono (by first | decide | omega)) T.m__law_cell_at T.k__law_cell_at T.b__law_cell_at never1 (pa_cons (pvc 1) (pa_cons (pe_op op_add (pvc 3) (pvc 2)) pa_nil))) (pe_op op_add (pvc 2) pe_int)) pe_int) (pe_op op_mul (pe_op op_mul (pvl 0) (pvl 0)) pe_int))))
        (pss_cons (psl 7 nd (pe_op op_add pe_int (pe_op op_mod (pe_op op_mod (pe_op op_mul (pcall G__law_cell_at (hr.mono (by first | decide | omega)) T.m__law_cell_at T.k__law_cell_at T.b__law_cell_at never1 (pa_cons (pvc 1) (pa_cons (pe_op op_add (pvc 2) (pvc 5)) pa_nil))) pe_int) pe_int) pe_int)))
        (pss_cons (ps_if (pt_cmpR op_eq (pe_op op_mod (pcall G__law_cell_at (hr.mono (by first | decide | omega)) T.m__law_cell_at T.k__law_cell_at T.b__law_cell_at never1 (pa_cons (pvc 1) (pa_cons (pe_op op_add (pvc 2) (pvc 5)) pa_nil))) pe_int) pe_int (nomark _))
          (pss_one (psl 7 nd (pe_op op_add pe_int (pe_op op_mod (pe_op op_mul (pcall G__law_cell_at (hr.mono (by first | decide | omega)) T.m__law_cell_at T.k__law_cell_at T.b__law_cell_at never1 (pa_cons (pvc 1) (pa_cons (pe_op op_add (pvc 2) (pvc 5)) pa_nil))) pe_int) (pe_op op_pow pe_int pe_int)))))
          pss_nil)
        (pss_one (ps_expr (pe_bm PySem.F.plainAttrs_list PySem.F.slot_list_append PySem.F.type_list_append mt_append (pvl 4) (pa_cons (pe_tup (pa_cons (pcall G__law_mind_by (hr.mono (by first | decide | omega)) T.m__law_mind_by T.k__law_mind_by T.b__law_mind_by never1 (pa_cons (pvl 0) (pa_cons (pvl 6) (pa_cons (pe_op op_add (pcall G__law_cell_at (hr.mono (by first | decide | omega)) T.m__law_cell_at T.k__law_cell_at T.b__law_cell_at never1 (pa_cons (pvc 1) (pa_cons (pe_op op_add (pvc 2) (pvc 5)) pa_nil))) (pvc 5)) pa_nil)))) (pa_cons (pvl 7) pa_nil))) pa_nil))))))))
      (pss_one (ps_ret (pvl 4))))), ?_⟩
  have cp : CPow 10 30 := ⟨by decide, by decide, by decide⟩
  have p30 : (0 : Int) < 10 ^ (30 : Int).toNat := by decide
  refine ⟨Nat.zero_le _, fun l hl0 => ?_⟩
  have s0 : Same H (upd H l (.lst [])) := same_upd hl0
  refine ⟨_, rfl, _, rfl, by omega, by omega, ?_⟩
  rw [Int.toNat_natCast]
  refine for_range (lo := 0) (n := m) (fun i σ H2 => ∃ (o1 o2 o3 : Option V) (us : List V) (ps : List (List Int × Int)), σ = [some (.ref p), some (.ref a), some (.int at'), some (.int m), some (.ref l), o1, o2, o3] ∧ Same H H2 ∧ H2 l = some (.lst us) ∧ us.length = i ∧ Paired (PairAt H2 p) us ps ∧ ∀ x ∈ ps, GoodP (2 ^ ns.length) x)
    ⟨none, none, none, [], [], rfl, s0, upd_same, rfl, .nil, fun x hx => nomatch hx⟩ ?_ ?_
  · rintro i σ H2 hi ⟨o1, o2, o3, us, ps, rfl, s2, hl2, hul, hpp, hgd⟩
    have hi20 : i < 20 := by omega
    have hk0 : (0 : Int) ≤ at' + (0 + (i : Int)) := by omega
    refine ⟨8, rfl, by decide, by decide, ?_⟩
    refine comp_range_map (n := 8) (fun j => .int (cs.getD (at' + (0 + (i : Int))).toNat 0 * (0 + (i : Int) + 1) * 69621 + (0 + (j : Int)) * (0 + (j : Int)) * 48271)) (by decide) (fun j R hj r => ?_) (fun lc hlc => ?_)
    · refine ⟨⟨rfl, rfl, rfl, trivial⟩, ?_⟩
      have hjj : 0 ≤ (0 + (j : Int)) * (0 + (j : Int)) ∧ (0 + (j : Int)) * (0 + (j : Int)) ≤ 49 := by
        have h7 : j ≤ 7 := by omega
        have := Nat.mul_le_mul h7 h7
        have e : (0 + (j : Int)) * (0 + (j : Int)) = ((j * j : Nat) : Int) := by simp
        rw [e]
        omega
      refine ⟨_, rfl, _, rfl, _, rfl, _, _, rfl, rfl, a, cs, _, rfl, s2.seq hS, hk0, _, rfl, _, _, rfl, rfl, _, _, rfl, rfl, .inr ⟨by show -(2 ^ 64) < 0 + (i : Int) + 1; omega, by show 0 + (i : Int) + 1 < 2 ^ 64; omega⟩, _, _, rfl, rfl, .inr ⟨by decide, by decide⟩, _, rfl, _, rfl, _, _, rfl, rfl, .inl ⟨by omega, by omega⟩, _, _, rfl, rfl, .inr ⟨by decide, by decide⟩, _, _, rfl, rfl, r⟩
    obtain ⟨cs2, hcs2⟩ : ∃ cs2 : List Int, ((List.range 8).map fun (j : Nat) => V.int (cs.getD (at' + (0 + (i : Int))).toNat 0 * (0 + (i : Int) + 1) * 69621 + (0 + (j : Int)) * (0 + (j : Int)) * 48271)) = cs2.map V.int := ⟨(List.range 8).map fun (j : Nat) => (cs.getD (at' + (0 + (i : Int))).toNat 0 * (0 + (i : Int) + 1) * 69621 + (0 + (j : Int)) * (0 + (j : Int)) * 48271), by rw [List.map_map]; rfl⟩
    rw [hcs2]
    have v1 := same_upd (o := .lst (cs2.map V.int)) hlc
    have hlc' : (upd H2 lc (.lst (cs2.map V.int))) lc = some (.lst (cs2.map V.int)) := upd_same
    have hl3 := v1 _ _ hl2
    have hpp3 := Paired.mapP hpp fun _ _ z => PairAt.mono v1 z
    have s3 := s2.trans v1
    generalize upd H2 lc (.lst (cs2.map V.int)) = H3 at v1 hlc' hl3 hpp3 s3 ⊢
    refine ⟨_, rfl, _, rfl, _, rfl, _, _, rfl, rfl, a, cs, _, rfl, s3.seq hS, hk0, _, _, rfl, rfl, .inr ⟨by decide, by decide⟩, _, _, rfl, rfl, (by show (0 : Int) < 2147483647; decide), _, _, rfl, rfl, (by show (0 : Int) < 7; decide), _, _, rfl, rfl, ?_⟩
    try dsimp (config := { proj := false, iota := false }) only
    generalize hcell : cs.getD (at' + (0 + (i : Int))).toNat 0 = cell
    have fin : ∀ (w0 : Int), (1 ≤ w0 ∧ w0 ≤ 1 + 10 ^ 30) → ∀ (b r : Addr) (rs : List Int) (H4 : Hp), Same H3 H4 → MindAt H4 b p r rs → rs.length = 2 ^ ns.length → (∀ z ∈ rs, 0 ≤ z ∧ z ≤ 2 * 10 ^ 30) → 0 ∈ rs → ∀ qt, H4 qt = none → H4 l = some (.lst us) ∧
        Same H (upd (upd H4 qt (.tup [.ref b, .int w0])) l (.lst (us ++ [.ref qt]))) ∧ ∃ ps', Paired (PairAt (upd (upd H4 qt (.tup [.ref b, .int w0])) l (.lst (us ++ [.ref qt]))) p) (us ++ [.ref qt]) ps' ∧ ∀ x ∈ ps', GoodP (2 ^ ns.length) x := by
      intro w0 hw b r rs H4 s4 hmd hrl hrb hr0 qt hqt
      have w1 := same_upd (o := .tup [.ref b, .int w0]) hqt
      have hl4 := s4 _ _ hl3
      have hl5 := w1 _ _ hl4
      have kt : Tups _ (upd (upd H4 qt (.tup [.ref b, .int w0])) l (.lst (us ++ [.ref qt]))) := tups_upd hl5
      refine ⟨hl4, fun c o eb => ?_, ps ++ [(rs, w0)], paired_app (Paired.mapP hpp3 fun _ _ z => PairAt.tups ((s4.trans w1).tups.trans kt) z) (.cons ⟨qt, b, r, rfl, kt _ _ upd_same, kt _ _ (w1 _ _ hmd.1), kt _ _ (w1 _ _ hmd.2.1)⟩ .nil), fun x hx => ?_⟩
      · rw [upd_ne (ne_of_none eb hl0)]
        exact w1 _ _ (s4 _ _ (s3 _ _ eb))
      · rcases List.mem_append.mp hx with hx | hx
        · exact hgd x hx
        · rw [List.mem_singleton.mp hx]
          exact ⟨hrl, hw, hrb, hr0⟩
    refine ⟨_, rfl, _, rfl, _, rfl, _, _, rfl, rfl, a, cs, _, rfl, s3.seq hS, hk0, ?_⟩
    rw [hcell]
    refine ⟨_, _, rfl, rfl, (by show (0 : Int) < 3; decide), rfl, _, rfl, ite2 (fun _ => ?A) (fun _ => ?B)⟩
    case A =>
      refine ⟨_, rfl, _, rfl, _, rfl, _, _, rfl, rfl, a, cs, _, rfl, s3.seq hS, hk0, ?_⟩
      rw [hcell]
      refine ⟨_, _, rfl, rfl, .inr ⟨by decide, by decide⟩, _, _, rfl, rfl, cp, _, _, rfl, rfl, p30, _, _, rfl, rfl, ?_⟩
      refine ⟨_, rfl, .inl ⟨rfl, _, SqL.of hl3⟩, _, rfl, _, rfl, _, rfl, _, rfl, _, rfl, _, _, rfl, rfl, a, cs, _, rfl, s3.seq hS, hk0, _, rfl, _, _, rfl, rfl, p, lc, ns, cs2, _, rfl, s3 _ _ hp, h8, SqL.of hlc', fun b r rs H4 s4 hmd hrl hrb hr0 => ⟨_, rfl, lk (by first | exact Nat.le_of_ble_eq_true rfl | simp), fun qt hqt => ?_⟩⟩
      obtain ⟨g1, g2, ps', g3, g4⟩ := fin (1 + cell * 40692 % 10 ^ (30 : Int).toNat) (by rw [ten30]; generalize cell * 40692 = u; omega) b r rs H4 s4 hmd hrl hrb hr0 qt hqt
      exact ⟨l, us, _, rfl, rfl, same_upd hqt _ _ g1, small1000 (by omega), _, _, _, _, ps', rfl, g2, upd_same, by rw [List.length_append, hul]; rfl, g3, g4⟩
    case B =>
      refine ⟨_, rfl, .inl ⟨rfl, _, SqL.of hl3⟩, _, rfl, _, rfl, _, rfl, _, rfl, _, rfl, _, _, rfl, rfl, a, cs, _, rfl, s3.seq hS, hk0, _, rfl, _, _, rfl, rfl, p, lc, ns, cs2, _, rfl, s3 _ _ hp, h8, SqL.of hlc', fun b r rs H4 s4 hmd hrl hrb hr0 => ⟨_, rfl, lk (by first | exact Nat.le_of_ble_eq_true rfl | simp), fun qt hqt => ?_⟩⟩
      obtain ⟨g1, g2, ps', g3, g4⟩ := fin (1 + cell * 16807 % 2147483647 % 7) (by generalize cell * 16807 % 2147483647 = u; omega) b r rs H4 s4 hmd hrl hrb hr0 qt hqt
      exact ⟨l, us, _, rfl, rfl, same_upd hqt _ _ g1, small1000 (by omega), _, _, _, _, ps', rfl, g2, upd_same, by rw [List.length_append, hul]; rfl, g3, g4⟩
  · rintro σ H2 ⟨o1, o2, o3, us, ps, rfl, s2, hl2, hul, hpp, hgd⟩
    exact ⟨_, rfl, k l us ps H2 s2 hl2 hl0 hul hpp hgd⟩
end
end K50

namespace K50
open PySem L2 Mc
/-! ### what minds have in common -/
/-- a mind of the names at p -/
def MindV (H : Hp) (p : Addr) (v : V) (rs : List Int) : Prop := ∃ (a r : Addr), v = .ref a ∧ H a = some (.tup [.ref p, .ref r]) ∧ H r = some (.tup (rs.map V.int))
theorem MindV.tups {H H' : Hp} (s : Tups H H') {p : Addr} {v : V} {rs : List Int} : MindV H p v rs → MindV H' p v rs := fun ⟨a, r, h1, h2, h3⟩ => ⟨a, r, h1, s _ _ h2, s _ _ h3⟩
theorem MindV.mono {H H' : Hp} (s : Same H H') {p : Addr} {v : V} {rs : List Int} (h : MindV H p v rs) : MindV H' p v rs := h.tups s.tups
/-- it has rank 0 in all of them -/
def nearB (rss : List (List Int)) (i : Nat) : Bool := rss.all fun rs => decide (rs.getD i 0 = 0)
def commonL (N : Nat) (rss : List (List Int)) : List Int := ((List.range N).filter (nearB rss)).map fun i : Nat => (i : Int)
def spNear : Sp := fun vs H Q _ => ∃ (l p : Addr) (us : List V) (rss : List (List Int)) (i : Nat), vs = [.ref l, .int i] ∧ H l = some (.lst us) ∧ us.length ≤ 100 ∧ Paired (MindV H p) us rss ∧ (∀ rs ∈ rss, i < rs.length) ∧ ∀ H', Same H H' → Q (.bl (nearB rss i)) H'
def spCommon : Sp := fun vs H Q _ => ∃ (l p : Addr) (ns : List Str) (us : List V) (rss : List (List Int)) (N : Nat), vs = [.ref l] ∧ H l = some (.lst us) ∧ H p = some (.tup (ns.map V.str)) ∧ Paired (MindV H p) us rss ∧ 0 < us.length ∧ us.length ≤ 100 ∧ N ≤ 256 ∧ (∀ rs ∈ rss, rs.length = N) ∧
  ∀ (q : Addr) (H' : Hp), Same H H' → H q = none → H' q = some (.lst ((commonL N rss).map V.int)) → Q (.ref q) H'
section
variable {P : Program} {w : World} {K : PySem.W.Frag} {mg : Str → Option Value} {base : Heap} {t : Adr}
theorem scNear : FnScope ["minds", "world"] ["minds", "world"] (defScope s_is_nearest_in_all) := ⟨rfl, rfl, rfl, by decide +kernel, rfl, by decide +kernel, by decide +kernel⟩
theorem ok_near (T : Txt P w K mg t) : FnOk P w K mg base (CX1 P w) 1 t.a_is_nearest_in_all t.fd_is_nearest_in_all ["minds", "world"] spNear := by
  refine T.F_is_nearest_in_all.ok1 scNear (fun vs H Q E h => by obtain ⟨l, p, us, rss, i, rfl, _⟩ := h; rfl) (fun cdv A outer s H vs Q E hr h => ?_)
  obtain ⟨l, p, us, rss, i, rfl, hl, h100, hpp, hi, k⟩ := h
  have nd := scNear.nd
  have hlen := paired_len hpp
  refine ⟨_, (pss_one (ps_ret (pcallB (call_allB rfl) T.n_all Bt.all (pa_cons (pe_comp rfl ["mind", "world"] [none, some 1] (pi_list (pvl 0)) (by kernel_rfl) (fun _ _ _ _ _ _ => (pgl 0 (show List.Nodup (α := PySem.Str) ["mind", "world"] by decide +kernel))) (fun _ _ _ _ _ _ => pts_nil) (fun _ _ _ _ _ _ => (pe_cmpR op_eq (pe_ix (ix_tupK (K := K)) (pe_ix (ix_tupK (K := K)) (pvl 0) pe_int (fun _ _ => rfl)) (pvc 1) (fun _ _ => rfl)) pe_int (nomark _)))) pa_nil)))), ?_⟩
  refine ⟨_, rfl, l, rfl, ⟨_, SqL.of hl⟩, ?_⟩
  refine comp_list (K := K) (a := l) (xs := us) (fun j ys H' => H' = H ∧ ys = ((rss.take j).map fun rs => decide (rs.getD i 0 = 0)).map V.bl) ⟨rfl, rfl⟩ (lk (by omega)) (fun j ys H' ⟨_, e⟩ => by rw [e, List.length_map, List.length_map, List.length_take]; omega) (fun j ys H' ⟨e, _⟩ => by subst e; exact SqL.of hl) ?_ ?_
  · rintro j z ys H' hj ⟨rfl, rfl⟩
    obtain ⟨rs, hrs, a, r, rfl, ha, hr'⟩ := paired_get hpp j z hj
    have hir := hi rs (List.mem_of_getElem? hrs)
    have i2 : atI (rs.map V.int) (i : Int) = some (V.int (rs.getD i 0)) := by
      refine atI_nat ?_
      rw [List.getElem?_map, List.getD, List.getElem?_eq_getElem hir]
      rfl
    refine ⟨⟨rfl, trivial⟩, ?_⟩
    refine ⟨_, rfl, a, _, 1, .ref r, rfl, rfl, SqT.of ha, rfl, _, rfl, r, _, _, _, rfl, rfl, SqT.of hr', i2, rfl, rfl, ?_⟩
    rw [List.take_add_one, hrs, List.map_append, List.map_append]
    have e : decide (V.int (rs.getD i 0) = V.int 0) = decide (rs.getD i 0 = 0) := decide_eq_decide.mpr ⟨fun z => V.int.inj z, fun z => congrArg V.int z⟩
    rw [e]
    rfl
  · rintro ys H' ⟨rfl, rfl⟩ lc hlc
    refine ⟨lc, _, rfl, SqL.of upd_same, ?_⟩
    have e : ((rss.take us.length).map fun rs => decide (rs.getD i 0 = 0)).all id = nearB rss i := by
      rw [hlen, List.take_length, List.all_map]
      rfl
    rw [e]
    exact k _ (same_upd hlc)
theorem scCommon : FnScope ["minds"] ["minds"] (defScope s_common) := ⟨rfl, rfl, rfl, by decide +kernel, rfl, by decide +kernel, by decide +kernel⟩
theorem ok_common (T : Txt P w K mg t) : FnOk P w K mg base (CX1 P w) 2 t.a_common t.fd_common ["minds"] spCommon := by
  have G_need_alike : FnOk P w K mg base (CX1 P w) 1 t.a_need_alike t.fd_need_alike ["minds"] (spAlike t) := ok_alike T
  have G_is_nearest_in_all : FnOk P w K mg base (CX1 P w) 1 t.a_is_nearest_in_all t.fd_is_nearest_in_all ["minds", "world"] spNear := ok_near T
  refine T.F_common.ok1 scCommon (fun vs H Q E h => by obtain ⟨l, p, ns, us, rss, N, rfl, _⟩ := h; rfl) (fun cdv A outer s H vs Q E hr h => ?_)
  obtain ⟨l, p, ns, us, rss, N, rfl, hl, hp, hpp, h0, h100, hN, hrl, k⟩ := h
  have nd := scCommon.nd
  have hlen := paired_len hpp
  refine ⟨_, (pss_cons (ps_expr (pcall G_need_alike (hr.mono (by first | decide | omega)) T.m_need_alike T.k_need_alike T.b_need_alike passes1 (pa_cons (pvc 0) pa_nil)))
      (pss_one (ps_ret (pe_comp rfl ["world", "minds"] [none, some 0] (prange1 T.n_range (pa_cons (pcallB call_len_seq T.n_len Bt.len (pa_cons (pe_ix ix_tup (pe_ix ix_list (pvc 0) pe_int (fun _ _ => rfl)) pe_int (fun _ _ => rfl)) pa_nil)) pa_nil)) (by kernel_rfl) (fun _ _ _ _ _ _ => (pgl 0 (show List.Nodup (α := PySem.Str) ["world", "minds"] by decide +kernel))) (fun _ _ _ _ _ _ => pts_one (pt_val (pcall G_is_nearest_in_all (hr.mono (by first | decide | omega)) T.m_is_nearest_in_all T.k_is_nearest_in_all T.b_is_nearest_in_all never1 (pa_cons (pvc 1) (pa_cons (pvl 0) pa_nil))))) (fun _ _ _ _ _ _ => (pvl 0)))))), ?_⟩
  have hnm : Paired (NmAt H) us (List.replicate us.length ns) := by
    clear k hrl h0 h100 hl
    induction hpp with
    | nil => exact .nil
    | cons r _ ih =>
      obtain ⟨a, b, h1, h2, h3⟩ := r
      exact .cons ⟨a, p, .ref b, h1, h2, hp⟩ (ih (by simpa using hlen))
  refine ⟨_, rfl, l, us, _, rfl, hl, hnm, fun z => ?_, fun n r hnr _ => ?_, fun n r hnr z => ?_⟩
  · have := congrArg List.length z
    rw [List.length_replicate] at this
    exact absurd this (by show us.length ≠ 0; omega)
  rotate_left
  · refine absurd (fun m hm => ?_) z
    have hm1 := (List.mem_replicate.mp hm).2
    have hn1 : n ∈ List.replicate us.length ns := by rw [hnr]; exact List.mem_cons_self
    rw [hm1, (List.mem_replicate.mp hn1).2]
  obtain ⟨u0, us', rfl⟩ : ∃ u us', us = u :: us' := by
    cases us with
    | nil => exact absurd h0 (by simp)
    | cons u us' => exact ⟨u, us', rfl⟩
  obtain ⟨x0, hx0, a0, r0, rfl, ha0, hr0⟩ := paired_get hpp 0 u0 rfl
  have f1 := hrl x0 (List.mem_of_getElem? hx0)
  refine ⟨_, rfl, l, _, 0, .ref a0, rfl, rfl, SqL.of hl, atI_nat (j := 0) rfl, a0, _, 1, .ref r0, rfl, rfl, SqT.of ha0, rfl, r0, _, rfl, .inr (SqT.of hr0), _, rfl, by omega, by rw [List.length_map, f1]; omega, ?_⟩
  rw [List.length_map, f1, Int.toNat_natCast]
  refine comp_range (n := N) (fun j zs H' => Same H H' ∧ zs.length ≤ j ∧ zs = (((List.range j).filter (nearB rss)).map fun i : Nat => (i : Int)).map V.int) ⟨Same.refl _, Nat.le_refl _, rfl⟩ (lk (by omega)) (fun j zs H' ⟨_, e, _⟩ => e) ?_ ?_
  · rintro j zs H' hj ⟨s1, hzl, rfl⟩
    refine ⟨⟨rfl, trivial⟩, ?_⟩
    refine ⟨_, rfl, _, rfl, l, p, _, rss, j, by rw [Int.zero_add]; rfl, s1 _ _ hl, h100, Paired.mapP hpp fun _ _ z => MindV.mono s1 z, fun rs hrs => by rw [hrl rs hrs]; exact hj, fun H2 s2 => ?_⟩
    rw [List.range_succ, List.filter_append]
    cases hb : nearB rss j with
    | true =>
      refine ⟨_, rfl, iteT ⟨_, rfl, s1.trans s2, by rw [List.length_append]; exact Nat.add_le_add hzl (Nat.le_refl _), ?_⟩⟩
      rw [List.filter_cons_of_pos hb, List.filter_nil, List.map_append, List.map_append, Int.zero_add]
      rfl
    | false =>
      refine ⟨_, rfl, iteF ⟨s1.trans s2, by omega, ?_⟩⟩
      rw [List.filter_cons_of_neg (by rw [hb]; decide), List.filter_nil, List.append_nil]
  · rintro zs H' ⟨s1, _, rfl⟩ q hq
    exact k q _ (s1.trans (same_upd hq)) (s1.free hq) upd_same
end
end K50

namespace K50
open PySem L2 Mc
/-! ### pieces of rows of pairs -/
theorem cutV_to {xs : List V} {v : Int} (h0 : 0 ≤ v) : cutV xs none (some v) = xs.take v.toNat := by
  unfold cutV
  have e : HT.sIx xs.length xs.length (some v) = min v.toNat xs.length := by
    show (if v < 0 then _ else _) = _
    rw [if_neg (by omega)]
  rw [e, show HT.sIx xs.length 0 none = 0 from rfl, List.drop_zero, Nat.sub_zero]
  rcases Nat.le_total v.toNat xs.length with h | h
  · rw [Nat.min_eq_left h]
  · rw [Nat.min_eq_right h, List.take_of_length_le (Nat.le_refl _), List.take_of_length_le h]
theorem cutV_from {xs : List V} {v : Int} (h0 : 0 ≤ v) : cutV xs (some v) none = xs.drop v.toNat := by
  unfold cutV
  have e : HT.sIx xs.length 0 (some v) = min v.toNat xs.length := by
    show (if v < 0 then _ else _) = _
    rw [if_neg (by omega)]
  rw [e, show HT.sIx xs.length xs.length none = xs.length from rfl]
  rcases Nat.le_total v.toNat xs.length with h | h
  · rw [Nat.min_eq_left h]
    exact List.take_of_length_le (by rw [List.length_drop]; exact Nat.le_refl _)
  · rw [Nat.min_eq_right h, List.drop_of_length_le (Nat.le_refl _), List.drop_of_length_le h, List.take_nil]
theorem paired_take {α β : Type} {F : α → β → Prop} : ∀ {a : List α} {b : List β}, Paired F a b → ∀ n, Paired F (a.take n) (b.take n)
  | _, _, .nil, n => by rw [List.take_nil, List.take_nil]; exact .nil
  | _, _, .cons r t, 0 => .nil
  | _, _, .cons r t, n + 1 => .cons r (paired_take t n)
theorem paired_drop {α β : Type} {F : α → β → Prop} : ∀ {a : List α} {b : List β}, Paired F a b → ∀ n, Paired F (a.drop n) (b.drop n)
  | _, _, .nil, n => by rw [List.drop_nil, List.drop_nil]; exact .nil
  | _, _, .cons r t, 0 => .cons r t
  | _, _, .cons r t, n + 1 => paired_drop t n
theorem getD_bd {rs : List Int} {B : Int} (h0 : 0 ≤ B) (h : ∀ z ∈ rs, 0 ≤ z ∧ z ≤ B) (i : Nat) : 0 ≤ rs.getD i 0 ∧ rs.getD i 0 ≤ B := by
  by_cases hi : i < rs.length
  · exact h _ (Mc.getD_mem hi)
  · rw [List.getD, List.getElem?_eq_none (by omega)]
    exact ⟨Int.le_refl _, h0⟩
theorem GoodP.term {N : Nat} {x : List Int × Int} (h : GoodP N x) (i : Nat) : 0 ≤ x.2 * x.1.getD i 0 ∧ x.2 * x.1.getD i 0 ≤ 10 ^ 62 := by
  obtain ⟨_, ⟨h1, h2⟩, h3, _⟩ := h
  obtain ⟨z0, z1⟩ := getD_bd (B := 2 * 10 ^ 30) (by decide) h3 i
  refine ⟨Int.mul_nonneg (by omega) z0, ?_⟩
  refine Int.le_trans (Int.mul_le_mul h2 z1 z0 (by decide)) (by decide)
end K50

namespace K50
open PySem L2 Mc
/-! ### pouring refused -/
/-- a pair whose mind has these names -/
def PNAt (H : Hp) (v : V) (ns : List Str) : Prop := ∃ (q a p : Addr) (u z : V), v = .ref q ∧ H q = some (.tup [.ref a, z]) ∧ H a = some (.tup [.ref p, u]) ∧ H p = some (.tup (ns.map V.str))
theorem PNAt.mono {H H' : Hp} (s : Same H H') {v : V} {ns : List Str} : PNAt H v ns → PNAt H' v ns := fun ⟨q, a, p, u, z, h1, h2, h3, h4⟩ => ⟨q, a, p, u, z, h1, s _ _ h2, s _ _ h3, s _ _ h4⟩
def spPouredR (t : Adr) : Sp := fun vs H _ E => ∃ (l : Addr) (us : List V) (nss : List (List Str)), vs = [.ref l] ∧ H l = some (.lst us) ∧ us.length ≤ 100 ∧ Paired (PNAt H) us nss ∧
  ((nss = [] ∧ ∀ H', Same H H' → E (.ref t.c_NoMinds) none H') ∨ (∃ n r, nss = n :: r ∧ (¬ ∀ m ∈ nss, m = n) ∧ ∀ H', Same H H' → E (.ref t.c_Unlike) none H'))
def spCommonR (t : Adr) : Sp := fun vs H _ E => ∃ (l : Addr) (us : List V) (nss : List (List Str)), vs = [.ref l] ∧ H l = some (.lst us) ∧ us.length ≤ 100 ∧ Paired (NmAt H) us nss ∧
  ((nss = [] ∧ ∀ H', Same H H' → E (.ref t.c_NoMinds) none H') ∨ (∃ n r, nss = n :: r ∧ (¬ ∀ m ∈ nss, m = n) ∧ ∀ H', Same H H' → E (.ref t.c_Unlike) none H'))
theorem fn_or {P : Program} {w : World} {K : PySem.W.Frag} {mg : Str → Option Value} {base : Heap} {CX : CXT} {k : Nat} {f : Addr} {fd : FuncData} {ps : List Str} {sp1 sp2 : Sp} (F : FnOk P w K mg base CX k f fd ps sp1) (G : FnOk P w K mg base CX k f fd ps sp2) :
    FnOk P w K mg base CX k f fd ps (fun vs H Q E => sp1 vs H Q E ∨ sp2 vs H Q E) :=
  ⟨fun vs H Q E h => h.elim (F.len vs H Q E) (G.len vs H Q E), fun A outer s H args us vs Q E hr e b v h => h.elim (F.run A outer s H args us vs Q E hr e b v) (G.run A outer s H args us vs Q E hr e b v)⟩
section
variable {P : Program} {w : World} {K : PySem.W.Frag} {mg : Str → Option Value} {base : Heap} {t : Adr}
theorem ok_pouredR (T : Txt P w K mg t) : FnOk P w K mg base (CX1 P w) 2 t.a_poured t.fd_poured ["pairs"] (spPouredR t) := by
  have G_need_alike : FnOk P w K mg base (CX1 P w) 1 t.a_need_alike t.fd_need_alike ["minds"] (spAlike t) := ok_alike T
  have G_less_the_least : FnOk P w K mg base (CX1 P w) 1 t.a_less_the_least t.fd_less_the_least ["marks"] spLess := ok_less T
  refine T.F_poured.ok1 scPoured (fun vs H Q E h => by obtain ⟨l, us, nss, rfl, _⟩ := h; rfl) (fun cdv A outer s H vs Q E hr h => ?_)
  obtain ⟨l, us, nss, rfl, hl, h100, hpp, hE⟩ := h
  have nd := scPoured.nd
  have hlen := paired_len hpp
  refine ⟨_, (pss_cons (ps_expr (pcall G_need_alike (hr.mono (by first | decide | omega)) T.m_need_alike T.k_need_alike T.b_need_alike passes1 (pa_cons (pe_comp rfl ["mind", "weight"] [none, none] (pi_list (pvl 0)) (by kernel_rfl) (fun _ _ _ _ _ _ => (pg_tupK (K := K) (n := 2) rfl rfl (pgs_cons (pgl 0 (show List.Nodup (α := PySem.Str) ["mind", "weight"] by decide +kernel)) (pgs_cons (pgl 1 (show List.Nodup (α := PySem.Str) ["mind", "weight"] by decide +kernel)) pgs_nil)))) (fun _ _ _ _ _ _ => pts_nil) (fun _ _ _ _ _ _ => (pvl 0))) pa_nil)))
      (pss_cons (psl 1 nd (pe_ix ix_tup (pe_ix ix_list (pvl 0) pe_int (fun _ _ => rfl)) pe_int (fun _ _ => rfl)))
      (pss_cons (psl 2 nd (pe_op op_rep (pe_lst (pa_cons pe_int pa_nil)) (pcallB call_len_seq T.n_len Bt.len (pa_cons (pe_ix ix_tup (pvl 1) pe_int (fun _ _ => rfl)) pa_nil))))
      (pss_cons (ps_for own1 rfl (pi_list (pvl 0)) (pg_tup (n := 2) rfl (pgs_cons (pgl 3 nd) (pgs_cons (pgc 4 nd) pgs_nil)))
        (pss_one (ps_setComp (i := 2) rfl ["total", "rank", "weight"] [none, none, some 4] nd rfl rfl (pzip (pa_cons (pvl 2) (pa_cons (pe_ix ix_tup (pvl 3) pe_int (fun _ _ => rfl)) pa_nil)) T.n_zip) (by kernel_rfl) (fun _ _ _ _ _ _ => (pg_tupK (K := K) (n := 2) rfl rfl (pgs_cons (pgl 0 (show List.Nodup (α := PySem.Str) ["total", "rank", "weight"] by decide +kernel)) (pgs_cons (pgl 1 (show List.Nodup (α := PySem.Str) ["total", "rank", "weight"] by decide +kernel)) pgs_nil)))) (fun _ _ _ _ _ _ => pts_nil) (fun _ _ _ _ _ _ => (pe_op op_add (pvl 0) (pe_op op_mulB (pvc 2) (pvl 1)))))))
      (pss_one (ps_ret (pe_tup (pa_cons (pe_ix ix_tup (pvl 1) pe_int (fun _ _ => rfl)) (pa_cons (pcall G_less_the_least (hr.mono (by first | decide | omega)) T.m_less_the_least T.k_less_the_least T.b_less_the_least never1 (pa_cons (pvl 2) pa_nil)) pa_nil))))))))), ?_⟩
  refine ⟨_, rfl, l, rfl, ⟨_, SqL.of hl⟩, ?_⟩
  refine comp_list (K := K) (a := l) (xs := us) (fun i ys H' => H' = H ∧ ys.length = i ∧ Paired (NmAt H) ys (nss.take i)) ⟨rfl, rfl, .nil⟩ (lk (by omega)) (fun i ys H' ⟨_, e, _⟩ => by omega) (fun i ys H' ⟨e, _⟩ => by subst e; exact SqL.of hl) ?_ ?_
  · rintro i z ys H' hi ⟨rfl, hyl, hpy⟩
    obtain ⟨x, hx, q, a, p, u, z', rfl, hq, ha, hp⟩ := paired_get hpp i z hi
    refine ⟨q, _, rfl, SqT.of hq, rfl, _, _, rfl, _, _, rfl, rfl, ⟨trivial, ?_⟩⟩
    refine ⟨_, rfl, rfl, by rw [List.length_append, hyl]; rfl, ?_⟩
    rw [List.take_add_one, hx]
    exact paired_app hpy (.cons ⟨a, p, u, rfl, ha, hp⟩ .nil)
  rintro ys H' ⟨rfl, hyl, hpy⟩ lc hlc
  rw [hlen, List.take_length] at hpy
  have u1 := same_upd (o := .lst ys) hlc
  refine ⟨lc, ys, nss, rfl, upd_same, Paired.mapP hpy fun _ _ z => NmAt.tups u1.tups z, fun z => ?_, fun n r hnr hall => ?_, fun n r hnr z => ?_⟩
  · rcases hE with ⟨_, h⟩ | ⟨n, r, e, _⟩
    · exact h _ u1
    · rw [z] at e; cases e
  · rcases hE with ⟨e, _⟩ | ⟨n', r', e, h, _⟩
    · rw [e] at hnr; cases hnr
    · rw [hnr] at e
      cases e
      exact absurd hall h
  · rcases hE with ⟨e, _⟩ | ⟨n', r', e, _, h⟩
    · rw [e] at hnr; cases hnr
    · exact h _ u1
theorem ok_commonR (T : Txt P w K mg t) : FnOk P w K mg base (CX1 P w) 2 t.a_common t.fd_common ["minds"] (spCommonR t) := by
  have G_need_alike : FnOk P w K mg base (CX1 P w) 1 t.a_need_alike t.fd_need_alike ["minds"] (spAlike t) := ok_alike T
  have G_is_nearest_in_all : FnOk P w K mg base (CX1 P w) 1 t.a_is_nearest_in_all t.fd_is_nearest_in_all ["minds", "world"] spNear := ok_near T
  refine T.F_common.ok1 scCommon (fun vs H Q E h => by obtain ⟨l, us, nss, rfl, _⟩ := h; rfl) (fun cdv A outer s H vs Q E hr h => ?_)
  obtain ⟨l, us, nss, rfl, hl, h100, hpp, hE⟩ := h
  have nd := scCommon.nd
  refine ⟨_, (pss_cons (ps_expr (pcall G_need_alike (hr.mono (by first | decide | omega)) T.m_need_alike T.k_need_alike T.b_need_alike passes1 (pa_cons (pvc 0) pa_nil)))
      (pss_one (ps_ret (pe_comp rfl ["world", "minds"] [none, some 0] (prange1 T.n_range (pa_cons (pcallB call_len_seq T.n_len Bt.len (pa_cons (pe_ix ix_tup (pe_ix ix_list (pvc 0) pe_int (fun _ _ => rfl)) pe_int (fun _ _ => rfl)) pa_nil)) pa_nil)) (by kernel_rfl) (fun _ _ _ _ _ _ => (pgl 0 (show List.Nodup (α := PySem.Str) ["world", "minds"] by decide +kernel))) (fun _ _ _ _ _ _ => pts_one (pt_val (pcall G_is_nearest_in_all (hr.mono (by first | decide | omega)) T.m_is_nearest_in_all T.k_is_nearest_in_all T.b_is_nearest_in_all never1 (pa_cons (pvc 1) (pa_cons (pvl 0) pa_nil))))) (fun _ _ _ _ _ _ => (pvl 0)))))), ?_⟩
  refine ⟨_, rfl, l, us, nss, rfl, hl, hpp, fun z => ?_, fun n r hnr hall => ?_, fun n r hnr z => ?_⟩
  · rcases hE with ⟨_, h⟩ | ⟨n, r, e, _⟩
    · exact h _ (Same.refl _)
    · rw [z] at e; cases e
  · rcases hE with ⟨e, _⟩ | ⟨n', r', e, h, _⟩
    · rw [e] at hnr; cases hnr
    · rw [hnr] at e
      cases e
      exact absurd hall h
  · rcases hE with ⟨e, _⟩ | ⟨n', r', e, _, h⟩
    · rw [e] at hnr; cases hnr
    · exact h _ (Same.refl _)
end
end K50

namespace K50
open PySem L2 Mc
/-! ### the class of a refusal -/
abbrev clsWords : List Str := ["name", "always", "never", "sentence", "deep", "minds", "unlike", "back", "again", "refused"]
/-- which of the ten classes it is of -/
structure ClsAt (K : PySem.W.Frag) (t : Adr) (C : Addr) (b0 b1 b2 b3 b4 b5 b6 b7 b8 b9 : Bool) : Prop where
  x : ExC K C
  h0 : PySem.W.kitOne K (.ref C) (.ref t.c_NoName) = some b0
  h1 : PySem.W.kitOne K (.ref C) (.ref t.c_Always) = some b1
  h2 : PySem.W.kitOne K (.ref C) (.ref t.c_Never) = some b2
  h3 : PySem.W.kitOne K (.ref C) (.ref t.c_NoSentence) = some b3
  h4 : PySem.W.kitOne K (.ref C) (.ref t.c_TooDeep) = some b4
  h5 : PySem.W.kitOne K (.ref C) (.ref t.c_NoMinds) = some b5
  h6 : PySem.W.kitOne K (.ref C) (.ref t.c_Unlike) = some b6
  h7 : PySem.W.kitOne K (.ref C) (.ref t.c_NoBack) = some b7
  h8 : PySem.W.kitOne K (.ref C) (.ref t.c_NoAgain) = some b8
  h9 : PySem.W.kitOne K (.ref C) (.ref t.c_Refused) = some b9
  hv : PySem.W.kitOne K (.ref C) (.type "ValueError") = some true
  hm : PySem.W.kitOne K (.ref C) (.ref t.c_MindError) = some true
/-- the word of the class C of the object at a -/
def spClassX (K : PySem.W.Frag) (t : Adr) : Sp := fun vs H Q _ => ∃ a C b0 b1 b2 b3 b4 b5 b6 b7 b8 b9 j, vs = [.ref a] ∧ H a = some (excO a C) ∧ ClsAt K t C b0 b1 b2 b3 b4 b5 b6 b7 b8 b9 ∧ j < 10 ∧
  (([b0, b1, b2, b3, b4, b5, b6, b7, b8, b9].map fun b => if b = true then (1 : Int) else 0).sum = 1) ∧ [b0, b1, b2, b3, b4, b5, b6, b7, b8, b9].getD j false = true ∧ (∀ m, m < j → [b0, b1, b2, b3, b4, b5, b6, b7, b8, b9].getD m false = false) ∧
  ∀ H', Same H H' → Q (.str (clsWords.getD j "")) H'
def spClass (K : PySem.W.Frag) (t : Adr) : Sp := fun vs H Q E => (vs = [.non] ∧ Q (.str "none") H) ∨ spClassX K t vs H Q E
theorem getD_bls (bs : List Bool) {j : Nat} (h : j < bs.length) : (bs.map V.bl).getD j .non = .bl (bs.getD j false) := by
  rw [List.getD, List.getElem?_map, List.getD, List.getElem?_eq_getElem h]
  rfl
section
variable {P : Program} {w : World} {K : PySem.W.Frag} {mg : Str → Option Value} {base : Heap} {t : Adr}
theorem scClass : FnScope ["_law_caught", "_law_told", "_law_words"] ["_law_caught"] (defScope s__law_class) := ⟨rfl, rfl, rfl, by decide +kernel, rfl, by decide +kernel, by decide +kernel⟩
theorem ok_class (T : Txt P w K mg t) : FnOk P w K mg base (CX1 P w) 1 t.a__law_class t.fd__law_class ["_law_caught"] (spClass K t) := by
  refine T.F__law_class.ok1 scClass (fun vs H Q E h => by
    rcases h with ⟨rfl, _⟩ | ⟨a, C, b0, b1, b2, b3, b4, b5, b6, b7, b8, b9, j, rfl, _⟩
    · rfl
    · rfl) (fun cdv A outer s H vs Q E hr h => ?_)
  have nd := scClass.nd
  refine ⟨_, (pss_cons (ps_if (PW.pt (pw_or (pt_cmpR op_isN (pvl 0) pe_non (nomark _)) (pw_or (pt_not (pt_val (pcallB call_isX T.n_isinstance Bt.isinstance (pa_cons (pvl 0) (pa_cons (pbltn (v := .ty "ValueError") T.n_ValueError Bt.ValueError rfl) pa_nil))))) (pw_or1 (pt_not (pt_val (pcallB call_isX T.n_isinstance Bt.isinstance (pa_cons (pvl 0) (pa_cons (pglob (v := .ref t.c_MindError) T.m_MindError rfl) pa_nil)))))))))
        (pss_one (ps_ret pe_str))
        pss_nil)
      (pss_cons (psl 1 nd (pe_lst (pa_cons (pcallB call_isX T.n_isinstance Bt.isinstance (pa_cons (pvl 0) (pa_cons (pglob (v := .ref t.c_NoName) T.m_NoName rfl) pa_nil))) (pa_cons (pcallB call_isX T.n_isinstance Bt.isinstance (pa_cons (pvl 0) (pa_cons (pglob (v := .ref t.c_Always) T.m_Always rfl) pa_nil))) (pa_cons (pcallB call_isX T.n_isinstance Bt.isinstance (pa_cons (pvl 0) (pa_cons (pglob (v := .ref t.c_Never) T.m_Never rfl) pa_nil))) pa_nil)))))
      (pss_cons (psl 1 nd (pe_op op_cat (pvl 1) (pe_lst (pa_cons (pcallB call_isX T.n_isinstance Bt.isinstance (pa_cons (pvl 0) (pa_cons (pglob (v := .ref t.c_NoSentence) T.m_NoSentence rfl) pa_nil))) (pa_cons (pcallB call_isX T.n_isinstance Bt.isinstance (pa_cons (pvl 0) (pa_cons (pglob (v := .ref t.c_TooDeep) T.m_TooDeep rfl) pa_nil))) (pa_cons (pcallB call_isX T.n_isinstance Bt.isinstance (pa_cons (pvl 0) (pa_cons (pglob (v := .ref t.c_NoMinds) T.m_NoMinds rfl) pa_nil))) pa_nil))))))
      (pss_cons (psl 1 nd (pe_op op_cat (pvl 1) (pe_lst (pa_cons (pcallB call_isX T.n_isinstance Bt.isinstance (pa_cons (pvl 0) (pa_cons (pglob (v := .ref t.c_Unlike) T.m_Unlike rfl) pa_nil))) (pa_cons (pcallB call_isX T.n_isinstance Bt.isinstance (pa_cons (pvl 0) (pa_cons (pglob (v := .ref t.c_NoBack) T.m_NoBack rfl) pa_nil))) (pa_cons (pcallB call_isX T.n_isinstance Bt.isinstance (pa_cons (pvl 0) (pa_cons (pglob (v := .ref t.c_NoAgain) T.m_NoAgain rfl) pa_nil))) pa_nil))))))
      (pss_cons (psl 1 nd (pe_op op_cat (pvl 1) (pe_lst (pa_cons (pcallB call_isX T.n_isinstance Bt.isinstance (pa_cons (pvl 0) (pa_cons (pglob (v := .ref t.c_Refused) T.m_Refused rfl) pa_nil))) pa_nil))))
      (pss_cons (ps_if (pt_cmpR op_ne (pcallB (call_sumG rfl) T.n_sum Bt.sum (pa_cons (pe_comp rfl ["_law_one"] [none] (pi_list (pvl 1)) (by kernel_rfl) (fun _ _ _ _ _ _ => (pgl 0 (show List.Nodup (α := PySem.Str) ["_law_one"] by decide +kernel))) (fun _ _ _ _ _ _ => pts_nil) (fun _ _ _ _ _ _ => (pcallT call_int1 T.n_int Bt.int (pa_cons (pvl 0) pa_nil)))) pa_nil)) pe_int (nomark _))
        (pss_one (ps_ret pe_str))
        pss_nil)
      (pss_cons (psl 2 nd (pe_lst (pa_cons pe_str (pa_cons pe_str (pa_cons pe_str (pa_cons pe_str (pa_cons pe_str (pa_cons pe_str (pa_cons pe_str (pa_cons pe_str (pa_cons pe_str (pa_cons pe_str pa_nil))))))))))))
      (pss_one (ps_ret (pe_ix ix_list (pvl 2) (pe_bm PySem.F.plainAttrs_list PySem.F.slot_list_index PySem.F.type_list_index mt_index (pvl 1) (pa_cons pe_bl pa_nil)) (fun _ _ => rfl))))))))))), ?_⟩
  rcases h with ⟨rfl, k⟩ | ⟨a, C, b0, b1, b2, b3, b4, b5, b6, b7, b8, b9, j, rfl, ha, c, hj, hsum, hat, hbe, k⟩
  · exact ⟨_, rfl, rfl, _, rfl, ite2 (fun _ => iteT k) (fun c => absurd (decide_eq_true rfl) c)⟩
  have ty : ∀ {H'}, Same H H' → TyX K H' (.ref a) (.ref C) := fun {H'} s' => .inr ⟨a, _, rfl, rfl, s' _ _ ha, c.x⟩
  have r0 : Same H H := Same.refl H
  refine ⟨_, rfl, rfl, _, rfl, ite2 (fun z => absurd (of_decide_eq_true z) (by intro z; cases z)) (fun _ => ?_)⟩
  refine ⟨_, rfl, _, _, _, _, true, rfl, rfl, ty r0, c.hv, _, rfl, iteF ?_⟩
  refine ⟨_, rfl, _, _, _, _, true, rfl, rfl, ty r0, c.hm, _, rfl, iteF ?_⟩
  refine ⟨_, rfl, _, _, _, _, b0, rfl, rfl, ty r0, c.h0, _, rfl, _, _, _, _, b1, rfl, rfl, ty r0, c.h1, _, rfl, _, _, _, _, b2, rfl, rfl, ty r0, c.h2, lk (by first | exact Nat.le_of_ble_eq_true rfl | simp), fun l1 hl1 => ?_⟩
  have r1 : Same H (upd H l1 (.lst [.bl b0, .bl b1, .bl b2])) := same_upd hl1
  have e1 : (upd H l1 (.lst [.bl b0, .bl b1, .bl b2])) l1 = some (.lst [.bl b0, .bl b1, .bl b2]) := upd_same
  generalize upd H l1 (.lst [.bl b0, .bl b1, .bl b2]) = H1 at r1 e1 ⊢
  refine ⟨_, rfl, _, rfl, _, _, _, _, b3, rfl, rfl, ty r1, c.h3, _, rfl, _, _, _, _, b4, rfl, rfl, ty r1, c.h4, _, rfl, _, _, _, _, b5, rfl, rfl, ty r1, c.h5, lk (by first | exact Nat.le_of_ble_eq_true rfl | simp), fun l2 hl2 => ⟨l1, l2, _, _, rfl, rfl, (same_upd hl2) _ _ e1, upd_same, lk (by first | exact Nat.le_of_ble_eq_true rfl | simp), fun l3 hl3 => ?_⟩⟩
  have r3 := (r1.trans (same_upd (o := .lst [.bl b3, .bl b4, .bl b5]) hl2)).trans (same_upd (o := .lst ([.bl b0, .bl b1, .bl b2] ++ [.bl b3, .bl b4, .bl b5])) hl3)
  have e3 : (upd (upd H1 l2 (.lst [.bl b3, .bl b4, .bl b5])) l3 (.lst ([.bl b0, .bl b1, .bl b2] ++ [.bl b3, .bl b4, .bl b5]))) l3 = some (.lst ([.bl b0, .bl b1, .bl b2] ++ [.bl b3, .bl b4, .bl b5])) := upd_same
  generalize upd (upd H1 l2 (.lst [.bl b3, .bl b4, .bl b5])) l3 (.lst ([.bl b0, .bl b1, .bl b2] ++ [.bl b3, .bl b4, .bl b5])) = H3 at r3 e3 ⊢
  refine ⟨_, rfl, _, rfl, _, _, _, _, b6, rfl, rfl, ty r3, c.h6, _, rfl, _, _, _, _, b7, rfl, rfl, ty r3, c.h7, _, rfl, _, _, _, _, b8, rfl, rfl, ty r3, c.h8, lk (by first | exact Nat.le_of_ble_eq_true rfl | simp), fun l4 hl4 => ⟨l3, l4, _, _, rfl, rfl, (same_upd hl4) _ _ e3, upd_same, lk (by first | exact Nat.le_of_ble_eq_true rfl | simp), fun l5 hl5 => ?_⟩⟩
  have r5 := (r3.trans (same_upd (o := .lst [.bl b6, .bl b7, .bl b8]) hl4)).trans (same_upd (o := .lst (([.bl b0, .bl b1, .bl b2] ++ [.bl b3, .bl b4, .bl b5]) ++ [.bl b6, .bl b7, .bl b8])) hl5)
  have e5 : (upd (upd H3 l4 (.lst [.bl b6, .bl b7, .bl b8])) l5 (.lst (([.bl b0, .bl b1, .bl b2] ++ [.bl b3, .bl b4, .bl b5]) ++ [.bl b6, .bl b7, .bl b8]))) l5 = some (.lst (([.bl b0, .bl b1, .bl b2] ++ [.bl b3, .bl b4, .bl b5]) ++ [.bl b6, .bl b7, .bl b8])) := upd_same
  generalize upd (upd H3 l4 (.lst [.bl b6, .bl b7, .bl b8])) l5 (.lst (([.bl b0, .bl b1, .bl b2] ++ [.bl b3, .bl b4, .bl b5]) ++ [.bl b6, .bl b7, .bl b8])) = H5 at r5 e5 ⊢
  refine ⟨_, rfl, _, rfl, _, _, _, _, b9, rfl, rfl, ty r5, c.h9, lk (by first | exact Nat.le_of_ble_eq_true rfl | simp), fun l6 hl6 => ⟨l5, l6, _, _, rfl, rfl, (same_upd hl6) _ _ e5, upd_same, lk (by first | exact Nat.le_of_ble_eq_true rfl | simp), fun l7 hl7 => ?_⟩⟩
  have r7 := (r5.trans (same_upd (o := .lst [.bl b9]) hl6)).trans (same_upd (o := .lst ((([.bl b0, .bl b1, .bl b2] ++ [.bl b3, .bl b4, .bl b5]) ++ [.bl b6, .bl b7, .bl b8]) ++ [.bl b9])) hl7)
  have e7 : (upd (upd H5 l6 (.lst [.bl b9])) l7 (.lst ((([.bl b0, .bl b1, .bl b2] ++ [.bl b3, .bl b4, .bl b5]) ++ [.bl b6, .bl b7, .bl b8]) ++ [.bl b9]))) l7 = some (.lst ([b0, b1, b2, b3, b4, b5, b6, b7, b8, b9].map V.bl)) := upd_same
  generalize upd (upd H5 l6 (.lst [.bl b9])) l7 (.lst ((([.bl b0, .bl b1, .bl b2] ++ [.bl b3, .bl b4, .bl b5]) ++ [.bl b6, .bl b7, .bl b8]) ++ [.bl b9])) = H7 at r7 e7 ⊢
  have hbl : [b0, b1, b2, b3, b4, b5, b6, b7, b8, b9].length = 10 := rfl
  generalize [b0, b1, b2, b3, b4, b5, b6, b7, b8, b9] = bs at e7 hsum hat hbe hbl
  refine ⟨_, rfl, l7, rfl, ⟨_, SqL.of e7⟩, ?_⟩
  refine comp_list_map (a := l7) (xs := bs.map V.bl) (fun x => match x with | .bl b => .int (if b = true then 1 else 0) | x => x) (lk (by rw [List.length_map]; omega)) (SqL.of e7) (fun x R hx r => ?_) (fun l8 hl8 => ?_)
  · obtain ⟨b, _, rfl⟩ := List.mem_map.mp hx
    exact ⟨trivial, ⟨_, rfl, .inr ⟨_, rfl, r⟩⟩⟩
  have r8 := r7.trans (same_upd (o := .lst ((bs.map V.bl).map fun x => match x with | .bl b => .int (if b = true then 1 else 0) | x => x)) hl8)
  have e8 := (same_upd (o := .lst ((bs.map V.bl).map fun x => match x with | .bl b => .int (if b = true then 1 else 0) | x => x)) hl8) _ _ e7
  refine ⟨l8, bs.map fun b => if b = true then (1 : Int) else 0, rfl, SqL.of (by rw [upd_same, List.map_map, List.map_map]; rfl), ?_⟩
  rw [hsum]
  refine ⟨rfl, _, rfl, ite2 (fun z => absurd z (by rw [decide_eq_true rfl]; decide)) (fun _ => ?_)⟩
  refine ⟨lk (by first | exact Nat.le_of_ble_eq_true rfl | simp), fun l9 hl9 => ?_⟩
  have r9 := same_upd (o := .lst (clsWords.map V.str)) hl9
  refine ⟨_, rfl, _, rfl, .inl ⟨rfl, _, SqL.of (r9 _ _ e8)⟩, l7, _, .bl true, j, rfl, rfl, SqL.of (r9 _ _ e8), rfl, ?_, by rw [List.length_map]; omega, ?_, fun m hm => ?_, ?_⟩
  · rw [List.all_map]
    exact List.all_eq_true.mpr fun _ _ => rfl
  · rw [getD_bls bs (by omega), hat]; rfl
  · rw [getD_bls bs (by omega), hbe m hm]; rfl
  · refine ⟨l9, clsWords.map V.str, _, .str (clsWords.getD j ""), rfl, rfl, SqL.of upd_same, atI_nat ?_, k _ (r8.trans r9)⟩
    rw [List.getElem?_map, List.getD]
    have : j < clsWords.length := hj
    rw [List.getElem?_eq_getElem this]
    rfl
end
end K50

namespace K50
open PySem L2 Mc
/-! ### other names -/
/-- two tuples behind one another -/
theorem catA {K : PySem.W.Frag} {H : Hp} {Q : VK} {a b : Addr} {xs ys : List V} (ha : H a = some (.tup xs)) (hb : H b = some (.tup ys)) (hl : xs.length + ys.length ≤ 1000) (k : ∀ (p : Addr) (H' : Hp), Same H H' → H' p = some (.tup (xs ++ ys)) → Q (.ref p) H') : rCatA K (.ref a) (.ref b) H Q :=
  ⟨a, b, xs, ys, rfl, rfl, SqT.of ha, SqT.of hb, lk hl, fun hx => k b H (Same.refl _) (by rw [hx, List.nil_append]; exact hb), fun _ hy => k a H (Same.refl _) (by rw [hy, List.append_nil]; exact ha), fun _ _ p hp => k p _ (same_upd hp) upd_same⟩
theorem cut_whole {xs : List V} {lo hi : Option Int} (h : Whole xs.length lo hi) : cutV xs lo hi = xs := by
  obtain ⟨h1, h2⟩ := h
  unfold cutV
  rw [h1, h2, List.drop_zero, Nat.sub_zero, List.take_length]
theorem slA {K : PySem.W.Frag} {H : Hp} {Q : VK} {a : Addr} {xs : List V} {lo hi : Option Int} (ha : H a = some (.tup xs)) (k : ∀ (p : Addr) (H' : Hp), Same H H' → H' p = some (.tup (cutV xs lo hi)) → Q (.ref p) H') : rSlA K (.ref a) lo hi H Q :=
  ⟨a, xs, rfl, SqT.of ha, fun hw => k a H (Same.refl _) (by rw [cut_whole hw]; exact ha), fun _ p hp => k p _ (same_upd hp) upd_same⟩
theorem nd_inj {ns : List Str} (h : ns.Nodup) {i j : Nat} (hi : i < ns.length) (hj : j < ns.length) (e : ns[i] = ns[j]) : i = j := by
  have h1 := h.idxOf_getElem i hi
  rw [e, h.idxOf_getElem j hj] at h1
  exact h1.symm
def spOtherN : Sp := fun vs H Q _ => ∃ (p : Addr) (ns : List Str) (mo : Str) (c : Int), vs = [.ref p, .str mo, .int c] ∧ H p = some (.tup (ns.map V.str)) ∧ 2 ≤ ns.length ∧ ns.length ≤ 7 ∧ ns.Nodup ∧ mo ∉ ns ∧ 0 ≤ c ∧
  ∀ (q : Addr) (ms : List Str) (H' : Hp), Same H H' → H' q = some (.tup (ms.map V.str)) → ms.length ≤ 8 → ms ≠ ns → Q (.ref q) H'
section
variable {P : Program} {w : World} {K : PySem.W.Frag} {mg : Str → Option Value} {base : Heap} {t : Adr}
theorem scOtherN : FnScope ["_law_names", "_law_more", "_law_cell", "_law_at", "_law_to", "_law_some"] ["_law_names", "_law_more", "_law_cell"] (defScope s__law_other_names) := ⟨rfl, rfl, rfl, by decide +kernel, rfl, by decide +kernel, by decide +kernel⟩
theorem ok_othern (T : Txt P w K mg t) : FnOk P w K mg base (CX1 P w) 1 t.a__law_other_names t.fd__law_other_names ["_law_names", "_law_more", "_law_cell"] spOtherN := by
  refine T.F__law_other_names.ok1 scOtherN (fun vs H Q E h => by obtain ⟨p, ns, mo, c, rfl, _⟩ := h; rfl) (fun cdv A outer s H vs Q E hr h => ?_)
  obtain ⟨p, ns, mo, c, rfl, hp, h2, h7, hnd, hmo, hc, k⟩ := h
  have nd := scOtherN.nd
  refine ⟨_, (pss_cons (psl 3 nd (pe_op op_mod (pe_op op_fdiv (pvl 2) pe_int) (pcallB call_len_seq T.n_len Bt.len (pa_cons (pvl 0) pa_nil))))
      (pss_cons (ps_if (pt_cmpR op_eq (pe_op op_mod (pvl 2) pe_int) pe_int (nomark _))
        (pss_cons (psl 4 nd (pe_op op_mod (pe_op op_add (pe_op op_add (pvl 3) pe_int) (pe_op op_mod (pe_op op_fdiv (pvl 2) pe_int) (pe_op op_sub (pcallB call_len_seq T.n_len Bt.len (pa_cons (pvl 0) pa_nil)) pe_int))) (pcallB call_len_seq T.n_len Bt.len (pa_cons (pvl 0) pa_nil))))
        (pss_cons (psl 5 nd (pcallT call_list_of T.n_list Bt.list (pa_cons (pvl 0) pa_nil)))
        (pss_cons (ps_asg (pe_ix ix_tup (pvl 0) (pvl 4) (fun _ _ => rfl)) (pg_sub (pvl 5) (pvl 3) set_list))
        (pss_cons (ps_asg (pe_ix ix_tup (pvl 0) (pvl 3) (fun _ _ => rfl)) (pg_sub (pvl 5) (pvl 4) set_list))
        (pss_one (ps_ret (pcallT call_tuple_of T.n_tuple Bt.tuple (pa_cons (pvl 5) pa_nil))))))))
        pss_nil)
      (pss_cons (ps_if (pt_cmpR op_eq (pe_op op_mod (pvl 2) pe_int) pe_int (nomark _))
        (pss_one (ps_ret (pe_op op_catTA (pe_op op_catTA (pe_slice sl_tupA (pvl 0) po_none (po_some (pvl 3))) (pe_tup (pa_cons (pvl 1) pa_nil))) (pe_slice sl_tupA (pvl 0) (po_some (pe_op op_add (pvl 3) pe_int)) po_none))))
        pss_nil)
      (pss_cons (ps_if (pt_cmpR op_eq (pe_op op_mod (pvl 2) pe_int) pe_int (nomark _))
        (pss_one (ps_ret (pe_op op_catTA (pe_slice sl_tupA (pvl 0) po_none (po_some (pvl 3))) (pe_slice sl_tupA (pvl 0) (po_some (pe_op op_add (pvl 3) pe_int)) po_none))))
        pss_nil)
      (pss_one (ps_ret (pe_op op_catTA (pe_op op_catTA (pe_slice sl_tupA (pvl 0) po_none (po_some (pvl 3))) (pe_tup (pa_cons (pvl 1) pa_nil))) (pe_slice sl_tupA (pvl 0) (po_some (pvl 3)) po_none)))))))), ?_⟩
  have el : (ns.map V.str).length = ns.length := List.length_map _
  refine ⟨_, rfl, _, _, rfl, rfl, ⟨by decide, by decide⟩, _, rfl, p, _, rfl, .inr (SqT.of hp), _, _, rfl, rfl, (by rw [el]; show (0 : Int) < (ns.length : Int); omega), ?_⟩
  try dsimp (config := { proj := false, iota := false }) only
  rw [el]
  obtain ⟨i, hi, hil⟩ : ∃ i : Nat, c / 4 % (ns.length : Int) = i ∧ i < ns.length := ⟨(c / 4 % (ns.length : Int)).toNat, by
    have := Int.emod_nonneg (c / 4) (show (ns.length : Int) ≠ 0 by omega)
    omega, by
    have := Int.emod_nonneg (c / 4) (show (ns.length : Int) ≠ 0 by omega)
    have := Int.emod_lt_of_pos (c / 4) (show (0 : Int) < (ns.length : Int) by omega)
    omega⟩
  rw [hi]
  have ixn : ∀ {j : Nat} (hj : j < ns.length), atI (ns.map V.str) (j : Int) = some (V.str ns[j]) := fun {j} hj => by
    refine atI_nat ?_
    rw [List.getElem?_map, List.getElem?_eq_getElem hj]
    rfl
  have e1 : ((i : Int) + 1).toNat = i + 1 := by omega
  have at1 : ∀ {xs : List V}, cutV xs none (some (i : Int)) = xs.take i := fun {xs} => by rw [cutV_to (by omega), Int.toNat_natCast]
  have at2 : ∀ {xs : List V}, cutV xs (some ((i : Int) + 1)) none = xs.drop (i + 1) := fun {xs} => by rw [cutV_from (by omega), e1]
  have at3 : ∀ {xs : List V}, cutV xs (some (i : Int)) none = xs.drop i := fun {xs} => by rw [cutV_from (by omega), Int.toNat_natCast]
  refine ⟨_, rfl, _, _, rfl, rfl, (by show (0 : Int) < 4; decide), rfl, _, rfl, ite2 (fun _ => ?A) (fun _ => ⟨_, rfl, _, _, rfl, rfl, (by show (0 : Int) < 4; decide), rfl, _, rfl, ite2 (fun _ => ?B) (fun _ => ⟨_, rfl, _, _, rfl, rfl, (by show (0 : Int) < 4; decide), rfl, _, rfl, ite2 (fun _ => ?C) (fun _ => ?D)⟩)⟩)⟩
  case A =>
    refine ⟨_, rfl, _, _, rfl, rfl, _, rfl, _, _, rfl, rfl, ⟨by decide, by decide⟩, _, rfl, p, _, rfl, .inr (SqT.of hp), _, _, rfl, rfl, _, _, rfl, rfl, (by rw [el]; show (0 : Int) < (ns.length : Int) - 1; omega), _, _, rfl, rfl, _, rfl, p, _, rfl, .inr (SqT.of hp), _, _, rfl, rfl, (by rw [el]; show (0 : Int) < (ns.length : Int); omega), ?_⟩
    try dsimp (config := { proj := false, iota := false }) only
    rw [el]
    have d0 := Int.emod_nonneg (c / 28) (show (ns.length : Int) - 1 ≠ 0 by omega)
    have d1 := Int.emod_lt_of_pos (c / 28) (show (0 : Int) < (ns.length : Int) - 1 by omega)
    generalize c / 28 % ((ns.length : Int) - 1) = d at d0 d1 ⊢
    obtain ⟨j, hj, hjl, hji⟩ : ∃ j : Nat, ((i : Int) + 1 + d) % (ns.length : Int) = j ∧ j < ns.length ∧ j ≠ i := by
      by_cases hlt : (i : Int) + 1 + d < (ns.length : Int)
      · exact ⟨((i : Int) + 1 + d).toNat, by rw [Int.emod_eq_of_lt (by omega) hlt]; omega, by omega, by omega⟩
      · refine ⟨((i : Int) + 1 + d - ns.length).toNat, ?_, by omega, by omega⟩
        have e : ((i : Int) + 1 + d) % (ns.length : Int) = ((i : Int) + 1 + d - ns.length) % (ns.length : Int) := by rw [Int.sub_emod_right]
        rw [e, Int.emod_eq_of_lt (by omega) (by omega)]
        omega
    rw [hj]
    refine ⟨_, rfl, p, _, rfl, .inr (SqT.of hp), fun l hl => ?_⟩
    have u1 := same_upd (o := .lst (ns.map V.str)) hl
    have hl1 : (upd H l (.lst (ns.map V.str))) l = some (.lst (ns.map V.str)) := upd_same
    generalize upd H l (.lst (ns.map V.str)) = H1 at u1 hl1 ⊢
    have ixl : ∀ {m : Nat} {xs : List V}, m < xs.length → ixN xs.length (m : Int) = some m := fun {m xs} hm => by
      unfold ixN
      rw [if_pos (by omega), if_pos (by omega), Int.toNat_natCast]
    refine ⟨_, rfl, _, rfl, p, _, _, _, rfl, rfl, SqT.of (u1 _ _ hp), ixn hjl, _, rfl, _, rfl, l, _, _, i, rfl, rfl, hl1, ixl (by rw [el]; exact hil), ?_⟩
    have pl1 : (upd H1 l (.lst ((ns.map V.str).set i (.str ns[j])))) p = some (.tup (ns.map V.str)) := by
      rw [upd_ne (ne_of (u1 _ _ hp) hl1 (by intro z; cases z))]
      exact u1 _ _ hp
    refine ⟨_, rfl, _, rfl, p, _, _, _, rfl, rfl, SqT.of pl1, ixn hil, _, rfl, _, rfl, l, _, _, j, rfl, rfl, upd_same, ixl (by rw [List.length_set, el]; exact hjl), ?_⟩
    have em : (((ns.map V.str).set i (.str ns[j])).set j (.str ns[i])) = (((ns.set i ns[j]).set j ns[i])).map V.str := by rw [List.map_set, List.map_set]
    rw [em]
    refine ⟨_, rfl, l, _, rfl, .inl ⟨SqL.of upd_same, fun q hq => ?_⟩⟩
    refine k q ((ns.set i ns[j]).set j ns[i]) _ (fun b o e => ?_) upd_same (by rw [List.length_set, List.length_set]; omega) fun z => ?_
    · have hb1 := u1 _ _ e
      have hbl : b ≠ l := ne_of_none e hl
      have : (upd (upd H1 l (.lst ((ns.map V.str).set i (.str ns[j])))) l (.lst (((ns.set i ns[j]).set j ns[i]).map V.str))) b = some o := by rw [upd_ne hbl, upd_ne hbl]; exact hb1
      exact same_upd hq _ _ this
    · have h1 : ((ns.set i ns[j]).set j ns[i])[i]? = ns[i]? := congrArg (fun zs : List Str => zs[i]?) z
      rw [List.getElem?_set_ne hji, List.getElem?_set_self (by exact hil), List.getElem?_eq_getElem hil] at h1
      have h1 := Option.some.inj h1
      exact hji (nd_inj hnd hjl hil h1)
  case B =>
    refine ⟨_, rfl, _, rfl, _, rfl, slA hp fun p1 H1 s1 h1 => ?_⟩
    rw [at1] at h1
    refine ⟨_, rfl, lk (by first | exact Nat.le_of_ble_eq_true rfl | simp), fun p2 hp2 => ?_⟩
    have u2 := same_upd (o := .tup [.str mo]) hp2
    refine catA (u2 _ _ h1) upd_same (by rw [List.length_take, el]; show min i ns.length + 1 ≤ 1000; omega) fun p3 H3 s3 h3 => ?_
    have s13 := (s1.trans u2).trans s3
    refine ⟨_, rfl, _, rfl, _, _, rfl, rfl, _, rfl, ?_⟩
    delta tNoPart
    refine slA (lo := some ((i : Int) + 1)) (hi := none) (s13 _ _ hp) fun p4 H4 s4 h4 => ?_
    rw [at2] at h4
    refine catA (s4 _ _ h3) h4 (by simp only [List.length_append, List.length_take, List.length_drop, List.length_singleton, el]; omega) fun p5 H5 s5 h5 => ?_
    have em : (ns.map V.str).take i ++ [V.str mo] ++ (ns.map V.str).drop (i + 1) = (ns.take i ++ [mo] ++ ns.drop (i + 1)).map V.str := by rw [List.map_append, List.map_append, List.map_take, List.map_drop]; rfl
    rw [em] at h5
    refine k p5 _ H5 ((s13.trans s4).trans s5) h5 (by simp only [List.length_append, List.length_take, List.length_drop, List.length_singleton]; omega) fun z => hmo ?_
    rw [← z]
    exact List.mem_append_left _ (List.mem_append_right _ (by simp))
  case C =>
    refine ⟨_, rfl, _, rfl, _, rfl, slA hp fun p1 H1 s1 h1 => ?_⟩
    rw [at1] at h1
    refine ⟨_, rfl, _, rfl, _, _, rfl, rfl, _, rfl, ?_⟩
    delta tNoPart
    refine slA (lo := some ((i : Int) + 1)) (hi := none) (s1 _ _ hp) fun p4 H4 s4 h4 => ?_
    rw [at2] at h4
    refine catA (s4 _ _ h1) h4 (by simp only [List.length_take, List.length_drop, el]; omega) fun p5 H5 s5 h5 => ?_
    have em : (ns.map V.str).take i ++ (ns.map V.str).drop (i + 1) = (ns.take i ++ ns.drop (i + 1)).map V.str := by rw [List.map_append, List.map_take, List.map_drop]
    rw [em] at h5
    refine k p5 _ H5 ((s1.trans s4).trans s5) h5 (by simp only [List.length_append, List.length_take, List.length_drop]; omega) fun z => ?_
    have := congrArg List.length z
    simp only [List.length_append, List.length_take, List.length_drop] at this
    omega
  case D =>
    refine ⟨_, rfl, _, rfl, _, rfl, slA hp fun p1 H1 s1 h1 => ?_⟩
    rw [at1] at h1
    refine ⟨_, rfl, lk (by first | exact Nat.le_of_ble_eq_true rfl | simp), fun p2 hp2 => ?_⟩
    have u2 := same_upd (o := .tup [.str mo]) hp2
    refine catA (u2 _ _ h1) upd_same (by rw [List.length_take, el]; show min i ns.length + 1 ≤ 1000; omega) fun p3 H3 s3 h3 => ?_
    have s13 := (s1.trans u2).trans s3
    refine ⟨_, rfl, _, rfl, _, rfl, ?_⟩
    delta tNoPart
    refine slA (lo := some (i : Int)) (hi := none) (s13 _ _ hp) fun p4 H4 s4 h4 => ?_
    rw [at3] at h4
    refine catA (s4 _ _ h3) h4 (by simp only [List.length_append, List.length_take, List.length_drop, List.length_singleton, el]; omega) fun p5 H5 s5 h5 => ?_
    have em : (ns.map V.str).take i ++ [V.str mo] ++ (ns.map V.str).drop i = (ns.take i ++ [mo] ++ ns.drop i).map V.str := by rw [List.map_append, List.map_append, List.map_take, List.map_drop]; rfl
    rw [em] at h5
    refine k p5 _ H5 ((s13.trans s4).trans s5) h5 (by simp only [List.length_append, List.length_take, List.length_drop, List.length_singleton]; omega) fun z => hmo ?_
    rw [← z]
    exact List.mem_append_left _ (List.mem_append_right _ (by simp))
end
end K50

namespace K50
open PySem L2 Mc
/-! ### the law -/
def spLaw (K : PySem.W.Frag) : Sp := fun vs H Q _ => ∃ (a : Addr) (ns : List Int), vs = [.ref a] ∧ SqL K H a (ns.map V.int) ∧ ns.length ≤ 63 ∧ ∀ H', Q (.bl true) H'
/-- what is asked, and what is due -/
def DueAt (H : Hp) (us : List V) (wd : Str) : Prop :=
  (us = [] ∧ wd = "minds") ∨ (∃ nss n r, Paired (PNAt H) us nss ∧ nss = n :: r ∧ (¬ ∀ m ∈ nss, m = n) ∧ wd = "unlike") ∨
  (∃ (p : Addr) (ns : List Str) (ps : List (List Int × Int)) (N : Nat), H p = some (.tup (ns.map V.str)) ∧ Paired (PairAt H p) us ps ∧ 0 < us.length ∧ 0 < N ∧ N ≤ 256 ∧ (∀ x ∈ ps, FitP N x) ∧ wd = "none")
def spAsked : Sp := fun vs H Q _ => ∃ (l : Addr) (us : List V) (b : Bool) (wd : Str), vs = [.ref l, .bl b] ∧ H l = some (.lst us) ∧ us.length ≤ 100 ∧ DueAt H us wd ∧ ∀ H', Same H H' → Q (.str wd) H'
theorem pair_pn {H : Hp} {p : Addr} {ns : List Str} (hp : H p = some (.tup (ns.map V.str))) {v : V} {x : List Int × Int} : PairAt H p v x → PNAt H v ns := fun ⟨q, a, r, h1, h2, h3, _⟩ => ⟨q, a, p, _, _, h1, h2, h3, hp⟩
section
variable {P : Program} {w : World} {K : PySem.W.Frag} {mg : Str → Option Value} {base : Heap} {t : Adr}
theorem scAsked : FnScope ["_law_pairs", "_law_pouring", "_law_caught", "e"] ["_law_pairs", "_law_pouring"] (defScope s__law_asked) := ⟨rfl, rfl, rfl, by decide +kernel, rfl, by decide +kernel, by decide +kernel⟩
theorem ok_asked (T : Txt P w K mg t) : FnOk P w K mg base (CX1 P w) 3 t.a__law_asked t.fd__law_asked ["_law_pairs", "_law_pouring"] spAsked := by
  have G_poured : FnOk P w K mg base (CX1 P w) 2 t.a_poured t.fd_poured ["pairs"] (fun vs H Q E => spPoured t vs H Q E ∨ spPouredR t vs H Q E) := fn_or (ok_poured T) (ok_pouredR T)
  have G_common : FnOk P w K mg base (CX1 P w) 2 t.a_common t.fd_common ["minds"] (fun vs H Q E => spCommon vs H Q E ∨ spCommonR t vs H Q E) := fn_or (ok_common T) (ok_commonR T)
  have G__law_class : FnOk P w K mg base (CX1 P w) 1 t.a__law_class t.fd__law_class ["_law_caught"] (spClass K t) := ok_class T
  refine T.F__law_asked.ok1 scAsked (fun vs H Q E h => by obtain ⟨l, us, b, wd, rfl, _⟩ := h; rfl) (fun cdv A outer s H vs Q E hr h => ?_)
  obtain ⟨l, us, b, wd, rfl, hl, h100, hdue, k⟩ := h
  have nd := scAsked.nd
  refine ⟨_, (pss_cons (psl 2 nd pe_non)
      (pss_cons (ps_try (i := 3) (psxs_one (psx_if (pt_val (pvl 1)) (psxs_one (psx_expr (pcallX G_poured (hr.mono (by first | decide | omega)) T.m_poured T.k_poured T.b_poured (pa_cons (pvl 0) pa_nil)))) (psxs_one (psx_expr (pcallX G_common (hr.mono (by first | decide | omega)) T.m_common T.k_common T.b_common (pa_cons (pe_comp rfl ["_law_pair"] [none] (pi_list (pvl 0)) (by kernel_rfl) (fun _ _ _ _ _ _ => (pgl 0 (show List.Nodup (α := PySem.Str) ["_law_pair"] by decide +kernel))) (fun _ _ _ _ _ _ => pts_nil) (fun _ _ _ _ _ _ => (pe_ix (ix_tupK (K := K)) (pvl 0) pe_int (fun _ _ => rfl)))) pa_nil))))))
        (fun e => (pss_one (psl 2 nd (pvl 3)))) T.m_MindError T.h_MindError nd rfl)
      (pss_one (ps_ret (pcall G__law_class (hr.mono (by first | decide | omega)) T.m__law_class T.k__law_class T.b__law_class never1 (pa_cons (pvl 2) pa_nil)))))), ?_⟩
  refine ⟨_, rfl, _, rfl, ?_⟩
  have minds : ∀ {H1 : Hp} {a : Addr} {H2 : Hp}, Same H H1 → H2 a = some (excO a t.c_NoMinds) → Same H1 H2 → wd = "minds" → spClass K t ([.ref a] ++ []) H2 Q E0 := fun {H1 a H2} s1 ha s2 hw =>
    .inr ⟨a, t.c_NoMinds, false, false, false, false, false, true, false, false, false, false, 5, rfl, ha, ⟨T.x_NoMinds, T.o_NoMinds_NoName, T.o_NoMinds_Always, T.o_NoMinds_Never, T.o_NoMinds_NoSentence, T.o_NoMinds_TooDeep, T.o_NoMinds_NoMinds, T.o_NoMinds_Unlike, T.o_NoMinds_NoBack, T.o_NoMinds_NoAgain, T.o_NoMinds_Refused, T.o_NoMinds_ValueError, T.o_NoMinds_MindError⟩, by decide, by decide, rfl, by decide, fun H3 s3 => by
      have := k H3 ((s1.trans s2).trans s3)
      rw [hw] at this
      exact this⟩
  have unlike : ∀ {H1 : Hp} {a : Addr} {H2 : Hp}, Same H H1 → H2 a = some (excO a t.c_Unlike) → Same H1 H2 → wd = "unlike" → spClass K t ([.ref a] ++ []) H2 Q E0 := fun {H1 a H2} s1 ha s2 hw =>
    .inr ⟨a, t.c_Unlike, false, false, false, false, false, false, true, false, false, false, 6, rfl, ha, ⟨T.x_Unlike, T.o_Unlike_NoName, T.o_Unlike_Always, T.o_Unlike_Never, T.o_Unlike_NoSentence, T.o_Unlike_TooDeep, T.o_Unlike_NoMinds, T.o_Unlike_Unlike, T.o_Unlike_NoBack, T.o_Unlike_NoAgain, T.o_Unlike_Refused, T.o_Unlike_ValueError, T.o_Unlike_MindError⟩, by decide, by decide, rfl, by decide, fun H3 s3 => by
      have := k H3 ((s1.trans s2).trans s3)
      rw [hw] at this
      exact this⟩
  cases b with
  | true =>
    refine iteT ?_
    refine ⟨_, rfl, ?_⟩
    rcases hdue with ⟨rfl, hw⟩ | ⟨nss, n, r, hpn, e, hne, hw⟩ | ⟨p, ns, ps, N, hp, hpp, h0, hN0, hN, hfit, hw⟩
    · refine .inr ⟨l, [], [], rfl, hl, by simp, .nil, .inl ⟨rfl, fun H1 s1 => ?_⟩⟩
      refine ⟨t.c_NoMinds, rfl, T.u_NoMinds, fun a ha => ⟨_, rfl, ?_⟩⟩
      exact ⟨_, rfl, minds s1 upd_same (same_upd ha) hw⟩
    · refine .inr ⟨l, us, nss, rfl, hl, h100, hpn, .inr ⟨n, r, e, hne, fun H1 s1 => ?_⟩⟩
      refine ⟨t.c_Unlike, rfl, T.u_Unlike, fun a ha => ⟨_, rfl, ?_⟩⟩
      exact ⟨_, rfl, unlike s1 upd_same (same_upd ha) hw⟩
    · refine .inl ⟨l, p, ns, us, ps, N, rfl, hl, hp, hpp, h0, h100, hN0, hN, hfit, fun a r m H1 s1 _ _ => ?_⟩
      have := k H1 s1
      rw [hw] at this
      exact ⟨_, rfl, .inl ⟨rfl, this⟩⟩
  | false =>
    refine iteF ?_
    refine ⟨_, rfl, l, rfl, ⟨_, SqL.of hl⟩, ?_⟩
    have nms : ∃ nss, Paired (PNAt H) us nss := by
      rcases hdue with ⟨rfl, _⟩ | ⟨nss, n, r, hpn, _⟩ | ⟨p, ns, ps, N, hp, hpp, hx⟩
      · exact ⟨[], .nil⟩
      · exact ⟨nss, hpn⟩
      · refine ⟨ps.map fun _ => ns, ?_⟩
        clear hl h100 hx
        induction hpp with
        | nil => exact .nil
        | cons r _ ih => exact .cons (pair_pn hp r) ih
    obtain ⟨nss0, hpn0⟩ := nms
    refine comp_list (K := K) (a := l) (xs := us) (fun i ys H' => H' = H ∧ ys.length = i ∧ ∀ (j : Nat) (z : V), ys[j]? = some z → ∃ (q a : Addr) (y : V), us[j]? = some (V.ref q) ∧ H q = some (.tup [V.ref a, y]) ∧ z = V.ref a) ⟨rfl, rfl, fun j z hj => by cases hj⟩ (lk (by omega)) (fun i ys H' ⟨_, e, _⟩ => by omega) (fun i ys H' ⟨e, _⟩ => by subst e; exact SqL.of hl) ?_ ?_
    · rintro i z ys H' hi ⟨rfl, hyl, hpy⟩
      obtain ⟨x, hx, q, a, p, u, z', rfl, hq, ha, hp⟩ := paired_get hpn0 i z hi
      refine ⟨trivial, ?_⟩
      refine ⟨_, rfl, q, _, 0, .ref a, rfl, rfl, SqT.of hq, rfl, rfl, by rw [List.length_append, hyl]; rfl, fun j z hj => ?_⟩
      rcases (by have := (List.getElem?_eq_some_iff.mp hj).1; rw [List.length_append] at this; have : j < ys.length + 1 := this; omega : j < ys.length ∨ j = ys.length) with hlt | rfl
      · rw [List.getElem?_append_left hlt] at hj
        exact hpy j z hj
      · rw [List.getElem?_append_right (Nat.le_refl _), Nat.sub_self] at hj
        have : z = .ref a := (Option.some.inj hj).symm
        exact ⟨q, a, z', by rw [hyl]; exact hi, hq, this⟩
    rintro ys H' ⟨rfl, hyl, hpy⟩ lc hlc
    have u1 := same_upd (o := .lst ys) hlc
    have hlc1 : (upd H' lc (.lst ys)) lc = some (.lst ys) := upd_same
    -- what the minds alone are
    have conv : ∀ {β : Type} {F : V → β → Prop} {G : V → β → Prop} {bs : List β}, Paired F us bs → (∀ (q a : Addr) (y : V) (b : β), H' q = some (.tup [V.ref a, y]) → F (V.ref q) b → G (V.ref a) b) → Paired G ys bs := by
      intro β F G bs hF hG
      have key : ∀ (us ys : List V) (bs : List β), Paired F us bs → ys.length = us.length → (∀ (j : Nat) (z : V), ys[j]? = some z → ∃ (q a : Addr) (y : V), us[j]? = some (V.ref q) ∧ H' q = some (.tup [V.ref a, y]) ∧ z = V.ref a) → Paired G ys bs := by
        intro us ys bs hF
        induction hF generalizing ys with
        | nil =>
          intro hl _
          rw [List.eq_nil_of_length_eq_zero hl]
          exact .nil
        | cons r _ ih =>
          intro hl hj
          cases ys with
          | nil => cases hl
          | cons y0 ys =>
            obtain ⟨q, a, y, e1, e2, e3⟩ := hj 0 y0 rfl
            have e1 := Option.some.inj e1
            subst e1
            subst e3
            exact .cons (hG q a y _ e2 r) (ih ys (by simpa using hl) fun j z h => hj (j + 1) z h)
      exact key us ys bs hF hyl hpy
    generalize upd H' lc (.lst ys) = H1 at u1 hlc1 ⊢
    rcases hdue with ⟨rfl, hw⟩ | ⟨nss, n, r, hpn, e, hne, hw⟩ | ⟨p, ns, ps, N, hp, hpp, h0, hN0, hN, hfit, hw⟩
    · have hy : ys = [] := List.eq_nil_of_length_eq_zero hyl
      subst hy
      refine .inr ⟨lc, [], [], rfl, hlc1, by simp, .nil, .inl ⟨rfl, fun H2 s2 => ?_⟩⟩
      refine ⟨t.c_NoMinds, rfl, T.u_NoMinds, fun a ha => ⟨_, rfl, ?_⟩⟩
      exact ⟨_, rfl, minds (u1.trans s2) upd_same (same_upd ha) hw⟩
    · refine .inr ⟨lc, ys, nss, rfl, hlc1, by omega, conv hpn fun q a y b hq h => ?_, .inr ⟨n, r, e, hne, fun H2 s2 => ?_⟩⟩
      · obtain ⟨q', a', p', u', z', e1, e2, e3, e4⟩ := h
        cases e1
        rw [hq] at e2
        cases e2
        exact ⟨a, p', u', rfl, u1 _ _ e3, u1 _ _ e4⟩
      refine ⟨t.c_Unlike, rfl, T.u_Unlike, fun a ha => ⟨_, rfl, ?_⟩⟩
      exact ⟨_, rfl, unlike (u1.trans s2) upd_same (same_upd ha) hw⟩
    · have hrl : ∀ rs ∈ ps.map Prod.fst, rs.length = N := fun rs hrs => by
        obtain ⟨x, hx, rfl⟩ := List.mem_map.mp hrs
        exact (hfit x hx).1
      have hmv : Paired (fun v x => MindV H1 p v x.1) ys ps := conv hpp fun q a y b hq h => by
        obtain ⟨q', a', r', e1, e2, e3, e4⟩ := h
        cases e1
        rw [hq] at e2
        cases e2
        exact ⟨a, r', rfl, u1 _ _ e3, u1 _ _ e4⟩
      have hmv : Paired (MindV H1 p) ys (ps.map Prod.fst) := by
        clear hrl hfit hpp h0 conv hpy hyl hlc1
        induction hmv with
        | nil => exact .nil
        | cons r _ ih => exact .cons r ih
      refine .inl ⟨lc, p, ns, ys, ps.map Prod.fst, N, rfl, hlc1, u1 _ _ hp, hmv, by omega, by omega, hN, hrl, fun q H2 s2 _ _ => ?_⟩
      have := k H2 (u1.trans s2)
      rw [hw] at this
      exact ⟨_, rfl, .inl ⟨rfl, this⟩⟩
theorem scLaw : FnScope ["_law_script", "_law_many", "_law_some", "_law_names", "_law_pairs", "_law_other", "_law_at", "_law_odd", "_law_spoiled", "_law_pouring"] ["_law_script"] (defScope s_law) := ⟨rfl, rfl, rfl, by decide +kernel, rfl, by decide +kernel, by decide +kernel⟩
theorem ok_law (T : Txt P w K mg t) : FnOk P w K mg base (CX1 P w) 5 t.a_law t.fd_law ["_law_script"] (spLaw K) := by
  have G__law_cell_at : FnOk P w K mg base (CX1 P w) 1 t.a__law_cell_at t.fd__law_cell_at ["_law_script", "_law_k"] (spCell K) := ok_cell T
  have G__law_names_by : FnOk P w K mg base (CX1 P w) 1 t.a__law_names_by t.fd__law_names_by ["_law_cell", "_law_many"] spNames2 := ok_names2 T
  have G__law_pairs_by : FnOk P w K mg base (CX1 P w) 3 t.a__law_pairs_by t.fd__law_pairs_by ["_law_names", "_law_script", "_law_at", "_law_many"] (spPairsBy K) := ok_pairsby T
  have G__law_other_names : FnOk P w K mg base (CX1 P w) 1 t.a__law_other_names t.fd__law_other_names ["_law_names", "_law_more", "_law_cell"] spOtherN := ok_othern T
  have G__law_asked : FnOk P w K mg base (CX1 P w) 3 t.a__law_asked t.fd__law_asked ["_law_pairs", "_law_pouring"] spAsked := ok_asked T
  refine T.F_law.ok1 (k := 4) scLaw (fun vs H Q E h => by obtain ⟨a, ns, rfl, _⟩ := h; rfl) (fun cdv A outer s H vs Q E hr h => ?_)
  obtain ⟨a, ns, rfl, hS, hlen, k⟩ := h
  have nd := scLaw.nd
  refine ⟨_, (pss_cons (psl 1 nd (pe_op op_add pe_int (pe_op op_mod (pcall G__law_cell_at (hr.mono (by first | decide | omega)) T.m__law_cell_at T.k__law_cell_at T.b__law_cell_at never1 (pa_cons (pvl 0) (pa_cons pe_int pa_nil))) pe_int)))
      (pss_cons (psl 2 nd (pcall G__law_names_by (hr.mono (by first | decide | omega)) T.m__law_names_by T.k__law_names_by T.b__law_names_by never1 (pa_cons (pcall G__law_cell_at (hr.mono (by first | decide | omega)) T.m__law_cell_at T.k__law_cell_at T.b__law_cell_at never1 (pa_cons (pvl 0) (pa_cons pe_int pa_nil))) (pa_cons (pe_op op_add (pvl 1) pe_int) pa_nil))))
      (pss_cons (psl 3 nd (pe_slice sl_tup (pvl 2) po_none (po_some (pvl 1))))
      (pss_cons (psl 4 nd (pcall G__law_pairs_by (hr.mono (by first | decide | omega)) T.m__law_pairs_by T.k__law_pairs_by T.b__law_pairs_by never1 (pa_cons (pvl 3) (pa_cons (pvl 0) (pa_cons pe_int (pa_cons (pe_op op_add pe_int (pe_op op_mod (pcall G__law_cell_at (hr.mono (by first | decide | omega)) T.m__law_cell_at T.k__law_cell_at T.b__law_cell_at never1 (pa_cons (pvl 0) (pa_cons pe_int pa_nil))) pe_int)) pa_nil))))))
      (pss_cons (psl 5 nd (pcall G__law_other_names (hr.mono (by first | decide | omega)) T.m__law_other_names T.k__law_other_names T.b__law_other_names never1 (pa_cons (pvl 3) (pa_cons (pe_ix ix_tup (pvl 2) (pvl 1) (fun _ _ => rfl)) (pa_cons (pe_op op_mod (pcall G__law_cell_at (hr.mono (by first | decide | omega)) T.m__law_cell_at T.k__law_cell_at T.b__law_cell_at never1 (pa_cons (pvl 0) (pa_cons pe_int pa_nil))) pe_int) pa_nil)))))
      (pss_cons (psl 6 nd (pe_op op_mod (pcall G__law_cell_at (hr.mono (by first | decide | omega)) T.m__law_cell_at T.k__law_cell_at T.b__law_cell_at never1 (pa_cons (pvl 0) (pa_cons pe_int pa_nil))) (pcallB call_len_seq T.n_len Bt.len (pa_cons (pvl 4) pa_nil))))
      (pss_cons (psl 7 nd (pe_ix ix_list (pcall G__law_pairs_by (hr.mono (by first | decide | omega)) T.m__law_pairs_by T.k__law_pairs_by T.b__law_pairs_by never1 (pa_cons (pvl 5) (pa_cons (pvl 0) (pa_cons pe_int (pa_cons pe_int pa_nil))))) pe_int (fun _ _ => rfl)))
      (pss_cons (psl 8 nd (pe_op op_cat (pe_op op_cat (pe_slice sl_list (pvl 4) po_none (po_some (pvl 6))) (pe_lst (pa_cons (pvl 7) pa_nil))) (pe_slice sl_list (pvl 4) (po_some (pe_op op_add (pvl 6) pe_int)) po_none)))
      (pss_cons (ps_for own1 rfl (pi_list (pe_lst (pa_cons pe_bl (pa_cons pe_bl pa_nil)))) (pgl 9 nd)
        (pss_cons (ps_if (PW.pt (pw_or (pt_cmpR op_ne (pcall G__law_asked (hr.mono (by first | decide | omega)) T.m__law_asked T.k__law_asked T.b__law_asked never1 (pa_cons (pe_lst pa_nil) (pa_cons (pvl 9) pa_nil))) pe_str (nomark _)) (pw_or1 (pt_cmpR op_ne (pcall G__law_asked (hr.mono (by first | decide | omega)) T.m__law_asked T.k__law_asked T.b__law_asked never1 (pa_cons (pvl 8) (pa_cons (pvl 9) pa_nil))) pe_str (nomark _)))))
          (pss_one (ps_ret pe_bl))
          pss_nil)
        (pss_one (ps_if (pt_cmpR op_ne (pcall G__law_asked (hr.mono (by first | decide | omega)) T.m__law_asked T.k__law_asked T.b__law_asked never1 (pa_cons (pvl 4) (pa_cons (pvl 9) pa_nil))) pe_str (nomark _))
          (pss_one (ps_ret pe_bl))
          pss_nil))))
      (pss_one (ps_ret pe_bl))))))))))), ?_⟩
  refine ⟨_, rfl, a, ns, 1, rfl, hS, by decide, _, _, rfl, rfl, (by show (0 : Int) < 6; decide), _, _, rfl, rfl, ?_⟩
  try dsimp (config := { proj := false, iota := false }) only
  obtain ⟨n, hn, hn2, hn7⟩ : ∃ n : Nat, (2 : Int) + ns.getD (1 : Int).toNat 0 % 6 = n ∧ 2 ≤ n ∧ n ≤ 7 := ⟨((2 : Int) + ns.getD (1 : Int).toNat 0 % 6).toNat, by omega, by omega, by omega⟩
  rw [hn]
  refine ⟨_, rfl, a, ns, 0, rfl, hS, by decide, _, rfl, _, _, rfl, rfl, _, (n : Int) + 1, rfl, by omega, by omega, fun p0 some0 H1 s1 hp0 hsl hN => ?_⟩
  have hsl : some0.length = n + 1 := by rw [hsl]; omega
  have el : (some0.map V.str).length = some0.length := List.length_map _
  -- the names
  refine ⟨_, rfl, _, rfl, _, rfl, p0, _, rfl, SqT.of hp0, ?_, fun p hp => ?_⟩
  · rw [el]
    rintro ⟨_, h2⟩
    have : min (n : Int).toNat some0.length = some0.length := by
      have e : HT.sIx some0.length some0.length (some (n : Int)) = min (n : Int).toNat some0.length := by
        show (if (n : Int) < 0 then ((n : Int) + (some0.length : Int)).toNat else min (n : Int).toNat some0.length) = _
        rw [if_neg (by omega)]
      rw [← e]
      exact h2
    omega
  rw [cutV_to (by omega), Int.toNat_natCast, ← List.map_take]
  have u2 := same_upd (o := .tup ((some0.take n).map V.str)) hp
  have hp2 : (upd H1 p (.tup ((some0.take n).map V.str))) p = some (.tup ((some0.take n).map V.str)) := upd_same
  have s02 := s1.trans u2
  have hp02 := u2 _ _ hp0
  generalize upd H1 p (.tup ((some0.take n).map V.str)) = H2 at hp2 s02 hp02 ⊢
  have hnl : (some0.take n).length = n := by rw [List.length_take]; omega
  have hnd : (some0.take n).Nodup := hN.nd.sublist (List.take_sublist _ _)
  have hln : n < some0.length := by omega
  have hmo : some0[n] ∉ some0.take n := fun z => by
    obtain ⟨i, hi, e⟩ := List.mem_iff_getElem.mp z
    rw [List.getElem_take] at e
    have := nd_inj hN.nd (by rw [List.length_take] at hi; omega) hln e
    omega
  have hnN : 2 ^ (some0.take n).length ≤ 256 := pw256 (by omega)
  have hpos : 0 < 2 ^ (some0.take n).length := Nat.two_pow_pos _
  -- the pairs
  refine ⟨_, rfl, _, rfl, _, rfl, a, ns, 2, rfl, s02.seq hS, by decide, _, _, rfl, rfl, (by show (0 : Int) < 5; decide), _, _, rfl, rfl, ?_⟩
  try dsimp (config := { proj := false, iota := false }) only
  obtain ⟨c, hc, hc2, hc6⟩ : ∃ c : Nat, (2 : Int) + ns.getD (2 : Int).toNat 0 % 5 = c ∧ 2 ≤ c ∧ c ≤ 6 := ⟨((2 : Int) + ns.getD (2 : Int).toNat 0 % 5).toNat, by omega, by omega, by omega⟩
  rw [hc]
  refine ⟨p, a, some0.take n, ns, 5, c, rfl, hp2, by omega, s02.seq hS, by decide, by decide, by omega, fun l us ps H3 s3 hl _ hul hpp hgd => ?_⟩
  have s03 := s02.trans s3
  -- other names
  have ixs : atI (some0.map V.str) (n : Int) = some (.str some0[n]) := by
    refine atI_nat ?_
    rw [List.getElem?_map, List.getElem?_eq_getElem hln]
    rfl
  refine ⟨_, rfl, _, rfl, _, rfl, p0, _, _, _, rfl, rfl, SqT.of (s3 _ _ hp02), ixs, _, rfl, a, ns, 3, rfl, s03.seq hS, by decide, _, _, rfl, rfl, (by show (0 : Int) < 2147483647; decide), p, some0.take n, some0[n], _, rfl, s3 _ _ hp2, by omega, by omega, hnd, hmo, (by generalize ns.getD (3 : Int).toNat 0 = u; show 0 ≤ u % 2147483647; omega), fun q ms H4 s4 hq hml hne => ?_⟩
  have s34 := s3.trans s4
  have s04 := s02.trans s34
  have hl4 := s4 _ _ hl
  have hpp4 := Paired.mapP hpp fun _ _ z => PairAt.mono s4 z
  have hlen3 := paired_len hpp4
  -- the place
  refine ⟨_, rfl, a, ns, 4, rfl, s04.seq hS, by decide, _, rfl, l, _, rfl, .inl (SqL.of hl4), _, _, rfl, rfl, (by show (0 : Int) < (us.length : Int); omega), ?_⟩
  try dsimp (config := { proj := false, iota := false }) only
  obtain ⟨i, hi, hil⟩ : ∃ i : Nat, ns.getD (4 : Int).toNat 0 % (us.length : Int) = i ∧ i < us.length := ⟨(ns.getD (4 : Int).toNat 0 % (us.length : Int)).toNat, by
    have := Int.emod_nonneg (ns.getD (4 : Int).toNat 0) (show (us.length : Int) ≠ 0 by omega)
    omega, by
    have := Int.emod_nonneg (ns.getD (4 : Int).toNat 0) (show (us.length : Int) ≠ 0 by omega)
    have := Int.emod_lt_of_pos (ns.getD (4 : Int).toNat 0) (show (0 : Int) < (us.length : Int) by omega)
    omega⟩
  rw [hi]
  -- the odd one
  refine ⟨_, rfl, _, rfl, q, a, ms, ns, 7, 1, rfl, hq, hml, s04.seq hS, by decide, by decide, by decide, fun lo uo po H5 s5 hlo _ huo hpo hgo => ?_⟩
  obtain ⟨z0, hz0⟩ : ∃ z0, uo = [z0] := List.length_eq_one_iff.mp huo
  subst hz0
  obtain ⟨x0, hx0, hpx⟩ := paired_get hpo 0 z0 rfl
  obtain ⟨q0, a0, r0, e0, hq0, ha0, hr0⟩ := hpx
  subst e0
  refine ⟨lo, _, 0, .ref q0, rfl, rfl, SqL.of hlo, rfl, ?_⟩
  have s45 := s4.trans s5
  have hl5 := s5 _ _ hl4
  have hpp5 := Paired.mapP hpp4 fun _ _ z => PairAt.mono s5 z
  have hp5 := s5 _ _ (s34 _ _ hp2)
  have hq5 := s5 _ _ hq
  -- the spoiled row
  refine ⟨_, rfl, _, rfl, _, rfl, l, _, rfl, SqL.of hl5, fun l1 hl1 => ?_⟩
  rw [cutV_to (by omega), Int.toNat_natCast]
  have w1 := same_upd (o := .lst (us.take i)) hl1
  refine ⟨_, rfl, lk (by first | exact Nat.le_of_ble_eq_true rfl | simp), fun l2 hl2 => ?_⟩
  have w2 := same_upd (o := .lst [.ref q0]) hl2
  refine ⟨l1, l2, _, _, rfl, rfl, w2 _ _ upd_same, upd_same, lk (by rw [List.length_take]; show min i us.length + 1 ≤ 1000; omega), fun l3 hl3 => ?_⟩
  have w3 := same_upd (o := .lst (us.take i ++ [.ref q0])) hl3
  have w13 := (w1.trans w2).trans w3
  have hl36 : (upd (upd (upd H5 l1 (.lst (us.take i))) l2 (.lst [.ref q0])) l3 (.lst (us.take i ++ [.ref q0]))) l3 = some (.lst (us.take i ++ [.ref q0])) := upd_same
  generalize upd (upd (upd H5 l1 (.lst (us.take i))) l2 (.lst [.ref q0])) l3 (.lst (us.take i ++ [.ref q0])) = H6 at w13 hl36 ⊢
  refine ⟨_, rfl, _, rfl, _, _, rfl, rfl, _, rfl, l, _, rfl, SqL.of (w13 _ _ hl5), fun l4 hl4' => ?_⟩
  rw [cutV_from (by omega), show ((i : Int) + 1).toNat = i + 1 by omega]
  have w4 := same_upd (o := .lst (us.drop (i + 1))) hl4'
  refine ⟨l3, l4, _, _, rfl, rfl, w4 _ _ hl36, upd_same, lk (by simp only [List.length_append, List.length_take, List.length_drop, List.length_singleton]; omega), fun lsp hlsp => ?_⟩
  have w5 := same_upd (o := .lst (us.take i ++ [.ref q0] ++ us.drop (i + 1))) hlsp
  have s57 := w13.trans (w4.trans w5)
  have hlsp7 : (upd (upd H6 l4 (.lst (us.drop (i + 1)))) lsp (.lst (us.take i ++ [.ref q0] ++ us.drop (i + 1)))) lsp = some (.lst (us.take i ++ [.ref q0] ++ us.drop (i + 1))) := upd_same
  generalize upd (upd H6 l4 (.lst (us.drop (i + 1)))) lsp (.lst (us.take i ++ [.ref q0] ++ us.drop (i + 1))) = H7 at s57 hlsp7 ⊢
  have hl7 := s57 _ _ hl5
  have hpp7 := Paired.mapP hpp5 fun _ _ z => PairAt.mono s57 z
  have hp7 := s57 _ _ hp5
  have hq7 := s57 _ _ hq5
  have hus : us.length = ps.length := hlen3
  -- what is due of each
  have due1 : ∀ {H' : Hp}, Same H7 H' → DueAt H' us "none" := fun {H'} s' => .inr (.inr ⟨p, some0.take n, ps, 2 ^ (some0.take n).length, s' _ _ hp7, Paired.mapP hpp7 fun _ _ z => PairAt.mono s' z, by omega, hpos, hnN, fun x hx => (hgd x hx).fit, rfl⟩)
  have rep : ∀ {us : List V} {ps : List (List Int × Int)}, Paired (PairAt H7 p) us ps → Paired (PNAt H7) us (ps.map fun _ => some0.take n) := fun {us ps} h => by
    induction h with
    | nil => exact .nil
    | cons r _ ih => exact .cons (pair_pn hp7 r) ih
  have hpsp : Paired (PNAt H7) (us.take i ++ [.ref q0] ++ us.drop (i + 1)) (((ps.take i).map fun _ => some0.take n) ++ [ms] ++ (ps.drop (i + 1)).map fun _ => some0.take n) :=
    paired_app (paired_app (rep (paired_take hpp7 _)) (.cons ⟨q0, a0, q, _, _, rfl, s57 _ _ hq0, s57 _ _ ha0, hq7⟩ .nil)) (rep (paired_drop hpp7 _))
  have due2 : ∀ {H' : Hp}, Same H7 H' → DueAt H' (us.take i ++ [.ref q0] ++ us.drop (i + 1)) "unlike" := fun {H'} s' => by
    have hps' := Paired.mapP hpsp fun _ _ z => PNAt.mono s' z
    obtain ⟨nss, hnss⟩ : ∃ nss, nss = ((ps.take i).map fun _ => some0.take n) ++ [ms] ++ (ps.drop (i + 1)).map fun _ => some0.take n := ⟨_, rfl⟩
    have hmem1 : ms ∈ nss := by rw [hnss]; exact List.mem_append_left _ (List.mem_append_right _ (by simp))
    have hmem2 : some0.take n ∈ nss := by
      rw [hnss]
      by_cases h0 : i = 0
      · refine List.mem_append_right _ (List.mem_map.mpr ?_)
        have : 0 < (ps.drop (i + 1)).length := by rw [List.length_drop]; omega
        exact ⟨_, List.getElem_mem this, rfl⟩
      · refine List.mem_append_left _ (List.mem_append_left _ (List.mem_map.mpr ?_))
        have : 0 < (ps.take i).length := by rw [List.length_take]; omega
        exact ⟨_, List.getElem_mem this, rfl⟩
    rw [← hnss] at hps'
    cases hc : nss with
    | nil => rw [hc] at hmem1; cases hmem1
    | cons n0 r0 =>
      refine .inr (.inl ⟨nss, n0, r0, hps', hc, fun z => hne ?_, rfl⟩)
      rw [z ms hmem1, z _ hmem2]
  have hspl : (us.take i ++ [V.ref q0] ++ us.drop (i + 1)).length ≤ 100 := by simp only [List.length_append, List.length_take, List.length_drop, List.length_singleton]; omega
  generalize us.take i ++ [V.ref q0] ++ us.drop (i + 1) = sp at hlsp7 due2 hspl
  -- both ways
  refine ⟨lk (by first | exact Nat.le_of_ble_eq_true rfl | simp), fun lb hlb => ?_⟩
  have w8 := same_upd (o := .lst [.bl true, .bl false]) hlb
  have hlb8 : (upd H7 lb (.lst [.bl true, .bl false])) lb = some (.lst [.bl true, .bl false]) := upd_same
  generalize upd H7 lb (.lst [.bl true, .bl false]) = H8 at w8 hlb8 ⊢
  refine ⟨lb, rfl, ⟨_, SqL.of hlb8⟩, for_list (K := K) (a := lb) (xs := [.bl true, .bl false]) (fun j σ H' => ∃ (o : Option V), σ = [some (.ref a), some (.int n), some (.ref p0), some (.ref p), some (.ref l), some (.ref q), some (.int i), some (.ref q0), some (.ref lsp), o] ∧ Same H8 H')
    ⟨none, rfl, Same.refl _⟩ (fun j σ H' _ ⟨_, _, s'⟩ => SqL.of (s' _ _ hlb8)) ?_ ?_⟩
  · rintro j z σ H9 hj ⟨o, rfl, s9⟩
    obtain ⟨b, rfl⟩ : ∃ b, z = .bl b := by
      rcases j with _ | _ | j
      · exact ⟨true, (Option.some.inj hj).symm⟩
      · exact ⟨false, (Option.some.inj hj).symm⟩
      · cases hj
    have s79 := w8.trans s9
    refine ⟨lk (by first | exact Nat.le_of_ble_eq_true rfl | simp), fun le hle => ?_⟩
    have wA := same_upd (o := .lst []) hle
    refine ⟨_, rfl, le, [], b, "minds", rfl, upd_same, by simp, .inl ⟨rfl, rfl⟩, fun HB sB => ?_⟩
    have s9B := wA.trans sB
    refine ⟨rfl, _, rfl, ite2 (fun c => absurd c (by rw [decide_eq_true rfl]; decide)) (fun _ => ?_)⟩
    refine ⟨_, rfl, _, rfl, lsp, sp, b, "unlike", rfl, (s79.trans s9B) _ _ hlsp7, hspl, due2 (s79.trans s9B), fun HC sC => ?_⟩
    refine ⟨rfl, _, rfl, ite2 (fun c => absurd c (by rw [decide_eq_true rfl]; decide)) (fun _ => ?_)⟩
    have s9C := s9B.trans sC
    refine ⟨_, rfl, _, rfl, l, us, b, "none", rfl, (s79.trans s9C) _ _ hl7, by omega, due1 (s79.trans s9C), fun HD sD => ?_⟩
    exact ⟨rfl, _, rfl, ite2 (fun c => absurd c (by rw [decide_eq_true rfl]; decide)) (fun _ => ⟨_, rfl, (s9.trans s9C).trans sD⟩)⟩
  · rintro σ H9 ⟨o, rfl, s9⟩
    exact k _
end
end K50

namespace K50
open PySem L2
theorem txt_mk {P : Program} {w : World} {K : PySem.W.Frag} {h : Heap} {mg : Str → Option Value} (X : K.In h) (G : h.Ns mainGlobals mg)
    {f0 : Addr} {od0 an0 : Option Addr} {sl0 : Array (Option Value)} {oc0 kV0 dc0 pm0 cd0 ct0 : Value}
    {f1 : Addr} {od1 an1 : Option Addr} {sl1 : Array (Option Value)} {oc1 kV1 dc1 pm1 cd1 ct1 : Value}
    {f2 : Addr} {od2 an2 : Option Addr} {sl2 : Array (Option Value)} {oc2 kV2 dc2 pm2 cd2 ct2 : Value}
    {f3 : Addr} {od3 an3 : Option Addr} {sl3 : Array (Option Value)} {oc3 kV3 dc3 pm3 cd3 ct3 : Value}
    {f4 : Addr} {od4 an4 : Option Addr} {sl4 : Array (Option Value)} {oc4 kV4 dc4 pm4 cd4 ct4 : Value}
    {f5 : Addr} {od5 an5 : Option Addr} {sl5 : Array (Option Value)} {oc5 kV5 dc5 pm5 cd5 ct5 : Value}
    {f6 : Addr} {od6 an6 : Option Addr} {sl6 : Array (Option Value)} {oc6 kV6 dc6 pm6 cd6 ct6 : Value}
    {f7 : Addr} {od7 an7 : Option Addr} {sl7 : Array (Option Value)} {oc7 kV7 dc7 pm7 cd7 ct7 : Value}
    {f8 : Addr} {od8 an8 : Option Addr} {sl8 : Array (Option Value)} {oc8 kV8 dc8 pm8 cd8 ct8 : Value}
    {f9 : Addr} {od9 an9 : Option Addr} {sl9 : Array (Option Value)} {oc9 kV9 dc9 pm9 cd9 ct9 : Value}
    {f10 : Addr} {od10 an10 : Option Addr} {sl10 : Array (Option Value)} {oc10 kV10 dc10 pm10 cd10 ct10 : Value}
    {f11 : Addr} {od11 an11 : Option Addr} {sl11 : Array (Option Value)} {oc11 kV11 dc11 pm11 cd11 ct11 : Value}
    {f12 : Addr} {od12 an12 : Option Addr} {sl12 : Array (Option Value)} {oc12 kV12 dc12 pm12 cd12 ct12 : Value}
    {c_MindError : Addr}
    {c_NoSentence : Addr}
    {c_TooDeep : Addr}
    {c_NoName : Addr}
    {c_Always : Addr}
    {c_Never : Addr}
    {c_NoMinds : Addr}
    {c_Unlike : Addr}
    {c_NoBack : Addr}
    {c_NoAgain : Addr}
    {c_Refused : Addr}
    (n_MindError : PySem.W.nsIn K mainGlobals "MindError" = some (some (.ref c_MindError)))
    (n_NoSentence : PySem.W.nsIn K mainGlobals "NoSentence" = some (some (.ref c_NoSentence)))
    (n_TooDeep : PySem.W.nsIn K mainGlobals "TooDeep" = some (some (.ref c_TooDeep)))
    (n_NoName : PySem.W.nsIn K mainGlobals "NoName" = some (some (.ref c_NoName)))
    (n_Always : PySem.W.nsIn K mainGlobals "Always" = some (some (.ref c_Always)))
    (n_Never : PySem.W.nsIn K mainGlobals "Never" = some (some (.ref c_Never)))
    (n_NoMinds : PySem.W.nsIn K mainGlobals "NoMinds" = some (some (.ref c_NoMinds)))
    (n_Unlike : PySem.W.nsIn K mainGlobals "Unlike" = some (some (.ref c_Unlike)))
    (n_NoBack : PySem.W.nsIn K mainGlobals "NoBack" = some (some (.ref c_NoBack)))
    (n_NoAgain : PySem.W.nsIn K mainGlobals "NoAgain" = some (some (.ref c_NoAgain)))
    (n_Refused : PySem.W.nsIn K mainGlobals "Refused" = some (some (.ref c_Refused)))
    (a0 : PySem.W.nsIn K mainGlobals "less_the_least" = some (some (.ref f0)))
    (l0 : K.lookup f0 = some ⟨oc0, od0, .func (PySem.W.fnOf "less_the_least" "less_the_least" (defArgs s_less_the_least) (defBody s_less_the_least) (defScope s_less_the_least) .none kV0 dc0 pm0 an0 cd0 ct0), sl0⟩)
    (c0 : PySem.W.codeIn K cd0 "less_the_least" = true)
    (k0 : PySem.W.keepIn K (.ref f0) = true)
    (a1 : PySem.W.nsIn K mainGlobals "need_alike" = some (some (.ref f1)))
    (l1 : K.lookup f1 = some ⟨oc1, od1, .func (PySem.W.fnOf "need_alike" "need_alike" (defArgs s_need_alike) (defBody s_need_alike) (defScope s_need_alike) .none kV1 dc1 pm1 an1 cd1 ct1), sl1⟩)
    (c1 : PySem.W.codeIn K cd1 "need_alike" = true)
    (k1 : PySem.W.keepIn K (.ref f1) = true)
    (a2 : PySem.W.nsIn K mainGlobals "poured" = some (some (.ref f2)))
    (l2 : K.lookup f2 = some ⟨oc2, od2, .func (PySem.W.fnOf "poured" "poured" (defArgs s_poured) (defBody s_poured) (defScope s_poured) .none kV2 dc2 pm2 an2 cd2 ct2), sl2⟩)
    (c2 : PySem.W.codeIn K cd2 "poured" = true)
    (k2 : PySem.W.keepIn K (.ref f2) = true)
    (a3 : PySem.W.nsIn K mainGlobals "is_nearest_in_all" = some (some (.ref f3)))
    (l3 : K.lookup f3 = some ⟨oc3, od3, .func (PySem.W.fnOf "is_nearest_in_all" "is_nearest_in_all" (defArgs s_is_nearest_in_all) (defBody s_is_nearest_in_all) (defScope s_is_nearest_in_all) .none kV3 dc3 pm3 an3 cd3 ct3), sl3⟩)
    (c3 : PySem.W.codeIn K cd3 "is_nearest_in_all" = true)
    (k3 : PySem.W.keepIn K (.ref f3) = true)
    (a4 : PySem.W.nsIn K mainGlobals "common" = some (some (.ref f4)))
    (l4 : K.lookup f4 = some ⟨oc4, od4, .func (PySem.W.fnOf "common" "common" (defArgs s_common) (defBody s_common) (defScope s_common) .none kV4 dc4 pm4 an4 cd4 ct4), sl4⟩)
    (c4 : PySem.W.codeIn K cd4 "common" = true)
    (k4 : PySem.W.keepIn K (.ref f4) = true)
    (a5 : PySem.W.nsIn K mainGlobals "_law_cell_at" = some (some (.ref f5)))
    (l5 : K.lookup f5 = some ⟨oc5, od5, .func (PySem.W.fnOf "_law_cell_at" "_law_cell_at" (defArgs s__law_cell_at) (defBody s__law_cell_at) (defScope s__law_cell_at) .none kV5 dc5 pm5 an5 cd5 ct5), sl5⟩)
    (c5 : PySem.W.codeIn K cd5 "_law_cell_at" = true)
    (k5 : PySem.W.keepIn K (.ref f5) = true)
    (a6 : PySem.W.nsIn K mainGlobals "_law_names_by" = some (some (.ref f6)))
    (l6 : K.lookup f6 = some ⟨oc6, od6, .func (PySem.W.fnOf "_law_names_by" "_law_names_by" (defArgs s__law_names_by) (defBody s__law_names_by) (defScope s__law_names_by) .none kV6 dc6 pm6 an6 cd6 ct6), sl6⟩)
    (c6 : PySem.W.codeIn K cd6 "_law_names_by" = true)
    (k6 : PySem.W.keepIn K (.ref f6) = true)
    (a7 : PySem.W.nsIn K mainGlobals "_law_mind_by" = some (some (.ref f7)))
    (l7 : K.lookup f7 = some ⟨oc7, od7, .func (PySem.W.fnOf "_law_mind_by" "_law_mind_by" (defArgs s__law_mind_by) (defBody s__law_mind_by) (defScope s__law_mind_by) .none kV7 dc7 pm7 an7 cd7 ct7), sl7⟩)
    (c7 : PySem.W.codeIn K cd7 "_law_mind_by" = true)
    (k7 : PySem.W.keepIn K (.ref f7) = true)
    (a8 : PySem.W.nsIn K mainGlobals "_law_pairs_by" = some (some (.ref f8)))
    (l8 : K.lookup f8 = some ⟨oc8, od8, .func (PySem.W.fnOf "_law_pairs_by" "_law_pairs_by" (defArgs s__law_pairs_by) (defBody s__law_pairs_by) (defScope s__law_pairs_by) .none kV8 dc8 pm8 an8 cd8 ct8), sl8⟩)
    (c8 : PySem.W.codeIn K cd8 "_law_pairs_by" = true)
    (k8 : PySem.W.keepIn K (.ref f8) = true)
    (a9 : PySem.W.nsIn K mainGlobals "_law_class" = some (some (.ref f9)))
    (l9 : K.lookup f9 = some ⟨oc9, od9, .func (PySem.W.fnOf "_law_class" "_law_class" (defArgs s__law_class) (defBody s__law_class) (defScope s__law_class) .none kV9 dc9 pm9 an9 cd9 ct9), sl9⟩)
    (c9 : PySem.W.codeIn K cd9 "_law_class" = true)
    (k9 : PySem.W.keepIn K (.ref f9) = true)
    (a10 : PySem.W.nsIn K mainGlobals "_law_other_names" = some (some (.ref f10)))
    (l10 : K.lookup f10 = some ⟨oc10, od10, .func (PySem.W.fnOf "_law_other_names" "_law_other_names" (defArgs s__law_other_names) (defBody s__law_other_names) (defScope s__law_other_names) .none kV10 dc10 pm10 an10 cd10 ct10), sl10⟩)
    (c10 : PySem.W.codeIn K cd10 "_law_other_names" = true)
    (k10 : PySem.W.keepIn K (.ref f10) = true)
    (a11 : PySem.W.nsIn K mainGlobals "_law_asked" = some (some (.ref f11)))
    (l11 : K.lookup f11 = some ⟨oc11, od11, .func (PySem.W.fnOf "_law_asked" "_law_asked" (defArgs s__law_asked) (defBody s__law_asked) (defScope s__law_asked) .none kV11 dc11 pm11 an11 cd11 ct11), sl11⟩)
    (c11 : PySem.W.codeIn K cd11 "_law_asked" = true)
    (k11 : PySem.W.keepIn K (.ref f11) = true)
    (a12 : PySem.W.nsIn K mainGlobals "law" = some (some (.ref f12)))
    (l12 : K.lookup f12 = some ⟨oc12, od12, .func (PySem.W.fnOf "law" "law" (defArgs s_law) (defBody s_law) (defScope s_law) .none kV12 dc12 pm12 an12 cd12 ct12), sl12⟩)
    (c12 : PySem.W.codeIn K cd12 "law" = true)
    (k12 : PySem.W.keepIn K (.ref f12) = true)
    (hn : PySem.W.specialIn K (.builtin "object.__class__") "__get__" = some (some (.builtin "getset_descriptor.__get__")))
    (ht : PySem.W.takesIn K (.builtin "object.__class__") = some true)
    (h_MindError : catches K c_MindError = true)
    (xg_NoMinds : PySem.W.findIn K (.ref c_NoMinds) "__getattribute__" = some (some (.builtin "BaseException.__getattribute__")))
    (xh_NoMinds : PySem.W.findIn K (.ref c_NoMinds) "__getattr__" = some none)
    (xa_NoMinds : PySem.W.findIn K (.ref c_NoMinds) "__class__" = some (some (.builtin "object.__class__")))
    (xm_NoMinds : PySem.W.mroIn K c_NoMinds (.type "object") = some true)
    (xB_NoMinds : PySem.W.mroIn K c_NoMinds (.type "BaseException") = some true)
    (xd_NoMinds : PySem.W.hasDictIn K c_NoMinds = true)
    (u_NoMinds : under K c_NoMinds c_MindError = true)
    (e_NoMinds : PySem.W.excIn K c_NoMinds bmV "ValueError.__new__" = true)
    (o_NoMinds_NoName : PySem.W.kitOne K (.ref c_NoMinds) (.ref c_NoName) = some false)
    (o_NoMinds_Always : PySem.W.kitOne K (.ref c_NoMinds) (.ref c_Always) = some false)
    (o_NoMinds_Never : PySem.W.kitOne K (.ref c_NoMinds) (.ref c_Never) = some false)
    (o_NoMinds_ValueError : PySem.W.kitOne K (.ref c_NoMinds) (.type "ValueError") = some true)
    (o_NoMinds_MindError : PySem.W.kitOne K (.ref c_NoMinds) (.ref c_MindError) = some true)
    (o_NoMinds_NoSentence : PySem.W.kitOne K (.ref c_NoMinds) (.ref c_NoSentence) = some false)
    (o_NoMinds_TooDeep : PySem.W.kitOne K (.ref c_NoMinds) (.ref c_TooDeep) = some false)
    (o_NoMinds_NoMinds : PySem.W.kitOne K (.ref c_NoMinds) (.ref c_NoMinds) = some true)
    (o_NoMinds_Unlike : PySem.W.kitOne K (.ref c_NoMinds) (.ref c_Unlike) = some false)
    (o_NoMinds_NoBack : PySem.W.kitOne K (.ref c_NoMinds) (.ref c_NoBack) = some false)
    (o_NoMinds_NoAgain : PySem.W.kitOne K (.ref c_NoMinds) (.ref c_NoAgain) = some false)
    (o_NoMinds_Refused : PySem.W.kitOne K (.ref c_NoMinds) (.ref c_Refused) = some false)
    (xg_Unlike : PySem.W.findIn K (.ref c_Unlike) "__getattribute__" = some (some (.builtin "BaseException.__getattribute__")))
    (xh_Unlike : PySem.W.findIn K (.ref c_Unlike) "__getattr__" = some none)
    (xa_Unlike : PySem.W.findIn K (.ref c_Unlike) "__class__" = some (some (.builtin "object.__class__")))
    (xm_Unlike : PySem.W.mroIn K c_Unlike (.type "object") = some true)
    (xB_Unlike : PySem.W.mroIn K c_Unlike (.type "BaseException") = some true)
    (xd_Unlike : PySem.W.hasDictIn K c_Unlike = true)
    (u_Unlike : under K c_Unlike c_MindError = true)
    (e_Unlike : PySem.W.excIn K c_Unlike bmV "ValueError.__new__" = true)
    (o_Unlike_NoName : PySem.W.kitOne K (.ref c_Unlike) (.ref c_NoName) = some false)
    (o_Unlike_Always : PySem.W.kitOne K (.ref c_Unlike) (.ref c_Always) = some false)
    (o_Unlike_Never : PySem.W.kitOne K (.ref c_Unlike) (.ref c_Never) = some false)
    (o_Unlike_ValueError : PySem.W.kitOne K (.ref c_Unlike) (.type "ValueError") = some true)
    (o_Unlike_MindError : PySem.W.kitOne K (.ref c_Unlike) (.ref c_MindError) = some true)
    (o_Unlike_NoSentence : PySem.W.kitOne K (.ref c_Unlike) (.ref c_NoSentence) = some false)
    (o_Unlike_TooDeep : PySem.W.kitOne K (.ref c_Unlike) (.ref c_TooDeep) = some false)
    (o_Unlike_NoMinds : PySem.W.kitOne K (.ref c_Unlike) (.ref c_NoMinds) = some false)
    (o_Unlike_Unlike : PySem.W.kitOne K (.ref c_Unlike) (.ref c_Unlike) = some true)
    (o_Unlike_NoBack : PySem.W.kitOne K (.ref c_Unlike) (.ref c_NoBack) = some false)
    (o_Unlike_NoAgain : PySem.W.kitOne K (.ref c_Unlike) (.ref c_NoAgain) = some false)
    (o_Unlike_Refused : PySem.W.kitOne K (.ref c_Unlike) (.ref c_Refused) = some false)
    (z_ValueError : PySem.W.nsIn K mainGlobals "ValueError" = some none)
    (z_min : PySem.W.nsIn K mainGlobals "min" = some none)
    (z_tuple : PySem.W.nsIn K mainGlobals "tuple" = some none)
    (z_all : PySem.W.nsIn K mainGlobals "all" = some none)
    (z_range : PySem.W.nsIn K mainGlobals "range" = some none)
    (z_len : PySem.W.nsIn K mainGlobals "len" = some none)
    (z_isinstance : PySem.W.nsIn K mainGlobals "isinstance" = some none)
    (z_sum : PySem.W.nsIn K mainGlobals "sum" = some none)
    (z_list : PySem.W.nsIn K mainGlobals "list" = some none)
    (z_zip : PySem.W.nsIn K mainGlobals "zip" = some none)
    (z_int : PySem.W.nsIn K mainGlobals "int" = some none) : ∃ t : Adr, Txt P w K mg t := by
  have F0 := fun_mk (st := s_less_the_least) l0 c0 k0
  have b0 := F0.binds (ps := ["marks"]) fun _ _ _ _ _ _ us hl => match us, hl with | [_], _ => rfl
  have F1 := fun_mk (st := s_need_alike) l1 c1 k1
  have b1 := F1.binds (ps := ["minds"]) fun _ _ _ _ _ _ us hl => match us, hl with | [_], _ => rfl
  have F2 := fun_mk (st := s_poured) l2 c2 k2
  have b2 := F2.binds (ps := ["pairs"]) fun _ _ _ _ _ _ us hl => match us, hl with | [_], _ => rfl
  have F3 := fun_mk (st := s_is_nearest_in_all) l3 c3 k3
  have b3 := F3.binds (ps := ["minds", "world"]) fun _ _ _ _ _ _ us hl => match us, hl with | [_, _], _ => rfl
  have F4 := fun_mk (st := s_common) l4 c4 k4
  have b4 := F4.binds (ps := ["minds"]) fun _ _ _ _ _ _ us hl => match us, hl with | [_], _ => rfl
  have F5 := fun_mk (st := s__law_cell_at) l5 c5 k5
  have b5 := F5.binds (ps := ["_law_script", "_law_k"]) fun _ _ _ _ _ _ us hl => match us, hl with | [_, _], _ => rfl
  have F6 := fun_mk (st := s__law_names_by) l6 c6 k6
  have b6 := F6.binds (ps := ["_law_cell", "_law_many"]) fun _ _ _ _ _ _ us hl => match us, hl with | [_, _], _ => rfl
  have F7 := fun_mk (st := s__law_mind_by) l7 c7 k7
  have b7 := F7.binds (ps := ["_law_names", "_law_cells", "_law_way"]) fun _ _ _ _ _ _ us hl => match us, hl with | [_, _, _], _ => rfl
  have F8 := fun_mk (st := s__law_pairs_by) l8 c8 k8
  have b8 := F8.binds (ps := ["_law_names", "_law_script", "_law_at", "_law_many"]) fun _ _ _ _ _ _ us hl => match us, hl with | [_, _, _, _], _ => rfl
  have F9 := fun_mk (st := s__law_class) l9 c9 k9
  have b9 := F9.binds (ps := ["_law_caught"]) fun _ _ _ _ _ _ us hl => match us, hl with | [_], _ => rfl
  have F10 := fun_mk (st := s__law_other_names) l10 c10 k10
  have b10 := F10.binds (ps := ["_law_names", "_law_more", "_law_cell"]) fun _ _ _ _ _ _ us hl => match us, hl with | [_, _, _], _ => rfl
  have F11 := fun_mk (st := s__law_asked) l11 c11 k11
  have b11 := F11.binds (ps := ["_law_pairs", "_law_pouring"]) fun _ _ _ _ _ _ us hl => match us, hl with | [_, _], _ => rfl
  have F12 := fun_mk (st := s_law) l12 c12 k12
  have b12 := F12.binds (ps := ["_law_script"]) fun _ _ _ _ _ _ us hl => match us, hl with | [_], _ => rfl
  exact ⟨⟨f0, PySem.W.fnOf "less_the_least" "less_the_least" (defArgs s_less_the_least) (defBody s_less_the_least) (defScope s_less_the_least) .none kV0 dc0 pm0 an0 cd0 ct0, f1, PySem.W.fnOf "need_alike" "need_alike" (defArgs s_need_alike) (defBody s_need_alike) (defScope s_need_alike) .none kV1 dc1 pm1 an1 cd1 ct1, f2, PySem.W.fnOf "poured" "poured" (defArgs s_poured) (defBody s_poured) (defScope s_poured) .none kV2 dc2 pm2 an2 cd2 ct2, f3, PySem.W.fnOf "is_nearest_in_all" "is_nearest_in_all" (defArgs s_is_nearest_in_all) (defBody s_is_nearest_in_all) (defScope s_is_nearest_in_all) .none kV3 dc3 pm3 an3 cd3 ct3, f4, PySem.W.fnOf "common" "common" (defArgs s_common) (defBody s_common) (defScope s_common) .none kV4 dc4 pm4 an4 cd4 ct4, f5, PySem.W.fnOf "_law_cell_at" "_law_cell_at" (defArgs s__law_cell_at) (defBody s__law_cell_at) (defScope s__law_cell_at) .none kV5 dc5 pm5 an5 cd5 ct5, f6, PySem.W.fnOf "_law_names_by" "_law_names_by" (defArgs s__law_names_by) (defBody s__law_names_by) (defScope s__law_names_by) .none kV6 dc6 pm6 an6 cd6 ct6, f7, PySem.W.fnOf "_law_mind_by" "_law_mind_by" (defArgs s__law_mind_by) (defBody s__law_mind_by) (defScope s__law_mind_by) .none kV7 dc7 pm7 an7 cd7 ct7, f8, PySem.W.fnOf "_law_pairs_by" "_law_pairs_by" (defArgs s__law_pairs_by) (defBody s__law_pairs_by) (defScope s__law_pairs_by) .none kV8 dc8 pm8 an8 cd8 ct8, f9, PySem.W.fnOf "_law_class" "_law_class" (defArgs s__law_class) (defBody s__law_class) (defScope s__law_class) .none kV9 dc9 pm9 an9 cd9 ct9, f10, PySem.W.fnOf "_law_other_names" "_law_other_names" (defArgs s__law_other_names) (defBody s__law_other_names) (defScope s__law_other_names) .none kV10 dc10 pm10 an10 cd10 ct10, f11, PySem.W.fnOf "_law_asked" "_law_asked" (defArgs s__law_asked) (defBody s__law_asked) (defScope s__law_asked) .none kV11 dc11 pm11 an11 cd11 ct11, f12, PySem.W.fnOf "law" "law" (defArgs s_law) (defBody s_law) (defScope s_law) .none kV12 dc12 pm12 an12 cd12 ct12, c_MindError, c_NoSentence, c_TooDeep, c_NoName, c_Always, c_Never, c_NoMinds, c_Unlike, c_NoBack, c_NoAgain, c_Refused⟩, ⟨F0, b0, PySem.W.mg_of X G a0, k0, F1, b1, PySem.W.mg_of X G a1, k1, F2, b2, PySem.W.mg_of X G a2, k2, F3, b3, PySem.W.mg_of X G a3, k3, F4, b4, PySem.W.mg_of X G a4, k4, F5, b5, PySem.W.mg_of X G a5, k5, F6, b6, PySem.W.mg_of X G a6, k6, F7, b7, PySem.W.mg_of X G a7, k7, F8, b8, PySem.W.mg_of X G a8, k8, F9, b9, PySem.W.mg_of X G a9, k9, F10, b10, PySem.W.mg_of X G a10, k10, F11, b11, PySem.W.mg_of X G a11, k11, F12, b12, PySem.W.mg_of X G a12, k12, PySem.W.mg_of X G n_MindError, h_MindError, PySem.W.mg_of X G n_NoSentence, PySem.W.mg_of X G n_TooDeep, PySem.W.mg_of X G n_NoName, PySem.W.mg_of X G n_Always, PySem.W.mg_of X G n_Never, PySem.W.mg_of X G n_NoMinds, ⟨xg_NoMinds, xh_NoMinds, xa_NoMinds, hn, ht, xm_NoMinds, xB_NoMinds, xd_NoMinds⟩, u_NoMinds, e_NoMinds, o_NoMinds_NoName, o_NoMinds_Always, o_NoMinds_Never, o_NoMinds_ValueError, o_NoMinds_MindError, o_NoMinds_NoSentence, o_NoMinds_TooDeep, o_NoMinds_NoMinds, o_NoMinds_Unlike, o_NoMinds_NoBack, o_NoMinds_NoAgain, o_NoMinds_Refused, PySem.W.mg_of X G n_Unlike, ⟨xg_Unlike, xh_Unlike, xa_Unlike, hn, ht, xm_Unlike, xB_Unlike, xd_Unlike⟩, u_Unlike, e_Unlike, o_Unlike_NoName, o_Unlike_Always, o_Unlike_Never, o_Unlike_ValueError, o_Unlike_MindError, o_Unlike_NoSentence, o_Unlike_TooDeep, o_Unlike_NoMinds, o_Unlike_Unlike, o_Unlike_NoBack, o_Unlike_NoAgain, o_Unlike_Refused, PySem.W.mg_of X G n_NoBack, PySem.W.mg_of X G n_NoAgain, PySem.W.mg_of X G n_Refused, PySem.W.mg_none_of X G z_ValueError, PySem.W.mg_none_of X G z_min, PySem.W.mg_none_of X G z_tuple, PySem.W.mg_none_of X G z_all, PySem.W.mg_none_of X G z_range, PySem.W.mg_none_of X G z_len, PySem.W.mg_none_of X G z_isinstance, PySem.W.mg_none_of X G z_sum, PySem.W.mg_none_of X G z_list, PySem.W.mg_none_of X G z_zip, PySem.W.mg_none_of X G z_int, fun s u => .of_eq rfl⟩⟩
end K50
open PySem PySem.W PyProof.Rows
set_option maxRecDepth 100000 in
set_option maxHeartbeats 0 in
theorem PySem.Challenge.cw_mindchange_k50_pouring_refused_holds : PySem.Challenge.rw_mindchange_k50_pouring_refused.Holds := by
  w_on; o_law; k_head; (case hw => w_witness2)
  k_fill
  refine L2.walk_ofX (l := PySem.Challenge.rw_mindchange_k50_pouring_refused) (n := 63) (k := 5) (x := "_law_script") (sp := K50.spLaw) rfl (by decide) rfl ⟨rfl, by decide, by decide⟩ (fun w h Y => PySem.W.kIn_of Y) ?F ?S
  case F =>
    intro w mg fa h KX G hmg
    have T : ∃ t, K50.Txt PySem.Challenge.rw_mindchange_k50_pouring_refused.prog w (L2.KOf KX) mg t := by
      dsimp only [L2.KOf]
      refine' K50.txt_mk KX G ?n_MindError ?n_NoSentence ?n_TooDeep ?n_NoName ?n_Always ?n_Never ?n_NoMinds ?n_Unlike ?n_NoBack ?n_NoAgain ?n_Refused ?a0 ?l0 ?c0 ?k0 ?a1 ?l1 ?c1 ?k1 ?a2 ?l2 ?c2 ?k2 ?a3 ?l3 ?c3 ?k3 ?a4 ?l4 ?c4 ?k4 ?a5 ?l5 ?c5 ?k5 ?a6 ?l6 ?c6 ?k6 ?a7 ?l7 ?c7 ?k7 ?a8 ?l8 ?c8 ?k8 ?a9 ?l9 ?c9 ?k9 ?a10 ?l10 ?c10 ?k10 ?a11 ?l11 ?c11 ?k11 ?a12 ?l12 ?c12 ?k12 ?hn ?ht ?h_MindError ?xg_NoMinds ?xh_NoMinds ?xa_NoMinds ?xm_NoMinds ?xB_NoMinds ?xd_NoMinds ?u_NoMinds ?e_NoMinds ?o_NoMinds_NoName ?o_NoMinds_Always ?o_NoMinds_Never ?o_NoMinds_ValueError ?o_NoMinds_MindError ?o_NoMinds_NoSentence ?o_NoMinds_TooDeep ?o_NoMinds_NoMinds ?o_NoMinds_Unlike ?o_NoMinds_NoBack ?o_NoMinds_NoAgain ?o_NoMinds_Refused ?xg_Unlike ?xh_Unlike ?xa_Unlike ?xm_Unlike ?xB_Unlike ?xd_Unlike ?u_Unlike ?e_Unlike ?o_Unlike_NoName ?o_Unlike_Always ?o_Unlike_Never ?o_Unlike_ValueError ?o_Unlike_MindError ?o_Unlike_NoSentence ?o_Unlike_TooDeep ?o_Unlike_NoMinds ?o_Unlike_Unlike ?o_Unlike_NoBack ?o_Unlike_NoAgain ?o_Unlike_Refused ?z_ValueError ?z_min ?z_tuple ?z_all ?z_range ?z_len ?z_isinstance ?z_sum ?z_list ?z_zip ?z_int
      (case n_MindError => k_is)
      (case n_NoSentence => k_is)
      (case n_TooDeep => k_is)
      (case n_NoName => k_is)
      (case n_Always => k_is)
      (case n_Never => k_is)
      (case n_NoMinds => k_is)
      (case n_Unlike => k_is)
      (case n_NoBack => k_is)
      (case n_NoAgain => k_is)
      (case n_Refused => k_is)
      (case a0 => k_is)
      (case l0 => k_is)
      (case c0 => k_is)
      (case k0 => k_is)
      (case a1 => k_is)
      (case l1 => k_is)
      (case c1 => k_is)
      (case k1 => k_is)
      (case a2 => k_is)
      (case l2 => k_is)
      (case c2 => k_is)
      (case k2 => k_is)
      (case a3 => k_is)
      (case l3 => k_is)
      (case c3 => k_is)
      (case k3 => k_is)
      (case a4 => k_is)
      (case l4 => k_is)
      (case c4 => k_is)
      (case k4 => k_is)
      (case a5 => k_is)
      (case l5 => k_is)
      (case c5 => k_is)
      (case k5 => k_is)
      (case a6 => k_is)
      (case l6 => k_is)
      (case c6 => k_is)
      (case k6 => k_is)
      (case a7 => k_is)
      (case l7 => k_is)
      (case c7 => k_is)
      (case k7 => k_is)
      (case a8 => k_is)
      (case l8 => k_is)
      (case c8 => k_is)
      (case k8 => k_is)
      (case a9 => k_is)
      (case l9 => k_is)
      (case c9 => k_is)
      (case k9 => k_is)
      (case a10 => k_is)
      (case l10 => k_is)
      (case c10 => k_is)
      (case k10 => k_is)
      (case a11 => k_is)
      (case l11 => k_is)
      (case c11 => k_is)
      (case k11 => k_is)
      (case a12 => k_is)
      (case l12 => k_is)
      (case c12 => k_is)
      (case k12 => k_is)
      (case hn => k_is)
      (case ht => k_is)
      (case h_MindError => kernel_rfl)
      (case xg_NoMinds => k_is)
      (case xh_NoMinds => k_is)
      (case xa_NoMinds => k_is)
      (case xm_NoMinds => k_is)
      (case xB_NoMinds => k_is)
      (case xd_NoMinds => k_is)
      (case u_NoMinds => kernel_rfl)
      (case e_NoMinds => k_exc)
      (case o_NoMinds_NoName => kernel_rfl)
      (case o_NoMinds_Always => kernel_rfl)
      (case o_NoMinds_Never => kernel_rfl)
      (case o_NoMinds_ValueError => kernel_rfl)
      (case o_NoMinds_MindError => kernel_rfl)
      (case o_NoMinds_NoSentence => kernel_rfl)
      (case o_NoMinds_TooDeep => kernel_rfl)
      (case o_NoMinds_NoMinds => kernel_rfl)
      (case o_NoMinds_Unlike => kernel_rfl)
      (case o_NoMinds_NoBack => kernel_rfl)
      (case o_NoMinds_NoAgain => kernel_rfl)
      (case o_NoMinds_Refused => kernel_rfl)
      (case xg_Unlike => k_is)
      (case xh_Unlike => k_is)
      (case xa_Unlike => k_is)
      (case xm_Unlike => k_is)
      (case xB_Unlike => k_is)
      (case xd_Unlike => k_is)
      (case u_Unlike => kernel_rfl)
      (case e_Unlike => k_exc)
      (case o_Unlike_NoName => kernel_rfl)
      (case o_Unlike_Always => kernel_rfl)
      (case o_Unlike_Never => kernel_rfl)
      (case o_Unlike_ValueError => kernel_rfl)
      (case o_Unlike_MindError => kernel_rfl)
      (case o_Unlike_NoSentence => kernel_rfl)
      (case o_Unlike_TooDeep => kernel_rfl)
      (case o_Unlike_NoMinds => kernel_rfl)
      (case o_Unlike_Unlike => kernel_rfl)
      (case o_Unlike_NoBack => kernel_rfl)
      (case o_Unlike_NoAgain => kernel_rfl)
      (case o_Unlike_Refused => kernel_rfl)
      (case z_ValueError => k_is)
      (case z_min => k_is)
      (case z_tuple => k_is)
      (case z_all => k_is)
      (case z_range => k_is)
      (case z_len => k_is)
      (case z_isinstance => k_is)
      (case z_sum => k_is)
      (case z_list => k_is)
      (case z_zip => k_is)
      (case z_int => k_is)
    obtain ⟨t, T⟩ := T
    have e0 := hmg.symm.trans T.m_law
    cases e0
    refine' ⟨t.fd_law, ?b, fun base kb nb => K50.ok_law T⟩
    exact T.bl
  case S => exact fun K H a ns hl hO hS => ⟨a, ns, rfl, hS, hl, fun _ => rfl⟩
#print axioms PySem.Challenge.cw_mindchange_k50_pouring_refused_holds

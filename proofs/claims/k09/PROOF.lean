import PyProof.Rows.All
import Wide.All
import OpenK.AllK
import Wide.FinOn
import Lean
import PyProof.EqAt
import PyProof.EqKinds
import PyProof.TupleCall
import PySem.Challenge.RW_mindchange_k09_each_bracket_is_needed
set_option Elab.async false
set_option linter.all false
set_option maxRecDepth 100000
set_option maxHeartbeats 8000000
-- CHANGE: your row's module here, as the last of these rows
set_option Elab.async false
set_option linter.all false
set_option maxRecDepth 100000
/-! THE HAND LAYER, for ints, bools, texts, own classes, LISTS and tuples (index, slices, in, append, pop ..), calls, loops. Paste it whole ahead of your own text; what your proof does not reach may be deleted. -/
namespace L2
open PySem PySem.Spec PyProof.Rows

/-- a key: an int or a str -/
abbrev Key := Sum Int Str
def keyIs : Key → Value → Bool
  | .inl k, v => Value.isInt k v
  | .inr x, v => Value.isStrOf x v
def keyH (w : World) : Key → Int
  | .inl k => hashInt k
  | .inr x => hashStr w x
theorem keyIs_shape : ∀ {k : Key} {v : Value}, keyIs k v = true → (∃ i t, k = Sum.inl i ∧ v = Value.int i t) ∨ (∃ x t, k = Sum.inr x ∧ v = Value.str x t)
  | .inl i, v, h => by
    obtain ⟨t, e⟩ := Value.isInt_shape (k := i) (v := v) h
    exact .inl ⟨i, t, rfl, e⟩
  | .inr x, v, h => by
    obtain ⟨t, e⟩ := Value.isStrOf_shape (x := x) (v := v) h
    exact .inr ⟨x, t, rfl, e⟩
theorem keyIs_int (i : Int) (t : Tok) : keyIs (.inl i) (.int i t) = true := by simp [keyIs, Value.isInt]
theorem keyIs_str (x : Str) (t : Tok) : keyIs (.inr x) (.str x t) = true := by simp [keyIs, Value.isStrOf]
theorem key_ll (a b : Int) : decide ((Sum.inl a : Key) = Sum.inl b) = (a == b) := by
  by_cases e : a = b
  · subst e; simp
  · have h : ¬ (Sum.inl a : Key) = Sum.inl b := fun q => e (Sum.inl.inj q)
    rw [decide_eq_false h]
    exact (beq_eq_false_iff_ne.mpr e).symm
theorem key_rr (a b : Str) : decide ((Sum.inr a : Key) = Sum.inr b) = decide (a = b) := by
  by_cases e : a = b
  · subst e; simp
  · have h : ¬ (Sum.inr a : Key) = Sum.inr b := fun q => e (Sum.inr.inj q)
    rw [decide_eq_false h, decide_eq_false e]
theorem key_lr (a : Int) (b : Str) : decide ((Sum.inl a : Key) = Sum.inr b) = false := decide_eq_false (fun q => nomatch q)
theorem key_rl (a : Str) (b : Int) : decide ((Sum.inr a : Key) = Sum.inl b) = false := decide_eq_false (fun q => nomatch q)

def mixKind (prog : Program) (w : World) : PySem.KeyKind prog w Key where
  is := keyIs
  hash := keyH w
  inj := fun v a b ha hb => by
    rcases keyIs_shape ha with ⟨i, t, rfl, rfl⟩ | ⟨x, t, rfl, rfl⟩
    · rcases keyIs_shape hb with ⟨j, u, rfl, e⟩ | ⟨y, u, rfl, e⟩
      · injection e with e1 _; rw [e1]
      · exact nomatch e
    · rcases keyIs_shape hb with ⟨j, u, rfl, e⟩ | ⟨y, u, rfl, e⟩
      · exact nomatch e
      · injection e with e1 _; rw [e1]
  byValue := fun k v h => by
    rcases keyIs_shape h with ⟨i, t, rfl, rfl⟩ | ⟨x, t, rfl, rfl⟩ <;> rfl
  pyHash := fun hv h => by
    rcases keyIs_shape hv with ⟨i, t, rfl, rfl⟩ | ⟨x, t, rfl, rfl⟩
    · exact wpAny_pyHash_int h
    · exact wpAny_pyHash_str h
  eqBool := fun hu hv h => by
    rcases keyIs_shape hu with ⟨i, t, rfl, rfl⟩ | ⟨x, t, rfl, rfl⟩
    · rcases keyIs_shape hv with ⟨j, u, rfl, rfl⟩ | ⟨y, u, rfl, rfl⟩
      · rw [key_ll] at h; exact wpAny_eqBool_int h
      · rw [key_lr] at h; exact SeqAt.EqAt.int_str i t y u _ _ _ _ h
    · rcases keyIs_shape hv with ⟨j, u, rfl, rfl⟩ | ⟨y, u, rfl, rfl⟩
      · rw [key_rl] at h; exact SeqAt.EqAt.str_int x t j u _ _ _ _ h
      · rw [key_rr] at h; exact wpAny_eqBool_str h
  «strs» := fun k x t v h => by
    rcases keyIs_shape h with ⟨i, u, rfl, e⟩ | ⟨y, u, rfl, e⟩
    · exact nomatch e
    · injection e with e1 _
      subst e1
      cases v <;> rfl

theorem mixKind_int (prog : Program) (w : World) (i : Int) (t : Tok) : (mixKind prog w).is (.inl i) (.int i t) = true := keyIs_int i t
theorem mixKind_str (prog : Program) (w : World) (x : Str) (t : Tok) : (mixKind prog w).is (.inr x) (.str x t) = true := keyIs_str x t
end L2

namespace L2
open PySem PySem.Spec PyProof.Rows

/-- a value, without the heap -/
inductive V where
  | non | bl (b : Bool) | int (i : Int) | str (x : Str) | byt (b : Array UInt8) | flt (b : UInt64) | ref (a : Addr) | ty (n : String)
  deriving DecidableEq

def RelV : V → Value → Prop
  | .non, u => u = Value.none
  | .bl b, u => u = Value.bool b
  | .int i, u => ∃ t, u = Value.int i t
  | .str x, u => ∃ t, u = Value.str x t
  | .byt b, u => ∃ t, u = Value.bytes b t
  | .flt b, u => ∃ t, u = Value.float b t
  | .ref a, u => u = Value.ref a
  | .ty n, u => u = Value.type n

abbrev Vals : List V → List Value → Prop := Paired RelV
theorem Vals.length {xs : List V} {us : List Value} (r : Vals xs us) : xs.length = us.length := Paired.length r
theorem Vals.get : ∀ {xs : List V} {us : List Value} {i : Nat} {x : V}, Vals xs us → xs[i]? = some x → ∃ u, us[i]? = some u ∧ RelV x u
  | _, _, _, _, .nil, e => by simp at e
  | _, _, 0, _, .cons r _, e => by simp at e; subst e; exact ⟨_, rfl, r⟩
  | _, _, i + 1, x, .cons _ t, e => by
    obtain ⟨u, h1, h2⟩ := Vals.get (i := i) (x := x) t (by simpa using e)
    exact ⟨u, by simpa using h1, h2⟩
theorem Vals.set {x : V} {u : Value} (r : RelV x u) : ∀ {xs : List V} {us : List Value} (i : Nat), Vals xs us → Vals (xs.set i x) (us.set i u)
  | _, _, _, .nil => .nil
  | _, _, 0, .cons _ t => .cons r t
  | _, _, i + 1, .cons q t => .cons q (Vals.set r i t)
theorem Vals.append : ∀ {xs ys : List V} {us ws : List Value}, Vals xs us → Vals ys ws → Vals (xs ++ ys) (us ++ ws)
  | _, _, _, _, .nil, s => s
  | _, _, _, _, .cons r t, s => .cons r (Vals.append t s)
theorem Vals.take : ∀ {xs : List V} {us : List Value} (n : Nat), Vals xs us → Vals (xs.take n) (us.take n)
  | _, _, 0, _ => .nil
  | _, _, _ + 1, .nil => .nil
  | _, _, n + 1, .cons r t => .cons r (Vals.take n t)
theorem Vals.drop : ∀ {xs : List V} {us : List Value} (n : Nat), Vals xs us → Vals (xs.drop n) (us.drop n)
  | _, _, 0, r => r
  | _, _, _ + 1, .nil => .nil
  | _, _, n + 1, .cons _ t => Vals.drop n t
theorem Vals.none_of : ∀ {xs : List V} {us : List Value} {i : Nat}, Vals xs us → xs[i]? = none → us[i]? = none := fun {xs us i} r e => by
  have h1 := r.length
  have h2 : xs.length ≤ i := List.getElem?_eq_none_iff.mp e
  exact List.getElem?_eq_none_iff.mpr (by omega)

def RelO : Option V → Option Value → Prop
  | some v, some u => RelV v u
  | none, none => True
  | _, _ => False
def KV {κ : Type} : List (κ × V) → List (κ × Value) → Prop := Paired fun (p : κ × V) (q : κ × Value) => p.1 = q.1 ∧ RelV p.2 q.2

/-- a key of a dict (00_mix): an int or a text -/
def kV : Key → V
  | .inl i => .int i
  | .inr x => .str x

/-- what stands at a tracked address -/
inductive HO where
  /-- a list -/
  | lst (xs : List V)
  /-- a tuple (never changes) -/
  | tup (xs : List V)
  /-- a dict whose keys are ints and texts; one whose keys are tuples of ints and texts (the empty one is both) -/
  | dK (kvs : List (Key × V)) | dT (kvs : List (List Key × V))
  /-- a set of ints: its members, its size -/
  | set (S : Int → Bool) (n : Nat)
  /-- an instance of the class at C, its dict at dx, its attributes -/
  | ins (C dx : Addr) (fs : List (Str × V))
  /-- the dict of the instance at x -/
  | own (x : Addr)
  /-- the dict of an exception -/
  | xd (fs : List (Str × V))
  /-- a bound method, f of x -/
  | met (f x : Addr)
  /-- a range object lo, lo + 1, .. below hi -/
  | rng (lo hi : Int)
  /-- a thing that is known to the object (the script; a dict while a loop walks it): read, never written while it is so -/
  | frz (o : Obj) (u : HO)
  /-- a code object's table -/
  | tbl (ps : Array Value)
  /-- any other thing, by what is true of its one object (a def of one's own: SetO a S n := HO.ext fun h => ..) -/
  | ext (φ : Heap → Prop)

abbrev Hp := Addr → Option HO
def upd (H : Hp) (a : Addr) (o : HO) : Hp := fun b => if b = a then some o else H b
theorem upd_same {H : Hp} {a : Addr} {o : HO} : upd H a o a = some o := by unfold upd; rw [if_pos rfl]
theorem upd_ne {H : Hp} {a b : Addr} {o : HO} (h : b ≠ a) : upd H a o b = H b := by unfold upd; rw [if_neg h]
theorem upd_upd {H : Hp} {a : Addr} {o u : HO} : upd (upd H a o) a u = upd H a u := by
  funext b; unfold upd; split <;> rfl
/-- two objects of different content stand apart -/
theorem ne_of {H : Hp} {a b : Addr} {o u : HO} (h : H a = some o) (h' : H b = some u) (d : o ≠ u) : a ≠ b := by
  intro e; subst e; rw [h] at h'; exact d (Option.some.inj h')
theorem ne_of_none {H : Hp} {a b : Addr} {o : HO} (h : H a = some o) (h' : H b = none) : a ≠ b := by
  intro e; subst e; rw [h] at h'; cases h'

/-- a tuple without a dict of its own -/
def IsTupP (h : Heap) (a : Addr) (its : Array Value) : Prop := ∃ o, h.get? a = some o ∧ o.cls = .type "tuple" ∧ ∃ n, (o.data, o.dict) = (Data.seq its n, none)
theorem IsTupP.tup {h : Heap} {a : Addr} {its : Array Value} (x : IsTupP h a its) : IsTup h a its := let ⟨o, e, c, n, d⟩ := x; ⟨o, e, c, n, congrArg Prod.fst d⟩
theorem IsTupP.new (h : Heap) (its : Array Value) : IsTupP (h.push { cls := .type "tuple", data := .seq its }) h.objs.size its := ⟨_, Heap.get?_push_size _ rfl, rfl, _, rfl⟩
section
variable (P : Program) (w : World)
def ObjOk (H : Hp) (h : Heap) (a : Addr) : HO → Prop
  | .lst xs => xs.length ≤ sizeLine ∧ ∃ (its : List Value) (n : Nat), Vals xs its ∧ h.get? a = some { cls := .type "list", data := .seq its.toArray n }
  | .tup xs => xs.length ≤ sizeLine ∧ ∃ its : List Value, Vals xs its ∧ IsTupP h a its.toArray
  | .dK kvs => kvs.length ≤ sizeLine ∧ (a == sysModules) = false ∧ ∃ vs, KV kvs vs ∧ h.DictOf (mixKind P w) a vs
  | .dT kvs => kvs.length ≤ sizeLine ∧ (a == sysModules) = false ∧ ∃ xs : List (List Key × Addr × Value),
      Paired (fun (p : List Key × V) (q : List Key × Addr × Value) => p.1 = q.1 ∧ H q.2.1 = some (.tup (p.1.map kV)) ∧ RelV p.2 q.2.2) kvs xs ∧
      ∃ o es ep, h.get? a = some o ∧ o.ExactDict ∧ o.data = .dict es ep ∧ es.toList = xs.map (entryOfKey (tupleKind (mixKind P w))) ∧ (xs.map (·.1)).Nodup
  | .set S n => h.SetOf (intKind P w) a S n
  | .ins C dx fs => H dx = some (.own a) ∧ fs.length ≤ 1000 ∧ dx ≠ a ∧ h.get? a = some (PySem.W.instObj C dx) ∧
      ∃ mA, h.Ns1 dx mA ∧ (∀ f, RelO (fs.lookup f) (mA f)) ∧ PySem.Within mA (fs.map (·.1))
  | .own _ => ∃ o, h.get? a = some o
  | .xd fs => ∃ mA, h.Ns1 a mA ∧ ∀ f, RelO (fs.lookup f) (mA f)
  | .rng lo hi => ∃ t u v, h.get? a = some { cls := .type "range", data := .fields #[.int lo t, .int hi u, .int 1 v] }
  | .frz o u => h.get? a = some o ∧ ObjOk H h a u
  | .tbl ps => h.get? a = some { cls := .none, data := .fields ps }
  | .met f x => h.get? a = some (PySem.W.methodObj (.ref f) (.ref x))
  | .ext φ => φ h ∧ (∃ o, h.get? a = some o) ∧ ∀ h1 h2 : Heap, φ h1 → (∀ o, h1.get? a = some o → h2.get? a = some o) → φ h2
/-- the abstract heap is held -/
def HOk (H : Hp) (h : Heap) : Prop := ∀ a o, H a = some o → ObjOk P w H h a o
end

section
variable {P : Program} {w : World} {H H' : Hp} {h h' : Heap} {a : Addr} {o : HO}
theorem ObjOk.lt (x : ObjOk P w H h a o) : a < h.objs.size := by
  cases o with
  | lst xs => obtain ⟨_, _, _, _, e⟩ := x; exact Heap.lt_size e
  | tup xs => obtain ⟨_, _, _, p⟩ := x; exact p.tup.lt
  | dK kvs => obtain ⟨_, _, _, _, o, _, _, e, _⟩ := x; exact Heap.lt_size e
  | dT kvs => obtain ⟨_, _, _, _, o, _, _, e, _⟩ := x; exact Heap.lt_size e
  | set S n => obtain ⟨o, _, _, _, e, _⟩ := x; exact Heap.lt_size e
  | ins C dx fs => obtain ⟨_, _, _, e, _⟩ := x; exact Heap.lt_size e
  | own y => obtain ⟨_, e⟩ := x; exact Heap.lt_size e
  | xd fs => obtain ⟨_, ⟨_, _, _, e, _⟩, _⟩ := x; exact Heap.lt_size e
  | rng lo hi => obtain ⟨_, _, _, e⟩ := x; exact Heap.lt_size e
  | frz ob u => obtain ⟨e, _⟩ := x; exact Heap.lt_size e
  | tbl ps => exact Heap.lt_size (show h.get? a = some _ from x)
  | met f y => exact Heap.lt_size (show h.get? a = some _ from x)
  | ext φ => obtain ⟨_, ⟨_, e⟩, _⟩ := x; exact Heap.lt_size e
theorem Paired.mapP {α β : Type} {F G : α → β → Prop} : ∀ {l₁ : List α} {l₂ : List β}, Paired F l₁ l₂ → (∀ a b, F a b → G a b) → Paired G l₁ l₂
  | _, _, .nil, _ => .nil
  | _, _, .cons r t, f => .cons (f _ _ r) (Paired.mapP t f)
/-- what an object's description leans on: its own object, its own dict, the tuples -/
theorem ObjOk.stay (x : ObjOk P w H h a o) (k : ∀ b u, (b = a ∨ H b = some (.own a)) → h.get? b = some u → h'.get? b = some u)
    (ho : ∀ b, H b = some (.own a) → H' b = some (.own a)) (ht : ∀ b xs, H b = some (.tup xs) → H' b = some (.tup xs)) : ObjOk P w H' h' a o := by
  induction o with
  | lst xs => obtain ⟨z, its, n, r, e⟩ := x; exact ⟨z, its, n, r, k _ _ (.inl rfl) e⟩
  | tup xs => obtain ⟨z, its, r, ob, e, c⟩ := x; exact ⟨z, its, r, ob, k _ _ (.inl rfl) e, c⟩
  | dK kvs => obtain ⟨z, y, vs, r, ob, es, ep, e, c⟩ := x; exact ⟨z, y, vs, r, ob, es, ep, k _ _ (.inl rfl) e, c⟩
  | dT kvs =>
    obtain ⟨z, y, xs, r, ob, es, ep, e, c⟩ := x
    exact ⟨z, y, xs, Paired.mapP r fun p q z => ⟨z.1, ht _ _ z.2.1, z.2.2⟩, ob, es, ep, k _ _ (.inl rfl) e, c⟩
  | set S n => obtain ⟨ob, es, ep, t, e, c⟩ := x; exact ⟨ob, es, ep, t, k _ _ (.inl rfl) e, c⟩
  | ins C dx fs =>
    obtain ⟨d, z, ne, e, mA, ⟨od, es, ep, e2, c⟩, r⟩ := x
    exact ⟨ho _ d, z, ne, k _ _ (.inl rfl) e, mA, ⟨od, es, ep, k _ _ (.inr d) e2, c⟩, r⟩
  | own y => obtain ⟨ob, e⟩ := x; exact ⟨ob, k _ _ (.inl rfl) e⟩
  | xd fs => obtain ⟨mA, ⟨od, es, ep, e, c⟩, r⟩ := x; exact ⟨mA, ⟨od, es, ep, k _ _ (.inl rfl) e, c⟩, r⟩
  | rng lo hi => obtain ⟨t, u, v, e⟩ := x; exact ⟨t, u, v, k _ _ (.inl rfl) e⟩
  | frz ob u ih => obtain ⟨e, q⟩ := x; exact ⟨k _ _ (.inl rfl) e, ih q⟩
  | tbl ps =>
    have e : h.get? a = some { cls := .none, data := .fields ps } := x
    show h'.get? a = some { cls := .none, data := .fields ps }
    exact k a _ (.inl rfl) e
  | met f y =>
    have e : h.get? a = some (PySem.W.methodObj (.ref f) (.ref y)) := x
    show h'.get? a = some (PySem.W.methodObj (.ref f) (.ref y))
    exact k a _ (.inl rfl) e
  | ext φ => obtain ⟨p, ⟨o, e⟩, st⟩ := x; exact ⟨st _ _ p fun o q => k _ _ (.inl rfl) q, ⟨o, k _ _ (.inl rfl) e⟩, st⟩
theorem HOk.lt (x : HOk P w H h) (e : H a = some o) : a < h.objs.size := (x a o e).lt
theorem HOk.fresh (x : HOk P w H h) (e : h.objs.size ≤ a) : H a = none := by
  cases q : H a with
  | none => rfl
  | some u => exact absurd (Nat.lt_of_lt_of_le (x.lt q) e) (Nat.lt_irrefl _)
/-- every object of the heap is kept -/
theorem HOk.kept (x : HOk P w H h) (k : ∀ b u, h.get? b = some u → h'.get? b = some u) : HOk P w H h' := fun a o e =>
  (x a o e).stay (fun b u _ q => k b u q) (fun _ q => q) fun _ _ q => q
/-- a new object is laid and tracked -/
theorem HOk.laid (x : HOk P w H h) (k : ∀ b u, h.get? b = some u → h'.get? b = some u) (hp : h.objs.size ≤ a) (new : ObjOk P w (upd H a o) h' a o) : HOk P w (upd H a o) h' := fun b u e => by
  have hn := x.fresh hp
  by_cases hb : b = a
  · subst hb; rw [upd_same] at e; cases e; exact new
  · rw [upd_ne hb] at e
    exact (x b u e).stay (fun c v _ q => k c v q) (fun c q => by rw [upd_ne (ne_of_none q hn)]; exact q) fun c xs q => by rw [upd_ne (ne_of_none q hn)]; exact q
end

/-- what may be read as u: it is u, or a known u -/
def Rd (H : Hp) (a : Addr) (u : HO) : Prop := H a = some u ∨ ∃ o, H a = some (.frz o u)
theorem Rd.of {H : Hp} {a : Addr} {u : HO} (h : H a = some u) : Rd H a u := .inl h
theorem Rd.ok {P : Program} {w : World} {H : Hp} {h : Heap} {a : Addr} {u : HO} (r : Rd H a u) (x : HOk P w H h) : ObjOk P w H h a u := by
  rcases r with r | ⟨o, r⟩
  · exact x a u r
  · obtain ⟨_, q⟩ := x a _ r
    exact q
/-- what may be written -/
def Mut : Option HO → Prop
  | some (.lst _) => True
  | some (.dK _) => True
  | some (.dT _) => True
  | some (.set _ _) => True
  | some (.ins _ _ _) => True
  | some (.ext _) => True
  | _ => False
section
variable {P : Program} {w : World} {H : Hp} {h h' : Heap} {x e : Addr} {o' : HO}
/-- the object at e is changed: x itself, or the dict of the instance x -/
theorem HOk.write (ok : HOk P w H h) (mu : Mut (H x)) (he : e = x ∨ H e = some (.own x)) (k : ∀ b u, b ≠ e → h.get? b = some u → h'.get? b = some u) (heo : ∃ u, h'.get? e = some u)
    (new : ObjOk P w (upd H x o') h' x o') : HOk P w (upd H x o') h' := fun b u q => by
  have nown : ∀ c y, H c = some (.own y) → c ≠ x := fun c y r z => by subst z; rw [r] at mu; exact mu
  have ntup : ∀ c xs, H c = some (.tup xs) → c ≠ x := fun c xs r z => by subst z; rw [r] at mu; exact mu
  by_cases hb : b = x
  · subst hb; rw [upd_same] at q; cases q; exact new
  · rw [upd_ne hb] at q
    by_cases hbe : b = e
    · have q' : H b = some (.own x) := by
        rcases he with z | z
        · exact absurd (hbe.trans z) hb
        · rw [hbe]; exact z
      rw [q] at q'; cases q'
      obtain ⟨v, hv⟩ := heo
      exact ⟨v, by rw [hbe]; exact hv⟩
    · refine (ok b u q).stay (fun c v hc r => k c v ?_ r) (fun c r => by rw [upd_ne (nown c b r)]; exact r) fun c xs r => by rw [upd_ne (ntup c xs r)]; exact r
      rcases hc with rfl | hc
      · exact hbe
      · rintro rfl
        rcases he with z | z
        · exact nown c b hc z
        · rw [hc] at z; cases z; exact hb rfl
end

/-! ### kept unless tracked; of the frames at fs (the callers') the slots may change (an exception that passes writes there); of the records at ex (iterators) nothing is said -/
structure Un (fs ex : List Addr) (H H' : Hp) (h h' : Heap) : Prop where
  keep : ∀ b o, h.get? b = some o → H b = none → b ∉ fs → b ∉ ex → h'.get? b = some o
  slot : ∀ b o, h.get? b = some o → H b = none → b ∈ fs → b ∉ ex → ∃ sl, h'.get? b = some { o with slots := sl }
  free : ∀ b o, h.get? b = some o → H b = none → b ∉ ex → H' b = none
  there : ∀ b o, h.get? b = some o → b ∉ ex → ∃ o', h'.get? b = some o'
  tups : ∀ b xs, H b = some (.tup xs) → H' b = some (.tup xs)
  frzs : ∀ b o u, H b = some (.frz o u) → H' b = some (.frz o u)
  tbls : ∀ b ps, H b = some (.tbl ps) → ∃ more, H' b = some (.tbl (ps ++ more))
section
variable {fs fs' ex ex' : List Addr} {H H1 H2 : Hp} {h h1 h2 h' : Heap} {a x e : Addr} {o : HO}
theorem Un.any (u : Un fs ex H H1 h h1) {b : Addr} {ob : Obj} (q : h.get? b = some ob) (n : H b = none) (hx : b ∉ ex) : ∃ sl, h1.get? b = some { ob with slots := sl } := by
  by_cases hb : b ∈ fs
  · exact u.slot b ob q n hb hx
  · exact ⟨ob.slots, u.keep b ob q n hb hx⟩
theorem Un.trans (a : Un fs ex H H1 h h1) (b : Un fs ex H1 H2 h1 h2) : Un fs ex H H2 h h2 where
  keep := fun c ob q n hc hx => b.keep c ob (a.keep c ob q n hc hx) (a.free c ob q n hx) hc hx
  slot := fun c ob q n hc hx => by
    obtain ⟨sl, e1⟩ := a.slot c ob q n hc hx
    obtain ⟨sl', e2⟩ := b.slot c _ e1 (a.free c ob q n hx) hc hx
    exact ⟨sl', e2⟩
  free := fun c ob q n hx => by
    obtain ⟨o', e1⟩ := a.there c ob q hx
    exact b.free c o' e1 (a.free c ob q n hx) hx
  there := fun c ob q hx => by
    obtain ⟨o', e1⟩ := a.there c ob q hx
    exact b.there c o' e1 hx
  tups := fun c xs q => b.tups c xs (a.tups c xs q)
  frzs := fun c ob xs q => b.frzs c ob xs (a.frzs c ob xs q)
  tbls := fun c ps q => by
    obtain ⟨m1, e1⟩ := a.tbls c ps q
    obtain ⟨m2, e2⟩ := b.tbls c _ e1
    exact ⟨m1 ++ m2, by rw [e2, Array.append_assoc]⟩
theorem Un.kept (k : ∀ b u, h.get? b = some u → h'.get? b = some u) : Un fs ex H H h h' :=
  ⟨fun b ob q _ _ _ => k b ob q, fun b ob q _ _ _ => ⟨ob.slots, k b ob q⟩, fun _ _ _ n _ => n, fun b ob q _ => ⟨ob, k b ob q⟩, fun _ _ q => q, fun _ _ _ q => q, fun _ ps q => ⟨#[], by rw [q]; simp⟩⟩
theorem Un.refl : Un fs ex H H h h := Un.kept fun _ _ q => q
theorem Un.laid (k : ∀ b u, h.get? b = some u → h'.get? b = some u) (hp : h.objs.size ≤ a) (hn : H a = none) : Un fs ex H (upd H a o) h h' where
  keep := fun b u q _ _ _ => k b u q
  slot := fun b u q _ _ _ => ⟨u.slots, k b u q⟩
  free := fun b u q n _ => by rw [upd_ne (Nat.ne_of_lt (Nat.lt_of_lt_of_le (Heap.lt_size q) hp))]; exact n
  there := fun b u q _ => ⟨u, k b u q⟩
  tups := fun b xs q => by rw [upd_ne (ne_of_none q hn)]; exact q
  frzs := fun b u xs q => by rw [upd_ne (ne_of_none q hn)]; exact q
  tbls := fun b ps q => ⟨#[], by rw [upd_ne (ne_of_none q hn), q]; simp⟩
theorem Un.write (mu : Mut (H x)) (he : e = x ∨ H e = some (.own x)) (k : ∀ b u, b ≠ e → h.get? b = some u → h'.get? b = some u) (heo : ∃ u, h'.get? e = some u) : Un fs ex H (upd H x o) h h' := by
  have hx : ∀ b, H b = none → b ≠ x := fun b n z => by subst z; rw [n] at mu; exact mu
  have hb : ∀ b, H b = none → b ≠ e := fun b n z => by
    subst z
    rcases he with r | r
    · exact hx b n r
    · rw [n] at r; cases r
  have hm : ∀ b u, H b = some u → ¬ Mut (some u) → b ≠ x := fun b u q nm z => by subst z; rw [q] at mu; exact nm mu
  refine ⟨fun b u q n _ _ => k b u (hb b n) q, fun b u q n _ _ => ⟨u.slots, k b u (hb b n) q⟩, fun b u q n _ => by rw [upd_ne (hx b n)]; exact n, fun b u q _ => ?_,
    fun b xs q => by rw [upd_ne (hm b _ q fun z => z)]; exact q, fun b u xs q => by rw [upd_ne (hm b _ q fun z => z)]; exact q, fun b ps q => ⟨#[], by rw [upd_ne (hm b _ q fun z => z), q]; simp⟩⟩
  by_cases hbe : b = e
  · subst hbe; exact heo
  · exact ⟨u, k b u hbe q⟩
theorem Un.mono (u : Un fs ex H H1 h h1) (hs : ∀ b ∈ fs, b ∈ fs') (hx : ∀ b ∈ ex, b ∈ ex') : Un fs' ex' H H1 h h1 :=
  ⟨fun b ob q n hb he => u.keep b ob q n (fun z => hb (hs b z)) fun z => he (hx b z), fun _ _ q n _ he => u.any q n fun z => he (hx _ z), fun b ob q n he => u.free b ob q n fun z => he (hx b z), fun b ob q he => u.there b ob q fun z => he (hx b z), u.tups, u.frzs, u.tbls⟩
end

/-! ### the heap without what is tracked -/
def trk (h : Heap) (H : Hp) : List Addr := (List.range h.objs.size).filter fun a => (H a).isSome
def hidT (h : Heap) (H : Hp) : Heap := PySem.W.hideAll h (trk h H)
theorem hidT_size (h : Heap) (H : Hp) : (hidT h H).objs.size = h.objs.size := PySem.W.hideAll_size _ _
theorem hidT_get {h : Heap} {H : Hp} {b : Addr} {o : Obj} (e : h.get? b = some o) (n : H b = none) : (hidT h H).get? b = some o :=
  PySem.W.hideAll_get _ e fun hm => by
    have q : (H b).isSome = true := (List.mem_filter.mp hm).2
    rw [n] at q; simp at q
theorem of_hidT {h : Heap} {H : Hp} {b : Addr} {o : Obj} (e : (hidT h H).get? b = some o) : h.get? b = some o ∧ H b = none := by
  have e' : h.get? b = some o := PySem.W.of_hideAll (trk h H) e
  refine ⟨e', ?_⟩
  cases q : H b with
  | none => rfl
  | some x =>
    have hm : b ∈ trk h H := List.mem_filter.mpr ⟨List.mem_range.mpr (Heap.lt_size e'), by simp [q]⟩
    have z : (hidT h H).get? b = none := PySem.W.hideAll_none (trk h H) hm
    rw [z] at e; cases e

/-! ### OpenK's ledger, filled with every new object but one -/
def allNews (g h : Heap) (L : Addr) : List (Addr × Obj) := (List.range h.objs.size).filterMap fun a => if a = L ∨ (g.get? a).isSome = true then none else (h.get? a).map fun o => (a, o)
def rest (g h : Heap) (L d : Addr) : List (Addr × Obj) := (allNews g h L).filter fun p => decide (p.1 ≠ d)
end L2

namespace L2
open PySem PySem.Spec PyProof.Rows

/-- the module's facts, over the base: the heap at the law's entry without what is tracked there -/
structure Mod (K : PySem.W.Frag) (mg : Str → Option Value) (base : Heap) : Prop where
  kin : K.In base
  glob : base.Ns mainGlobals mg
  blt : ∃ mb, base.Ns builtinsNs mb ∧ ∀ x : Str, x ≠ "__name__" → mb x = bootBuiltins x
  nolimit : base.NoLimit

/-- the context: a def's body (or a comprehension's block) running. base: fixed through the whole law; s₀, H₀: the entry; outer: the frames whose slots others may change (a def's callers); stack: all frames that run;
   ex: iterators that were made ahead of the entry and are walked here (a comprehension's); fn: the names whose cells were made at the entry (a def: all; a comprehension's block: its own); calm: not within an except suite; pn: pins that every state bears; xe: what is wanted of an exception that leaves the code -/
structure Cx where
  prog : Program
  w : World
  K : PySem.W.Frag
  mg : Str → Option Value
  base : Heap
  A : Around
  N : List Str
  s₀ : Shared
  H₀ : Hp
  env : Env
  outer : List Env
  stack : List Env
  ex : List Addr
  fn : Str → Bool
  calm : Bool
  pn : List (Addr × Obj)
  xe : Value → Shared → Prop
/-- the callers' frames -/
def frs (l : List Env) : List Addr := l.filterMap (·.frame)
abbrev Cx.fs (X : Cx) : List Addr := frs X.outer

def Vis (sc : Scope) (x : Str) : Prop := sc.names.lookup x = some .local ∨ sc.names.lookup x = some .cell ∨ sc.names.lookup x = some .free
def Loc (sc : Scope) (x : Str) : Prop := sc.names.lookup x = some .local ∨ sc.names.lookup x = some .cell
def Look (env : Env) (h : Heap) (m : Str → Option Value) (x : Str) (u : Value) : Prop :=
  (env.kindOf x = some .local ∧ m x = some u) ∨ ((env.kindOf x = some .cell ∨ env.kindOf x = some .free) ∧ ∃ c, env.cells.lookup x = some c ∧ h.IsCell c (some u))

structure Cx.Ok (X : Cx) : Prop where
  mod : Mod X.K X.mg X.base
  kind : X.env.scope.kind = .function
  glob : X.env.globals = mainGlobals
  blt : X.env.builtins = builtinsNs
  above : X.s₀.heap.objs.size ≤ X.env.locals
  inj : ∀ x y c, X.env.cells.lookup x = some c → X.env.cells.lookup y = some c → x = y
  has : ∀ x, (X.env.kindOf x = some .cell ∨ X.env.kindOf x = some .free) → ∃ c, X.env.cells.lookup x = some c
  cab : ∀ x c, X.fn x = true → X.env.cells.lookup x = some c → X.s₀.heap.objs.size ≤ c
  hd : X.calm = true → X.A.handled = none
  frames : X.A.frames = some X.stack
  stk : X.stack = X.outer ∨ (X.stack = X.env :: X.outer ∧ X.env.frame = some X.env.locals)
  exf : ∀ b ∈ X.ex, b ≠ X.env.locals ∧ ∀ x c, X.env.cells.lookup x = some c → c ≠ b
  bs : ∀ b o, X.base.get? b = some o → X.s₀.heap.get? b = some o ∧ X.H₀ b = none
  bsz : X.base.objs.size ≤ X.s₀.heap.objs.size
  noex : ∀ b o, X.base.get? b = some o → b ∉ X.ex
  exfs : ∀ b ∈ X.ex, b ∉ X.fs
  funs : X.s₀.heap.FunFrames X.base X.outer
  frf : ∀ b ∈ X.fs, X.H₀ b = none

structure Inv (X : Cx) (pins : List (Addr × Obj)) (σ : List (Option V)) (H : Hp) (s : Shared) : Prop where
  ok : X.Ok
  os : s.os = X.s₀.os
  bare : AllBare s.gens
  base : Un X.fs X.ex X.H₀ H X.s₀.heap s.heap
  loc : ∃ m, s.heap.Ns X.env.locals m ∧ ∀ (i : Nat) (x : Str) (v : V), X.N[i]? = some x → σ[i]? = some (some v) → Vis X.env.scope x → ∃ u, RelV v u ∧ Look X.env s.heap m x u
  cell : ∀ x c, X.env.cells.lookup x = some c → ∃ v, s.heap.IsCell c v
  free : H X.env.locals = none
  freeC : ∀ x c, X.env.cells.lookup x = some c → H c = none
  pin : ∀ p ∈ X.pn ++ pins, s.heap.get? p.1 = some p.2 ∧ H p.1 = none ∧ p.1 ≠ X.env.locals ∧ p.1 ∉ X.fs ∧ ∀ v, p.2.data ≠ .cell v
  hok : HOk X.prog X.w H s.heap
  len : σ.length = X.N.length

section
variable {X : Cx} {pins : List (Addr × Obj)} {σ : List (Option V)} {H H' : Hp} {s : Shared} {h' : Heap}

theorem Cx.Ok.nofr (ok : X.Ok) {b : Addr} {o : Obj} (e : X.base.get? b = some o) : b ∉ X.fs := fun hb => by
  have := (ok.funs.mem hb).1
  rw [e] at this; cases this
theorem Inv.bs (I : Inv X pins σ H s) : ∀ b o, X.base.get? b = some o → s.heap.get? b = some o ∧ H b = none := fun b o e =>
  ⟨I.base.keep b o (I.ok.bs b o e).1 (I.ok.bs b o e).2 (I.ok.nofr e) (I.ok.noex b o e), I.base.free b o (I.ok.bs b o e).1 (I.ok.bs b o e).2 (I.ok.noex b o e)⟩
theorem Inv.bk (I : Inv X pins σ H s) : ∀ b o, X.base.get? b = some o → s.heap.get? b = some o := fun b o e => (I.bs b o e).1
theorem Inv.mod (I : Inv X pins σ H s) : Mod X.K X.mg X.base := I.ok.mod
theorem Inv.kIn (I : Inv X pins σ H s) : X.K.In s.heap := I.ok.mod.kin.keeps I.bk
theorem Inv.nolimit (I : Inv X pins σ H s) : s.heap.NoLimit := I.ok.mod.nolimit.keeps I.bk
/-- the frame over the base: for OpenK's rules (K.In X.base is I.mod.kin) -/
theorem Inv.fr (I : Inv X pins σ H s) : ∃ m, Fr X.base X.env.locals s.heap m :=
  let ⟨m, hn, _⟩ := I.loc
  ⟨m, hn, I.bk, Nat.le_trans I.ok.bsz I.ok.above⟩
theorem Inv.lt (I : Inv X pins σ H s) : X.env.locals < s.heap.objs.size := let ⟨_, hn, _⟩ := I.loc; hn.lt
theorem Inv.sz (I : Inv X pins σ H s) : X.s₀.heap.objs.size ≤ s.heap.objs.size := Nat.le_trans I.ok.above (Nat.le_of_lt I.lt)
theorem Inv.nofs (I : Inv X pins σ H s) {a : Addr} (h : s.heap.objs.size ≤ a) : a ∉ X.fs := fun hb => by
  obtain ⟨_, o, ho, _⟩ := I.ok.funs.mem hb
  exact absurd (Nat.lt_of_lt_of_le (Heap.lt_size ho) (Nat.le_trans I.sz h)) (Nat.lt_irrefl _)
theorem Inv.cne (I : Inv X pins σ H s) : ∀ x c, X.env.cells.lookup x = some c → c ≠ X.env.locals := fun x c e z => by
  obtain ⟨v, o, ho, hd⟩ := I.cell x c e
  obtain ⟨m, ⟨o', es, ep, ho', hd', _⟩, _⟩ := I.loc
  rw [z, ho'] at ho; cases ho; rw [hd'] at hd; cases hd
theorem Inv.funs (I : Inv X pins σ H s) : s.heap.FunFrames X.base X.outer := by
  have all : ∀ (l : List Env), (∀ b ∈ frs l, b ∈ X.fs) → X.s₀.heap.FunFrames X.base l → s.heap.FunFrames X.base l := by
    intro l
    induction l with
    | nil => intro _ _; trivial
    | cons env r ih =>
      intro hs hl
      obtain ⟨hk, ⟨L, o, hf, hn, ho, hd⟩, hr⟩ := hl
      have hL : L ∈ X.fs := hs L (by unfold frs; rw [List.filterMap_cons, hf]; exact List.mem_cons_self)
      obtain ⟨sl, e⟩ := I.base.slot L o ho (I.ok.frf L hL) hL fun z => I.ok.exfs L z hL
      exact ⟨hk, ⟨L, _, hf, hn, e, hd⟩, ih (fun b hb => hs b (by unfold frs; rw [List.filterMap_cons, hf]; exact List.mem_cons_of_mem _ hb)) hr⟩
  exact all X.outer (fun _ hb => hb) I.ok.funs

/-- the frames that run, for a call -/
theorem Inv.stack (I : Inv X pins σ H s) : s.heap.FunFrames X.base X.stack := by
  rcases I.ok.stk with e | ⟨e, hf⟩
  · rw [e]; exact I.funs
  · rw [e]
    obtain ⟨m, hn, _⟩ := I.loc
    refine .cons (by rw [I.ok.kind]; decide) hf hn ?_ I.funs
    exact Heap.get?_none_of_le (Nat.le_trans I.ok.bsz I.ok.above)
theorem Inv.stkSub (I : Inv X pins σ H s) : ∀ b ∈ frs X.stack, b ∈ X.env.locals :: X.fs := fun b hb => by
  rcases I.ok.stk with e | ⟨e, hf⟩
  · rw [e] at hb; exact List.mem_cons_of_mem _ hb
  · rw [e] at hb
    unfold frs at hb
    rw [List.filterMap_cons, hf] at hb
    exact hb
theorem Inv.stkFree (I : Inv X pins σ H s) : ∀ b ∈ frs X.stack, H b = none := fun b hb => by
  rcases List.mem_cons.mp (I.stkSub b hb) with e | hb
  · rw [e]; exact I.free
  · obtain ⟨_, o, ho, _⟩ := I.ok.funs.mem hb
    exact I.base.free b o ho (I.ok.frf b hb) fun z => I.ok.exfs b z hb

/-- THE STEP: the untracked objects but the frame and the records at ch are kept (the callers' frames up to slots), the frame's map is kept, the new abstract heap is held -/
theorem Inv.step {g' : Array GenState} {t' : Nat} {d' : Drawn} {ch : List Addr} (I : Inv X pins σ H s)
    (hch : ∀ b ∈ ch, (b ∈ X.ex ∨ X.s₀.heap.objs.size ≤ b) ∧ b ≠ X.env.locals ∧ (∀ x c, X.env.cells.lookup x = some c → c ≠ b) ∧ ∀ p ∈ X.pn ++ pins, p.1 ≠ b)
    (keep : ∀ b o, b ≠ X.env.locals → b ∉ X.fs → b ∉ ch → s.heap.get? b = some o → H b = none → h'.get? b = some o)
    (slot : ∀ b o, b ≠ X.env.locals → b ∈ X.fs → b ∉ ch → s.heap.get? b = some o → H b = none → ∃ sl, h'.get? b = some { o with slots := sl }) (free : ∀ b o, b ∉ ch → s.heap.get? b = some o → H b = none → H' b = none)
    (there : ∀ b o, b ∉ ch → s.heap.get? b = some o → ∃ o', h'.get? b = some o')
    (tups : ∀ b xs, H b = some (.tup xs) → H' b = some (.tup xs)) (frzs : ∀ b o u, H b = some (.frz o u) → H' b = some (.frz o u)) (tbls : ∀ b ps, H b = some (.tbl ps) → ∃ more, H' b = some (.tbl (ps ++ more)))
    (ns : ∀ m, s.heap.Ns X.env.locals m → h'.Ns X.env.locals m) (hok : HOk X.prog X.w H' h') (hg : AllBare g') :
    Inv X pins σ H' { s with heap := h', gens := g', drawn := d', toks := t' } := by
  have neL : ∀ b o, X.s₀.heap.get? b = some o → b ≠ X.env.locals := fun b o e => Nat.ne_of_lt (Nat.lt_of_lt_of_le (Heap.lt_size e) I.ok.above)
  have neC : ∀ b o, X.s₀.heap.get? b = some o → b ∉ X.ex → b ∉ ch := fun b o e hx hb => by
    rcases (hch b hb).1 with z | z
    · exact hx z
    · exact absurd (Nat.lt_of_lt_of_le (Heap.lt_size e) z) (Nat.lt_irrefl _)
  have cellK : ∀ x c, X.env.cells.lookup x = some c → ∀ v, s.heap.IsCell c v → h'.IsCell c v := fun x c e v ⟨o, ho, hd⟩ => by
    have nch : c ∉ ch := fun z => (hch c z).2.2.1 x c e rfl
    by_cases hc : c ∈ X.fs
    · obtain ⟨sl, q⟩ := slot c o (I.cne x c e) hc nch ho (I.freeC x c e)
      exact ⟨_, q, hd⟩
    · exact ⟨o, keep c o (I.cne x c e) hc nch ho (I.freeC x c e), hd⟩
  refine ⟨I.ok, I.os, hg, ⟨fun b o e n hb hx => ?_, fun b o e n hb hx => ?_, fun b o e n hx => ?_, fun b o e hx => ?_, fun b xs e => tups b xs (I.base.tups b xs e), fun b o xs e => frzs b o xs (I.base.frzs b o xs e), fun b ps e => ?_⟩, ?_, fun x c e => ?_, ?_, fun x c e => ?_, fun p hp => ?_, hok, I.len⟩
  · exact keep b o (neL b o e) hb (neC b o e hx) (I.base.keep b o e n hb hx) (I.base.free b o e n hx)
  · obtain ⟨sl, e1⟩ := I.base.slot b o e n hb hx
    obtain ⟨sl', e2⟩ := slot b _ (neL b o e) hb (neC b o e hx) e1 (I.base.free b o e n hx)
    exact ⟨sl', e2⟩
  · obtain ⟨o', e1⟩ := I.base.there b o e hx
    exact free b o' (neC b o e hx) e1 (I.base.free b o e n hx)
  · obtain ⟨o', e1⟩ := I.base.there b o e hx
    exact there b o' (neC b o e hx) e1
  · obtain ⟨m1, e1⟩ := I.base.tbls b ps e
    obtain ⟨m2, e2⟩ := tbls b _ e1
    exact ⟨m1 ++ m2, by rw [e2, Array.append_assoc]⟩
  · obtain ⟨m, hn, hl⟩ := I.loc
    refine ⟨m, ns m hn, fun i x v e1 e2 e3 => ?_⟩
    obtain ⟨u, r, l⟩ := hl i x v e1 e2 e3
    refine ⟨u, r, ?_⟩
    rcases l with l | ⟨k, c, e, z⟩
    · exact .inl l
    · exact .inr ⟨k, c, e, cellK x c e _ z⟩
  · obtain ⟨v, z⟩ := I.cell x c e
    exact ⟨v, cellK x c e v z⟩
  · obtain ⟨m, ⟨o, _, _, ho, _⟩, _⟩ := I.loc
    exact free _ o (fun z => (hch _ z).2.1 rfl) ho I.free
  · obtain ⟨v, o, ho, hd⟩ := I.cell x c e
    exact free c o (fun z => (hch c z).2.2.1 x c e rfl) ho (I.freeC x c e)
  · obtain ⟨e, n, ne, nf, d⟩ := I.pin p hp
    have nch : p.1 ∉ ch := fun z => (hch p.1 z).2.2.2 p hp rfl
    exact ⟨keep p.1 p.2 ne nf nch e n, free p.1 p.2 nch e n, ne, nf, d⟩
/-- .. where the frame's own object is kept too -/
theorem Inv.un {t' : Nat} (I : Inv X pins σ H s) (u : Un X.fs [] H H' s.heap h') (hok : HOk X.prog X.w H' h') : Inv X pins σ H' { s with heap := h', toks := t' } := by
  obtain ⟨m, ⟨o, es, ep, ho, r⟩, _⟩ := id I.loc
  obtain ⟨sl, hL⟩ := u.any ho I.free (by simp)
  exact I.step (g' := s.gens) (d' := s.drawn) (ch := []) (fun _ z => nomatch z) (fun b o _ hb _ e n => u.keep b o e n hb (by simp)) (fun b o _ hb _ e n => u.slot b o e n hb (by simp)) (fun b o _ e n => u.free b o e n (by simp)) (fun b o _ e => u.there b o e (by simp)) u.tups u.frzs u.tbls (fun m' hm => by
    obtain ⟨o', es', ep', ho', r'⟩ := hm
    rw [ho] at ho'; cases ho'
    exact ⟨_, es', ep', hL, r'⟩) hok I.bare
/-- behind a call (or a comprehension's block): the slots of this frame may have changed too, the records at ch may have turned -/
theorem Inv.call {g' : Array GenState} {t' : Nat} {d' : Drawn} {ch : List Addr} (I : Inv X pins σ H s) (u : Un (frs X.stack) ch H H' s.heap h') (hok : HOk X.prog X.w H' h') (hg : AllBare g')
    (hch : ∀ b ∈ ch, (b ∈ X.ex ∨ X.s₀.heap.objs.size ≤ b) ∧ b ≠ X.env.locals ∧ (∀ x c, X.env.cells.lookup x = some c → c ≠ b) ∧ ∀ p ∈ X.pn ++ pins, p.1 ≠ b) :
    Inv X pins σ H' { s with heap := h', gens := g', drawn := d', toks := t' } := by
  obtain ⟨m, ⟨o, es, ep, ho, r⟩, _⟩ := id I.loc
  obtain ⟨sl, hL⟩ := u.any ho I.free fun z => (hch _ z).2.1 rfl
  exact I.step (ch := ch) hch (fun b o hL hb hc e n => u.keep b o e n (fun z => (List.mem_cons.mp (I.stkSub b z)).elim hL hb) hc) (fun b o _ _ hc e n => u.any e n hc) (fun b o hc e n => u.free b o e n hc) (fun b o hc e => u.there b o e hc) u.tups u.frzs u.tbls (fun m' hm => by
    obtain ⟨o', es', ep', ho', r'⟩ := hm
    rw [ho] at ho'; cases ho'
    exact ⟨_, es', ep', hL, r'⟩) hok hg
/-- an untracked record of ours (an iterator) has turned -/
theorem Inv.turned {t' : Nat} {it : Addr} (I : Inv X pins σ H s) (k : ∀ b o, b ≠ it → s.heap.get? b = some o → h'.get? b = some o) (hn : H it = none) (hL : it ≠ X.env.locals)
    (h1 : it ∈ X.ex ∨ X.s₀.heap.objs.size ≤ it) (h2 : ∀ x c, X.env.cells.lookup x = some c → c ≠ it) (h3 : ∀ p ∈ X.pn ++ pins, p.1 ≠ it) : Inv X pins σ H { s with heap := h', toks := t' } := by
  have nit : ∀ b u, H b = some u → b ≠ it := fun b u e z => by rw [z, hn] at e; cases e
  refine I.step (g' := s.gens) (d' := s.drawn) (ch := [it]) (fun b hb => ?_) (fun b o _ _ hc e _ => k b o (fun z => hc (by simp [z])) e) (fun b o _ _ hc e _ => ⟨o.slots, k b o (fun z => hc (by simp [z])) e⟩) (fun _ _ _ _ n => n)
    (fun b o hc e => ⟨o, k b o (fun z => hc (by simp [z])) e⟩) (fun _ _ e => e) (fun _ _ _ e => e) (fun b ps e => ⟨#[], by rw [e]; simp⟩) (fun m hm => ?_) (fun b u e => ?_) I.bare
  · have e : b = it := by simpa using hb
    subst e
    exact ⟨h1, hL, h2, h3⟩
  · obtain ⟨o, es, ep, ho, r⟩ := hm
    exact ⟨o, es, ep, k _ o (Ne.symm hL) ho, r⟩
  · refine (I.hok b u e).stay (fun c v hc q => k c v ?_ q) (fun _ q => q) fun _ _ q => q
    rcases hc with z | z
    · rw [z]; exact nit b u e
    · exact nit c _ z
theorem Inv.tok (I : Inv X pins σ H s) (t : Nat) : Inv X pins σ H { s with toks := t } := I.un (h' := s.heap) (t' := t) Un.refl I.hok
/-- all objects kept -/
theorem Inv.kept {t' : Nat} (I : Inv X pins σ H s) (k : ∀ b u, s.heap.get? b = some u → h'.get? b = some u) : Inv X pins σ H { s with heap := h', toks := t' } := I.un (Un.kept k) (I.hok.kept k)
/-- a new object laid and tracked -/
theorem Inv.laid {a : Addr} {o : HO} {t' : Nat} (I : Inv X pins σ H s) (k : ∀ b u, s.heap.get? b = some u → h'.get? b = some u) (hp : s.heap.objs.size ≤ a) (new : ObjOk X.prog X.w (upd H a o) h' a o) :
    Inv X pins σ (upd H a o) { s with heap := h', toks := t' } := I.un (Un.laid k hp (I.hok.fresh hp)) (I.hok.laid k hp new)
/-- an object written -/
theorem Inv.write {x e : Addr} {o : HO} {t' : Nat} (I : Inv X pins σ H s) (mu : Mut (H x)) (he : e = x ∨ H e = some (.own x)) (k : ∀ b u, b ≠ e → s.heap.get? b = some u → h'.get? b = some u) (heo : ∃ u, h'.get? e = some u)
    (new : ObjOk X.prog X.w (upd H x o) h' x o) : Inv X pins σ (upd H x o) { s with heap := h', toks := t' } := I.un (Un.write mu he k heo) (I.hok.write mu he k heo new)
/-- forgetting slots, pins -/
theorem Inv.weak {σ' : List (Option V)} (I : Inv X pins σ H s) (hl : σ'.length = σ.length) (w : ∀ (i : Nat) v, σ'[i]? = some (some v) → σ[i]? = some (some v)) : Inv X pins σ' H s :=
  ⟨I.ok, I.os, I.bare, I.base, let ⟨m, hn, hl'⟩ := I.loc; ⟨m, hn, fun i x v e1 e2 e3 => hl' i x v e1 (w i v e2) e3⟩, I.cell, I.free, I.freeC, I.pin, I.hok, hl.trans I.len⟩
theorem Inv.pins_of {pins' : List (Addr × Obj)} (I : Inv X pins σ H s) (h : ∀ p ∈ pins', s.heap.get? p.1 = some p.2 ∧ H p.1 = none ∧ p.1 ≠ X.env.locals ∧ p.1 ∉ X.fs ∧ ∀ v, p.2.data ≠ .cell v) : Inv X pins' σ H s :=
  ⟨I.ok, I.os, I.bare, I.base, I.loc, I.cell, I.free, I.freeC, fun p hp => (List.mem_append.mp hp).elim (fun z => I.pin p (List.mem_append_left _ z)) (h p), I.hok, I.len⟩

theorem nodup_ix {N : List Str} (hN : N.Nodup) {i j : Nat} {x : Str} (a : N[i]? = some x) (b : N[j]? = some x) : i = j := by
  obtain ⟨h1, e1⟩ := List.getElem?_eq_some_iff.mp a
  obtain ⟨h2, e2⟩ := List.getElem?_eq_some_iff.mp b
  exact (List.getElem_inj hN).mp (e1.trans e2.symm)

/-- a name is stored; what changed -/
theorem store_ok2 {M : Model} {A : Around} {E : Value → Shared → Prop} {i : Nat} {x : Str} {v : V} {u : Value} {Q : Unit → Shared → Prop} (I : Inv X pins σ H s) (hN : X.N.Nodup) (hi : X.N[i]? = some x) (hx : Loc X.env.scope x) (r : RelV v u)
    (h : ∀ s', Inv X pins (σ.set i (some v)) H s' → (∃ a, Heap.SameBut a s.heap s'.heap ∧ (a = X.env.locals ∨ X.env.cells.lookup x = some a)) → Q () s') (hf : X.fn x = true ∨ X.env.scope.names.lookup x = some .local := by first | exact .inl rfl | exact .inr rfl | assumption) : wpAny M A (storeName X.env x u) Q E s := by
  obtain ⟨m, hn, hl⟩ := id I.loc
  have hcls : (X.env.scope.kind == .class || (X.env.scope.kind == .module && X.env.locals != X.env.globals)) = false := by rw [I.ok.kind]; rfl
  have hiσ : i < σ.length := by rw [I.len]; exact (List.getElem?_eq_some_iff.mp hi).1
  have cne := I.cne
  have tracked : ∀ {a : Addr} {h' : Heap}, (∃ o, s.heap.get? a = some o ∧ H a = none) → Heap.SameBut a s.heap h' → HOk X.prog X.w H h' := fun {a h'} ha hs b ob e => by
    obtain ⟨_, _, hfree⟩ := ha
    refine (I.hok b ob e).stay (fun c w' hc q => (hs.2 c ?_).trans q) (fun _ q => q) fun _ _ q => q
    rintro rfl
    rcases hc with rfl | hc
    · rw [hfree] at e; cases e
    · rw [hfree] at hc; cases hc
  rcases hx with hk | hk
  · refine wpAny_storeName_local hk hn (fun h' hn' hs => ?_) hcls
    obtain ⟨oL, _, _, hoL, _⟩ := id hn
    refine h _ ⟨I.ok, I.os, I.bare, ⟨fun b o e n hb hx => ?_, fun b o e n hb hx => ?_, I.base.free, fun b o e hx => ?_, I.base.tups, I.base.frzs, I.base.tbls⟩, ⟨_, hn', fun j y v' e1 e2 e3 => ?_⟩, fun y c e => ?_, I.free, I.freeC, fun p hp => ?_, tracked ⟨oL, hoL, I.free⟩ hs, by simpa using I.len⟩ ⟨_, hs, .inl rfl⟩
    · exact (hs.2 b (Nat.ne_of_lt (Nat.lt_of_lt_of_le (Heap.lt_size e) I.ok.above))).trans (I.base.keep b o e n hb hx)
    · obtain ⟨sl, e1⟩ := I.base.slot b o e n hb hx
      exact ⟨sl, (hs.2 b (Nat.ne_of_lt (Nat.lt_of_lt_of_le (Heap.lt_size e) I.ok.above))).trans e1⟩
    · obtain ⟨o', e1⟩ := I.base.there b o e hx
      exact ⟨o', (hs.2 b (Nat.ne_of_lt (Nat.lt_of_lt_of_le (Heap.lt_size e) I.ok.above))).trans e1⟩
    · by_cases hj : j = i
      · subst hj
        rw [hi] at e1; cases e1
        rw [List.getElem?_set_self hiσ] at e2
        cases e2
        exact ⟨u, r, .inl ⟨hk, by simp⟩⟩
      · rw [List.getElem?_set_ne (Ne.symm hj)] at e2
        obtain ⟨u', r', q⟩ := hl j y v' e1 e2 e3
        refine ⟨u', r', ?_⟩
        rcases q with ⟨k, e⟩ | ⟨k, c, e, z⟩
        · refine .inl ⟨k, ?_⟩
          have : y ≠ x := fun e => hj (nodup_ix hN e1 (e ▸ hi))
          simp [this, e]
        · exact .inr ⟨k, c, e, z.sameBut hs (cne y c e)⟩
    · obtain ⟨w', z⟩ := I.cell y c e
      exact ⟨w', z.sameBut hs (cne y c e)⟩
    · obtain ⟨e, n, ne, nf, d⟩ := I.pin p hp
      exact ⟨(hs.2 p.1 ne).trans e, n, ne, nf, d⟩
  · have hfn : X.fn x = true := by
      rcases hf with z | z
      · exact z
      · rw [z] at hk; cases hk
    obtain ⟨c, hc⟩ := I.ok.has x (.inl hk)
    obtain ⟨w', z⟩ := I.cell x c hc
    refine wpAny_storeName_cell I.ok.kind hk hc z (fun h' hc' hs => ?_)
    obtain ⟨oc, hoc, hocd⟩ := id z
    refine h { s with heap := h' } ⟨I.ok, I.os, I.bare, ⟨fun b o e n hb hx => ?_, fun b o e n hb hx => ?_, I.base.free, fun b o e hx => ?_, I.base.tups, I.base.frzs, I.base.tbls⟩, ⟨m, hn.sameBut hs (Ne.symm (cne x c hc)), fun j y v' e1 e2 e3 => ?_⟩, fun y c' e => ?_, I.free, I.freeC, fun p hp => ?_, tracked ⟨oc, hoc, I.freeC x c hc⟩ hs, by simpa using I.len⟩ ⟨c, hs, .inr hc⟩
    · exact (hs.2 b (Nat.ne_of_lt (Nat.lt_of_lt_of_le (Heap.lt_size e) (I.ok.cab x c hfn hc)))).trans (I.base.keep b o e n hb hx)
    · obtain ⟨sl, e1⟩ := I.base.slot b o e n hb hx
      exact ⟨sl, (hs.2 b (Nat.ne_of_lt (Nat.lt_of_lt_of_le (Heap.lt_size e) (I.ok.cab x c hfn hc)))).trans e1⟩
    · obtain ⟨o', e1⟩ := I.base.there b o e hx
      exact ⟨o', (hs.2 b (Nat.ne_of_lt (Nat.lt_of_lt_of_le (Heap.lt_size e) (I.ok.cab x c hfn hc)))).trans e1⟩
    · by_cases hj : j = i
      · subst hj
        rw [hi] at e1; cases e1
        rw [List.getElem?_set_self hiσ] at e2
        cases e2
        exact ⟨u, r, .inr ⟨.inl hk, c, hc, hc'⟩⟩
      · rw [List.getElem?_set_ne (Ne.symm hj)] at e2
        obtain ⟨u', r', q⟩ := hl j y v' e1 e2 e3
        refine ⟨u', r', ?_⟩
        rcases q with q | ⟨k, c', e, z'⟩
        · exact .inl q
        · refine .inr ⟨k, c', e, z'.sameBut hs ?_⟩
          rintro rfl
          exact hj (nodup_ix hN e1 (I.ok.inj _ _ _ e hc ▸ hi))
    · by_cases hcc : c' = c
      · subst hcc; exact ⟨_, hc'⟩
      · obtain ⟨w2, z2⟩ := I.cell y c' e
        exact ⟨w2, z2.sameBut hs hcc⟩
    · obtain ⟨e, n, ne, nf, d⟩ := I.pin p hp
      refine ⟨(hs.2 p.1 ?_).trans e, n, ne, nf, d⟩
      intro q
      rw [q, hoc] at e
      have q' : oc = p.2 := Option.some.inj e
      exact d w' (by rw [← q']; exact hocd)
theorem store_ok {M : Model} {A : Around} {E : Value → Shared → Prop} {i : Nat} {x : Str} {v : V} {u : Value} {Q : Unit → Shared → Prop} (I : Inv X pins σ H s) (hN : X.N.Nodup) (hi : X.N[i]? = some x) (hx : Loc X.env.scope x) (r : RelV v u)
    (h : ∀ s', Inv X pins (σ.set i (some v)) H s' → Q () s') (hf : X.fn x = true ∨ X.env.scope.names.lookup x = some .local := by first | exact .inl rfl | exact .inr rfl | assumption) : wpAny M A (storeName X.env x u) Q E s :=
  store_ok2 I hN hi hx r (fun s' I' _ => h s' I') hf
/-- behind a call or a block, the state as it is -/
theorem Inv.call' {s' : Shared} {ch : List Addr} (I : Inv X pins σ H s) (ho : s'.os = s.os) (u : Un (frs X.stack) ch H H' s.heap s'.heap) (hok : HOk X.prog X.w H' s'.heap) (hg : AllBare s'.gens)
    (hch : ∀ b ∈ ch, (b ∈ X.ex ∨ X.s₀.heap.objs.size ≤ b) ∧ b ≠ X.env.locals ∧ (∀ x c, X.env.cells.lookup x = some c → c ≠ b) ∧ ∀ p ∈ X.pn ++ pins, p.1 ≠ b) : Inv X pins σ H' s' := by
  obtain ⟨h', g', d', t', o'⟩ := s'
  have e : o' = s.os := ho
  subst e
  exact I.call (g' := g') (t' := t') (d' := d') u hok hg hch
end

/-! ### the judgements -/
/-- an exception: its class, its own dict's address (where it has one), the abstract heap behind it -/
abbrev XK := Value → Option Addr → Hp → Prop
abbrev St := List (Option V)
abbrev VK := V → Hp → Prop
/-- an expression's reading; a test's; an argument list's -/
abbrev TE := St → Hp → VK → Prop
abbrev TT := St → Hp → (Bool → Hp → Prop) → Prop
abbrev TA := St → Hp → (List V → Hp → Prop) → Prop
/-- what is wanted behind a statement -/
structure Ends where
  nx : St → Hp → Prop
  rt : VK
  bk : St → Hp → Prop := fun _ _ => False
  ct : St → Hp → Prop := fun _ _ => False
abbrev TS := Ends → St → Hp → Prop

def EP (X : Cx) (pins : List (Addr × Obj)) (σ : St) (Q : VK) (u : Value) (s' : Shared) : Prop := ∃ v H', Inv X pins σ H' s' ∧ RelV v u ∧ Q v H'
def TP (X : Cx) (pins : List (Addr × Obj)) (σ : St) (Q : Bool → Hp → Prop) (b : Bool) (s' : Shared) : Prop := ∃ H', Inv X pins σ H' s' ∧ Q b H'
def AP (X : Cx) (pins : List (Addr × Obj)) (σ : St) (Q : List V → Hp → Prop) (us : List Value) (s' : Shared) : Prop := ∃ vs H', Inv X pins σ H' s' ∧ Vals vs us ∧ Q vs H'
def SP (X : Cx) (pins : List (Addr × Obj)) (D : Ends) (f : Flow) (s' : Shared) : Prop :=
  match f with
  | .next => ∃ σ' H', Inv X pins σ' H' s' ∧ D.nx σ' H'
  | .brk => ∃ σ' H', Inv X pins σ' H' s' ∧ D.bk σ' H'
  | .cont => ∃ σ' H', Inv X pins σ' H' s' ∧ D.ct σ' H'
  | .ret u => ∃ v σ' H', Inv X pins σ' H' s' ∧ RelV v u ∧ D.rt v H'

def PE (X : Cx) (e : Expr) (t : TE) : Prop :=
  ∀ (pins : List (Addr × Obj)) (s : Shared) (σ : St) (H : Hp) (Q : VK), Inv X pins σ H s → t σ H Q → wpAny (model X.prog X.w) X.A (eval e X.env) (EP X pins σ Q) X.xe s
def PT (X : Cx) (e : Expr) (t : TT) : Prop :=
  ∀ (pins : List (Addr × Obj)) (s : Shared) (σ : St) (H : Hp) (Q : Bool → Hp → Prop), Inv X pins σ H s → t σ H Q → wpAny (model X.prog X.w) X.A (isTrue e X.env (eval e X.env)) (TP X pins σ Q) X.xe s
/-- a test whatever its 'whole' is (and, or) -/
def PW (X : Cx) (e : Expr) (t : TT) : Prop :=
  ∀ (whole : Sem Value) (pins : List (Addr × Obj)) (s : Shared) (σ : St) (H : Hp) (Q : Bool → Hp → Prop), Inv X pins σ H s → t σ H Q → wpAny (model X.prog X.w) X.A (isTrue e X.env whole) (TP X pins σ Q) X.xe s
theorem PW.pt {X : Cx} {e : Expr} {t : TT} (h : PW X e t) : PT X e t := h _
/-- an argument list (no star), from the left -/
def PA (X : Cx) (es : List Expr) (t : TA) : Prop :=
  ∀ (pos : Pos) (pins : List (Addr × Obj)) (s : Shared) (σ : St) (H : Hp) (Q : List V → Hp → Prop), Inv X pins σ H s → t σ H Q → wpAny (model X.prog X.w) X.A (spliced (backTo pos (starEach es X.env))) (AP X pins σ Q) X.xe s
def PS (X : Cx) (st : Stmt) (t : TS) : Prop :=
  ∀ (pins : List (Addr × Obj)) (s : Shared) (σ : St) (H : Hp) (D : Ends), Inv X pins σ H s → t D σ H → wpAny (model X.prog X.w) X.A (exec st X.env) (SP X pins D) X.xe s
def PSs (X : Cx) (st : List Stmt) (t : TS) : Prop :=
  ∀ (pins : List (Addr × Obj)) (s : Shared) (σ : St) (H : Hp) (D : Ends), Inv X pins σ H s → t D σ H → wpAny (model X.prog X.w) X.A (execs st X.env) (SP X pins D) X.xe s
/-- weaken the end -/
theorem thn {α : Type} {t : Sem α} {Q Q' : α → Shared → Prop} {M : Model} {A : Around} {E : Value → Shared → Prop} {s : Shared} (h : wpAny M A t Q E s) (hQ : ∀ a s, Q a s → Q' a s) : wpAny M A t Q' E s := wpAny_mono h hQ fun _ _ x => x
end L2

namespace L2
open PySem PySem.Spec PyProof.Rows
section
variable {X : Cx}

/-- two expressions in a row -/
theorem bin {a b : Expr} {ta tb : TE} (ha : PE X a ta) (hb : PE X b tb) {pins : List (Addr × Obj)} {s : Shared} {σ : St} {H : Hp} {R : V → V → Hp → Prop} (I : Inv X pins σ H s) (h : ta σ H fun x H1 => tb σ H1 fun y H2 => R x y H2)
    {α : Type} {Q : α → Shared → Prop} {f : Value → Value → Sem α}
    (hf : ∀ v u s2 x y H2, Inv X pins σ H2 s2 → RelV x v → RelV y u → R x y H2 → wpAny (model X.prog X.w) X.A (f v u) Q X.xe s2) :
    wpAny (model X.prog X.w) X.A (eval a X.env) (fun v s₁ => wpAny (model X.prog X.w) X.A (eval b X.env) (fun u s₂ => wpAny (model X.prog X.w) X.A (f v u) Q X.xe s₂) X.xe s₁) X.xe s := by
  refine thn (ha pins s σ H _ I h) fun v s1 ⟨x, H1, I1, r1, q1⟩ => ?_
  refine thn (hb pins s1 σ H1 _ I1 q1) fun u s2 ⟨y, H2, I2, r2, q2⟩ => ?_
  exact hf v u s2 x y H2 I2 r1 r2 q2

/-! ### names and constants -/
def tVar (i : Nat) : TE := fun σ H Q => ∃ v, σ[i]? = some (some v) ∧ Q v H
def tC (v : V) : TE := fun _ H Q => Q v H
theorem pe_var {i : Nat} {x : Str} {pos : Pos} (hN : X.N[i]? = some x) (hv : Vis X.env.scope x) (hd : (x == ("__debug__" : Str)) = false := by decide) (hcd : (x == ("__classdict__" : Str)) = false := by decide) : PE X (.Name x pos) (tVar i) := by
  intro pins s σ H Q I h
  obtain ⟨v, e, h⟩ := h
  obtain ⟨m, hn, hl⟩ := I.loc
  obtain ⟨u, r, l⟩ := hl i x v hN e hv
  have fin : EP X pins σ Q u s := ⟨v, H, I, r, h⟩
  rcases l with ⟨hk, hm⟩ | ⟨hk, c, hc, hcell⟩
  · exact wpAny_Name (wpAny_loadName_local I.ok.kind hk hn hm fin) hd
  · rcases hk with hk | hk
    · exact wpAny_Name (wpAny_loadName_cell I.ok.kind hk hc hcell fin) hd
    · exact wpAny_Name (wpAny_loadName_free I.ok.kind hk hc hcell fin hcd) hd
theorem pe_int {i j pos} : PE X (.Constant (.int i) j pos) (tC (.int i)) := fun _ _ _ H _ I h => wpAny_Constant_int ⟨.int i, H, I.tok _, ⟨_, rfl⟩, h⟩
theorem pe_bl {b j pos} : PE X (.Constant (.bool b) j pos) (tC (.bl b)) := fun _ _ _ H _ I h => Constant_bool ⟨.bl b, H, I, rfl, h⟩
theorem pe_non {j pos} : PE X (.Constant .none j pos) (tC .non) := fun _ _ _ H _ I h => Constant_none ⟨.non, H, I, rfl, h⟩
theorem pe_str {x j pos} : PE X (.Constant (.str x) j pos) (tC (.str x)) := fun _ _ _ H _ I h => Calls.Constant_str ⟨.str x, H, I.tok _, ⟨_, rfl⟩, h⟩

/-- a global name of the def -/
def Gl (X : Cx) (x : Str) : Prop := X.env.kindOf x = some .globalImplicit
theorem ld_glob {E : Value → Shared → Prop} {pins : List (Addr × Obj)} {s : Shared} {σ : St} {H : Hp} {x : Str} {u : Value} {pos : Pos} {Q : Value → Shared → Prop} (I : Inv X pins σ H s) (hg : Gl X x) (hm : X.mg x = some u) (h : Q u s)
    (hd : (x == ("__debug__" : Str)) = false := by decide) : wpAny (model X.prog X.w) X.A (eval (.Name x pos) X.env) Q E s :=
  Calls.Name_function_global I.ok.kind hg (Calls.loadGlobal_global (by rw [I.ok.glob]; exact I.mod.glob.keeps I.bk) hm h) hd
theorem ld_blt {E : Value → Shared → Prop} {pins : List (Addr × Obj)} {s : Shared} {σ : St} {H : Hp} {x : Str} {u : Value} {pos : Pos} {Q : Value → Shared → Prop} (I : Inv X pins σ H s) (hg : Gl X x) (hm : X.mg x = none) (hv : bootBuiltins x = some u) (h : Q u s)
    (hn : x ≠ "__name__" := by decide) (hd : (x == ("__debug__" : Str)) = false := by decide) : wpAny (model X.prog X.w) X.A (eval (.Name x pos) X.env) Q E s := by
  obtain ⟨mb, h1, h2⟩ := I.mod.blt
  exact Calls.Name_function_global I.ok.kind hg (Calls.loadGlobal_builtin (by rw [I.ok.glob]; exact I.mod.glob.keeps I.bk) hm (by rw [I.ok.blt]; exact h1.keeps I.bk) ((h2 x hn).trans hv) h) hd
/-- a module's constant, a class, a function, as a value -/
theorem pe_glob {x : Str} {v : V} {u : Value} {pos : Pos} (hg : Gl X x) (hm : X.mg x = some u) (r : RelV v u) (hd : (x == ("__debug__" : Str)) = false := by decide) : PE X (.Name x pos) (tC v) :=
  fun _ _ _ H _ I h => ld_glob I hg hm ⟨v, H, I, r, h⟩ hd
theorem pe_bltn {x : Str} {v : V} {u : Value} {pos : Pos} (hg : Gl X x) (hm : X.mg x = none) (hv : bootBuiltins x = some u) (r : RelV v u) (hn : x ≠ "__name__" := by decide) (hd : (x == ("__debug__" : Str)) = false := by decide) : PE X (.Name x pos) (tC v) :=
  fun _ _ _ H _ I h => ld_blt I hg hm hv ⟨v, H, I, r, h⟩ hn hd

/-! ### arithmetic -/
variable {a b : Expr} {ta tb : TE} {pos : Pos}
/-! ### comparisons -/
def PC (X : Cx) (op : CmpOp) (a b : Expr) (t : TE) : Prop :=
  ∀ (pins : List (Addr × Obj)) (s : Shared) (σ : St) (H : Hp) (Q : VK), Inv X pins σ H s → t σ H Q →
    wpAny (model X.prog X.w) X.A (eval a X.env) (fun v s₁ => wpAny (model X.prog X.w) X.A (eval b X.env) (fun u s₂ => wpAny (model X.prog X.w) X.A (compareOp op v u) (EP X pins σ Q) X.xe s₂) X.xe s₁) X.xe s
theorem nobehind (b : Expr) {op : CmpOp} (h : op ≠ .In) (h2 : op ≠ .NotIn) : behindInMarks op b = false := by
  have e1 : (op == CmpOp.In) = false := by cases op <;> first | rfl | exact absurd rfl h
  have e2 : (op == CmpOp.NotIn) = false := by cases op <;> first | rfl | exact absurd rfl h2
  cases b <;> simp [behindInMarks, e1, e2]
/-- a comparison as a value, as a test -/
def tB (t : TE) : TT := fun σ H Q => t σ H fun x H1 => ∃ c, x = .bl c ∧ Q c H1
theorem pe_cmp {op : CmpOp} {t : TE} (h : PC X op a b t) (h1 : behindInMarks op b = false := by first | exact nobehind _ (by decide) (by decide) | rfl) : PE X (.Compare a [op] [b] pos) t := fun pins s σ H Q I hw => wpAny_Compare1 (h pins s σ H Q I hw) h1
theorem pt_cmp {op : CmpOp} {t : TE} (h : PC X op a b t) (h1 : behindInMarks op b = false := by first | exact nobehind _ (by decide) (by decide) | rfl) : PT X (.Compare a [op] [b] pos) (tB t) := by
  intro pins s σ H Q I hw
  refine wpAny_isTrue_Compare1 (thn (h pins s σ H _ I hw) fun v s1 h1 => thn h1 fun u s2 h2 => thn h2 fun c s3 ⟨x, H1, I1, r1, q1⟩ => ?_) h1
  obtain ⟨d, rfl, q⟩ := q1
  cases r1
  exact wpAny_truthy_bool ⟨H1, I1, q⟩
/-- an expression whose value is a bool, as a test -/
theorem pt_val {e : Expr} {t : TE} (h : PE X e t) (he : ∀ whole, isTrue e X.env whole = (do let v ← whole; standAt e.pos; holding [v] (truthy v)) := by intro _; rfl) : PT X e (tB t) := by
  intro pins s σ H Q I hw
  refine isTrue_plain (thn (h pins s σ H _ I hw) fun v s1 ⟨x, H1, I1, r1, q1⟩ => ?_) (he _)
  obtain ⟨d, rfl, q⟩ := q1
  cases r1
  exact wpAny_truthy_bool ⟨H1, I1, q⟩

/-! ### and, or, not -/
variable {tA tB' : TT} {rest : List Expr}
def tAnd (t u : TT) : TT := fun σ H Q => t σ H fun c H1 => if c = true then u σ H1 Q else Q false H1
def tOr (t u : TT) : TT := fun σ H Q => t σ H fun c H1 => if c = true then Q true H1 else u σ H1 Q
def tNot (t : TT) : TT := fun σ H Q => t σ H fun c H1 => Q (!c) H1
theorem pw_and1 (ha : PT X a tA) : PW X (.BoolOp .And [a] pos) tA := by
  intro wh pins s σ H Q I h
  refine isTrue_and (thn (ha pins s σ H Q I h) fun c s1 e => ?_)
  cases c with
  | true => exact isTrue_and_nil e
  | false => exact e
theorem pw_or1 (ha : PT X a tA) : PW X (.BoolOp .Or [a] pos) tA := by
  intro wh pins s σ H Q I h
  refine isTrue_or (thn (ha pins s σ H Q I h) fun c s1 e => ?_)
  cases c with
  | false => exact isTrue_or_nil e
  | true => exact e
theorem pw_and (ha : PT X a tA) (hb : PW X (.BoolOp .And (b :: rest) pos) tB') : PW X (.BoolOp .And (a :: b :: rest) pos) (tAnd tA tB') := by
  intro wh pins s σ H Q I h
  refine isTrue_and (thn (ha pins s σ H _ I h) fun c s1 ⟨H1, I1, q1⟩ => ?_)
  cases c with
  | true => exact hb wh pins s1 σ H1 Q I1 q1
  | false => exact ⟨H1, I1, q1⟩
theorem pw_or (ha : PT X a tA) (hb : PW X (.BoolOp .Or (b :: rest) pos) tB') : PW X (.BoolOp .Or (a :: b :: rest) pos) (tOr tA tB') := by
  intro wh pins s σ H Q I h
  refine isTrue_or (thn (ha pins s σ H _ I h) fun c s1 ⟨H1, I1, q1⟩ => ?_)
  cases c with
  | true => exact ⟨H1, I1, q1⟩
  | false => exact hb wh pins s1 σ H1 Q I1 q1
theorem pt_not (ha : PT X a tA) : PT X (.UnaryOp .Not a pos) (tNot tA) := by
  intro pins s σ H Q I h
  exact isTrue_not (ha pins s σ H (fun c H1 => Q (!c) H1) I h)
/-- .. as values (bools) -/
def tAndV (ta tb : TE) : TE := fun σ H Q => ta σ H fun x H1 => ∃ c, x = .bl c ∧ if c = true then tb σ H1 Q else Q (.bl false) H1
def tNotV (ta : TE) : TE := fun σ H Q => ta σ H fun x H1 => ∃ c, x = .bl c ∧ Q (.bl (!c)) H1
theorem pe_one {op} {t : TE} (h : PE X a t) : PE X (.BoolOp op [a] pos) t := fun pins s σ H Q I hw => BoolOp_one (h pins s σ H Q I hw)
theorem pe_and (ha : PE X a ta) (hb : PE X (.BoolOp .And (b :: rest) pos) tb) : PE X (.BoolOp .And (a :: b :: rest) pos) (tAndV ta tb) := by
  intro pins s σ H Q I h
  refine BoolOp_and (thn (ha pins s σ H _ I h) fun v s1 ⟨x, H1, I1, r1, q1⟩ => ?_)
  obtain ⟨c, rfl, q1⟩ := q1
  cases r1
  refine wpAny_truthy_bool ?_
  cases c with
  | true => exact hb pins s1 σ H1 Q I1 q1
  | false => exact ⟨.bl false, H1, I1, rfl, q1⟩
theorem pe_not (ha : PE X a ta) : PE X (.UnaryOp .Not a pos) (tNotV ta) := by
  intro pins s σ H Q I h
  refine UnaryOp_ (thn (ha pins s σ H _ I h) fun v s1 ⟨x, H1, I1, r1, q1⟩ => ?_)
  obtain ⟨c, rfl, q1⟩ := q1
  cases r1
  exact not_of (wpAny_truthy_bool ⟨.bl (!c), H1, I1, rfl, q1⟩)
/-- a if t else b -/
def tIf (t : TT) (ta tb : TE) : TE := fun σ H Q => t σ H fun c H1 => if c = true then ta σ H1 Q else tb σ H1 Q
theorem pe_ifExp {c : Expr} (hc : PT X c tA) (ha : PE X a ta) (hb : PE X b tb) : PE X (.IfExp c a b pos) (tIf tA ta tb) := by
  intro pins s σ H Q I h
  refine wpAny_IfExp (thn (hc pins s σ H _ I h) fun d s1 ⟨H1, I1, q1⟩ => ?_)
  cases d with
  | true => exact ha pins s1 σ H1 Q I1 q1
  | false => exact hb pins s1 σ H1 Q I1 q1
end
end L2

namespace L2
open PySem PySem.Spec PyProof.Rows

/-! ### a list, a tuple that is read: tracked, frozen, or an object of the module -/
def SqL (K : PySem.W.Frag) (H : Hp) (a : Addr) (xs : List V) : Prop :=
  Rd H a (.lst xs) ∨
    ∃ (o : Obj) (its : Array Value) (n : Nat), K.lookup a = some o ∧ o.cls = .type "list" ∧ o.dict = none ∧ o.data = .seq its n ∧ its.size ≤ sizeLine ∧ Vals xs its.toList
def SqT (K : PySem.W.Frag) (H : Hp) (a : Addr) (xs : List V) : Prop :=
  Rd H a (.tup xs) ∨
    ∃ (o : Obj) (its : Array Value) (n : Nat), K.lookup a = some o ∧ o.cls = .type "tuple" ∧ o.data = .seq its n ∧ its.size ≤ sizeLine ∧ Vals xs its.toList
def absV : Value → Option V
  | .none => some .non
  | .bool b => some (.bl b)
  | .int i _ => some (.int i)
  | .str x _ => some (.str x)
  | .bytes b _ => some (.byt b)
  | .float b _ => some (.flt b)
  | .ref a => some (.ref a)
  | .type n => some (.ty n)
  | _ => none
theorem RelV.abs {x : V} {u : Value} (r : RelV x u) : absV u = some x := by
  cases x with
  | non => cases r; rfl
  | bl _ => cases r; rfl
  | int _ => obtain ⟨t, rfl⟩ := r; rfl
  | str _ => obtain ⟨t, rfl⟩ := r; rfl
  | byt _ => obtain ⟨t, rfl⟩ := r; rfl
  | flt _ => obtain ⟨t, rfl⟩ := r; rfl
  | ref _ => cases r; rfl
  | ty _ => cases r; rfl
theorem RelV.inj {x y : V} {u : Value} (r : RelV x u) (q : RelV y u) : x = y := Option.some.inj (r.abs.symm.trans q.abs)
theorem Vals.inj : ∀ {xs ys : List V} {us : List Value}, Vals xs us → Vals ys us → xs = ys
  | _, _, _, .nil, .nil => rfl
  | _, _, _, .cons r t, .cons r' t' => by rw [r.inj r', Vals.inj t t']
section
variable {X : Cx} {pins : List (Addr × Obj)} {σ : St} {H : Hp} {s : Shared} {a : Addr} {xs ys : List V}
theorem SqL.of {K : PySem.W.Frag} (h : H a = some (.lst xs)) : SqL K H a xs := .inl (.inl h)
theorem SqT.of {K : PySem.W.Frag} (h : H a = some (.tup xs)) : SqT K H a xs := .inl (.inl h)
theorem Inv.list (I : Inv X pins σ H s) (h : SqL X.K H a xs) : ∃ its : List Value, Vals xs its ∧ PlainL s.heap a its.toArray ∧ xs.length ≤ sizeLine := by
  rcases h with h | ⟨o, its, n, hk, hc, hd, hs, hz, r⟩
  · obtain ⟨z, its, n, r, e⟩ := h.ok I.hok
    exact ⟨its, r, ⟨_, n, e, rfl, rfl, rfl⟩, z⟩
  · refine ⟨its.toList, r, ⟨o, n, I.kIn a o hk, hc, hd, by simpa using hs⟩, ?_⟩
    have e := r.length
    simp only [Array.length_toList] at e
    omega
theorem Inv.tuple (I : Inv X pins σ H s) (h : SqT X.K H a xs) : ∃ its : List Value, Vals xs its ∧ IsTup s.heap a its.toArray ∧ xs.length ≤ sizeLine := by
  rcases h with h | ⟨o, its, n, hk, hc, hs, hz, r⟩
  · obtain ⟨z, its, r, p⟩ := h.ok I.hok
    exact ⟨its, r, p.tup, z⟩
  · refine ⟨its.toList, r, ⟨o, I.kIn a o hk, hc, n, by simpa using hs⟩, ?_⟩
    have e := r.length
    simp only [Array.length_toList] at e
    omega
theorem Inv.list_inj (I : Inv X pins σ H s) (h : SqL X.K H a xs) (h' : SqL X.K H a ys) : xs = ys := by
  obtain ⟨its, r, ⟨o, n, e, _, _, d⟩, _⟩ := I.list h
  obtain ⟨its', r', ⟨o', n', e', _, _, d'⟩, _⟩ := I.list h'
  rw [e] at e'; cases e'
  rw [d] at d'
  injection d' with d1 _
  have : its = its' := by simpa using congrArg Array.toList d1
  subst this
  exact r.inj r'
theorem Inv.tuple_inj (I : Inv X pins σ H s) (h : SqT X.K H a xs) (h' : SqT X.K H a ys) : xs = ys := by
  obtain ⟨its, r, ⟨o, e, _, n, d⟩, _⟩ := I.tuple h
  obtain ⟨its', r', ⟨o', e', _, n', d'⟩, _⟩ := I.tuple h'
  rw [e] at e'; cases e'
  rw [d] at d'
  injection d' with d1 _
  have : its = its' := by simpa using congrArg Array.toList d1
  subst this
  exact r.inj r'
end

/-! ### another wish about exceptions -/
abbrev Cx.wish (X : Cx) (E : Value → Shared → Prop) : Cx := { X with xe := E }
/-- no exception leaves -/
abbrev Cx.nox (X : Cx) : Cx := X.wish fun _ _ => False
theorem Cx.Ok.wish {X : Cx} (ok : X.Ok) (E : Value → Shared → Prop) : (X.wish E).Ok :=
  ⟨ok.mod, ok.kind, ok.glob, ok.blt, ok.above, ok.inj, ok.has, ok.cab, ok.hd, ok.frames, ok.stk, ok.exf, ok.bs, ok.bsz, ok.noex, ok.exfs, ok.funs, ok.frf⟩
theorem Cx.Ok.unwish {X : Cx} {E : Value → Shared → Prop} (ok : (X.wish E).Ok) : X.Ok :=
  ⟨ok.mod, ok.kind, ok.glob, ok.blt, ok.above, ok.inj, ok.has, ok.cab, ok.hd, ok.frames, ok.stk, ok.exf, ok.bs, ok.bsz, ok.noex, ok.exfs, ok.funs, ok.frf⟩
section
variable {X : Cx} {pins : List (Addr × Obj)} {σ : St} {H : Hp} {s : Shared} {E : Value → Shared → Prop}
theorem Inv.wish (I : Inv X pins σ H s) (E : Value → Shared → Prop) : Inv (X.wish E) pins σ H s := ⟨I.ok.wish E, I.os, I.bare, I.base, I.loc, I.cell, I.free, I.freeC, I.pin, I.hok, I.len⟩
theorem Inv.unwish (I : Inv (X.wish E) pins σ H s) : Inv X pins σ H s := ⟨I.ok.unwish, I.os, I.bare, I.base, I.loc, I.cell, I.free, I.freeC, I.pin, I.hok, I.len⟩
theorem SP.unwish {D : Ends} {f : Flow} {s' : Shared} (h : SP (X.wish E) pins D f s') : SP X pins D f s' := by
  cases f with
  | next => obtain ⟨σ', H', I, q⟩ := h; exact ⟨σ', H', I.unwish, q⟩
  | brk => obtain ⟨σ', H', I, q⟩ := h; exact ⟨σ', H', I.unwish, q⟩
  | cont => obtain ⟨σ', H', I, q⟩ := h; exact ⟨σ', H', I.unwish, q⟩
  | ret u => obtain ⟨v, σ', H', I, r, q⟩ := h; exact ⟨v, σ', H', I.unwish, r, q⟩
theorem PE.nox {e : Expr} {t : TE} (h : PE X.nox e t) : PE X e t := fun pins s σ H Q I hw =>
  wpAny_mono (h pins s σ H Q (I.wish _) hw) (fun _ _ ⟨v, H', I', r, q⟩ => ⟨v, H', I'.unwish, r, q⟩) fun _ _ z => False.elim z
theorem PT.nox {e : Expr} {t : TT} (h : PT X.nox e t) : PT X e t := fun pins s σ H Q I hw =>
  wpAny_mono (h pins s σ H Q (I.wish _) hw) (fun _ _ ⟨H', I', q⟩ => ⟨H', I'.unwish, q⟩) fun _ _ z => False.elim z
theorem PSs.nox {st : List Stmt} {t : TS} (h : PSs X.nox st t) : PSs X st t := fun pins s σ H D I hw =>
  wpAny_mono (h pins s σ H D (I.wish _) hw) (fun _ _ q => q.unwish) fun _ _ z => False.elim z
end

/-! ### blocks and small statements -/
section
variable {X : Cx} {st : Stmt} {rest : List Stmt} {t u : TS} {e : Expr} {te : TE} {pos : Pos}
def tNext : TS := fun D σ H => D.nx σ H
def tSeq (t u : TS) : TS := fun D σ H => t { D with nx := u D } σ H
theorem pss_nil : PSs X [] tNext := fun _ _ σ H _ I h => wpAny_execs_nil ⟨σ, H, I, h⟩
theorem pss_cons (h1 : PS X st t) (h2 : PSs X rest u) : PSs X (st :: rest) (tSeq t u) := by
  intro pins s σ H D I h
  refine wpAny_execs_cons (thn (h1 pins s σ H { D with nx := u D } I h) fun f s1 q => ?_)
  cases f with
  | next =>
    obtain ⟨σ', H', I', q⟩ := q
    exact h2 pins s1 σ' H' D I' q
  | ret v => exact q
  | brk => exact q
  | cont => exact q
theorem pss_one (h1 : PS X st t) : PSs X [st] t := by
  intro pins s σ H D I h
  refine wpAny_execs_cons (thn (h1 pins s σ H D I h) fun f s1 q => ?_)
  cases f with
  | next => exact wpAny_execs_nil q
  | ret v => exact q
  | brk => exact q
  | cont => exact q
def tCont : TS := fun D σ H => D.ct σ H
theorem ps_continue : PS X (.Continue pos) tCont := fun _ _ σ H _ I h => wpAny_Continue ⟨σ, H, I, h⟩
/-- in a def's body nothing is shown -/
theorem Inv.quiet {pins : List (Addr × Obj)} {σ : St} {H : Hp} {s : Shared} (I : Inv X pins σ H s) : interactive X.env = false := by simp [interactive, I.ok.kind]
/-- an expression whose value is dropped -/
def tDrop (te : TE) : TS := fun D σ H => te σ H fun _ H1 => D.nx σ H1
theorem ps_expr (he : PE X e te) (hs : swapsWith e none pos.line X.env = pure false := by rfl) : PS X (.Expr e pos) (tDrop te) := by
  intro pins s σ H D I h
  exact wpAny_Expr_any (thn (he pins s σ H _ I h) fun v s1 ⟨x, H1, I1, r1, q1⟩ => ⟨σ, H1, I1, q1⟩) I.quiet hs
def tRet (te : TE) : TS := fun D σ H => te σ H D.rt
theorem ps_ret (he : PE X e te) : PS X (.Return (some e) pos) (tRet te) := by
  intro pins s σ H D I h
  exact wpAny_Return_some (thn (he pins s σ H _ I h) fun v s1 ⟨x, H1, I1, r1, q1⟩ => ⟨x, σ, H1, I1, r1, q1⟩)
def tRetN : TS := fun D _ H => D.rt .non H
theorem ps_retN : PS X (.Return none pos) tRetN := fun _ _ σ H _ I h => wpAny_Return_none ⟨.non, σ, H, I, rfl, h⟩
def tIfS (c : TT) (t u : TS) : TS := fun D σ H => c σ H fun b H1 => if b = true then t D σ H1 else u D σ H1
theorem ps_if {c : Expr} {a b : List Stmt} {tc : TT} (hc : PT X c tc) (ha : PSs X a t) (hb : PSs X b u) : PS X (.If c a b pos) (tIfS tc t u) := by
  intro pins s σ H D I h
  refine wpAny_If (thn (hc pins s σ H _ I h) fun d s1 ⟨H1, I1, q1⟩ => ?_)
  cases d with
  | true => exact ha pins s1 σ H1 D I1 q1
  | false => exact hb pins s1 σ H1 D I1 q1
end

/-! ### targets -/
abbrev TG := V → St → Hp → (St → Hp → Prop) → Prop
abbrev TGs := List V → St → Hp → (St → Hp → Prop) → Prop
def PG (X : Cx) (target : Expr) (t : TG) : Prop :=
  ∀ (pins : List (Addr × Obj)) (s : Shared) (σ : St) (H : Hp) (v : V) (u : Value) (Q : St → Hp → Prop), Inv X pins σ H s → RelV v u → t v σ H Q →
    wpAny (model X.prog X.w) X.A (assign target X.env u) (fun _ s' => ∃ σ' H', Inv X pins σ' H' s' ∧ Q σ' H') X.xe s
/-- several targets, one after another -/
def PGs (X : Cx) (ts : List Expr) (t : TGs) : Prop :=
  ∀ (pins : List (Addr × Obj)) (s : Shared) (σ : St) (H : Hp) (vs : List V) (us : List Value) (Q : St → Hp → Prop), Inv X pins σ H s → Vals vs us → t vs σ H Q →
    wpAny (model X.prog X.w) X.A (assignInOrder ((assignEach ts X.env).map (·.2)) us) (fun _ s' => ∃ σ' H', Inv X pins σ' H' s' ∧ Q σ' H') X.xe s
/-- o[i] = v, by values -/
abbrev TSet := V → V → V → Hp → (Hp → Prop) → Prop
def PSet (X : Cx) (t : TSet) : Prop :=
  ∀ (pins : List (Addr × Obj)) (s : Shared) (σ : St) (H : Hp) (o i v : V) (ov iv u : Value) (Q : Hp → Prop), Inv X pins σ H s → RelV o ov → RelV i iv → RelV v u → t o i v H Q →
    wpAny (model X.prog X.w) X.A (setItem ov iv u) (fun _ s' => ∃ H', Inv X pins σ H' s' ∧ Q H') X.xe s
/-- a op= b, by values -/
abbrev TIp := V → V → Hp → VK → Prop
def PIp (X : Cx) (op : Operator) (t : TIp) : Prop :=
  ∀ (pins : List (Addr × Obj)) (s : Shared) (σ : St) (H : Hp) (x y : V) (v u : Value) (Q : VK), Inv X pins σ H s → RelV x v → RelV y u → t x y H Q →
    wpAny (model X.prog X.w) X.A (inplaceOp op v u) (EP X pins σ Q) X.xe s
section
variable {X : Cx} {pos : Pos}
def gName (i : Nat) : TG := fun v σ H Q => Q (σ.set i (some v)) H
theorem pg_name {i : Nat} {x : Str} (hN : X.N.Nodup) (hi : X.N[i]? = some x) (hx : Loc X.env.scope x) (hf : X.fn x = true ∨ X.env.scope.names.lookup x = some .local := by first | exact .inl rfl | exact .inr rfl | assumption) : PG X (.Name x pos) (gName i) := by
  intro pins s σ H v u Q I r h
  exact wpAny_assign_Name (store_ok I hN hi hx r (fun s' I' => ⟨_, H, I', h⟩) hf)
def gNil : TGs := fun vs σ H Q => vs = [] ∧ Q σ H
def gCons (t : TG) (u : TGs) : TGs := fun vs σ H Q => ∃ v r, vs = v :: r ∧ t v σ H fun σ' H' => u r σ' H' Q
theorem pgs_nil : PGs X [] gNil := by
  intro pins s σ H vs us Q I r h
  obtain ⟨e, h⟩ := h
  subst e
  cases r
  exact assignInOrder_nil ⟨σ, H, I, h⟩
theorem pgs_cons {e : Expr} {es : List Expr} {t : TG} {u : TGs} (h1 : PG X e t) (h2 : PGs X es u)
    (hs : (assignEach (e :: es) X.env).map (·.2) = assign e X.env :: (assignEach es X.env).map (·.2) := by rfl) : PGs X (e :: es) (gCons t u) := by
  intro pins s σ H vs us Q I r h
  obtain ⟨v, vr, e1, h⟩ := h
  subst e1
  cases r with
  | cons r rr =>
    rw [hs]
    refine assignInOrder_cons (thn (h1 pins s σ H _ _ _ I r h) fun _ s1 ⟨σ1, H1, I1, q1⟩ => ?_)
    exact h2 pins s1 σ1 H1 _ _ Q I1 rr q1
/-- (a, b, ..) = a tuple of that length -/
def gTup (K : PySem.W.Frag) (n : Nat) (t : TGs) : TG := fun v σ H Q => ∃ a xs, v = .ref a ∧ SqT K H a xs ∧ xs.length = n ∧ t xs σ H Q
theorem pg_tup {es : List Expr} {k : Nat} {t : TGs} {n : Nat} (hc : X.calm = true) (h : PGs X es t)
    (hn : (assignEach es X.env).length = n := by rfl) (hst : (assignEach es X.env).findIdx? (·.1) = none := by rfl) : PG X (.Tuple es k pos) (gTup X.K n t) := by
  intro pins s σ H v u Q I r hw
  obtain ⟨a, xs, e1, hq, hl, hw⟩ := hw
  subst e1
  cases r
  obtain ⟨its, rv, ht, hz⟩ := I.tuple hq
  refine assign_Tuple_tuple (I.ok.hd hc) ht (by simp [hn, ← hl, rv.length]) hst fun h' hx => ?_
  have I1 : Inv X pins σ H { s with heap := h' } := I.kept (t' := s.toks) fun b o e => hx b o (Nat.ne_of_lt (Heap.lt_size e)) e
  exact h pins _ σ H xs _ Q I1 (by simpa using rv) hw
/-- o[i] = .. -/
def gSub (to ti : TE) (t : TSet) : TG := fun v σ H Q => to σ H fun o H1 => ti σ H1 fun i H2 => t o i v H2 fun H3 => Q σ H3
theorem pg_sub {o i : Expr} {to ti : TE} {t : TSet} (ho : PE X o to) (hi : PE X i ti) (hs : PSet X t)
    (ha : ∀ v, assign (.Subscript o i pos) X.env v = (do
      let ov ← holding [v] (eval o X.env)
      let iv ← holding [v, ov] (eval i X.env)
      standAt pos
      holding [v, ov, iv] (setItem ov iv v)
      release [v, ov, iv] []) := by intro _; rfl) : PG X (.Subscript o i pos) (gSub to ti t) := by
  intro pins s σ H v u Q I r h
  rw [ha]
  refine wpAny_bind (wpAny_holding (thn (ho pins s σ H _ I h) fun ov s1 ⟨x, H1, I1, r1, q1⟩ => ?_))
  refine wpAny_bind (wpAny_holding (thn (hi pins s1 σ H1 _ I1 q1) fun iv s2 ⟨y, H2, I2, r2, q2⟩ => ?_))
  refine wpAny_bind (wpAny_standAt (wpAny_bind (wpAny_holding (thn (hs pins s2 σ H2 x y v ov iv u _ I2 r1 r2 r q2) fun _ s3 ⟨H3, I3, q3⟩ => ?_))))
  exact wpAny_release ⟨σ, H3, I3, q3⟩
/-- target = value -/
def tAsg (te : TE) (g : TG) : TS := fun D σ H => te σ H fun x H1 => g x σ H1 D.nx
theorem ps_asg {tg e : Expr} {te : TE} {g : TG} (he : PE X e te) (hg : PG X tg g) (hs : swapsWithSole [tg] e pos.line X.env = pure false := by rfl) (hw : swappedStores [tg] e X.env = pure none := by rfl)
    (h1 : (assignEach [tg] X.env).map (·.2) = [assign tg X.env] := by rfl) : PS X (.Assign [tg] e pos) (tAsg te g) := by
  intro pins s σ H D I h
  refine wpAny_Assign_stores (thn (he pins s σ H _ I h) fun v s1 ⟨x, H1, I1, r1, q1⟩ => ?_) hs hw
  rw [h1]
  exact thn (hg pins s1 σ H1 x v _ I1 r1 q1) fun _ s2 q => q
/-- name = value -/
theorem ps_set {i : Nat} {x : Str} {e : Expr} {te : TE} {pos' : Pos} (hN : X.N.Nodup) (hi : X.N[i]? = some x) (hx : Loc X.env.scope x) (he : PE X e te) (hs : swapsWith e (some (.Name x pos')) pos.line X.env = pure false := by rfl) (hf : X.fn x = true ∨ X.env.scope.names.lookup x = some .local := by first | exact .inl rfl | exact .inr rfl | assumption) :
    PS X (.Assign [.Name x pos'] e pos) (tAsg te (gName i)) := by
  intro pins s σ H D I h
  refine wpAny_Assign_Name (thn (he pins s σ H _ I h) fun v s1 ⟨y, H1, I1, r1, q1⟩ => ?_) hs
  exact store_ok I1 hN hi hx r1 (fun s2 I2 => ⟨_, H1, I2, q1⟩) hf
/-- a, b = x, y with plain local names: stored from the right; the pair itself is not tracked (the opening rows as in PyProof/Rows/TupAssign.lean:23) -/
def tPar (i j : Nat) (ta : TA) : TS := fun D σ H => ta σ H fun vs H1 => ∃ v w, vs = [v, w] ∧ D.nx ((σ.set i (some v)).set j (some w)) H1
theorem ps_par {i j : Nat} {x y : Str} {a b : Expr} {ta : TA} {px py pt : Pos} {kt k2 pt2} (hc : X.calm = true) (hN : X.N.Nodup) (hi : X.N[i]? = some x) (hj : X.N[j]? = some y) (hij : i ≠ j)
    (hx : X.env.scope.names.lookup x = some .local) (hy : X.env.scope.names.lookup y = some .local) (ha : PA X [a, b] ta)
    (hw : swappedStores [.Tuple [.Name x px, .Name y py] kt pt] (.Tuple [a, b] k2 pt2) X.env = pure (some [x, y]))
    (hs : swapsWithSole [.Tuple [.Name x px, .Name y py] kt pt] (.Tuple [a, b] k2 pt2) pos.line X.env = pure false := by rfl) :
    PS X (.Assign [.Tuple [.Name x px, .Name y py] kt pt] (.Tuple [a, b] k2 pt2) pos) (tPar i j ta) := by
  intro pins s σ H D I h
  rw [exec_Assign_arm]
  refine wpAny_bind (wpAny_standAt ?_)
  rw [hs]
  refine wpAny_bind (wpAny_pure ?_)
  rw [if_neg (by decide)]
  refine wpAny_bind (Tuple_ (thn (ha _ pins s σ H _ I h) fun us s1 ⟨vs, H1, I1, r1, q1⟩ => ?_))
  obtain ⟨v, w, e1, q1⟩ := q1
  subst e1
  obtain ⟨u1, u2, rfl, rv, rw'⟩ : ∃ u1 u2, us = [u1, u2] ∧ RelV v u1 ∧ RelV w u2 := by
    cases r1 with
    | cons p q =>
      cases q with
      | cons p' q' =>
        cases q'
        exact ⟨_, _, rfl, p, p'⟩
  refine wpAny_newObj_type ?_ (by show 2 ≤ sizeLine; decide)
  have I2 : Inv X pins σ H1 { s1 with heap := s1.heap.push { cls := .type "tuple", data := .seq [u1, u2].toArray } } := I1.kept (t' := s1.toks) fun b o e => Heap.get?_push_of_some _ e
  rw [hw]
  refine wpAny_bind (wpAny_pure ?_)
  show wpAny (model X.prog X.w) X.A (do rule "assign.swapped-stores"; let items ← unpackItems (.ref s1.heap.objs.size) 2 none; assignInOrder [fun v => bindName X.env y v, fun v => bindName X.env x v] items.reverse; pure Flow.next) _ _ _
  refine wpAny_bind (wpAny_rule (wpAny_bind (unpackItems_tuple (items := #[u1, u2]) (I.ok.hd hc) (IsTup.new s1.heap _) fun h' hx' => ?_)))
  have I3 := I2.kept (h' := h') (t' := s1.toks) fun b o e => hx' b o (Nat.ne_of_lt (Heap.lt_size e)) e
  show wpAny _ _ (assignInOrder [fun v => bindName X.env y v, fun v => bindName X.env x v] [u2, u1] >>= fun _ => pure Flow.next) _ _ _
  refine wpAny_bind (assignInOrder_cons (wpAny_bindName (store_ok I3 hN hj (.inl hy) rw' (fun s2 I4 => ?_) (.inr hy))))
  refine assignInOrder_cons (wpAny_bindName (store_ok I4 hN hi (.inl hx) rv (fun s3 I5 => assignInOrder_nil (wpAny_pure ?_)) (.inr hx)))
  rw [List.set_comm _ _ (Ne.symm hij)] at I5
  exact ⟨_, H1, I5, q1⟩
/-- name op= e -/
def tAug (i : Nat) (te : TE) (ti : TIp) : TS := fun D σ H => ∃ x, σ[i]? = some (some x) ∧ te σ H fun y H1 => ti x y H1 fun z H2 => D.nx (σ.set i (some z)) H2
theorem ps_aug {i : Nat} {x : Str} {e : Expr} {te : TE} {op : Operator} {ti : TIp} {pos' : Pos} (hN : X.N.Nodup) (hi : X.N[i]? = some x) (hx : Loc X.env.scope x) (he : PE X e te) (ho : PIp X op ti) (hf : X.fn x = true ∨ X.env.scope.names.lookup x = some .local := by first | exact .inl rfl | exact .inr rfl | assumption) :
    PS X (.AugAssign (.Name x pos') op e pos) (tAug i te ti) := by
  intro pins s σ H D I h
  obtain ⟨v, e1, h⟩ := h
  obtain ⟨m, hn, hl⟩ := I.loc
  have vis : Vis X.env.scope x := by rcases hx with k | k; exact .inl k; exact .inr (.inl k)
  obtain ⟨u, r, l⟩ := hl i x v hi e1 vis
  refine wpAny_AugAssign_Name ?_
  have go : wpAny (model X.prog X.w) X.A (eval e X.env) (fun w s₂ => wpAny (model X.prog X.w) X.A (inplaceOp op u w) (fun r s₃ => wpAny (model X.prog X.w) X.A (storeName X.env x r) (fun _ => SP X pins D .next) X.xe s₃) X.xe s₂) X.xe s := by
    refine thn (he pins s σ H _ I h) fun w s1 ⟨y, H1, I1, r1, q1⟩ => ?_
    refine thn (ho pins s1 σ H1 v y u w _ I1 r r1 q1) fun z s2 ⟨zv, H2, I2, r2, q2⟩ => ?_
    exact store_ok I2 hN hi hx r2 (fun s3 I3 => ⟨_, H2, I3, q2⟩) hf
  rcases l with ⟨hk, hm⟩ | ⟨hk, c, hc, hcell⟩
  · exact wpAny_loadName_local I.ok.kind hk hn hm go
  · rcases hk with hk | hk
    · exact wpAny_loadName_cell I.ok.kind hk hc hcell go
    · rcases hx with k | k
      · have : X.env.scope.names.lookup x = some .free := hk
        rw [k] at this; cases this
      · have : X.env.scope.names.lookup x = some .free := hk
        rw [k] at this; cases this
/-- ints -/
def ipI (f : Int → Int → Int) : TIp := fun x y H Q => ∃ i j, x = .int i ∧ y = .int j ∧ Q (.int (f i j)) H
theorem ip_add : PIp X .Add (ipI fun i j => i + j) := by
  intro pins s σ H x y v u Q I r1 r2 h
  obtain ⟨i, j, e1, e2, q⟩ := h
  subst e1; subst e2
  obtain ⟨t, rfl⟩ := r1
  obtain ⟨t', rfl⟩ := r2
  exact iadd_int ⟨.int _, H, I.tok _, ⟨_, rfl⟩, q⟩
end

/-! ### while -/
section
variable {X : Cx} {pos : Pos}
/-- the invariant W with its measure -/
def tWhile (c : TT) (tb : TS) : TS := fun D σ H => ∃ W : Nat → St → Hp → Prop, (∃ m, W m σ H) ∧ ∀ m σ H, W m σ H →
  c σ H fun b H1 => if b = true then ∃ N : St → Hp → Prop, (∀ σ' H', N σ' H' → ∃ m', m' < m ∧ W m' σ' H') ∧ tb { D with nx := N, ct := N, bk := D.nx } σ H1 else D.nx σ H1
theorem ps_while {c : Expr} {body : List Stmt} {tc : TT} {tb : TS} (hp : PassesOwn (model X.prog X.w) X.A X.env X.xe) (hc : PT X c tc) (hb : PSs X body tb) : PS X (.While c body [] pos) (tWhile tc tb) := by
  intro pins s σ H D I h
  obtain ⟨W, ⟨m0, w0⟩, turn⟩ := h
  refine wpAny_While (codeAny_whileLoop (fun n s' => ∃ σ' H', Inv X pins σ' H' s' ∧ W n σ' H') ?_ m0 ⟨σ, H, I, w0⟩)
  rintro n s1 ⟨σ1, H1, I1, w1⟩
  refine wpAny_passesOwn hp (thn (hc pins s1 σ1 H1 _ I1 (turn n σ1 H1 w1)) fun b s2 ⟨H2, I2, q2⟩ => ?_)
  cases b with
  | true =>
    obtain ⟨N, hN, q2⟩ := q2
    rw [if_pos rfl]
    refine wpAny_passesOwn hp (thn (hb pins s2 σ1 H2 _ I2 q2) fun f s3 q3 => ?_)
    cases f with
    | next =>
      obtain ⟨σ3, H3, I3, n3⟩ := q3
      obtain ⟨m', hm, w3⟩ := hN σ3 H3 n3
      exact ⟨m', hm, σ3, H3, I3, w3⟩
    | cont =>
      obtain ⟨σ3, H3, I3, n3⟩ := q3
      obtain ⟨m', hm, w3⟩ := hN σ3 H3 n3
      exact ⟨m', hm, σ3, H3, I3, w3⟩
    | brk => exact q3
    | ret v => exact q3
  | false =>
    rw [if_neg Bool.false_ne_true]
    exact wpAny_execs_nil ⟨σ1, H2, I2, q2⟩
end

/-! ### what a loop or a comprehension walks -/
/-- at turn i: it yields x (the heap may grow), or it stops -/
structure It where
  go : Nat → Hp → Prop
  yld : Nat → Hp → V → Hp → Prop
  stop : Nat → Hp → Prop
/-- the iterator's own objects may turn: they are not the frame's, not pinned, younger than the entry (or a comprehension's own) -/
def FpOk (X : Cx) (pins : List (Addr × Obj)) (H : Hp) (b : Addr) : Prop :=
  H b = none ∧ b ≠ X.env.locals ∧ b ∉ X.fs ∧ (b ∈ X.ex ∨ X.s₀.heap.objs.size ≤ b) ∧ (∀ x c, X.env.cells.lookup x = some c → c ≠ b) ∧ ∀ p ∈ X.pn ++ pins, p.1 ≠ b
theorem Inv.fpOk {X : Cx} {pins : List (Addr × Obj)} {σ : St} {H H' : Hp} {s : Shared} {b : Addr} (I : Inv X pins σ H s) (hb : s.heap.objs.size ≤ b) (hn : H' b = none) : FpOk X pins H' b := by
  refine ⟨hn, Nat.ne_of_gt (Nat.lt_of_lt_of_le I.lt hb), I.nofs hb, .inr (Nat.le_trans I.sz hb), fun x c e z => ?_, fun p hp z => ?_⟩
  · obtain ⟨v, q⟩ := I.cell x c e
    exact absurd (Nat.lt_of_lt_of_le q.lt (by rw [z]; exact hb)) (Nat.lt_irrefl _)
  · exact absurd (Nat.lt_of_lt_of_le (Heap.lt_size (I.pin p hp).1) (by rw [z]; exact hb)) (Nat.lt_irrefl _)
structure Turn (P : Program) (w : World) (K : PySem.W.Frag) (tg : Expr) (J : It) (fp : List Addr) (it : Addr) (tn : Nat → Heap → Prop) : Prop where
  mem : it ∈ fp
  obj : ∀ i h, tn i h → ∀ b ∈ fp, ∃ o, h.get? b = some o ∧ ∀ v, o.data ≠ .cell v
  keep : ∀ i h h', tn i h → (∀ b ∈ fp, ∀ o, h.get? b = some o → h'.get? b = some o) → tn i h'
  item : ∀ (X : Cx), X.prog = P → X.w = w → X.K = K → X.calm = true → ∀ (i : Nat) (pins : List (Addr × Obj)) (s : Shared) (σ : St) (H : Hp) (E : Value → Shared → Prop), Inv X pins σ H s → (∀ b ∈ fp, FpOk X pins H b) → tn i s.heap → J.go i H →
    wpAny (model P w) X.A (pyNext (.ref it)) (fun r s1 => ∃ u, r = some u ∧
      wpAny (model P w) X.A (letOwnedTupleGo tg (.ref it) u) (fun _ s2 => ∃ x H', Inv X pins σ H' s2 ∧ RelV x u ∧ J.yld i H x H' ∧ tn (i + 1) s2.heap ∧ ∀ b ∈ fp, H' b = none) E s1) E s
  done : ∀ (X : Cx), X.prog = P → X.w = w → X.K = K → X.calm = true → ∀ (i : Nat) (pins : List (Addr × Obj)) (s : Shared) (σ : St) (H : Hp) (E : Value → Shared → Prop), Inv X pins σ H s → (∀ b ∈ fp, FpOk X pins H b) → tn i s.heap → J.stop i H →
    wpAny (model P w) X.A (pyNext (.ref it)) (fun r s1 => r = none ∧ Inv X pins σ H s1) E s
  self : ∀ (A : Around) (i : Nat) (s : Shared) (Q : Value → Shared → Prop) (E : Value → Shared → Prop), tn i s.heap → Q (.ref it) s → wpAny (model P w) A (pyIter (.ref it)) Q E s
abbrev TI := St → Hp → (It → Hp → Prop) → Prop
/-- an iterator has come -/
def PIE (X : Cx) (pins : List (Addr × Obj)) (σ : St) (tg : Expr) (R : It → Hp → Prop) (itv : Value) (s2 : Shared) : Prop :=
  ∃ (it : Addr) (fp : List Addr) (tn : Nat → Heap → Prop) (J : It) (H' : Hp), itv = .ref it ∧ Inv X pins σ H' s2 ∧ Turn X.prog X.w X.K tg J fp it tn ∧ tn 0 s2.heap ∧ (∀ b ∈ fp, FpOk X pins H' b) ∧ R J H'
def PI (X : Cx) (tg iter : Expr) (wi : TI) : Prop :=
  ∀ (pins : List (Addr × Obj)) (s : Shared) (σ : St) (H : Hp) (R : It → Hp → Prop), Inv X pins σ H s → wi σ H R →
    wpAny (model X.prog X.w) X.A (eval iter X.env) (fun v s1 => wpAny (model X.prog X.w) X.A (pyIter v) (PIE X pins σ tg R) X.xe s1) X.xe s

/-- the step ahead of the store is nothing for an iterator that keeps no tuple -/
theorem go_of {M : Model} {A : Around} {E : Value → Shared → Prop} {s : Shared} {tg : Expr} {it : Addr} {u : Value} {o : Obj} {n : String} {vs : Array Value} {Q : Unit → Shared → Prop} (ho : s.heap.get? it = some o) (hc : o.cls = .type n) (hd : o.data = .fields vs)
    (hn : ["enumerate", "zip", "dict_itemiterator", "dict_reverseitemiterator", "odict_iterator", "itertools.zip_longest", "itertools.pairwise"].contains n = false) (hQ : Q () s) : wpAny M A (letOwnedTupleGo tg (.ref it) u) Q E s := by
  unfold letOwnedTupleGo
  cases tg <;> first
    | exact wpAny_pure hQ
    | (cases u <;> first
        | exact wpAny_pure hQ
        | (refine wpAny_bind (wpAny_load ho ?_)
           rw [hc, hd]
           show wpAny M A (if (["enumerate", "zip", "dict_itemiterator", "dict_reverseitemiterator", "odict_iterator", "itertools.zip_longest", "itertools.pairwise"].contains n && vs[0]? == some (rawInt _)) = true then _ else _) Q E s
           rw [if_neg (by intro h; rw [hn, Bool.false_and] at h; cases h)]
           exact wpAny_pure hQ))

/-- the list at a, as it stands at each turn (a loop may append to it) -/
def Itl (K : PySem.W.Frag) (a : Addr) : It :=
  ⟨fun i H => ∃ xs x, SqL K H a xs ∧ xs[i]? = some x, fun i H x H' => H' = H ∧ ∀ xs, SqL K H a xs → xs[i]? = some x, fun i H => ∃ xs, SqL K H a xs ∧ xs.length ≤ i⟩
/-- lo, lo + 1, .. (n of them) -/
def Itr (lo : Int) (n : Nat) : It := ⟨fun i _ => i < n, fun i H x H' => H' = H ∧ x = .int (lo + i), fun i _ => n ≤ i⟩
theorem turn_list {P : Program} {w : World} {K : PySem.W.Frag} {tg : Expr} (a it : Addr) : Turn P w K tg (Itl K a) [it] it (fun i h => h.IsListIter it a i) where
  mem := by simp
  obj := fun i h st b hb => by
    have e : b = it := by simpa using hb
    subst e
    obtain ⟨o, e, c, d⟩ := st
    exact ⟨o, e, fun v z => by rw [d] at z; cases z⟩
  keep := fun i h h' st k => st.at fun o e => k it (by simp) o e
  item := by
    intro X hP hw hK hc i pins s σ H E I hf st hg
    subst hP hw hK
    obtain ⟨xs, x, hq, hx⟩ := hg
    obtain ⟨its, rv, p, hz⟩ := I.list hq
    obtain ⟨u, hu, ru⟩ := rv.get hx
    obtain ⟨f0, f1, f2, f3, f4, f5⟩ := hf it (by simp)
    refine wpAny_pyNext_list_item st p.isList (x := u) (by simpa using hu) fun h' st' sb => ?_
    have I1 : Inv X pins σ H { s with heap := h' } := I.turned (t' := s.toks) (fun b o hb e => (sb.2 b hb).trans e) f0 f1 f3 f4 f5
    obtain ⟨o, e, c, d⟩ := id st'
    exact ⟨u, rfl, go_of (s := { s with heap := h' }) e c d (by decide) ⟨x, H, I1, ru, ⟨rfl, fun ys hy => by rw [I.list_inj hy hq]; exact hx⟩, st', fun b hb => (hf b hb).1⟩⟩
  done := by
    intro X hP hw hK hc i pins s σ H E I hf st hg
    subst hP hw hK
    obtain ⟨xs, hq, hx⟩ := hg
    obtain ⟨its, rv, p, hz⟩ := I.list hq
    obtain ⟨f0, f1, f2, f3, f4, f5⟩ := hf it (by simp)
    have hl := rv.length
    exact wpAny_pyNext_list_end (I.ok.hd hc) st p.isList (by simp; omega) fun h' eb => ⟨rfl, I.turned (t' := s.toks) (fun b o hb e => eb b o hb e) f0 f1 f3 f4 f5⟩
  self := fun _ _ _ _ _ st h => wpAny_pyIter_listiter st h
theorem turn_range {P : Program} {w : World} {K : PySem.W.Frag} {tg : Expr} (it : Addr) (lo : Int) (n : Nat) : Turn P w K tg (Itr lo n) [it] it (fun i h => IsRangeIter h it (lo + (i : Nat) * 1) ((n : Int) - (i : Nat)) 1) where
  mem := by simp
  obj := fun i h st b hb => by
    have e : b = it := by simpa using hb
    subst e
    exact ⟨_, st, fun v z => by
      have z' : Data.fields _ = Data.cell v := z
      cases z'⟩
  keep := fun i h h' st k => k it (by simp) _ st
  item := by
    intro X hP hw hK hc i pins s σ H E I hf st hg
    subst hP hw hK
    obtain ⟨f0, f1, f2, f3, f4, f5⟩ := hf it (by simp)
    have W := Walks.range (prog := X.prog) (w := X.w) (I.ok.hd hc) it lo 1 n
    refine W.item i s _ _ hg st fun v h' tk hv st' kk => ?_
    obtain ⟨t, rfl⟩ := hv
    have I1 : Inv X pins σ H { s with heap := h', toks := tk } := I.turned (fun b o hb e => kk b o (by simpa using hb) e) f0 f1 f3 f4 f5
    refine ⟨_, rfl, go_of (s := { s with heap := h', toks := tk }) (n := "range_iterator") st' rfl rfl (by decide) ⟨.int (lo + i), H, I1, ⟨t, ?_⟩, ⟨rfl, rfl⟩, st', fun b hb => (hf b hb).1⟩⟩
    rw [Int.mul_one]
  done := by
    intro X hP hw hK hc i pins s σ H E I hf st hg
    subst hP hw hK
    obtain ⟨f0, f1, f2, f3, f4, f5⟩ := hf it (by simp)
    exact wpAny_pyNext_range_end (I.ok.hd hc) st (by have : n ≤ i := hg; omega) fun h' eb => ⟨rfl, I.turned (t' := s.toks) (fun b o hb e => eb b o hb e) f0 f1 f3 f4 f5⟩
  self := fun _ _ _ _ _ st h => wpAny_pyIter_rangeiter st h
end L2

namespace L2
open PySem PySem.Spec PyProof.Rows
section
variable {X : Cx} {tg : Expr}
def iList (K : PySem.W.Frag) (tl : TE) : TI := fun σ H R => tl σ H fun x H1 => ∃ a, x = .ref a ∧ (∃ xs, SqL K H1 a xs) ∧ R (Itl K a) H1
theorem pi_list {l : Expr} {tl : TE} (hl : PE X l tl) : PI X tg l (iList X.K tl) := by
  intro pins s σ H R I h
  refine thn (hl pins s σ H _ I h) fun v s1 ⟨x, H1, I1, r1, q1⟩ => ?_
  obtain ⟨a, e, ⟨xs, hq⟩, q⟩ := q1
  subst e
  cases r1
  obtain ⟨its, rv, p, hz⟩ := I1.list hq
  refine wpAny_pyIter_list p.isList ?_
  refine ⟨s1.heap.objs.size, [s1.heap.objs.size], _, _, H1, rfl, I1.kept (t' := s1.toks) fun b o e => Heap.get?_push_of_some _ e, turn_list a _, ⟨_, Heap.get?_push_size _ rfl, rfl, rfl⟩, fun b hb => ?_, q⟩
  have e : b = s1.heap.objs.size := by simpa using hb
  subst e
  exact I1.fpOk (Nat.le_refl _) (I1.hok.fresh (Nat.le_refl _))
/-- a range object just made, walked -/
theorem range_it {pins : List (Addr × Obj)} {σ : St} {H : Hp} {s : Shared} {R : It → Hp → Prop} {E : Value → Shared → Prop} {lo hi : Int} {t u v : Tok} {tk : Nat} (I : Inv X pins σ H s) (h1 : -(2 ^ 62) ≤ lo) (h2 : lo < 2 ^ 62) (h3 : -(2 ^ 62) ≤ hi) (h4 : hi < 2 ^ 62)
    (q : R (Itr lo (hi - lo).toNat) H) : wpAny (model X.prog X.w) X.A (pyIter (.ref s.heap.objs.size)) (PIE X pins σ tg R) E { s with heap := s.heap.push { cls := .type "range", data := .fields #[.int lo t, .int hi u, .int 1 v] }, toks := tk } := by
  refine wpAny_pyIter_range (IsRange.new ..) (small_one h1 h2 h3 h4) ?_
  have I1 : Inv X pins σ H { s with heap := s.heap.push { cls := .type "range", data := .fields #[.int lo t, .int hi u, .int 1 v] }, toks := tk } := I.kept fun b o e => Heap.get?_push_of_some _ e
  refine ⟨(s.heap.push { cls := .type "range", data := .fields #[.int lo t, .int hi u, .int 1 v] }).objs.size, [(s.heap.push { cls := .type "range", data := .fields #[.int lo t, .int hi u, .int 1 v] }).objs.size], _, _, H, rfl,
    I1.kept (t' := tk) fun b o e => Heap.get?_push_of_some _ e, turn_range _ lo (hi - lo).toNat, ?_, fun b hb => ?_, q⟩
  · have e1 : lo + ((0 : Nat) : Int) * 1 = lo := by simp
    have e2 : (((hi - lo).toNat : Nat) : Int) - ((0 : Nat) : Int) = Builtin.Range.rangeSize lo hi 1 := by rw [rangeSize_one]; split <;> omega
    show IsRangeIter _ _ (lo + ((0 : Nat) : Int) * 1) ((((hi - lo).toNat : Nat) : Int) - ((0 : Nat) : Int)) 1
    rw [e1, e2]
    exact Heap.get?_push_size _ rfl
  · have e : b = (s.heap.push { cls := .type "range", data := .fields #[.int lo t, .int hi u, .int 1 v] }).objs.size := by simpa using hb
    subst e
    exact I1.fpOk (Nat.le_refl _) (I1.hok.fresh (Nat.le_refl _))
def iRng1 (ta : TA) : TI := fun σ H R => ta σ H fun vs H1 => ∃ j : Int, vs = [.int j] ∧ -(2 ^ 62) ≤ j ∧ j < 2 ^ 62 ∧ R (Itr 0 j.toNat) H1
theorem pi_range1 {a : Expr} {ta : TA} {p pos : Pos} (hg : Gl X "range") (hm : X.mg "range" = none) (ha : PA X [a] ta) (hs : starEach [a] X.env = [(false, eval a X.env)] := by rfl) : PI X tg (.Call (.Name "range" p) [a] [] pos) (iRng1 ta) := by
  intro pins s σ H R I h
  refine Call_ (ld_blt I hg hm boot_range (PyProof.Rows.callWith_type1 (thn (ha pos pins s σ H _ I h) fun us s1 ⟨vs, H1, I1, r1, q1⟩ => ?_) hs rfl))
  obtain ⟨j, e, q1, q2, q⟩ := q1
  subst e
  cases r1 with
  | cons r rr =>
    cases rr
    obtain ⟨t, rfl⟩ := r
    exact call_range_1 (range_it I1 (by omega) (by omega) q1 q2 (by simpa using q))
/-! ### for -/
/-- W: the invariant by the turn and a measure; N: what the body is to reach -/
def tFor (wi : TI) (g : TG) (tb : TS) : TS := fun D σ H => wi σ H fun J H1 => ∃ W : Nat → Nat → St → Hp → Prop, (∃ m, W 0 m σ H1) ∧ ∀ i m σ H, W i m σ H →
  (J.stop i H ∧ D.nx σ H) ∨ (J.go i H ∧ ∃ N : St → Hp → Prop, (∀ σ' H', N σ' H' → ∃ m', m' < m ∧ W (i + 1) m' σ' H') ∧ ∀ x H', J.yld i H x H' → g x σ H' fun σ2 H2 => tb { D with nx := N, ct := N, bk := D.nx } σ2 H2)
/-- the records at fp as they stand -/
def pinsAt (fp : List Addr) (h : Heap) : List (Addr × Obj) := fp.filterMap fun b => (h.get? b).map fun o => (b, o)
theorem mem_pinsAt {fp : List Addr} {h : Heap} {b : Addr} {o : Obj} (hb : b ∈ fp) (e : h.get? b = some o) : (b, o) ∈ pinsAt fp h := List.mem_filterMap.mpr ⟨b, hb, by rw [e]; rfl⟩
theorem of_pinsAt {fp : List Addr} {h : Heap} {p : Addr × Obj} (hp : p ∈ pinsAt fp h) : p.1 ∈ fp ∧ h.get? p.1 = some p.2 := by
  obtain ⟨b, hb, e⟩ := List.mem_filterMap.mp hp
  cases q : h.get? b with
  | none => rw [q] at e; cases e
  | some o =>
    rw [q] at e
    have e' : (b, o) = p := Option.some.inj e
    subst e'
    exact ⟨hb, q⟩
theorem Inv.pinned {pins : List (Addr × Obj)} {σ : St} {H : Hp} {s : Shared} {fp : List Addr} (I : Inv X pins σ H s) (hf : ∀ b ∈ fp, FpOk X pins H b) (ho : ∀ b ∈ fp, ∃ o, s.heap.get? b = some o ∧ ∀ v, o.data ≠ .cell v) : Inv X (pins ++ pinsAt fp s.heap) σ H s :=
  I.pins_of fun p hp => (List.mem_append.mp hp).elim (fun z => I.pin p (List.mem_append_right _ z)) fun z => by
    obtain ⟨hb, e⟩ := of_pinsAt z
    obtain ⟨f0, f1, f2, _⟩ := hf p.1 hb
    obtain ⟨o, e', d⟩ := ho p.1 hb
    rw [e] at e'; cases e'
    exact ⟨e, f0, f1, f2, d⟩
theorem Inv.unpinned {pins pl : List (Addr × Obj)} {σ : St} {H : Hp} {s : Shared} (I : Inv X (pins ++ pl) σ H s) : Inv X pins σ H s := I.pins_of fun p hp => I.pin p (List.mem_append_right _ (List.mem_append_left _ hp))
theorem ps_for {iter : Expr} {body : List Stmt} {wi : TI} {g : TG} {tb : TS} {pos : Pos} (hp : PassesOwn (model X.prog X.w) X.A X.env X.xe) (hc : X.calm = true) (hi : PI X tg iter wi) (hg : PG X tg g) (hb : PSs X body tb)
    (hs : ∀ x, foldedSetIterable iter X.env x = pure x := by intro _; rfl) : PS X (.For tg iter body [] pos) (tFor wi g tb) := by
  intro pins s σ H D I h
  refine wpAny_For (thn (hi pins s σ H _ I h) fun v s1 h1 => thn h1 fun itv s2 h2 => ?_) hs
  obtain ⟨it, fp, tn, J, H2, e, I2, T, st2, f2, W, ⟨m0, w0⟩, turn⟩ := h2
  subst e
  -- what stays true of the iterator's objects through the loop
  have stat : ∀ {H' : Hp}, (∀ b ∈ fp, H' b = none) → ∀ b ∈ fp, FpOk X pins H' b := fun hn b hb => ⟨hn b hb, (f2 b hb).2⟩
  refine codeAny_forLoop_any (fun n s' => ∃ i σ' H', Inv X pins σ' H' s' ∧ tn i s'.heap ∧ (∀ b ∈ fp, H' b = none) ∧ W i n σ' H') ?_ m0 ⟨0, σ, H2, I2, st2, fun b hb => (f2 b hb).1, w0⟩
  rintro n s3 ⟨i, σ3, H3, I3, st3, fr3, w3⟩
  rcases turn i n σ3 H3 w3 with ⟨stop, qn⟩ | ⟨go, N, hN, step⟩
  · refine wpAny_passesOwn hp (thn (T.done X rfl rfl rfl hc i pins s3 σ3 H3 X.xe I3 (stat fr3) st3 stop) fun r s4 ⟨hr, I4⟩ => ?_)
    subst hr
    exact wpAny_execs_nil ⟨σ3, H3, I4, qn⟩
  · refine wpAny_passesOwn hp (thn (T.item X rfl rfl rfl hc i pins s3 σ3 H3 X.xe I3 (stat fr3) st3 go) fun r s4 ⟨u, hr, h4⟩ => ?_)
    subst hr
    refine wpAny_passesOwn hp (thn h4 fun _ s5 ⟨x, H5, I5, r5, y5, st5, fr5⟩ => ?_)
    have I5' := I5.pinned (stat fr5) (T.obj _ _ st5)
    refine wpAny_passesOwn hp (thn (hg _ s5 σ3 H5 x u _ I5' r5 (step x H5 y5)) fun _ s6 ⟨σ6, H6, I6, q6⟩ => ?_)
    refine wpAny_passesOwn hp (thn (hb _ s6 σ6 H6 _ I6 q6) fun f s7 q7 => ?_)
    have again : ∀ {σ7 : St} {H7 : Hp}, Inv X (pins ++ pinsAt fp s5.heap) σ7 H7 s7 → N σ7 H7 → ∃ m, m < n ∧ ∃ i σ' H', Inv X pins σ' H' s7 ∧ tn i s7.heap ∧ (∀ b ∈ fp, H' b = none) ∧ W i m σ' H' := fun {σ7 H7} I7 n7 => by
      obtain ⟨m', hm, w7⟩ := hN σ7 H7 n7
      refine ⟨m', hm, i + 1, σ7, H7, I7.unpinned, T.keep _ _ _ st5 fun b hb o e => (I7.pin (b, o) (List.mem_append_right _ (List.mem_append_right _ (mem_pinsAt hb e)))).1, fun b hb => ?_, w7⟩
      obtain ⟨o, e, d⟩ := T.obj _ _ st5 b hb
      exact (I7.pin (b, o) (List.mem_append_right _ (List.mem_append_right _ (mem_pinsAt hb e)))).2.1
    cases f with
    | next => obtain ⟨σ7, H7, I7, n7⟩ := q7; exact again I7 n7
    | cont => obtain ⟨σ7, H7, I7, n7⟩ := q7; exact again I7 n7
    | brk => obtain ⟨σ7, H7, I7, q7⟩ := q7; exact ⟨σ7, H7, I7.unpinned, q7⟩
    | ret v => obtain ⟨x7, σ7, H7, I7, r7, q7⟩ := q7; exact ⟨x7, σ7, H7, I7.unpinned, r7, q7⟩
end

/-! ### the forms one uses -/
/-- over a list that the body leaves as it is -/
theorem for_list {K : PySem.W.Frag} {a : Addr} {xs : List V} {g : TG} {tb : TS} {D : Ends} {σ : St} {H : Hp} (Pv : Nat → St → Hp → Prop) (h0 : Pv 0 σ H) (hl : ∀ i σ H, i ≤ xs.length → Pv i σ H → SqL K H a xs)
    (hs : ∀ i x σ H, xs[i]? = some x → Pv i σ H → g x σ H fun σ2 H2 => tb { D with nx := Pv (i + 1), ct := Pv (i + 1), bk := D.nx } σ2 H2) (hd : ∀ σ H, Pv xs.length σ H → D.nx σ H) :
    ∃ W : Nat → Nat → St → Hp → Prop, (∃ m, W 0 m σ H) ∧ ∀ i m σ H, W i m σ H →
      ((Itl K a).stop i H ∧ D.nx σ H) ∨ ((Itl K a).go i H ∧ ∃ N : St → Hp → Prop, (∀ σ' H', N σ' H' → ∃ m', m' < m ∧ W (i + 1) m' σ' H') ∧ ∀ x H', (Itl K a).yld i H x H' → g x σ H' fun σ2 H2 => tb { D with nx := N, ct := N, bk := D.nx } σ2 H2) := by
  refine ⟨fun i m σ H => m = xs.length - i ∧ i ≤ xs.length ∧ Pv i σ H, ⟨xs.length, by simp, Nat.zero_le _, h0⟩, ?_⟩
  rintro i m σ H ⟨rfl, hi, p⟩
  have q := hl i σ H hi p
  by_cases hlt : i < xs.length
  · refine .inr ⟨⟨xs, xs[i], q, by simp [hlt]⟩, Pv (i + 1), fun σ' H' p' => ⟨xs.length - (i + 1), by omega, rfl, hlt, p'⟩, fun x H' y => ?_⟩
    obtain ⟨e, y⟩ := y
    subst e
    exact hs i x σ _ (y xs q) p
  · have e : i = xs.length := by omega
    subst e
    exact .inl ⟨⟨xs, q, Nat.le_refl _⟩, hd σ H p⟩
theorem for_range {lo : Int} {n : Nat} {g : TG} {tb : TS} {D : Ends} {σ : St} {H : Hp} (Pv : Nat → St → Hp → Prop) (h0 : Pv 0 σ H)
    (hs : ∀ i σ H, i < n → Pv i σ H → g (.int (lo + i)) σ H fun σ2 H2 => tb { D with nx := Pv (i + 1), ct := Pv (i + 1), bk := D.nx } σ2 H2) (hd : ∀ σ H, Pv n σ H → D.nx σ H) :
    ∃ W : Nat → Nat → St → Hp → Prop, (∃ m, W 0 m σ H) ∧ ∀ i m σ H, W i m σ H →
      ((Itr lo n).stop i H ∧ D.nx σ H) ∨ ((Itr lo n).go i H ∧ ∃ N : St → Hp → Prop, (∀ σ' H', N σ' H' → ∃ m', m' < m ∧ W (i + 1) m' σ' H') ∧ ∀ x H', (Itr lo n).yld i H x H' → g x σ H' fun σ2 H2 => tb { D with nx := N, ct := N, bk := D.nx } σ2 H2) := by
  refine ⟨fun i m σ H => m = n - i ∧ i ≤ n ∧ Pv i σ H, ⟨n, by simp, Nat.zero_le _, h0⟩, ?_⟩
  rintro i m σ H ⟨rfl, hi, p⟩
  by_cases hlt : i < n
  · refine .inr ⟨hlt, Pv (i + 1), fun σ' H' p' => ⟨n - (i + 1), by omega, rfl, hlt, p'⟩, fun x H' y => ?_⟩
    obtain ⟨e, y⟩ := y
    subst e y
    exact hs i σ _ hlt p
  · have e : i = n := by omega
    subst e
    exact .inl ⟨Nat.le_refl _, hd σ H p⟩
end L2

namespace L2
open PySem PySem.Spec PyProof.Rows

abbrev R2 := V → V → Hp → VK → Prop
/-- a two-place operation on values: f is binaryOp op, inplaceOp op or compareOp op -/
def OpR (X : Cx) (f : Value → Value → Sem Value) (r : R2) : Prop :=
  ∀ (pins : List (Addr × Obj)) (s : Shared) (σ : St) (H : Hp) (x y : V) (v u : Value) (Q : VK), Inv X pins σ H s → RelV x v → RelV y u → r x y H Q →
    wpAny (model X.prog X.w) X.A (f v u) (EP X pins σ Q) X.xe s
/-- a one-place operation -/
def UnR (X : Cx) (f : Value → Sem Value) (r : V → Hp → VK → Prop) : Prop :=
  ∀ (pins : List (Addr × Obj)) (s : Shared) (σ : St) (H : Hp) (x : V) (v : Value) (Q : VK), Inv X pins σ H s → RelV x v → r x H Q →
    wpAny (model X.prog X.w) X.A (f v) (EP X pins σ Q) X.xe s
/-- a call of a value that is known (a builtin, a type) with values -/
def CallR (X : Cx) (f : Value) (r : List V → Hp → VK → Prop) : Prop :=
  ∀ (pins : List (Addr × Obj)) (s : Shared) (σ : St) (H : Hp) (xs : List V) (us : List Value) (Q : VK), Inv X pins σ H s → Vals xs us → r xs H Q →
    wpAny (model X.prog X.w) X.A (call f us) (EP X pins σ Q) X.xe s
/-- a value's truth -/
def TruR (X : Cx) (r : V → Hp → (Bool → Hp → Prop) → Prop) : Prop :=
  ∀ (pins : List (Addr × Obj)) (s : Shared) (σ : St) (H : Hp) (x : V) (v : Value) (Q : Bool → Hp → Prop), Inv X pins σ H s → RelV x v → r x H Q →
    wpAny (model X.prog X.w) X.A (truthy v) (TP X pins σ Q) X.xe s

def tOp (r : R2) (ta tb : TE) : TE := fun σ H Q => ta σ H fun x H1 => tb σ H1 fun y H2 => r x y H2 Q
def tUn (r : V → Hp → VK → Prop) (ta : TE) : TE := fun σ H Q => ta σ H fun x H1 => r x H1 Q
/-- ints in, under C, and a value out -/
def rI (C : Int → Int → Prop) (g : Int → Int → V) : R2 := fun x y H Q => ∃ i j, x = .int i ∧ y = .int j ∧ C i j ∧ Q (g i j) H
def rI0 (g : Int → Int → V) : R2 := fun x y H Q => ∃ i j, x = .int i ∧ y = .int j ∧ Q (g i j) H
def rU (g : Int → V) : V → Hp → VK → Prop := fun x H Q => ∃ i, x = .int i ∧ Q (g i) H

section
variable {X : Cx} {a b c : Expr} {ta tb tc : TE} {pos : Pos}

theorem binT (ha : PE X a ta) (hb : PE X b tb) {pins : List (Addr × Obj)} {s : Shared} {σ : St} {H : Hp} {R : V → V → Hp → Prop} (I : Inv X pins σ H s)
    (h : ta σ H fun x H1 => tb σ H1 fun y H2 => R x y H2) {Q : Value → Shared → Prop} {f : Value → Value → Sem Value}
    (hf : ∀ v u s2 x y H2, Inv X pins σ H2 s2 → RelV x v → RelV y u → R x y H2 → wpAny (model X.prog X.w) X.A (f v u) Q X.xe s2) :
    wpAny (model X.prog X.w) X.A (eval a X.env) (fun v s₁ => wpAny (model X.prog X.w) X.A (eval b X.env) (fun u s₂ => wpAny (model X.prog X.w) X.A (f v u) Q X.xe s₂) X.xe s₁) X.xe s := by
  refine thn (ha pins s σ H _ I h) fun v s1 ⟨x, H1, I1, r1, q1⟩ => ?_
  refine thn (hb pins s1 σ H1 _ I1 q1) fun u s2 ⟨y, H2, I2, r2, q2⟩ => ?_
  exact hf v u s2 x y H2 I2 r1 r2 q2

theorem pe_op {op : Operator} {r : R2} (ho : OpR X (binaryOp op) r) (ha : PE X a ta) (hb : PE X b tb) : PE X (.BinOp a op b pos) (tOp r ta tb) := by
  intro pins s σ H Q I h
  exact wpAny_BinOp (binT ha hb I h fun v u s2 x y H2 I2 rx ry q => ho pins s2 σ H2 x y v u Q I2 rx ry q)
theorem pe_un {op : UnaryOp} {r : V → Hp → VK → Prop} (ho : UnR X (unaryOp op) r) (ha : PE X a ta) : PE X (.UnaryOp op a pos) (tUn r ta) := by
  intro pins s σ H Q I h
  exact UnaryOp_ (thn (ha pins s σ H _ I h) fun v s1 ⟨x, H1, I1, r1, q1⟩ => ho pins s1 σ H1 x v Q I1 r1 q1)
/-! ### ints -/
theorem opI {f : Value → Value → Sem Value} {C : Int → Int → Prop} {g : Int → Int → Int}
    (rule : ∀ (i j : Int) (t u : Tok) (s : Shared) (Q : Value → Shared → Prop) (E : Value → Shared → Prop), C i j → Q (.int (g i j) s.toks) { s with toks := s.toks + 1 } → wpAny (model X.prog X.w) X.A (f (.int i t) (.int j u)) Q E s) :
    OpR X f (rI C fun i j => .int (g i j)) := by
  intro pins s σ H x y v u Q I rx ry h
  obtain ⟨i, j, rfl, rfl, hc, q⟩ := h
  obtain ⟨t, rfl⟩ := rx
  obtain ⟨t', rfl⟩ := ry
  exact rule i j t t' s _ _ hc ⟨.int (g i j), H, I.tok _, ⟨_, rfl⟩, q⟩
theorem opI0 {f : Value → Value → Sem Value} {g : Int → Int → Int}
    (rule : ∀ (i j : Int) (t u : Tok) (s : Shared) (Q : Value → Shared → Prop) (E : Value → Shared → Prop), Q (.int (g i j) s.toks) { s with toks := s.toks + 1 } → wpAny (model X.prog X.w) X.A (f (.int i t) (.int j u)) Q E s) :
    OpR X f (rI0 fun i j => .int (g i j)) := by
  intro pins s σ H x y v u Q I rx ry h
  obtain ⟨i, j, rfl, rfl, q⟩ := h
  obtain ⟨t, rfl⟩ := rx
  obtain ⟨t', rfl⟩ := ry
  exact rule i j t t' s _ _ ⟨.int (g i j), H, I.tok _, ⟨_, rfl⟩, q⟩
theorem opB0 {f : Value → Value → Sem Value} {g : Int → Int → Bool}
    (rule : ∀ (i j : Int) (t u : Tok) (s : Shared) (Q : Value → Shared → Prop) (E : Value → Shared → Prop), Q (.bool (g i j)) s → wpAny (model X.prog X.w) X.A (f (.int i t) (.int j u)) Q E s) :
    OpR X f (rI0 fun i j => .bl (g i j)) := by
  intro pins s σ H x y v u Q I rx ry h
  obtain ⟨i, j, rfl, rfl, q⟩ := h
  obtain ⟨t, rfl⟩ := rx
  obtain ⟨t', rfl⟩ := ry
  exact rule i j t t' s _ _ ⟨.bl (g i j), H, I, rfl, q⟩

def CDiv (i j : Int) : Prop := 0 < j ∧ j < 1073741824
def CMul (i j : Int) : Prop := (-(2 ^ 64) < i ∧ i < 2 ^ 64) ∨ (-(2 ^ 64) < j ∧ j < 2 ^ 64)
theorem CMul.ok {i j : Int} (h : CMul i j) : IntMulOk i j := by
  rcases h with ⟨h1, h2⟩ | ⟨h1, h2⟩
  · exact .of_left (intBits_le_64 h1 h2)
  · exact .of_right (intBits_le_64 h1 h2)
theorem op_add : OpR X (binaryOp .Add) (rI0 fun i j => .int (i + j)) := opI0 fun _ _ _ _ _ _ _ q => add_int q
theorem op_sub : OpR X (binaryOp .Sub) (rI0 fun i j => .int (i - j)) := opI0 fun _ _ _ _ _ _ _ q => sub_int q
theorem op_mul : OpR X (binaryOp .Mult) (rI CMul fun i j => .int (i * j)) := opI fun _ _ _ _ _ _ _ hc q => mul_int q hc.ok
/-- // by a positive divisor -/
theorem op_fdiv : OpR X (binaryOp .FloorDiv) (rI CDiv fun i j => .int (i / j)) := opI fun i j _ _ _ _ _ hc q => by
  have h1 : (0 : Int) < j := hc.1
  have h2 : j < 1073741824 := hc.2
  exact floordiv_int (by omega) (by rw [Int.fdiv_eq_ediv_of_nonneg i (by omega)]; exact q) (.inl (PyProof.noPylong_small (by omega)))
/-- % by a positive divisor of any size -/
theorem op_mod : OpR X (binaryOp .Mod) (rI (fun _ j => 0 < j) fun i j => .int (i % j)) := opI fun i j _ _ _ _ _ hc q => by
  have h1 : (0 : Int) < j := hc
  exact mod_int' (by omega) (by rw [Int.fmod_eq_emod_of_nonneg i (by omega)]; exact q)
theorem unI {f : Value → Sem Value} {g : Int → Int}
    (rule : ∀ (i : Int) (t : Tok) (s : Shared) (Q : Value → Shared → Prop) (E : Value → Shared → Prop), Q (.int (g i) s.toks) { s with toks := s.toks + 1 } → wpAny (model X.prog X.w) X.A (f (.int i t)) Q E s) :
    UnR X f (rU fun i => .int (g i)) := by
  intro pins s σ H x v Q I rx h
  obtain ⟨i, rfl, q⟩ := h
  obtain ⟨t, rfl⟩ := rx
  exact rule i t s _ _ ⟨.int (g i), H, I.tok _, ⟨_, rfl⟩, q⟩
theorem un_neg : UnR X (unaryOp .USub) (rU fun i => .int (-i)) := unI fun _ _ _ _ _ q => neg_int q
/-! ### bools among ints: n += (a < b) -/
end

/-! ### comparisons -/
/-- the scalars that == tells apart as data does -/
def scal : V → V → Bool
  | .non, .non => true | .non, .int _ => true | .int _, .non => true | .non, .bl _ => true | .bl _, .non => true | .non, .str _ => true | .str _, .non => true
  | .int _, .int _ => true | .bl _, .bl _ => true | .str _, .str _ => true | .byt _, .byt _ => true
  | .int _, .str _ => true | .str _, .int _ => true | .bl _, .str _ => true | .str _, .bl _ => true
  | _, _ => false
def rEq : R2 := fun x y H Q => scal x y = true ∧ Q (.bl (decide (x = y))) H
def rNe : R2 := fun x y H Q => scal x y = true ∧ Q (.bl (!decide (x = y))) H

theorem dec_int {i j : Int} : decide (V.int i = V.int j) = (i == j) := by
  rw [Bool.eq_iff_iff]
  simp
theorem dec_bl {i j : Bool} : decide (V.bl i = V.bl j) = (i == j) := by
  rw [Bool.eq_iff_iff]
  simp
theorem dec_str {i j : Str} : decide (V.str i = V.str j) = (i == j) := by
  rw [Bool.eq_iff_iff]
  simp
theorem dec_byt {i j : Array UInt8} : decide (V.byt i = V.byt j) = (i.toList == j.toList) := by
  rw [Bool.eq_iff_iff]
  cases i
  cases j
  simp

section
variable {X : Cx} {a b c : Expr} {ta tb tc : TE} {pos : Pos}
theorem fin_bl {pins : List (Addr × Obj)} {σ : St} {H : Hp} {s : Shared} {Q : VK} {k k' : Bool} (I : Inv X pins σ H s) (q : Q (.bl k) H) (e : k = k') : EP X pins σ Q (.bool k') s := by
  subst e
  exact ⟨.bl k, H, I, rfl, q⟩
theorem op_eq : OpR X (compareOp .Eq) rEq := by
  intro pins s σ H x y v u Q I rx ry h
  obtain ⟨hs, q⟩ := h
  cases x with
  | non =>
    cases rx
    cases y with
    | non => cases ry; exact PySem.EqNone.eq_none_none (fin_bl I q (by simp))
    | bl j => cases ry; exact PySem.EqNone.eq_none_bool (fin_bl I q (by simp))
    | int j => obtain ⟨t', rfl⟩ := ry; exact PySem.EqNone.eq_none_int (fin_bl I q (by simp))
    | str j => obtain ⟨t', rfl⟩ := ry; exact PySem.EqNone.eq_none_str (fin_bl I q (by simp))
    | _ => exact absurd (show false = true from hs) Bool.false_ne_true
  | bl i =>
    cases rx
    cases y with
    | non => cases ry; exact PySem.EqNone.eq_bool_none (fin_bl I q (by simp))
    | bl j => cases ry; exact eq_bool (fin_bl I q dec_bl)
    | str j => obtain ⟨t', rfl⟩ := ry; exact PySem.EqMixed.eq_bool_str (fin_bl I q (by simp))
    | _ => exact absurd (show false = true from hs) Bool.false_ne_true
  | int i =>
    obtain ⟨t, rfl⟩ := rx
    cases y with
    | non => cases ry; exact PySem.EqNone.eq_int_none (fin_bl I q (by simp))
    | int j => obtain ⟨t', rfl⟩ := ry; exact eq_int (fin_bl I q dec_int)
    | str j => obtain ⟨t', rfl⟩ := ry; exact PySem.EqMixed.eq_int_str (fin_bl I q (by simp))
    | _ => exact absurd (show false = true from hs) Bool.false_ne_true
  | str i =>
    obtain ⟨t, rfl⟩ := rx
    cases y with
    | non => cases ry; exact PySem.EqNone.eq_str_none (fin_bl I q (by simp))
    | bl j => cases ry; exact PySem.EqMixed.eq_str_bool (fin_bl I q (by simp))
    | int j => obtain ⟨t', rfl⟩ := ry; exact PySem.EqMixed.eq_str_int (fin_bl I q (by simp))
    | str j => obtain ⟨t', rfl⟩ := ry; exact eq_str (fin_bl I q dec_str)
    | _ => exact absurd (show false = true from hs) Bool.false_ne_true
  | byt i =>
    obtain ⟨t, rfl⟩ := rx
    cases y with
    | byt j => obtain ⟨t', rfl⟩ := ry; exact PySem.W.eq_bytes (fin_bl I q dec_byt)
    | _ => exact absurd (show false = true from hs) Bool.false_ne_true
  | _ => cases y <;> exact absurd (show false = true from hs) Bool.false_ne_true
theorem op_ne : OpR X (compareOp .NotEq) rNe := by
  intro pins s σ H x y v u Q I rx ry h
  obtain ⟨hs, q⟩ := h
  cases x with
  | non =>
    cases rx
    cases y with
    | non => cases ry; exact PySem.EqNone.ne_none_none (fin_bl I q (by simp))
    | bl j => cases ry; exact PySem.EqNone.ne_none_bool (fin_bl I q (by simp))
    | int j => obtain ⟨t', rfl⟩ := ry; exact PySem.EqNone.ne_none_int (fin_bl I q (by simp))
    | str j => obtain ⟨t', rfl⟩ := ry; exact PySem.EqNone.ne_none_str (fin_bl I q (by simp))
    | _ => exact absurd (show false = true from hs) Bool.false_ne_true
  | bl i =>
    cases rx
    cases y with
    | non => cases ry; exact PySem.EqNone.ne_bool_none (fin_bl I q (by simp))
    | bl j => cases ry; exact ne_bool (fin_bl I q (congrArg not dec_bl))
    | str j => obtain ⟨t', rfl⟩ := ry; exact PySem.EqMixed.ne_bool_str (fin_bl I q (by simp))
    | _ => exact absurd (show false = true from hs) Bool.false_ne_true
  | int i =>
    obtain ⟨t, rfl⟩ := rx
    cases y with
    | non => cases ry; exact PySem.EqNone.ne_int_none (fin_bl I q (by simp))
    | int j => obtain ⟨t', rfl⟩ := ry; exact ne_int (fin_bl I q (congrArg not dec_int))
    | str j => obtain ⟨t', rfl⟩ := ry; exact PySem.EqMixed.ne_int_str (fin_bl I q (by simp))
    | _ => exact absurd (show false = true from hs) Bool.false_ne_true
  | str i =>
    obtain ⟨t, rfl⟩ := rx
    cases y with
    | non => cases ry; exact PySem.EqNone.ne_str_none (fin_bl I q (by simp))
    | bl j => cases ry; exact PySem.EqMixed.ne_str_bool (fin_bl I q (by simp))
    | int j => obtain ⟨t', rfl⟩ := ry; exact PySem.EqMixed.ne_str_int (fin_bl I q (by simp))
    | str j => obtain ⟨t', rfl⟩ := ry; exact ne_str (fin_bl I q (congrArg not dec_str))
    | _ => exact absurd (show false = true from hs) Bool.false_ne_true
  | byt i =>
    obtain ⟨t, rfl⟩ := rx
    cases y with
    | byt j => obtain ⟨t', rfl⟩ := ry; exact PySem.W.ne_bytes (fin_bl I q (congrArg not dec_byt))
    | _ => exact absurd (show false = true from hs) Bool.false_ne_true
  | _ => cases y <;> exact absurd (show false = true from hs) Bool.false_ne_true

theorem op_lt : OpR X (compareOp .Lt) (rI0 fun i j => .bl (decide (i < j))) := opB0 fun _ _ _ _ _ _ _ q => lt_int q
theorem op_le : OpR X (compareOp .LtE) (rI0 fun i j => .bl (decide (i ≤ j))) := opB0 fun _ _ _ _ _ _ _ q => le_int q
theorem op_gt : OpR X (compareOp .Gt) (rI0 fun i j => .bl (decide (j < i))) := opB0 fun _ _ _ _ _ _ _ q => gt_int q
theorem op_ge : OpR X (compareOp .GtE) (rI0 fun i j => .bl (decide (j ≤ i))) := opB0 fun _ _ _ _ _ _ _ q => ge_int q
/-- is None, is not None: the right side a value none -/
theorem op_isN : OpR X (compareOp .Is) (fun x y H Q => y = .non ∧ Q (.bl (decide (x = .non))) H) := by
  intro pins s σ H x y v u Q I rx ry h
  obtain ⟨rfl, q⟩ := h
  cases ry
  refine is_none_gen (fin_bl I q ?_)
  cases x <;> first
    | (cases rx; rfl)
    | (obtain ⟨t, rfl⟩ := rx; rfl)
/-- two rules for one operation: by cases -/
theorem OpR.or {f : Value → Value → Sem Value} {r r' : R2} (h : OpR X f r) (h' : OpR X f r') : OpR X f (fun x y H Q => r x y H Q ∨ r' x y H Q) := by
  intro pins s σ H x y v u Q I rx ry q
  rcases q with q | q
  · exact h pins s σ H x y v u Q I rx ry q
  · exact h' pins s σ H x y v u Q I rx ry q

theorem nomark (b : Expr) {op : CmpOp} (h : op ≠ .In := by decide) (h2 : op ≠ .NotIn := by decide) : behindInMarks op b = false := by
  have e1 : (op == CmpOp.In) = false := by cases op <;> first | rfl | exact absurd rfl h
  have e2 : (op == CmpOp.NotIn) = false := by cases op <;> first | rfl | exact absurd rfl h2
  cases b <;> simp [behindInMarks, e1, e2]
/-- a comparison as a value; hm: nomark b, or (for in, not in) by with_unfolding_all rfl -/
theorem pe_cmpR {op : CmpOp} {r : R2} (ho : OpR X (compareOp op) r) (ha : PE X a ta) (hb : PE X b tb) (hm : behindInMarks op b = false) : PE X (.Compare a [op] [b] pos) (tOp r ta tb) := by
  intro pins s σ H Q I h
  exact wpAny_Compare1 (binT ha hb I h fun v u s2 x y H2 I2 rx ry q => ho pins s2 σ H2 x y v u Q I2 rx ry q) hm
/-- a reading of a value as a test -/
def tTest (t : TE) : TT := fun σ H Q => t σ H fun x H' => ∃ k, x = .bl k ∧ Q k H'
theorem pt_cmpR {op : CmpOp} {r : R2} (ho : OpR X (compareOp op) r) (ha : PE X a ta) (hb : PE X b tb) (hm : behindInMarks op b = false) : PT X (.Compare a [op] [b] pos) (tTest (tOp r ta tb)) := by
  intro pins s σ H Q I h
  refine wpAny_isTrue_Compare1 (thn (ha pins s σ H _ I h) fun v s1 ⟨x, H1, I1, r1, q1⟩ => thn (hb pins s1 σ H1 _ I1 q1) fun u s2 ⟨y, H2, I2, r2, q2⟩ =>
    thn (ho pins s2 σ H2 x y v u _ I2 r1 r2 q2) fun c s3 ⟨z, H3, I3, r3, k, e, q3⟩ => ?_) hm
  subst e
  cases r3
  exact wpAny_truthy_bool ⟨H3, I3, q3⟩
/-- a op1 b op2 c -/
def tChain (r r' : R2) (ta tb tc : TE) : TE := fun σ H Q => ta σ H fun x H1 => tb σ H1 fun y H2 => r x y H2 fun z H3 => ∃ k, z = .bl k ∧
  (if k = true then tc σ H3 fun w' H4 => r' y w' H4 Q else Q (.bl false) H3)
theorem pe_chain {op op' : CmpOp} {r r' : R2} (ho : OpR X (compareOp op) r) (ho' : OpR X (compareOp op') r') (ha : PE X a ta) (hb : PE X b tb) (hc : PE X c tc)
    (hm : lastMarks [op, op'] [b, c] = false := by with_unfolding_all rfl) : PE X (.Compare a [op, op'] [b, c] pos) (tChain r r' ta tb tc) := by
  intro pins s σ H Q I h
  refine Compare_chain (thn (ha pins s σ H _ I h) fun v s1 ⟨x, H1, I1, r1, q1⟩ => chain_link (thn (hb pins s1 σ H1 _ I1 q1) fun u s2 ⟨y, H2, I2, r2, q2⟩ =>
    thn (ho pins s2 σ H2 x y v u _ I2 r1 r2 q2) fun d s3 ⟨z, H3, I3, r3, k, e, q3⟩ => ?_)) hm
  subst e
  cases r3
  refine wpAny_truthy_bool ?_
  cases k with
  | false => exact ite_ff ⟨.bl false, H3, I3, rfl, q3⟩
  | true => exact ite_tt (chain_last (thn (hc pins s3 σ H3 _ I3 q3) fun w' s4 ⟨z', H4, I4, r4, q4⟩ => ho' pins s4 σ H4 y z' u w' Q I4 r2 r4 q4))
/-! ### truth -/
/-- a value's truth by the abstract heap -/
def TruV (K : PySem.W.Frag) (x : V) (H : Hp) (k : Bool) : Prop :=
  match x with
  | .non => k = false
  | .bl b => k = b
  | .int i => k = (i != 0)
  | .str y => y.length ≤ sizeLine ∧ k = ((y.length : Int) != 0)
  | .byt y => y.size ≤ sizeLine ∧ k = ((y.size : Int) != 0)
  | .ref p => (∃ xs, SqL K H p xs ∧ k = !xs.isEmpty) ∨ (∃ xs, SqT K H p xs ∧ k = !xs.isEmpty) ∨ ∃ kvs, H p = some (.dK kvs) ∧ k = !kvs.isEmpty
  | _ => False
theorem isEmpty_kv {κ : Type} {kvs : List (κ × V)} {vs : List (κ × Value)} (r : KV kvs vs) : (!vs.isEmpty) = !kvs.isEmpty := by
  cases r <;> rfl
theorem isEmpty_of {xs : List V} {its : List Value} (r : Vals xs its) : (!its.toArray.isEmpty) = !xs.isEmpty := by
  cases r <;> simp
theorem line63 : (sizeLine : Nat) < 2 ^ 63 := by rw [sizeLine_eq]; decide
theorem tru_ok : TruR X (fun x H Q => ∃ k, TruV X.K x H k ∧ Q k H) := by
  intro pins s σ H x v Q I rx h
  obtain ⟨k, e, q⟩ := h
  have hl := line63
  have hs : sizeLine = 16777216 := sizeLine_eq
  cases x with
  | non =>
    cases rx
    have e' : k = false := e
    subst e'
    exact truthy_none ⟨H, I, q⟩
  | bl b =>
    cases rx
    have e' : k = b := e
    subst e'
    exact wpAny_truthy_bool ⟨H, I, q⟩
  | int i =>
    obtain ⟨t, rfl⟩ := rx
    have e' : k = (i != 0) := e
    subst e'
    exact PySem.P.truthy_int ⟨H, I, q⟩
  | str y =>
    obtain ⟨t, rfl⟩ := rx
    obtain ⟨hy, e'⟩ : y.length ≤ sizeLine ∧ k = ((y.length : Int) != 0) := e
    subst e'
    exact PySem.P.truthy_str (by omega) ⟨H, I.tok _, q⟩
  | byt y =>
    obtain ⟨t, rfl⟩ := rx
    obtain ⟨hy, e'⟩ : y.size ≤ sizeLine ∧ k = ((y.size : Int) != 0) := e
    subst e'
    exact PySem.W.truthy_bytes (by omega) ⟨H, I.tok _, q⟩
  | ref p =>
    cases rx
    have e' : (∃ xs, SqL X.K H p xs ∧ k = !xs.isEmpty) ∨ (∃ xs, SqT X.K H p xs ∧ k = !xs.isEmpty) ∨ ∃ kvs, H p = some (.dK kvs) ∧ k = !kvs.isEmpty := e
    rcases e' with ⟨xs, hx, e'⟩ | ⟨xs, hx, e'⟩ | ⟨kvs, hx, e'⟩
    · subst e'
      obtain ⟨its, r, pl, hz⟩ := I.list hx
      have hlen := r.length
      exact wpAny_truthy_list pl.isList (by simp only [List.size_toArray]; omega) ⟨H, I.tok _, by rw [isEmpty_of r]; exact q⟩
    · subst e'
      obtain ⟨its, r, pl, hz⟩ := I.tuple hx
      have hlen := r.length
      exact truthy_tuple pl (by simp only [List.size_toArray]; omega) ⟨H, I.tok _, by rw [isEmpty_of r]; exact q⟩
    · subst e'
      obtain ⟨hz, hS, vs, r, m⟩ : kvs.length ≤ sizeLine ∧ (p == sysModules) = false ∧ ∃ vs, KV kvs vs ∧ s.heap.DictOf (mixKind X.prog X.w) p vs := I.hok p _ hx
      have hlen : kvs.length = vs.length := Paired.length r
      exact wpAny_truthy_dict hS m (by omega) ⟨H, I.tok _, by rw [isEmpty_kv r]; exact q⟩
  | _ => exact (show False from e).elim
/-- any expression whose test is its value's truth (a name, a call, a subscript, a field ..: he by fun _ => rfl) -/
theorem pt_truth (ha : PE X a ta) (he : ∀ whole, isTrue a X.env whole = (do let v ← whole; standAt a.pos; holding [v] (truthy v))) :
    PT X a (fun σ H Q => ta σ H fun x H' => ∃ k, TruV X.K x H' k ∧ Q k H') := by
  intro pins s σ H Q I h
  exact isTrue_plain (thn (ha pins s σ H _ I h) fun v s1 ⟨x, H1, I1, r1, q1⟩ => tru_ok pins s1 σ H1 x v Q I1 r1 q1) (he _)

/-! ### strs and bytes -/
theorem op_add_str : OpR X (binaryOp .Add) (fun x y H Q => ∃ i j, x = .str i ∧ y = .str j ∧ i.length + j.length ≤ sizeLine ∧ Q (.str (i ++ j)) H) := by
  intro pins s σ H x y v u Q I rx ry h
  obtain ⟨i, j, rfl, rfl, hz, q⟩ := h
  obtain ⟨t, rfl⟩ := rx
  obtain ⟨t', rfl⟩ := ry
  exact add_str (fun t' tk => ⟨.str (i ++ j), H, I.tok _, ⟨_, rfl⟩, q⟩) hz
theorem iop_add_str : OpR X (inplaceOp .Add) (fun x y H Q => ∃ i j, x = .str i ∧ y = .str j ∧ i.length + j.length ≤ sizeLine ∧ Q (.str (i ++ j)) H) := by
  intro pins s σ H x y v u Q I rx ry h
  obtain ⟨i, j, rfl, rfl, hz, q⟩ := h
  obtain ⟨t, rfl⟩ := rx
  obtain ⟨t', rfl⟩ := ry
  exact iadd_str (fun t' tk => ⟨.str (i ++ j), H, I.tok _, ⟨_, rfl⟩, q⟩) hz
/-! ### scalar builtins, by CallR -/
theorem vals1 {x : V} {us : List Value} (r : Vals [x] us) : ∃ u, us = [u] ∧ RelV x u := by
  cases r with
  | cons r1 r2 => cases r2; exact ⟨_, rfl, r1⟩
theorem vals2 {x y : V} {us : List Value} (r : Vals [x, y] us) : ∃ u w', us = [u, w'] ∧ RelV x u ∧ RelV y w' := by
  cases r with
  | cons r1 r2 =>
    cases r2 with
    | cons r3 r4 => cases r4; exact ⟨_, _, rfl, r1, r3⟩
theorem call_max2 (hc : X.calm = true) : CallR X (.builtin "max") (fun xs H Q => ∃ i j, xs = [.int i, .int j] ∧ Q (.int (if j > i then j else i)) H) := by
  intro pins s σ H xs us Q I r h
  obtain ⟨i, j, rfl, q⟩ := h
  obtain ⟨u, w', rfl, ⟨t, rfl⟩, ⟨t', rfl⟩⟩ := vals2 r
  refine max_two_ints (I.ok.hd hc) fun h' tk k => ⟨_, H, I.kept k, ?_, q⟩
  by_cases hj : j > i
  · rw [if_pos hj, if_pos hj]; exact ⟨_, rfl⟩
  · rw [if_neg hj, if_neg hj]; exact ⟨_, rfl⟩
theorem call_min2 (hc : X.calm = true) : CallR X (.builtin "min") (fun xs H Q => ∃ i j, xs = [.int i, .int j] ∧ Q (.int (if j < i then j else i)) H) := by
  intro pins s σ H xs us Q I r h
  obtain ⟨i, j, rfl, q⟩ := h
  obtain ⟨u, w', rfl, ⟨t, rfl⟩, ⟨t', rfl⟩⟩ := vals2 r
  refine min_two_ints (I.ok.hd hc) fun h' tk k => ⟨_, H, I.kept k, ?_, q⟩
  by_cases hj : j < i
  · rw [if_pos hj, if_pos hj]; exact ⟨_, rfl⟩
  · rw [if_neg hj, if_neg hj]; exact ⟨_, rfl⟩
theorem call_int1 : CallR X (.type "int") (fun xs H Q => (∃ i, xs = [.int i] ∧ Q (.int i) H) ∨ ∃ k, xs = [.bl k] ∧ Q (.int (if k then 1 else 0)) H) := by
  intro pins s σ H xs us Q I r h
  rcases h with ⟨i, rfl, q⟩ | ⟨k, rfl, q⟩
  · obtain ⟨u, rfl, t, rfl⟩ := vals1 r
    exact call_int_int ⟨.int i, H, I, ⟨_, rfl⟩, q⟩
  · obtain ⟨u, rfl, r1⟩ := vals1 r
    cases r1
    exact call_int_bool ⟨.int (if k then 1 else 0), H, I.tok _, ⟨_, rfl⟩, q⟩
end
end L2

namespace L2
open PySem PySem.Spec PyProof.Rows

/-! ### an instance, its attributes a map -/
structure ObjM (h : Heap) (x dx C : Addr) (mA : Str → Option Value) : Prop where
  obj : h.get? x = some (PySem.W.instObj C dx)
  ns : h.Ns1 dx mA
  ne : dx ≠ x

theorem lookIn_ns {h : Heap} {dx : Addr} {mA : Str → Option Value} (n : h.Ns1 dx mA) : ∃ od, h.get? dx = some od ∧ ∀ name, PySem.W.lookIn name od = some (mA name) := by
  obtain ⟨o, es, ep, ho, hd, hk, _, hm⟩ := n
  refine ⟨o, ho, fun name => ?_⟩
  have e := hm name
  unfold nsFind findBy at e
  rw [← Array.find?_toList] at e
  unfold PySem.W.lookIn
  rw [hd]
  dsimp only
  split
  · rename_i y q
    rw [q] at e
    exact congrArg some e
  · rename_i q
    rw [q] at e
    have a : es.toList.any (·.refKey) = false := by
      rw [List.any_eq_false]
      intro y hy
      obtain ⟨z, t, hkey⟩ := hk y (Array.mem_toList_iff.mp hy)
      simp [DictEntry.refKey, hkey]
    have a' : ¬ es.toList.any (·.refKey) = true := by rw [a]; exact Bool.false_ne_true
    rw [if_neg a']
    exact congrArg some e

theorem ObjM.look {h : Heap} {x dx C : Addr} {mA : Str → Option Value} (I : ObjM h x dx C mA) : ∃ od, PySem.W.InstAt h x (PySem.W.instObj C dx) C (some od) ∧ ∀ name, PySem.W.lookIn name od = some (mA name) :=
  let ⟨od, ho, hl⟩ := lookIn_ns I.ns
  ⟨od, ⟨I.obj, rfl, rfl, ho⟩, hl⟩

section
variable {prog : Program} {w : World} {A : Around} {E : Value → Shared → Prop} {s : Shared} {K : PySem.W.Frag} {x dx C f : Addr} {mA : Str → Option Value} {name : Str} {v : Value}

theorem get_map {expr : Bool} {Q : Value → Shared → Prop} (X : K.In s.heap) (I : ObjM s.heap x dx C mA) (hg : PySem.W.plainGet K C name = true) (hh : PySem.W.hasDictIn K C = true)
    (ha : PySem.W.findIn K (.ref C) name = some none) (hv : mA name = some v) (hv' : PySem.W.handedIn v = true) (h : Q v { s with toks := s.toks + 1 }) :
    wpAny (model prog w) A (getAttr (.ref x) name expr) Q E s := by
  obtain ⟨od, J, hl⟩ := I.look
  exact PySem.W.get_value X J (PySem.W.plainGet_of hg).1 (PySem.W.findObj_own hh ha rfl (by rw [hl, hv])) hv' h

theorem get_meth {pl : Sem Bool} {Q : Value × List Value → Shared → Prop} (X : K.In s.heap) (I : ObjM s.heap x dx C mA) (hg : PySem.W.plainGet K C name = true)
    (hf : PySem.W.findIn K (.ref C) name = some (some (.ref f))) (ht : PySem.W.isFn K (.ref f) = true) (hv : mA name = none) (h : Q (.ref f, [.ref x]) s) :
    wpAny (model prog w) A (getMethod (.ref x) name pl) Q E s := by
  obtain ⟨od, J, hl⟩ := I.look
  exact PySem.W.method_fn X J (PySem.W.plainGet_of hg).1 (PySem.W.plainGet_of hg).2 hf (beq_iff_eq.mp ht) (by show (PySem.W.lookIn name od).map (·.isSome) = some false; rw [hl, hv]; rfl) h

theorem set_map {ns : List Str} {Q : Unit → Shared → Prop} (X : K.In s.heap) (I : ObjM s.heap x dx C mA)
    (hs : PySem.W.findIn K (.ref C) "__setattr__" = some (some (.builtin "object.__setattr__"))) (hp : PySem.W.plainOver K C = true) (ht : PySem.W.takerIn K C name = some none) (hh : PySem.W.hasDictIn K C = true)
    (hw : PySem.Within mA ns) (hsz : ns.length ≤ sizeLine)
    (h : ∀ h', ObjM h' x dx C (fun y => if y = name then some v else mA y) → Heap.SameBut dx s.heap h' → Q () { s with heap := h', toks := s.toks + 2 }) :
    wpAny (model prog w) A (setAttr (.ref x) name v) Q E s := by
  obtain ⟨od, J, hl⟩ := I.look
  refine PySem.W.set_plain X J hs (PySem.W.osa_open (s := { s with toks := s.toks + 1 }) (r := none) X J hp ht fun b => ?_)
  obtain ⟨cd, hc, hd'⟩ := PySem.W.any_some hh
  have hx : s.heap.get? x = some ⟨.ref C, some dx, .plain, #[]⟩ := I.obj
  refine wpAny_bind (wpAny_pure (wpAny_bind (wpAny_bind (wpAny_loadPart hx (wpAny_bind (PySem.W.Looks.here (s := { s with toks := s.toks + 1 }) (PySem.W.looks_clsIn X hc) ?_))))))
  rw [hd']
  refine wpAny_pure (a := some dx) (wpAny_bind (wpAny_pure (wpAny_bind ?_)))
  refine wpAny_nsSet1 (s := { s with toks := s.toks + 1 }) I.ns fun h' hn2 hs2 => ?_
  obtain ⟨oD, esD, epD, hoD, hdD, hcD⟩ := hn2.count (PySem.Within.cons name v hw)
  refine wpAny_bind (wpAny_lookBehind hoD (by rw [hdD]; exact pastItsLine_dict (Nat.le_trans hcD (by rw [List.length_cons]; omega))) ?_)
  exact wpAny_pure (h _ ⟨(hs2.2 _ (Ne.symm I.ne)).trans I.obj, hn2, I.ne⟩ hs2)

/-- C(..): the dict at the heap's end, the instance behind it; then its __init__ -/
theorem make_map {R : Result → Shared → Prop} {vs : List Value} {kw : List (Str × Value)} (X : K.In s.heap) (hm : PySem.W.makesIn K C = true)
    (hi : PySem.W.findIn K (.ref C) "__init__" = some (some (.ref f))) (hf : PySem.W.typeIn K (.ref f) = some (.type "function"))
    (h : codeAny (model prog w) (A.under (.builtin "type.__call__" ⟨.ref C :: vs, kw⟩)) (.call (.ref f) ⟨.ref (s.heap.objs.size + 1) :: vs, kw⟩) (PySem.W.InitBack (s.heap.objs.size + 1) R)
      { s with heap := (s.heap.push PySem.W.emptyDict).push (PySem.W.instObj C s.heap.objs.size) }) :
    codeAny (model prog w) A (.call (.ref C) ⟨vs, kw⟩) R s := by
  obtain ⟨hh, g, d, t, os⟩ := s
  exact PySem.W.make_core (PySem.W.makes_of X hm) (PySem.W.looks_findIn X hi) (fun self => PySem.W.bind_fn X self hf) (.inl rfl) h
end

/-! ### the attributes as a list of pairs -/
def putF (f : Str) (v : V) : List (Str × V) → List (Str × V)
  | [] => [(f, v)]
  | (g, x) :: r => if g = f then (g, v) :: r else (g, x) :: putF f v r
theorem lookup_putF (f g : Str) (v : V) : ∀ fs : List (Str × V), (putF f v fs).lookup g = if g = f then some v else fs.lookup g
  | [] => by
    show List.lookup g [(f, v)] = _
    by_cases h : g = f
    · have hb : (g == f) = true := beq_iff_eq.mpr h
      simp only [List.lookup, hb, if_pos h]
    · have hb : (g == f) = false := beq_eq_false_iff_ne.mpr h
      simp only [List.lookup, hb, if_neg h]
  | (k, x) :: r => by
    have ih := lookup_putF f g v r
    rw [show putF f v ((k, x) :: r) = (if k = f then (k, v) :: r else (k, x) :: putF f v r) from rfl]
    by_cases hk : k = f
    · rw [if_pos hk]
      by_cases h : g = k
      · have hb : (g == k) = true := beq_iff_eq.mpr h
        simp only [List.lookup, hb, if_pos (h.trans hk)]
      · have hb : (g == k) = false := beq_eq_false_iff_ne.mpr h
        simp only [List.lookup, hb, if_neg (fun e : g = f => h (e.trans hk.symm))]
    · rw [if_neg hk]
      by_cases h : g = k
      · have hb : (g == k) = true := beq_iff_eq.mpr h
        simp only [List.lookup, hb, if_neg (fun e : g = f => hk (h.symm.trans e))]
      · have hb : (g == k) = false := beq_eq_false_iff_ne.mpr h
        simp only [List.lookup, hb]
        exact ih
theorem keys_putF (f : Str) (v : V) : ∀ fs : List (Str × V), f ∈ (putF f v fs).map (·.1) ∧ ∀ g, g ∈ fs.map (·.1) → g ∈ (putF f v fs).map (·.1)
  | [] => ⟨by simp [putF], fun g h => by simp at h⟩
  | (k, x) :: r => by
    obtain ⟨i1, i2⟩ := keys_putF f v r
    rw [show putF f v ((k, x) :: r) = (if k = f then (k, v) :: r else (k, x) :: putF f v r) from rfl]
    by_cases hk : k = f
    · rw [if_pos hk]
      subst hk
      exact ⟨by simp, fun g h => by simpa using h⟩
    · rw [if_neg hk]
      refine ⟨?_, fun g h => ?_⟩
      · rw [List.map_cons]
        exact List.mem_cons_of_mem _ i1
      · rw [List.map_cons] at h ⊢
        rcases List.mem_cons.mp h with e | e
        · exact List.mem_cons.mpr (.inl e)
        · exact List.mem_cons_of_mem _ (i2 g e)
theorem length_putF (f : Str) (v : V) : ∀ fs : List (Str × V), (putF f v fs).length ≤ fs.length + 1
  | [] => by simp [putF]
  | (k, x) :: r => by
    have ih := length_putF f v r
    rw [show putF f v ((k, x) :: r) = (if k = f then (k, v) :: r else (k, x) :: putF f v r) from rfl]
    by_cases hk : k = f
    · rw [if_pos hk, List.length_cons, List.length_cons]; omega
    · rw [if_neg hk, List.length_cons, List.length_cons]; omega

theorem RelO.some_of {v : V} {o : Option Value} (r : RelO (some v) o) : ∃ u, o = some u ∧ RelV v u := by
  cases o with
  | none => exact (show False from r).elim
  | some u => exact ⟨u, rfl, r⟩
theorem RelO.none_of {o : Option Value} (r : RelO none o) : o = none := by
  cases o with
  | none => rfl
  | some u => exact (show False from r).elim
theorem handed_of {v : V} {u : Value} (r : RelV v u) : PySem.W.handedIn u = true := by
  cases v with
  | non => cases (show u = Value.none from r); rfl
  | bl b => cases (show u = Value.bool b from r); rfl
  | int i => obtain ⟨t, e⟩ := (show ∃ t, u = Value.int i t from r); cases e; rfl
  | str x => obtain ⟨t, e⟩ := (show ∃ t, u = Value.str x t from r); cases e; rfl
  | byt b => obtain ⟨t, e⟩ := (show ∃ t, u = Value.bytes b t from r); cases e; rfl
  | flt b => obtain ⟨t, e⟩ := (show ∃ t, u = Value.float b t from r); cases e; rfl
  | ref a => cases (show u = Value.ref a from r); rfl
  | ty n => cases (show u = Value.type n from r); rfl

section
variable {P : Program} {w : World} {H H' : Hp} {h h' : Heap} {a C dx : Addr} {fs fs' : List (Str × V)}
theorem ins_get (hok : HOk P w H h) (e : H a = some (.ins C dx fs)) : ∃ mA, ObjM h a dx C mA ∧ (∀ f, RelO (fs.lookup f) (mA f)) ∧ PySem.Within mA (fs.map (·.1)) ∧ fs.length ≤ 1000 ∧ H dx = some (.own a) := by
  obtain ⟨d, z, ne, ob, mA, n, r, q⟩ := (show ObjOk P w H h a (.ins C dx fs) from hok a _ e)
  exact ⟨mA, ⟨ob, n, ne⟩, r, q, z, d⟩
end

/-! ### what of the text a class must have -/
structure Cls (K : PySem.W.Frag) (C : Addr) : Prop where
  pg : PySem.W.plainGet K C Str.empty = true
  hd : PySem.W.hasDictIn K C = true
  po : PySem.W.plainOver K C = true
  sa : PySem.W.findIn K (.ref C) "__setattr__" = some (some (.builtin "object.__setattr__"))
theorem Cls.get {K : PySem.W.Frag} {C : Addr} (c : Cls K C) (f : Str) : PySem.W.plainGet K C f = true := c.pg
/-- no class of it has the name -/
def NoAttr (K : PySem.W.Frag) (C : Addr) (f : Str) : Prop := PySem.W.findIn K (.ref C) f = some none
theorem NoAttr.taker {K : PySem.W.Frag} {C : Addr} {f : Str} (n : NoAttr K C f) : PySem.W.takerIn K C f = some none := by
  unfold PySem.W.takerIn
  rw [show PySem.W.findIn K (.ref C) f = some none from n]
  rfl
/-- a method: a plain def of the class or of one above it -/
structure Meth (K : PySem.W.Frag) (C : Addr) (m : Str) (f : Addr) : Prop where
  at_ : PySem.W.findIn K (.ref C) m = some (some (.ref f))
  fn : PySem.W.isFn K (.ref f) = true
  kp : PySem.W.keepIn K (.ref f) = true

section
variable {X : Cx} {pins : List (Addr × Obj)} {σ : St} {H : Hp} {s : Shared} {a C dx : Addr} {fs : List (Str × V)} {f : Str} {v : V} {A : Around} {E : Value → Shared → Prop}

theorem getattr_ok {b : Bool} {Q : Value → Shared → Prop} (I : Inv X pins σ H s) (e : H a = some (.ins C dx fs)) (c : Cls X.K C) (n : NoAttr X.K C f) (l : fs.lookup f = some v)
    (h : ∀ u s', Inv X pins σ H s' → RelV v u → Q u s') : wpAny (model X.prog X.w) A (getAttr (.ref a) f b) Q E s := by
  obtain ⟨mA, O, r, _, _, _⟩ := ins_get I.hok e
  obtain ⟨u, hu, ru⟩ := RelO.some_of (v := v) (o := mA f) (by rw [← l]; exact r f)
  exact get_map I.kIn O (c.get f) c.hd n hu (handed_of ru) (h u _ (I.tok _) ru)

theorem getmeth_ok {m : Str} {g : Addr} {pl : Sem Bool} {Q : Value × List Value → Shared → Prop} (I : Inv X pins σ H s) (e : H a = some (.ins C dx fs)) (c : Cls X.K C) (k : Meth X.K C m g) (l : fs.lookup m = none)
    (h : Q (.ref g, [.ref a]) s) : wpAny (model X.prog X.w) A (getMethod (.ref a) m pl) Q E s := by
  obtain ⟨mA, O, r, _, _, _⟩ := ins_get I.hok e
  have hn : mA m = none := RelO.none_of (by rw [← l]; exact r m)
  exact get_meth I.kIn O (c.get m) k.at_ k.fn hn h

theorem setattr_ok {y : V} {u : Value} {Q : Unit → Shared → Prop} (I : Inv X pins σ H s) (e : H a = some (.ins C dx fs)) (c : Cls X.K C) (n : NoAttr X.K C f) (hl : fs.length < 1000) (ry : RelV y u)
    (h : ∀ s', Inv X pins σ (upd H a (.ins C dx (putF f y fs))) s' → Q () s') : wpAny (model X.prog X.w) A (setAttr (.ref a) f u) Q E s := by
  obtain ⟨mA, O, r, wi, _, ho⟩ := ins_get I.hok e
  have hz : (fs.map (·.1)).length ≤ sizeLine := by rw [List.length_map, sizeLine_eq]; omega
  refine set_map I.kIn O c.sa c.po n.taker c.hd wi hz fun h' O' sb => h _ ?_
  have hd : ∃ o, h'.get? dx = some o := let ⟨o, _, _, e', _⟩ := O'.ns; ⟨o, e'⟩
  refine I.write (x := a) (e := dx) (by rw [e]; exact True.intro) (.inr ho) (fun b q hb z => (sb.2 b hb).trans z) hd ?_
  refine ⟨by rw [upd_ne O.ne]; exact ho, ?_, O.ne, O'.obj, _, O'.ns, fun g => ?_, fun g hg => ?_⟩
  · have := length_putF f y fs; omega
  · show RelO ((putF f y fs).lookup g) (if g = f then some u else mA g)
    rw [lookup_putF]
    by_cases q : g = f
    · rw [if_pos q, if_pos q]; exact ry
    · rw [if_neg q, if_neg q]; exact r g
  · by_cases q : g = f
    · rw [q]; exact (keys_putF f y fs).1
    · refine (keys_putF f y fs).2 g (wi g fun z => hg ?_)
      show (if g = f then some u else mA g) = none
      rw [if_neg q]; exact z

/-- a new instance, tracked, without attributes -/
theorem Inv.made (I : Inv X pins σ H s) : Inv X pins σ (upd (upd H s.heap.objs.size (.own (s.heap.objs.size + 1))) (s.heap.objs.size + 1) (.ins C s.heap.objs.size []))
    { s with heap := (s.heap.push PySem.W.emptyDict).push (PySem.W.instObj C s.heap.objs.size) } := by
  have e1 : (s.heap.push PySem.W.emptyDict).get? s.heap.objs.size = some PySem.W.emptyDict := Heap.get?_push_size s.heap rfl
  have e2 : ((s.heap.push PySem.W.emptyDict).push (PySem.W.instObj C s.heap.objs.size)).get? (s.heap.objs.size + 1) = some (PySem.W.instObj C s.heap.objs.size) := by
    have := Heap.get?_push_size (s.heap.push PySem.W.emptyDict) (o := PySem.W.instObj C s.heap.objs.size) rfl
    rwa [Heap.size_push] at this
  have e3 : (s.heap.push PySem.W.emptyDict).Ns s.heap.objs.size (fun _ => none) := ⟨PySem.W.emptyDict, #[], _, e1, rfl, (fun e he => absurd he (by simp)), fun _ => rfl⟩
  have I1 := I.laid (a := s.heap.objs.size) (o := .own (s.heap.objs.size + 1)) (h' := s.heap.push PySem.W.emptyDict) (t' := s.toks) (fun b u q => Heap.get?_push_of_some _ q) (Nat.le_refl _) ⟨_, e1⟩
  refine I1.laid (a := s.heap.objs.size + 1) (o := .ins C s.heap.objs.size []) (t' := s.toks) (fun b u q => Heap.get?_push_of_some _ q) (Nat.le_of_eq (Heap.size_push _ _)) ?_
  have ne : s.heap.objs.size ≠ s.heap.objs.size + 1 := Nat.ne_of_lt (Nat.lt_succ_self _)
  refine ⟨by rw [upd_ne ne, upd_same], Nat.zero_le _, ne, e2, fun _ => none, (Heap.Ns1.of_empty e3).at fun o q => Heap.get?_push_of_some _ q, fun _ => True.intro, fun y hy => absurd rfl hy⟩

/-- e.f where nothing but the object is asked: through attributeBase (super) and the last hold -/
theorem attr_of {prog : Program} {w : World} {env : Env} {e : Expr} {f : Str} {pos : Pos} {s : Shared} {Q : Value → Shared → Prop} (hb : attributeBase e f env (eval e env) = eval e env)
    (h : wpAny (model prog w) A (eval e env) (fun o s₁ => wpAny (model prog w) A (getAttr o f true) Q E s₁) E s) : wpAny (model prog w) A (eval (.Attribute e f pos) env) Q E s :=
  Attribute_any_ h (by rw [arm_eval_Attribute, hb])
end

/-! ### readings and rules -/
/-- e.f, an attribute of the instance -/
def tFld (K : PySem.W.Frag) (ta : TE) (f : Str) : TE := fun σ H Q => ta σ H fun x H1 => ∃ a C dx fs v, x = .ref a ∧ H1 a = some (.ins C dx fs) ∧ Cls K C ∧ NoAttr K C f ∧ fs.lookup f = some v ∧ Q v H1
/-- e.f = value -/
def sFld (K : PySem.W.Frag) (ta tv : TE) (f : Str) : TS := fun D σ H => tv σ H fun y H1 => ta σ H1 fun x H2 => ∃ a C dx fs, x = .ref a ∧ H2 a = some (.ins C dx fs) ∧ Cls K C ∧ NoAttr K C f ∧ fs.length < 1000 ∧
  D.nx σ (upd H2 a (.ins C dx (putF f y fs)))
section
variable {X : Cx} {o e value : Expr} {f : Str} {pos pos' tpos : Pos} {ta tv : TE}
theorem pe_fld (he : PE X e ta) (hb : attributeBase e f X.env (eval e X.env) = eval e X.env) : PE X (.Attribute e f pos) (tFld X.K ta f) := by
  intro pins s σ H Q I h
  refine attr_of hb (thn (he pins s σ H _ I h) fun u s1 ⟨x, H1, I1, rx, a, C, dx, fs, v, ex, ea, c, n, l, q⟩ => ?_)
  subst ex
  obtain rfl : u = Value.ref a := rx
  exact getattr_ok I1 ea c n l fun u' s2 I2 ru => ⟨v, H1, I2, ru, q⟩
theorem ps_fld (ha : PE X o ta) (hv : PE X value tv) (hs : swapsWith value (some (.Attribute o f pos')) pos.line X.env = pure false) : PS X (.Assign [.Attribute o f pos'] value pos) (sFld X.K ta tv f) := by
  intro pins s σ H D I h
  refine plainObj_wpAny_Assign_Attribute (thn (hv pins s σ H _ I h) fun u s1 ⟨y, H1, I1, ry, q⟩ => thn (ha pins s1 σ H1 _ I1 q) fun ov s2 ⟨x, H2, I2, rx, a, C, dx, fs, ex, ea, c, n, l, q2⟩ => ?_) hs
  subst ex
  obtain rfl : ov = Value.ref a := rx
  exact setattr_ok I2 ea c n l ry fun s3 I3 => ⟨σ, _, I3, q2⟩
end

/-! ### isinstance -/
section
variable {X : Cx} {pins : List (Addr × Obj)} {σ : St} {H : Hp} {s : Shared} {A : Around} {E : Value → Shared → Prop} {Q : Value → Shared → Prop} {c : Value} {b : Bool}
/-- the type of a value, as the fragment's deciders take it; for an instance its class -/
inductive TyOf (K : PySem.W.Frag) (H : Hp) : V → Value → Prop where
  | non : TyOf K H .non (.type "NoneType")
  | bl (x : Bool) : TyOf K H (.bl x) (.type "bool")
  | int (i : Int) : TyOf K H (.int i) (.type "int")
  | str (x : Str) : TyOf K H (.str x) (.type "str")
  | flt (x : UInt64) : TyOf K H (.flt x) (.type "float")
  | lst {a : Addr} {xs : List V} (e : H a = some (.lst xs)) : TyOf K H (.ref a) (.type "list")
  | frz {a : Addr} {o : Obj} {xs : List V} (e : H a = some (.frz o (.lst xs))) : TyOf K H (.ref a) (.type "list")
  | tup {a : Addr} {xs : List V} (e : H a = some (.tup xs)) : TyOf K H (.ref a) (.type "tuple")
  | dK {a : Addr} {kvs : List (Key × V)} (e : H a = some (.dK kvs)) : TyOf K H (.ref a) (.type "dict")
  | dT {a : Addr} {kvs : List (List Key × V)} (e : H a = some (.dT kvs)) : TyOf K H (.ref a) (.type "dict")
  | ins {a C dx : Addr} {fs : List (Str × V)} (e : H a = some (.ins C dx fs)) (cl : Cls K C) (ha : PySem.W.findIn K (.ref C) "__class__" = some (some (.builtin "object.__class__")))
      (hn : PySem.W.specialIn K (.builtin "object.__class__") "__get__" = some (some (.builtin "getset_descriptor.__get__"))) (htk : PySem.W.takesIn K (.builtin "object.__class__") = some true)
      (hm : PySem.W.mroIn K C (.type "object") = some true) : TyOf K H (.ref a) (.ref C)
/-- isinstance(x, c) for one class c, a built-in or an own one: kitOne's answer -/
theorem isinst_ok {x : V} {u t : Value} (I : Inv X pins σ H s) (rx : RelV x u) (ty : TyOf X.K H x t) (e : PySem.W.kitOne X.K t c = some b) (h : ∀ tk, Q (.bool b) { s with toks := tk }) :
    wpAny (model X.prog X.w) A (call (.builtin "isinstance") [u, c]) Q E s := by
  cases ty with
  | non => cases (show u = Value.none from rx); exact PySem.W.kia_one PySem.W.kitx_none I.kIn True.intro e (fun z => nomatch z) h
  | bl y => cases (show u = Value.bool y from rx); exact PySem.W.kia_one PySem.W.kitx_bool I.kIn True.intro e (fun z => nomatch z) h
  | int i => obtain ⟨t, q⟩ := (show ∃ t, u = Value.int i t from rx); cases q; exact PySem.W.kia_one PySem.W.kitx_int I.kIn True.intro e (fun z => nomatch z) h
  | str y => obtain ⟨t, q⟩ := (show ∃ t, u = Value.str y t from rx); cases q; exact PySem.W.kia_one PySem.W.kitx_str I.kIn True.intro e (fun z => nomatch z) h
  | flt y => obtain ⟨t, q⟩ := (show ∃ t, u = Value.float y t from rx); cases q; exact PySem.W.kia_one PySem.W.kitx_float I.kIn True.intro e (fun z => nomatch z) h
  | @lst a xs ea =>
    cases (show u = Value.ref a from rx)
    obtain ⟨_, _, n, _, h1⟩ := (show ObjOk X.prog X.w H s.heap a (.lst xs) from I.hok a _ ea)
    exact PySem.W.kia_one PySem.W.kitx_list I.kIn ⟨_, h1, rfl⟩ e (fun z => nomatch z) h
  | @frz a ob xs ea =>
    cases (show u = Value.ref a from rx)
    obtain ⟨_, _, _, n, _, h1⟩ := (show ObjOk X.prog X.w H s.heap a (.frz ob (.lst xs)) from I.hok a _ ea)
    exact PySem.W.kia_one PySem.W.kitx_list I.kIn ⟨_, h1, rfl⟩ e (fun z => nomatch z) h
  | @tup a xs ea =>
    cases (show u = Value.ref a from rx)
    obtain ⟨_, _, _, p⟩ := (show ObjOk X.prog X.w H s.heap a (.tup xs) from I.hok a _ ea)
    obtain ⟨o, h1, h2, _⟩ := p
    exact PySem.W.kia_one PySem.W.kitx_tuple I.kIn ⟨o, h1, h2⟩ e (fun z => nomatch z) h
  | @dK a kvs ea =>
    cases (show u = Value.ref a from rx)
    obtain ⟨_, _, vs, _, p⟩ := (show ObjOk X.prog X.w H s.heap a (.dK kvs) from I.hok a _ ea)
    obtain ⟨o, es, ep, h1, h2, _⟩ := p
    exact PySem.W.kia_one PySem.W.kitx_dict I.kIn ⟨o, h1, h2.1⟩ e (fun z => nomatch z) h
  | @dT a kvs ea =>
    cases (show u = Value.ref a from rx)
    obtain ⟨_, _, xs, _, o, es, ep, h1, h2, _⟩ := (show ObjOk X.prog X.w H s.heap a (.dT kvs) from I.hok a _ ea)
    exact PySem.W.kia_one PySem.W.kitx_dict I.kIn ⟨o, h1, h2.1⟩ e (fun z => nomatch z) h
  | @ins a C dx fs ea cl ha hn htk hm =>
    cases (show u = Value.ref a from rx)
    obtain ⟨mA, O, _⟩ := ins_get I.hok ea
    obtain ⟨od, J, _⟩ := O.look
    exact PySem.W.kia_one (PySem.W.kitx_own (cl.get _) cl.hd ha hn htk hm) I.kIn J e (fun z => nomatch z) h
end
end L2

namespace L2
open PySem PySem.Spec PyProof.Rows

/-! ### room -/
structure Room (k : Nat) (A : Around) : Prop where
  hd : A.handled = none
  dp : A.depth + 3 * k + 5 < recursionLimit
  un : A.units + 16 * k + 200 < cLine
theorem Room.mono {j k : Nat} {A : Around} (r : Room k A) (h : j ≤ k) : Room j A := ⟨r.hd, by have := r.dp; omega, by have := r.un; omega⟩
theorem Room.deeper {k : Nat} {A : Around} (r : Room (k + 1) A) (env : Env) : Room k (A.deeper env) :=
  ⟨r.hd, by have := r.dp; show A.depth + 1 + 3 * k + 5 < _; omega, by have := r.un; show A.units + 3 + 16 * k + 200 < _; omega⟩
theorem Room.in1 {k : Nat} {A : Around} (r : Room (k + 1) A) : Room k A.in1 :=
  ⟨r.hd, by have := r.dp; show A.depth + 3 * k + 5 < _; omega, by have := r.un; show A.units + 1 + 16 * k + 200 < _; omega⟩
theorem make_depth {A : Around} {C : Addr} {us : List Value} {kw : List (Str × Value)} : (A.under (.builtin "type.__call__" ⟨.ref C :: us, kw⟩)).depth = A.depth + 1 := by
  first | rfl | simp [Around.under, Code.weight, Code.isCreation, Code.isGuard, Code.isCaller, Code.frames, Code.isFrame, guardIds]
theorem make_units {A : Around} {C : Addr} {us : List Value} {kw : List (Str × Value)} : (A.under (.builtin "type.__call__" ⟨.ref C :: us, kw⟩)).units = A.units + 1 := by
  first | rfl | simp [Around.under, Code.cUnits, Code.frames, Code.isFrame]
theorem Room.make {k : Nat} {A : Around} (r : Room (k + 1) A) (C : Addr) (us : List Value) (kw : List (Str × Value)) : Room k (A.under (.builtin "type.__call__" ⟨.ref C :: us, kw⟩)) :=
  ⟨r.hd, by have := r.dp; rw [make_depth]; omega, by have := r.un; rw [make_units]; omega⟩
theorem Room.depth {k : Nat} {A : Around} (r : Room k A) : A.depth < recursionLimit := by have := r.dp; omega
theorem Room.units {k : Nat} {A : Around} (r : Room k A) : A.units + 64 < cLine := by have := r.un; omega
/-! ### argument lists and displays -/
def tNil : TA := fun _ H Q => Q [] H
def tCons (ta : TE) (tr : TA) : TA := fun σ H Q => ta σ H fun x H1 => tr σ H1 fun xs H2 => Q (x :: xs) H2
section
variable {X : Cx} {e : Expr} {es : List Expr} {te : TE} {t : TA} {pos : Pos}
theorem pa_nil : PA X [] tNil := fun _ _ _ _ H Q I h => Calls.spliced_nil ⟨[], H, I, .nil, h⟩
theorem pa_cons (ha : PE X e te) (hr : PA X es t) (hs : starEach (e :: es) X.env = (false, eval e X.env) :: starEach es X.env := by rfl) : PA X (e :: es) (tCons te t) := by
  intro pos pins s σ H Q I h
  rw [hs]
  show wpAny _ _ (spliced ((false, eval e X.env) :: backTo pos (starEach es X.env))) _ _ s
  refine Calls.spliced_cons (thn (ha pins s σ H _ I h) fun u s1 ⟨x, H1, I1, r1, q1⟩ => ?_)
  exact thn (hr pos pins s1 σ H1 _ I1 q1) fun us s2 ⟨xs, H2, I2, r2, q2⟩ => ⟨x :: xs, H2, I2, .cons r1 r2, q2⟩

/-- a tuple, a list of written items -/
def tTup (t : TA) : TE := fun σ H Q => t σ H fun xs H1 => xs.length ≤ sizeLine ∧ ∀ p, H1 p = none → Q (.ref p) (upd H1 p (.tup xs))
def tLst (t : TA) : TE := fun σ H Q => t σ H fun xs H1 => xs.length ≤ sizeLine ∧ ∀ p, H1 p = none → Q (.ref p) (upd H1 p (.lst xs))
theorem pe_tup {x1} (h : PA X es t) : PE X (.Tuple es x1 pos) (tTup t) := by
  intro pins s σ H Q I hq
  refine wpAny_Tuple_spliced (thn (h pos pins s σ H _ I hq) fun us s1 ⟨xs, H1, I1, r, z, q⟩ => ⟨by rw [← r.length]; exact z, ?_⟩)
  have hf : H1 s1.heap.objs.size = none := I1.hok.fresh (Nat.le_refl _)
  refine ⟨.ref s1.heap.objs.size, upd H1 s1.heap.objs.size (.tup xs), I1.laid (t' := s1.toks) (fun b u e => Heap.get?_push_of_some _ e) (Nat.le_refl _) ?_, rfl, q _ hf⟩
  exact ⟨z, us, r, ⟨_, Heap.get?_push_size _ rfl, rfl, _, rfl⟩⟩
theorem pe_lst (h : PA X es t) : PE X (.List es pos) (tLst t) := by
  intro pins s σ H Q I hq
  refine wpAny_List_spliced (thn (h pos pins s σ H _ I hq) fun us s1 ⟨xs, H1, I1, r, z, q⟩ => ⟨by rw [← r.length]; exact z, ?_⟩)
  have hf : H1 s1.heap.objs.size = none := I1.hok.fresh (Nat.le_refl _)
  refine ⟨.ref s1.heap.objs.size, upd H1 s1.heap.objs.size (.lst xs), I1.laid (t' := s1.toks) (fun b u e => Heap.get?_push_of_some _ e) (Nat.le_refl _) ?_, rfl, q _ hf⟩
  exact ⟨z, us, 0, r, Heap.get?_push_size _ rfl⟩
end

/-! ### what a def promises -/
/-- a def's promise: the bound arguments in the parameters' order, the heap, the wanted end, the wanted exception -/
abbrev Sp := List V → Hp → VK → XK → Prop
/-- how an exception lies behind a call (file 08 gives it): the callers' frames, abstract heap and state ahead of the call, the wish, the exception, the state -/
abbrev CXT := List Env → Hp → Shared → XK → Value → Shared → Prop

/-- the state at a call -/
structure Env0 (P : Program) (w : World) (K : PySem.W.Frag) (mg : Str → Option Value) (base : Heap) (A : Around) (outer : List Env) (s : Shared) (H : Hp) : Prop where
  frames : A.frames = some outer
  mod : Mod K mg base
  bs : ∀ b o, base.get? b = some o → s.heap.get? b = some o ∧ H b = none
  bsz : base.objs.size ≤ s.heap.objs.size
  funs : s.heap.FunFrames base outer
  frf : ∀ b ∈ frs outer, H b = none
  hok : HOk P w H s.heap
  bare : AllBare s.gens
/-- a call's end -/
def CE (outer : List Env) (P : Program) (w : World) (H : Hp) (s : Shared) (Q : VK) (u : Value) (s' : Shared) : Prop :=
  ∃ v H', s'.os = s.os ∧ AllBare s'.gens ∧ Un (frs outer) [] H H' s.heap s'.heap ∧ HOk P w H' s'.heap ∧ RelV v u ∧ Q v H'
def CR (CX : CXT) (outer : List Env) (P : Program) (w : World) (H : Hp) (s : Shared) (Q : VK) (E : XK) (r : Result) (s' : Shared) : Prop :=
  match r with
  | .ok (.ret u) => CE outer P w H s Q u s'
  | .ok _ => False
  | .error e => CX outer H s E e s'
structure FnOk (P : Program) (w : World) (K : PySem.W.Frag) (mg : Str → Option Value) (base : Heap) (CX : CXT) (k : Nat) (f : Addr) (fd : FuncData) (ps : List Str) (sp : Sp) : Prop where
  len : ∀ vs H Q E, sp vs H Q E → vs.length = ps.length
  run : ∀ (A : Around) (outer : List Env) (s : Shared) (H : Hp) (args : Args) (us : List Value) (vs : List V) (Q : VK) (E : XK), Room k A → Env0 P w K mg base A outer s H → BindsTo s fd args (ps.zip us) → Vals vs us → sp vs H Q E →
    codeAny (model P w) A (.call (.ref f) args) (CR CX outer P w H s Q E) s
theorem FnOk.mono {P : Program} {w : World} {K : PySem.W.Frag} {mg : Str → Option Value} {base : Heap} {CX : CXT} {j k : Nat} {f : Addr} {fd : FuncData} {ps : List Str} {sp : Sp} (F : FnOk P w K mg base CX j f fd ps sp) (h : j ≤ k) :
    FnOk P w K mg base CX k f fd ps sp := ⟨F.len, fun A outer s H args us vs Q E hr => F.run A outer s H args us vs Q E (hr.mono h)⟩
theorem Env0.make {P : Program} {w : World} {K : PySem.W.Frag} {mg : Str → Option Value} {base : Heap} {A : Around} {outer : List Env} {s : Shared} {H : Hp} (e : Env0 P w K mg base A outer s H) (C : Addr) (us : List Value) (kw : List (Str × Value)) :
    Env0 P w K mg base (A.under (.builtin "type.__call__" ⟨.ref C :: us, kw⟩)) outer s H := ⟨by first | exact e.frames | (simpa [Around.under, Code.envs, Code.isFrame, pushEnvs] using e.frames), e.mod, e.bs, e.bsz, e.funs, e.frf, e.hok, e.bare⟩
theorem Env0.in1 {P : Program} {w : World} {K : PySem.W.Frag} {mg : Str → Option Value} {base : Heap} {A : Around} {outer : List Env} {s : Shared} {H : Hp} (e : Env0 P w K mg base A outer s H) :
    Env0 P w K mg base A.in1 outer s H := ⟨e.frames, e.mod, e.bs, e.bsz, e.funs, e.frf, e.hok, e.bare⟩

section
variable {X : Cx} {pins : List (Addr × Obj)} {σ : St} {H : Hp} {s s' : Shared}
/-- from a body: what a callee wants -/
theorem Inv.env0 (I : Inv X pins σ H s) : Env0 X.prog X.w X.K X.mg X.base X.A X.stack s H :=
  ⟨I.ok.frames, I.ok.mod, I.bs, Nat.le_trans I.ok.bsz I.sz, I.stack, I.stkFree, I.hok, I.bare⟩
/-- behind a call -/
theorem Inv.after {Q : VK} {u : Value} (I : Inv X pins σ H s) (h : CE X.stack X.prog X.w H s Q u s') : EP X pins σ Q u s' := by
  obtain ⟨v, H', os, bare, un, hok, r, q⟩ := h
  obtain ⟨hh, g, d, t, os'⟩ := s'
  obtain rfl : os' = s.os := os
  exact ⟨v, H', I.call (h' := hh) (g' := g) (d' := d) (t' := t) (ch := []) un hok bare (fun b z => absurd z (by simp)), r, q⟩
end

/-! ### calls -/
/-- f(..): the written arguments, then the defaults dvs; E: what is wanted of an exception -/
def tCall (sp : Sp) (dvs : List V) (E : XK) (t : TA) : TE := fun σ H Q => t σ H fun vs H1 => sp (vs ++ dvs) H1 Q E
/-- o.m(..) of an instance of the class at C -/
def tMeth (C : Addr) (m : Str) (sp : Sp) (dvs : List V) (E : XK) (ta : TE) (t : TA) : TE := fun σ H Q => ta σ H fun x H1 => ∃ a dx fs, x = .ref a ∧ H1 a = some (.ins C dx fs) ∧ fs.lookup m = none ∧
  t σ H1 fun vs H2 => sp (x :: (vs ++ dvs)) H2 Q E
/-- C(..): a new instance and its dict, then __init__ -/
def tMake (C : Addr) (sp : Sp) (dvs : List V) (E : XK) (t : TA) : TE := fun σ H Q => t σ H fun vs H1 => ∀ x dx, H1 x = none → H1 dx = none → dx ≠ x →
  sp (.ref x :: (vs ++ dvs)) (upd (upd H1 dx (.own x)) x (.ins C dx [])) (fun v H2 => v = .non ∧ Q (.ref x) H2) E

/-- how the parameters are bound: us the positional arguments, kw the keywords' values by name, ds the defaults that fill up -/
def Binds (K : PySem.W.Frag) (fd : FuncData) (ps : List Str) (ds : List Value) : Prop :=
  ∀ (s : Shared) (us : List Value), K.In s.heap → (us ++ ds).length = ps.length → BindsTo s fd ⟨us, []⟩ (ps.zip (us ++ ds))
/-- every parameter is given -/
theorem Binds.all {K : PySem.W.Frag} {fd : FuncData} {ps : List Str} (h : ∀ us : List Value, us.length = ps.length → bindArgs fd ⟨us, []⟩ = pure (ps.zip us)) : Binds K fd ps [] := fun s us _ hl => by
  rw [List.append_nil] at hl ⊢
  exact .of_eq (h us hl)

/-- an exception of a callee reaches what this body wants of exceptions -/
def Passes (CX : CXT) (X : Cx) (E : XK) : Prop := ∀ (pins : List (Addr × Obj)) (σ : St) (H : Hp) (s : Shared) (e : Value) (s' : Shared), Inv X pins σ H s → CX X.stack H s E e s' → X.xe e s'

section
variable {X : Cx} {CX : CXT} {k : Nat} {f C : Addr} {fd : FuncData} {ps : List Str} {sp : Sp} {dvs : List V} {ds : List Value} {E : XK} {x m : Str} {p pos apos : Pos} {e o : Expr} {es : List Expr} {ta : TE} {t : TA}

/-- the callee runs -/
theorem run_fn {pins : List (Addr × Obj)} {σ : St} {H : Hp} {s : Shared} {Q : VK} {us : List Value} {vs : List V} (F : FnOk X.prog X.w X.K X.mg X.base CX k f fd ps sp) (hr : Room k X.A) (hb : Binds X.K fd ps ds) (hd : Vals dvs ds) (hx : Passes CX X E)
    (I : Inv X pins σ H s) (r : Vals vs us) (h : sp (vs ++ dvs) H Q E) : wpAny (model X.prog X.w) X.A (call (.ref f) us) (EP X pins σ Q) X.xe s := by
  have r2 : Vals (vs ++ dvs) (us ++ ds) := r.append hd
  have hl : (us ++ ds).length = ps.length := by rw [← r2.length]; exact F.len _ _ _ _ h
  refine wpAny_call (codeAny_mono (F.run X.A X.stack s H ⟨us, []⟩ (us ++ ds) (vs ++ dvs) Q E hr I.env0 (hb s us I.kIn hl) r2 h) fun r s' hq => ?_)
  cases r with
  | error e => exact hx pins σ H s e s' I hq
  | ok fl =>
    cases fl with
    | ret u => exact I.after hq
    | next => exact False.elim hq
    | brk => exact False.elim hq
    | cont => exact False.elim hq

theorem pe_call (F : FnOk X.prog X.w X.K X.mg X.base CX k f fd ps sp) (hr : Room k X.A) (hg : Gl X x) (hm : X.mg x = some (.ref f)) (hk : PySem.W.keepIn X.K (.ref f) = true) (hb : Binds X.K fd ps ds) (hd : Vals dvs ds) (hx : Passes CX X E)
    (ha : PA X (e :: es) t) (hdb : (x == ("__debug__" : Str)) = false := by decide) (he : starEach (e :: es) X.env = (false, eval e X.env) :: starEach es X.env := by rfl) (hpl : (backTo pos (starEach es X.env)).any (·.1) = false := by rfl) :
    PE X (.Call (.Name x p) (e :: es) [] pos) (tCall sp dvs E t) := by
  intro pins s σ H Q I h
  refine wpAny_Call_Name_kw (ld_glob I hg hm ?_ hdb)
  refine PySem.W.callWith_K (h₀ := X.base) I.ok.mod.kin hk (thn (ha pos pins s σ H _ I h) fun us s1 ⟨vs, H1, I1, r, q⟩ => ⟨I1.kIn, ?_⟩) he hpl
  exact run_fn F hr hb hd hx I1 r q
/-- o.m(e, ..) -/
theorem pe_meth {pl : Sem Bool} (he : PE X o ta) (c : Cls X.K C) (hm : Meth X.K C m f) (F : FnOk X.prog X.w X.K X.mg X.base CX k f fd ps sp) (hr : Room k X.A) (hb : Binds X.K fd ps ds) (hd : Vals dvs ds) (hx : Passes CX X E) (ha : PA X (e :: es) t)
    (hst : starEach (e :: es) X.env = (false, eval e X.env) :: starEach es X.env := by rfl) (hpl : (backTo pos (starEach es X.env)).any (·.1) = false := by rfl)
    (ht : eval (.Call (.Attribute o m apos) (e :: es) [] pos) X.env = (do
      let ov ← eval o X.env
      standAt apos.atName
      let (f, first) ← holding [ov] (getMethod ov m pl)
      callWith pos f first (backTo pos (starEach (e :: es) X.env)) (backToKw pos (keywordEach [] X.env))) := by rfl) :
    PE X (.Call (.Attribute o m apos) (e :: es) [] pos) (tMeth C m sp dvs E ta t) := by
  intro pins s σ H Q I h
  refine PySem.W.methodCall_KW (pl := pl) (thn (he pins s σ H _ I h) fun u s1 ⟨x, H1, I1, rx, a, dx, fs, ex, ea, l, q⟩ => ?_) ht
  subst ex
  obtain rfl : u = Value.ref a := rx
  refine getmeth_ok I1 ea c hm l ?_
  refine PySem.W.callWith_K (first := [.ref a]) (h₀ := X.base) I.ok.mod.kin hm.kp (thn (ha pos pins s1 σ H1 _ I1 q) fun us s2 ⟨vs, H2, I2, r, q2⟩ => ⟨I2.kIn, ?_⟩) hst hpl
  exact run_fn (us := .ref a :: us) (vs := .ref a :: vs) F hr hb hd hx I2 (.cons rfl r) q2
/-- o.m() -/
theorem pe_meth0 {pl : Sem Bool} (he : PE X o ta) (c : Cls X.K C) (hm : Meth X.K C m f) (F : FnOk X.prog X.w X.K X.mg X.base CX k f fd ps sp) (hr : Room k X.A) (hb : Binds X.K fd ps ds) (hd : Vals dvs ds) (hx : Passes CX X E)
    (ht : eval (.Call (.Attribute o m apos) [] [] pos) X.env = (do
      let ov ← eval o X.env
      standAt apos.atName
      let (f, first) ← holding [ov] (getMethod ov m pl)
      callWith pos f first (backTo pos (starEach [] X.env)) (backToKw pos (keywordEach [] X.env))) := by rfl) :
    PE X (.Call (.Attribute o m apos) [] [] pos) (tMeth C m sp dvs E ta tNil) := by
  intro pins s σ H Q I h
  refine PySem.W.methodCall_KW (pl := pl) (thn (he pins s σ H _ I h) fun u s1 ⟨x, H1, I1, rx, a, dx, fs, ex, ea, l, q⟩ => ?_) ht
  subst ex
  obtain rfl : u = Value.ref a := rx
  refine getmeth_ok I1 ea c hm l ?_
  exact PySem.W.callWith_K0 (first := [.ref a]) I1.kIn hm.kp (run_fn (us := [.ref a]) (vs := [.ref a]) F hr hb hd hx I1 (.cons rfl .nil) q)

/-- what a class must have to be made -/
structure Mk (K : PySem.W.Frag) (C f : Addr) : Prop where
  makes : PySem.W.makesIn K C = true
  init : PySem.W.findIn K (.ref C) "__init__" = some (some (.ref f))
  fn : PySem.W.isFn K (.ref f) = true
  kp : PySem.W.keepIn K (.ref C) = true

theorem run_make {pins : List (Addr × Obj)} {σ : St} {H : Hp} {s : Shared} {Q : VK} {us : List Value} {vs : List V} (M : Mk X.K C f) (F : FnOk X.prog X.w X.K X.mg X.base CX k f fd ps sp) (hr : Room (k + 1) X.A) (hb : Binds X.K fd ps ds) (hd : Vals dvs ds)
    (hx : Passes CX X E) (I : Inv X pins σ H s) (r : Vals vs us)
    (h : ∀ x dx, H x = none → H dx = none → dx ≠ x → sp (.ref x :: (vs ++ dvs)) (upd (upd H dx (.own x)) x (.ins C dx [])) (fun v H2 => v = .non ∧ Q (.ref x) H2) E) :
    wpAny (model X.prog X.w) X.A (call (.ref C) us) (EP X pins σ Q) X.xe s := by
  have hq := h (s.heap.objs.size + 1) s.heap.objs.size (I.hok.fresh (Nat.le_succ _)) (I.hok.fresh (Nat.le_refl _)) (Nat.ne_of_lt (Nat.lt_succ_self _))
  have I2 := Inv.made (C := C) I
  have r2 : Vals (V.ref (s.heap.objs.size + 1) :: (vs ++ dvs)) (Value.ref (s.heap.objs.size + 1) :: (us ++ ds)) := .cons rfl (r.append hd)
  have hl : (Value.ref (s.heap.objs.size + 1) :: us ++ ds).length = ps.length := by
    have e := r2.length
    rw [F.len _ _ _ _ hq] at e
    exact e.symm
  refine wpAny_call (make_map (f := f) I.kIn M.makes M.init (beq_iff_eq.mp M.fn) (codeAny_mono (F.run _ X.stack _ _ ⟨Value.ref (s.heap.objs.size + 1) :: us, []⟩ (Value.ref (s.heap.objs.size + 1) :: (us ++ ds)) _ _ E (hr.make C us [])
    (I2.env0.make C us []) (hb _ (Value.ref (s.heap.objs.size + 1) :: us) I2.kIn hl) r2 hq) fun r s' hq' => ?_))
  cases r with
  | error e => exact hx pins σ _ _ e s' I2 hq'
  | ok fl =>
    cases fl with
    | ret u =>
      obtain ⟨v, H', I3, rv, ev, q3⟩ := I2.after hq'
      subst ev
      exact ⟨rv, ⟨V.ref (s.heap.objs.size + 1), H', I3, rfl, q3⟩⟩
    | next => exact False.elim hq'
    | brk => exact False.elim hq'
    | cont => exact False.elim hq'
theorem pe_make0 (M : Mk X.K C f) (F : FnOk X.prog X.w X.K X.mg X.base CX k f fd ps sp) (hr : Room (k + 1) X.A) (hg : Gl X x) (hm : X.mg x = some (.ref C)) (hb : Binds X.K fd ps ds) (hd : Vals dvs ds) (hx : Passes CX X E)
    (hdb : (x == ("__debug__" : Str)) = false := by decide) : PE X (.Call (.Name x p) [] [] pos) (tMake C sp dvs E tNil) := by
  intro pins s σ H Q I h
  refine wpAny_Call_Name_kw (ld_glob I hg hm ?_ hdb)
  exact PySem.W.callWith_K0 I.kIn M.kp (run_make (us := []) M F hr hb hd hx I .nil h)
end

/-! ### keywords -/
section
variable {X : Cx} {CX : CXT} {k : Nat} {f C : Addr} {fd : FuncData} {ps ks : List Str} {sp : Sp} {E : XK} {x m : Str} {p pos apos kpos : Pos} {e o : Expr} {es : List Expr} {kws : List Keyword} {te ta : TE} {t tk : TA} {nm : Option Str}
variable {g : List Value → List Value → List Value} {gV : List V → List V → List V}
end

/-! ### a def's body keeps its promise -/
/-- names: the parameters first -/
structure FnScope (N P : List Str) (sc : Scope) : Prop where
  kind : sc.kind = .function
  co : sc.isCoroutine = false
  gen : sc.isGenerator = false
  nd : N.Nodup
  pre : N.take P.length = P
  par : ∀ x ∈ P, sc.names.lookup x = some .local ∨ sc.names.lookup x = some .cell
  nofree : ∀ y ∈ sc.names, y.2 ≠ .free

theorem bindL_out {kindOf : Str → Option NameKind} {x : Str} : ∀ {binds : List (Str × Value)} {m : Str → Option Value}, (∀ v, (x, v) ∉ binds) → bindL kindOf binds m x = m x
  | [], _, _ => rfl
  | (n, v) :: r, m, h => by
    unfold bindL
    rw [bindL_out fun w hw => h w (List.mem_cons_of_mem _ hw)]
    split
    · have : x ≠ n := by rintro rfl; exact h v List.mem_cons_self
      simp [this]
    · rfl
theorem bindC_out {kindOf : Str → Option NameKind} {x : Str} : ∀ {binds : List (Str × Value)} {m : Str → Option Value}, (∀ v, (x, v) ∉ binds) → bindC kindOf binds m x = m x
  | [], _, _ => rfl
  | (n, v) :: r, m, h => by
    unfold bindC
    rw [bindC_out fun w hw => h w (List.mem_cons_of_mem _ hw)]
    split
    · rfl
    · have : x ≠ n := by rintro rfl; exact h v List.mem_cons_self
      simp [this]
theorem bindL_get {kindOf : Str → Option NameKind} {x : Str} {v : Value} : ∀ {P : List Str} {vs : List Value} {i : Nat} {m : Str → Option Value}, P.Nodup → P[i]? = some x → vs[i]? = some v → kindOf x = some .local →
    bindL kindOf (P.zip vs) m x = some v
  | [], _, _, _, _, h, _, _ => by simp at h
  | _ :: _, [], _, _, _, _, h, _ => by simp at h
  | p :: P, w :: vs, 0, m, nd, h1, h2, hk => by
    simp at h1 h2; subst h1; subst h2
    show bindL kindOf ((p, w) :: P.zip vs) m p = _
    unfold bindL
    rw [bindL_out fun v hv => (List.nodup_cons.mp nd).1 (List.of_mem_zip hv).1, if_pos hk]
    simp
  | p :: P, w :: vs, i + 1, m, nd, h1, h2, hk => by
    show bindL kindOf ((p, w) :: P.zip vs) m x = _
    unfold bindL
    exact bindL_get (i := i) (List.nodup_cons.mp nd).2 (by simpa using h1) (by simpa using h2) hk
theorem bindC_get {kindOf : Str → Option NameKind} {x : Str} {v : Value} : ∀ {P : List Str} {vs : List Value} {i : Nat} {m : Str → Option Value}, P.Nodup → P[i]? = some x → vs[i]? = some v → kindOf x ≠ some .local →
    bindC kindOf (P.zip vs) m x = some v
  | [], _, _, _, _, h, _, _ => by simp at h
  | _ :: _, [], _, _, _, _, h, _ => by simp at h
  | p :: P, w :: vs, 0, m, nd, h1, h2, hk => by
    simp at h1 h2; subst h1; subst h2
    show bindC kindOf ((p, w) :: P.zip vs) m p = _
    unfold bindC
    rw [bindC_out fun v hv => (List.nodup_cons.mp nd).1 (List.of_mem_zip hv).1, if_neg hk]
    simp
  | p :: P, w :: vs, i + 1, m, nd, h1, h2, hk => by
    show bindC kindOf ((p, w) :: P.zip vs) m x = _
    unfold bindC
    exact bindC_get (i := i) (List.nodup_cons.mp nd).2 (by simpa using h1) (by simpa using h2) hk

/-- the names' values at the entry -/
def start (N : List Str) (vs : List V) : St := vs.map some ++ List.replicate (N.length - vs.length) none

/-- the context of a def's body, at its entry; an exception leaves the frame, then lies as CX says -/
def cxOf (CX : CXT) (P : Program) (w : World) (K : PySem.W.Frag) (mg : Str → Option Value) (base : Heap) (N : List Str) (qual : Str) (scope : Scope) (f : Addr) (cd : Value) (A : Around) (outer : List Env) (s : Shared) (H : Hp) (E : XK) : Cx where
  prog := P
  w := w
  K := K
  mg := mg
  base := base
  A := A.deeper (envOfC qual scope s.heap.objs.size f cd)
  N := N
  s₀ := s
  H₀ := H
  env := envOfC qual scope s.heap.objs.size f cd
  outer := outer
  stack := envOfC qual scope s.heap.objs.size f cd :: outer
  ex := []
  calm := true
  fn := fun _ => true
  pn := []
  xe := fun e s' => wpAny (model P w) (A.deeper (envOfC qual scope s.heap.objs.size f cd)) (leaving (envOfC qual scope s.heap.objs.size f cd) e) (fun _ s'' => CX outer H s E e s'') (fun e' s'' => CX outer H s E e' s'') s'

theorem cell_has {sc : Scope} {n : Nat} {x : Str} (h : sc.names.lookup x = some .cell) : ∃ c, (cellsFrom n sc.names []).lookup x = some c := by
  have q := PySem.W.cellsFrom_some sc.names n [] (.inl h)
  exact Option.isSome_iff_exists.mp q

theorem inv_start {CX : CXT} {P : Program} {w : World} {K : PySem.W.Frag} {mg : Str → Option Value} {base : Heap} {N ps : List Str} {qual : Str} {scope : Scope} {f : Addr} {cd : Value} {A : Around} {outer : List Env} {s s1 : Shared} {H : Hp} {E : XK} {us : List Value} {vs : List V}
    (S : FnScope N ps scope) (hd : A.handled = none) (e0 : Env0 P w K mg base A outer s H) (hl : vs.length = ps.length) (r : Vals vs us)
    (x : InCallC s s.heap.objs.size (bindL (envOfC qual scope s.heap.objs.size f cd).kindOf (ps.zip us) fun _ => none) (cellsFrom (s.heap.objs.size + 1) scope.names []) (bindC (envOfC qual scope s.heap.objs.size f cd).kindOf (ps.zip us) fun _ => none) s1) :
    Inv (cxOf CX P w K mg base N qual scope f cd A outer s H E) [] (start N vs) H s1 := by
  have hpl : ps.length ≤ N.length := by have := congrArg List.length S.pre; rw [List.length_take] at this; omega
  obtain ⟨h1, tk, rfl, hk⟩ := x.done
  have noA : ∀ b : Addr, b ∉ (cxOf CX P w K mg base N qual scope f cd A outer s H E).ex := fun b z => absurd (show b ∈ ([] : List Addr) from z) (by simp)
  refine ⟨⟨e0.mod, S.kind, rfl, rfl, Nat.le_refl _, fun y z c h1 h2 => ?_, fun y hy => ?_, fun y c _ h => ?_, fun _ => hd, Around.frames_deeper e0.frames, .inr ⟨rfl, rfl⟩, fun b z => absurd z (noA b), e0.bs, e0.bsz, fun b _ _ => noA b, fun b z => absurd z (noA b), e0.funs, e0.frf⟩,
    rfl, e0.bare, Un.kept hk, ⟨_, x.toInCall.ns, fun i y v h1 h2 h3 => ?_⟩, fun y c h => ⟨_, x.cell y c h⟩, e0.hok.fresh (Nat.le_refl _), fun y c h => ?_, fun p hp => absurd (show p ∈ ([] : List (Addr × Obj)) from hp) (by simp), e0.hok.kept hk, ?_⟩
  · exact name_of_addr x.apart (PySem.mem_of_lookup h1) (PySem.mem_of_lookup h2)
  · have hy : scope.names.lookup y = some .cell ∨ scope.names.lookup y = some .free := hy
    rcases hy with hy | hy
    · exact cell_has hy
    · exact absurd rfl (S.nofree _ (PySem.mem_of_lookup hy))
  · exact Nat.le_of_lt (x.above y c (PySem.mem_of_lookup h))
  · have hi : i < vs.length := by
      unfold start at h2
      by_cases hi : i < vs.length
      · exact hi
      · rw [List.getElem?_append_right (by simpa using hi)] at h2
        rw [List.getElem?_replicate] at h2
        split at h2 <;> cases h2
    have ha : vs[i]? = some v := by
      unfold start at h2
      rw [List.getElem?_append_left (by simpa using hi), List.getElem?_map] at h2
      cases e : vs[i]? with
      | none => rw [e] at h2; cases h2
      | some a => rw [e] at h2; cases h2; rfl
    obtain ⟨u, hu, rv⟩ := r.get ha
    have hp : ps[i]? = some y := by
      rw [← S.pre, List.getElem?_take_of_lt (by omega)]; exact h1
    have ndP : ps.Nodup := by rw [← S.pre]; exact S.nd.sublist (List.take_sublist _ _)
    refine ⟨u, rv, ?_⟩
    rcases S.par y (List.mem_of_getElem? hp) with k | k
    · exact .inl ⟨k, bindL_get ndP hp hu k⟩
    · obtain ⟨c, e⟩ := cell_has (n := s.heap.objs.size + 1) k
      refine .inr ⟨.inl k, c, e, ?_⟩
      have q := x.cell y c e
      rw [bindC_get ndP hp hu (by show scope.names.lookup y ≠ _; rw [k]; decide)] at q
      exact q
  · exact e0.hok.fresh (Nat.le_of_lt (x.above y c (PySem.mem_of_lookup h)))
  · unfold start
    show _ = N.length
    rw [List.length_append, List.length_map, List.length_replicate]
    omega

/-- THE RULE: a def (or a method) of the text, by its body. The body's reading t is chosen for each entry; it is run at the parameters' values -/
theorem fn_of {CX : CXT} {P : Program} {w : World} {K : PySem.W.Frag} {mg : Str → Option Value} {base : Heap} {k : Nat} {f : Addr} {name qual : Str} {params : Arguments} {body : List Stmt} {scope : Scope} {dV kV doc pm cdv ct oc : Value} {an od : Option Addr}
    {osl : Array (Option Value)} {N ps : List Str} {sp : Sp} (lk : K.lookup f = some ⟨oc, od, .func (PySem.W.fnOf name qual params body scope dV kV doc pm an cdv ct), osl⟩) (hcd : PySem.W.codeIn K cdv qual = true) (S : FnScope N ps scope)
    (len : ∀ vs H Q E, sp vs H Q E → vs.length = ps.length)
    (hbody : ∀ (A : Around) (outer : List Env) (s : Shared) (H : Hp) (vs : List V) (Q : VK) (E : XK), Room k (A.deeper (envOfC qual scope s.heap.objs.size f cdv)) → sp vs H Q E →
      ∃ t, PSs (cxOf CX P w K mg base N qual scope f cdv A outer s H E) body t ∧ t { nx := fun _ H' => Q .non H', rt := Q } (start N vs) H) :
    FnOk P w K mg base CX (k + 1) f (PySem.W.fnOf name qual params body scope dV kV doc pm an cdv ct) ps sp := by
  refine ⟨len, fun A outer s H args us vs Q E hr e0 hb r hsp => ?_⟩
  have hl := len _ _ _ _ hsp
  have KX : K.In s.heap := e0.mod.kin.keeps fun b o e => (e0.bs b o e).1
  have lim : s.heap.NoLimit := e0.mod.nolimit.keeps fun b o e => (e0.bs b o e).1
  have hkind : ∀ y ∈ ps.zip us, scope.names.lookup y.1 = some .local ∨ (scope.names.lookup y.1 = some .cell ∧ ((cellsFrom (s.heap.objs.size + 1) scope.names []).lookup y.1).isSome = true) := fun ⟨n, v⟩ hy => by
    rcases S.par n (List.of_mem_zip hy).1 with q | q
    · exact .inl q
    · exact .inr ⟨q, PySem.W.cellsFrom_some _ _ _ (.inl q)⟩
  refine codeAny_call_function hr.depth (KX _ _ lk) rfl S.co S.gen rfl (PySem.W.codeRec_of KX hcd) (hb _ _ _ _ ?_)
  refine wpAny_newFunctionEnv_cells S.kind hkind fun env he s1 x => ?_
  subst he
  refine ⟨lim.keeps x.toInCall.keep, codeAny_func ?_⟩
  obtain ⟨t, ht, hq⟩ := hbody A outer s H vs Q E (hr.deeper _) hsp
  have I : Inv (cxOf CX P w K mg base N qual scope f cdv A outer s H E) [] (start N vs) H s1 := inv_start S hr.hd e0 hl r x
  refine wpAny_mono (ht [] s1 (start N vs) H _ I hq) (fun fl s' hs => ?_) fun e s' hs => hs
  have fin : ∀ {σ' : St} {H' : Hp} {v : V} {u : Value}, Inv (cxOf CX P w K mg base N qual scope f cdv A outer s H E) [] σ' H' s' → RelV v u → Q v H' → CE outer P w H s Q u s' :=
    fun {σ' H' v u} J rv q => ⟨v, H', J.os, J.bare, J.base, J.hok, rv, q⟩
  cases fl with
  | ret u =>
    obtain ⟨v, σ', H', J, rv, q⟩ := hs
    exact fin J rv q
  | next =>
    obtain ⟨σ', H', J, q⟩ := hs
    exact fin (v := V.non) (u := Value.none) J rfl q
  | brk =>
    obtain ⟨_, _, _, q⟩ := hs
    exact False.elim q
  | cont =>
    obtain ⟨_, _, _, q⟩ := hs
    exact False.elim q
end L2

namespace L2
open PySem PySem.Spec PyProof.Rows
section
variable {X : Cx} {x : Str} {p pos : Pos} {e : Expr} {es : List Expr} {t : TA} {id T : String} {r : List V → Hp → VK → Prop}

def tCB (r : List V → Hp → VK → Prop) (t : TA) : TE := fun σ H Q => t σ H fun vs H1 => r vs H1 Q
/-- f(e, ..), f a built-in function -/
theorem pe_callB (hc : CallR X (.builtin id) r) (hg : Gl X x) (hm : X.mg x = none) (hv : bootBuiltins x = some (.builtin id)) (ha : PA X (e :: es) t) (hn : x ≠ "__name__" := by decide) (hdb : (x == ("__debug__" : Str)) = false := by decide)
    (he : starEach (e :: es) X.env = (false, eval e X.env) :: starEach es X.env := by rfl) (hpl : (backTo pos (starEach es X.env)).any (·.1) = false := by rfl) : PE X (.Call (.Name x p) (e :: es) [] pos) (tCB r t) := by
  intro pins s σ H Q I h
  refine wpAny_Call_Name_kw (ld_blt I hg hm hv ?_ hn hdb)
  exact PyProof.Rows.callWith_builtin1 (thn (ha pos pins s σ H _ I h) fun us s1 ⟨vs, H1, I1, r1, q1⟩ => hc pins s1 σ H1 vs us Q I1 r1 q1) he hpl
/-- T(e, ..), T a built-in type -/
theorem pe_callTy (hc : CallR X (.type T) r) (hg : Gl X x) (hm : X.mg x = none) (hv : bootBuiltins x = some (.type T)) (ha : PA X (e :: es) t) (hn : x ≠ "__name__" := by decide) (hdb : (x == ("__debug__" : Str)) = false := by decide)
    (he : starEach (e :: es) X.env = (false, eval e X.env) :: starEach es X.env := by rfl) (hpl : (backTo pos (starEach es X.env)).any (·.1) = false := by rfl) : PE X (.Call (.Name x p) (e :: es) [] pos) (tCB r t) := by
  intro pins s σ H Q I h
  refine wpAny_Call_Name_kw (ld_blt I hg hm hv ?_ hn hdb)
  exact PyProof.Rows.callWith_type1 (thn (ha pos pins s σ H _ I h) fun us s1 ⟨vs, H1, I1, r1, q1⟩ => hc pins s1 σ H1 vs us Q I1 r1 q1) he hpl
end
end L2

namespace HT
open PySem PyProof.Rows

section
open PySem.SeqAt
open PySem.AutoSeq1 (wpAny_loadPart')
open PySem.MeetsSeq PySem.MeetsSeq2 PySem.MeetsSeq3

end

section
variable {prog : Program} {w : World} {A : Around} {E : Value → Shared → Prop} {s : Shared}

/-- t + u, t not empty -/
theorem cat_tup {t b : Addr} {vs ws : List Value} {Q : Value → Shared → Prop} (ht : IsTup s.heap t vs.toArray) (hb : IsTup s.heap b ws.toArray) (hv : vs ≠ [])
    (h1 : ws = [] → Q (.ref t) s) (h2 : ws ≠ [] → Q (.ref s.heap.objs.size) { s with heap := s.heap.push { cls := .type "tuple", data := .seq (vs ++ ws).toArray } })
    (hsz : vs.length + ws.length ≤ sizeLine) : wpAny (model prog w) A (binaryOp .Add (.ref t) (.ref b)) Q E s := by
  obtain ⟨⟨cls, dd, data, sl⟩, ho, hc, n, hd⟩ := id ht
  obtain ⟨⟨cls2, dd2, data2, sl2⟩, ho2, hc2, n2, hd2⟩ := id hb
  simp only at hc hd hc2 hd2
  subst hc hd hc2 hd2
  have e : vs.toArray ++ ws.toArray = (vs ++ ws).toArray := by simp
  by_cases hw : ws = []
  · exact concat_meets ⟨_, ho, rfl⟩ ⟨_, ho2, rfl⟩ noFill_tuple_add seq_tuple_add PySem.F.slot_tuple_add PySem.F.entry_tuple_add (PySem.F.args_tuple_add_2 _ _)
      (tuple_addW1 t b vs.toArray ws.toArray n n2 dd dd2 sl sl2 (by simpa using hv) (by simp [hw])) ⟨ho, ho2, h1 hw⟩
  · refine concat_meets ⟨_, ho, rfl⟩ ⟨_, ho2, rfl⟩ noFill_tuple_add seq_tuple_add PySem.F.slot_tuple_add PySem.F.entry_tuple_add (PySem.F.args_tuple_add_2 _ _)
      (tuple_addW2 t b vs.toArray ws.toArray n n2 dd dd2 sl sl2 (by simpa using hv) (by simpa using hw) (by rw [List.size_toArray, List.size_toArray]; exact hsz)) ⟨ho, ho2, ?_⟩
    rw [e]
    exact h2 hw

/-! ### t[a:b], not the whole -/
/-- a slice's bound as a place among n (d where it is left out) -/
def sIx (n d : Nat) : Option Int → Nat
  | none => d
  | some v => if v < 0 then (v + (n : Int)).toNat else min v.toNat n
theorem sIx_none (n d : Nat) : sIx n d none = d := rfl
theorem sIx_nat (n d k : Nat) : sIx n d (some (k : Int)) = min k n := by
  show (if (k : Int) < 0 then ((k : Int) + (n : Int)).toNat else min (k : Int).toNat n) = min k n
  rw [if_neg (by omega), Int.toNat_natCast]
theorem sIx_le (n d : Nat) (hd : d ≤ n) (o : Option Int) : sIx n d o ≤ n := by
  cases o with
  | none => exact hd
  | some v =>
    show (if v < 0 then (v + (n : Int)).toNat else min v.toNat n) ≤ n
    by_cases hv : v < 0
    · rw [if_pos hv]; omega
    · rw [if_neg hv]; exact Nat.min_le_right _ _
theorem clip_eq (v : Int) (n d : Nat) : (if v < 0 then max (v + (n : Int)) 0 else min v (n : Int)) = ((sIx n d (some v) : Nat) : Int) := by
  show (if v < 0 then max (v + (n : Int)) 0 else min v (n : Int)) = (((if v < 0 then (v + (n : Int)).toNat else min v.toNat n) : Nat) : Int)
  by_cases hv : v < 0
  · simp only [if_pos hv]; omega
  · simp only [if_neg hv]; omega
theorem adjust_gen (lo hi : Option Int) (n : Nat) : Builtin.Slice.sliceAdjust lo hi 1 (n : Int) = (((sIx n 0 lo : Nat) : Int), ((sIx n n hi : Nat) : Int)) := by
  have h1 : ¬ ((1 : Int) < 0) := by omega
  unfold Builtin.Slice.sliceAdjust
  simp only [h1, if_false]
  refine Prod.ext ?_ ?_
  · cases lo with
    | none => rfl
    | some v => exact clip_eq v n 0
  · cases hi with
    | none => rfl
    | some v => exact clip_eq v n n
theorem places_gen (i j : Nat) : Builtin.Slice.slicePlaces (i : Int) (j : Int) 1 = j - i := by
  unfold Builtin.Slice.slicePlaces
  have h1 : (1 : Int) > 0 := by omega
  simp only [h1, if_true, Int.ediv_one]
  split <;> omega
theorem slicePart_ {v : Value} {o : Option Int} {Q : Option Int → Shared → Prop} (p : IsPart v o) (h : Q o s) : wpAny (model prog w) A (Builtin.Slice.slicePartIndex v) Q E s := by
  cases p with
  | none => exact slicePart_none h
  | int i t => exact slicePart_int h
theorem sliceApplied_gen {sl : Addr} {vl vu : Value} {lo hi : Option Int} {n : Nat} {Q : Int × Int × Nat → Shared → Prop} (hs : s.heap.IsSliceOf sl vl vu .none) (pl : IsPart vl lo) (pu : IsPart vu hi)
    (h : Q (((sIx n 0 lo : Nat) : Int), 1, sIx n n hi - sIx n 0 lo) s) : wpAny (model prog w) A (Builtin.Slice.sliceApplied (.ref sl) (pure (n : Int))) Q E s := by
  obtain ⟨os, hos, hcs, hds⟩ := id hs
  unfold Builtin.Slice.sliceApplied Builtin.Slice.sliceFields
  refine wpAny_bind (wpAny_bind (wpAny_field hos hds (x := vl) rfl (wpAny_bind (wpAny_field hos hds (x := vu) rfl (wpAny_bind (wpAny_field hos hds (x := .none) rfl (wpAny_pure ?_)))))))
  refine wpAny_bind (slicePart_none ?_)
  show wpAny _ _ (if ((1 : Int) == 0) = true then _ else _) _ _ s
  rw [if_neg (by decide)]
  refine wpAny_bind (slicePart_ pl (wpAny_bind (slicePart_ pu (wpAny_bind (wpAny_pure ?_)))))
  show wpAny _ _ (match Builtin.Slice.sliceAdjust lo hi 1 (n : Int) with | (lo, hi) => pure (lo, (1 : Int), Builtin.Slice.slicePlaces lo hi 1)) _ _ s
  rw [adjust_gen lo hi n]
  show wpAny _ _ (pure (((sIx n 0 lo : Nat) : Int), (1 : Int), Builtin.Slice.slicePlaces ((sIx n 0 lo : Nat) : Int) ((sIx n n hi : Nat) : Int) 1)) _ _ s
  rw [places_gen]
  exact wpAny_pure h
theorem pick_gen (xs : Array Value) (i k : Nat) : ((List.range k).filterMap fun (m : Nat) => xs[((i : Int) + (m : Int) * 1).toNat]?).toArray = ((xs.toList.drop i).take k).toArray := by
  have e : (fun (m : Nat) => xs[((i : Int) + (m : Int) * 1).toNat]?) = fun m => xs[i + m]? := by
    funext m
    have : ((i : Int) + (m : Int) * 1).toNat = i + m := by omega
    rw [this]
  rw [e]
  have := pick_run xs i k
  rw [List.filterMap_map] at this
  have e2 : ((fun x => xs[x]?) ∘ fun x => i + x) = fun m => xs[i + m]? := rfl
  rw [e2] at this
  rw [this]

theorem getItem_tuple_cut {t sl : Addr} {items : Array Value} {vl vu : Value} {lo hi : Option Int} {Q : Value → Shared → Prop} (ht : IsTup s.heap t items) (hs : s.heap.IsSliceOf sl vl vu .none) (pl : IsPart vl lo) (pu : IsPart vu hi)
    (hw : ¬ (sIx items.size 0 lo = 0 ∧ sIx items.size items.size hi = items.size))
    (h : Q (.ref s.heap.objs.size) { s with heap := s.heap.push { cls := .type "tuple", data := .seq ((items.toList.drop (sIx items.size 0 lo)).take (sIx items.size items.size hi - sIx items.size 0 lo)).toArray } })
    (hsz : items.size ≤ sizeLine) : wpAny (model prog w) A (getItem (.ref t) (.ref sl)) Q E s := by
  have htake : sizeOk (.seq ((items.toList.drop (sIx items.size 0 lo)).take (sIx items.size items.size hi - sIx items.size 0 lo)).toArray) := by
    show ((items.toList.drop (sIx items.size 0 lo)).take (sIx items.size items.size hi - sIx items.size 0 lo)).toArray.size ≤ sizeLine
    rw [List.size_toArray, List.length_take, List.length_drop, Array.length_toList]
    omega
  have hj : sIx items.size items.size hi ≤ items.size := sIx_le _ _ (Nat.le_refl _) hi
  obtain ⟨os, hos, hcs, hds⟩ := id hs
  have hTs : s.TypeIs (.ref sl) "slice" := ⟨os, hos, hcs⟩
  unfold getItem
  try with_reducible refine wpAny_holding ?_
  first | refine wpAny_bind (wpAny_pure ?_) | skip
  refine wpAny_bind (wpAny_sequenceKey ht.typeIs (by decide) ?_)
  refine wpAny_bind (wpAny_callSpecial?_slot (name := Str.ofString "__getitem__") ht.typeIs PyProof.Rows.slot_tuple_getitem
    (wpAny_call_entry PyProof.Rows.slot_tuple_getitem ht.typeIs entry_tuple_getitem ?_ (args_tuple_getitem _ _)))
  show wpAny _ _ (Builtin.Tuple.tupleItemsOf (.ref t) >>= _) _ _ s
  refine wpAny_bind (tupleItemsOf_ ht ?_)
  refine wpAny_bind (wpAny_typeOf hTs ?_)
  rw [if_pos (by decide)]
  refine wpAny_bind (sliceApplied_gen hs pl pu ?_)
  have hno : ¬ ((((sIx items.size 0 lo : Nat) : Int) == 0 && (1 : Int) == 1 && (sIx items.size items.size hi - sIx items.size 0 lo) == items.size) = true) := by
    intro q
    rw [Bool.and_eq_true, Bool.and_eq_true] at q
    have q1 : ((sIx items.size 0 lo : Nat) : Int) = 0 := eq_of_beq q.1.1
    have q2 : sIx items.size items.size hi - sIx items.size 0 lo = items.size := eq_of_beq q.2
    exact hw ⟨by omega, by omega⟩
  show wpAny _ _ (if (((sIx items.size 0 lo : Nat) : Int) == 0 && (1 : Int) == 1 && (sIx items.size items.size hi - sIx items.size 0 lo) == items.size) = true then _ else _) _ _ s
  rw [if_neg hno, pick_gen]
  first
    | exact wpAny_bind (m := Builtin.Tuple.tupleExact _) (wpAny_newObj_type (wpAny_pure ⟨_, rfl, wpAny_pure h⟩) htake)
    | exact wpAny_bind (m := Builtin.Tuple.tupleExact _) (wpAny_newObj_type (wpAny_bind (wpAny_pure (wpAny_pure ⟨_, rfl, wpAny_pure h⟩))) htake)
    | exact wpAny_bind (wpAny_bind (m := Builtin.Tuple.tupleExact _) (wpAny_newObj_type (wpAny_pure (wpAny_pure ⟨_, rfl, wpAny_pure h⟩)) htake))
    | exact wpAny_bind (wpAny_bind (m := Builtin.Tuple.tupleExact _) (wpAny_newObj_type (wpAny_pure ⟨_, rfl, wpAny_pure h⟩) htake))
end
end HT

namespace L2
open PySem PySem.Spec PyProof.Rows

/-! ### the parts of a slice -/
abbrev TO := St → Hp → (Option Int → Hp → Prop) → Prop
/-- a slice's part (left out, or an int) -/
def PO (X : Cx) (e : Option Expr) (t : TO) : Prop :=
  ∀ (pins : List (Addr × Obj)) (s : Shared) (σ : St) (H : Hp) (Q : Option Int → Hp → Prop), Inv X pins σ H s → t σ H Q →
    wpAny (model X.prog X.w) X.A (evalPart e X.env) (fun u s' => ∃ o H', Inv X pins σ H' s' ∧ IsPart u o ∧ Q o H') X.xe s
def tNoPart : TO := fun _ H Q => Q none H
def tPart (t : TE) : TO := fun σ H Q => t σ H fun x H1 => ∃ i, x = .int i ∧ Q (some i) H1

theorem intsAre_of {ns : List Int} : ∀ {us : List Value}, Vals (ns.map V.int) us → IntsAre us ns := by
  induction ns with
  | nil => intro us r; rw [List.map_nil] at r; cases r; exact .nil
  | cons n ns ih =>
    intro us r
    rw [List.map_cons] at r
    cases r with
    | cons r1 r2 =>
      obtain ⟨t, e⟩ := r1
      subst e
      exact .cons n t (ih r2)

section
variable {X : Cx} {e : Expr} {te : TE} {lo hi : Option Expr} {tl th : TO} {pos p2 : Pos}

theorem po_none : PO X none tNoPart := by
  intro pins s σ H Q I h
  rw [evalPart_none]
  exact wpAny_pure ⟨none, H, I, .none, h⟩
theorem po_some (h : PE X e te) : PO X (some e) (tPart te) := by
  intro pins s σ H Q I hw
  rw [evalPart_some]
  refine thn (h pins s σ H _ I hw) fun u s1 ⟨x, H1, I1, r1, q1⟩ => ?_
  obtain ⟨i, rfl, q⟩ := q1
  obtain ⟨t, rfl⟩ := r1
  exact ⟨some i, H1, I1, .int i t, q⟩

/-- what a slice of a value is, by values: the slice object stands at sl -/
def SlR (X : Cx) (r : V → Option Int → Option Int → Hp → VK → Prop) : Prop :=
  ∀ (pins : List (Addr × Obj)) (s : Shared) (σ : St) (H : Hp) (x : V) (v vl vu : Value) (lo hi : Option Int) (sl : Addr) (Q : VK), Inv X pins σ H s → RelV x v → s.heap.IsSliceOf sl vl vu .none → IsPart vl lo → IsPart vu hi → r x lo hi H Q →
    ∃ T id, typeLookup (.type T) "__getitem__" = pure (some (.builtin id)) ∧ s.TypeIs v T ∧ wpAny (model X.prog X.w) X.A (getItem v (.ref sl)) (EP X pins σ Q) X.xe s
theorem SlR.or {r r' : V → Option Int → Option Int → Hp → VK → Prop} (h : SlR X r) (h' : SlR X r') : SlR X (fun x lo hi H Q => r x lo hi H Q ∨ r' x lo hi H Q) := by
  intro pins s σ H x v vl vu lo hi sl Q I rx hs pl pu q
  rcases q with q | q
  · exact h pins s σ H x v vl vu lo hi sl Q I rx hs pl pu q
  · exact h' pins s σ H x v vl vu lo hi sl Q I rx hs pl pu q
def tSl (r : V → Option Int → Option Int → Hp → VK → Prop) (te : TE) (tl th : TO) : TE := fun σ H Q => te σ H fun x H1 => tl σ H1 fun l H2 => th σ H2 fun u H3 => r x l u H3 Q
/-- a[lo:hi], any a -/
theorem pe_slice {r : V → Option Int → Option Int → Hp → VK → Prop} (hr : SlR X r) (he : PE X e te) (hl : PO X lo tl) (hu : PO X hi th) : PE X (.Subscript e (.Slice lo hi none p2) pos) (tSl r te tl th) := by
  intro pins s σ H Q I h
  refine Subscript_ (thn (he pins s σ H _ I h) fun v s1 ⟨x, H1, I1, r1, q1⟩ => ?_)
  refine wpAny_Slice (thn (hl pins s1 σ H1 _ I1 q1) fun vl s2 ⟨l, H2, I2, pl, q2⟩ => thn (hu pins s2 σ H2 _ I2 q2) fun vu s3 ⟨u, H3, I3, pu, q3⟩ => ?_)
  rw [evalPart_none]
  refine wpAny_pure ?_
  have I4 : Inv X pins σ H3 { s3 with heap := s3.heap.push { cls := .type "slice", data := .fields #[vl, vu, .none] } } := I3.kept (t' := s3.toks) fun b ob q => Heap.get?_push_of_some _ q
  obtain ⟨T, id, hT, ht, hg⟩ := hr pins { s3 with heap := s3.heap.push { cls := .type "slice", data := .fields #[vl, vu, .none] } } σ H3 x v vl vu l u s3.heap.objs.size Q I4 r1 (Heap.IsSliceOf.new ..) pl pu q3
  show wpAny (model X.prog X.w) X.A (subscriptTail e (.Slice lo hi none p2) v (.ref s3.heap.objs.size)) (EP X pins σ Q) X.xe { s3 with heap := s3.heap.push { cls := .type "slice", data := .fields #[vl, vu, .none] } }
  exact tail_any (ops := [.ref s3.heap.objs.size, v]) ht hT hg (by with_unfolding_all rfl)

/-- the items of xs[lo:hi] -/
def cutV (xs : List V) (lo hi : Option Int) : List V := (xs.drop (HT.sIx xs.length 0 lo)).take (HT.sIx xs.length xs.length hi - HT.sIx xs.length 0 lo)
theorem cutV_length (xs : List V) (lo hi : Option Int) : (cutV xs lo hi).length ≤ xs.length := by
  unfold cutV
  rw [List.length_take, List.length_drop]
  omega
/-- t[lo:hi], not the whole of it (the whole would be t itself) -/
def rSlT (K : PySem.W.Frag) : V → Option Int → Option Int → Hp → VK → Prop := fun x lo hi H Q => ∃ a xs, x = .ref a ∧ SqT K H a xs ∧
  ¬ (HT.sIx xs.length 0 lo = 0 ∧ HT.sIx xs.length xs.length hi = xs.length) ∧ ∀ p, H p = none → Q (.ref p) (upd H p (.tup (cutV xs lo hi)))
theorem sl_tup : SlR X (rSlT X.K) := by
  intro pins s σ H x v vl vu lo hi sl Q I rx hs pl pu h
  obtain ⟨a, xs, rfl, hx, hw, q⟩ := h
  cases rx
  obtain ⟨its, r, ht, hz⟩ := I.tuple hx
  have hlen : its.toArray.size = xs.length := by rw [List.size_toArray]; exact r.length.symm
  refine ⟨"tuple", _, PyProof.Rows.slot_tuple_getitem.lookup, ht.typeIs, ?_⟩
  refine HT.getItem_tuple_cut ht hs pl pu (by rw [hlen]; exact hw) ?_ (by rw [hlen]; exact hz)
  rw [hlen]
  refine ⟨.ref s.heap.objs.size, _, I.laid (t' := s.toks) (o := .tup (cutV xs lo hi)) (fun b ob q => Heap.get?_push_of_some _ q) (Nat.le_refl _) ?_, rfl, q _ (I.hok.fresh (Nat.le_refl _))⟩
  exact ⟨Nat.le_trans (cutV_length xs lo hi) hz, _, (r.drop (HT.sIx xs.length 0 lo)).take (HT.sIx xs.length xs.length hi - HT.sIx xs.length 0 lo), IsTupP.new _ _⟩

/-! ### t < u, t + u -/
/-- t + u, t not empty: u empty gives t itself -/
def rCatT (K : PySem.W.Frag) : R2 := fun x y H Q => ∃ a b xs ys, x = .ref a ∧ y = .ref b ∧ SqT K H a xs ∧ SqT K H b ys ∧ xs ≠ [] ∧ xs.length + ys.length ≤ sizeLine ∧
  (ys = [] → Q (.ref a) H) ∧ (ys ≠ [] → ∀ p, H p = none → Q (.ref p) (upd H p (.tup (xs ++ ys))))
theorem Vals.nil_iff {xs : List V} {us : List Value} (r : Vals xs us) : us = [] ↔ xs = [] := by
  cases r with
  | nil => simp
  | cons _ _ => simp
theorem op_catT : OpR X (binaryOp .Add) (rCatT X.K) := by
  intro pins s σ H x y v u Q I rx ry h
  obtain ⟨a, b, xs, ys, rfl, rfl, ha, hb, hx, hz, q1, q2⟩ := h
  cases rx
  cases ry
  obtain ⟨its, r1, p1, _⟩ := I.tuple ha
  obtain ⟨its2, r2, p2, _⟩ := I.tuple hb
  refine HT.cat_tup p1 p2 (fun z => hx (r1.nil_iff.mp z)) (fun z => ⟨.ref a, H, I, rfl, q1 (r2.nil_iff.mp z)⟩) (fun z => ?_) (by rw [← r1.length, ← r2.length]; exact hz)
  refine ⟨.ref s.heap.objs.size, _, I.laid (t' := s.toks) (o := .tup (xs ++ ys)) (fun b ob q => Heap.get?_push_of_some _ q) (Nat.le_refl _) ?_, rfl, q2 (fun w => z (r2.nil_iff.mpr w)) _ (I.hok.fresh (Nat.le_refl _))⟩
  exact ⟨by rw [List.length_append]; exact hz, _, r1.append r2, IsTupP.new _ _⟩
end
end L2

namespace L2
open PySem PySem.Spec PyProof.Rows

/-! ### places -/
/-- the place that an index of any sign means -/
def ixN (n : Nat) (i : Int) : Option Nat := if 0 ≤ i then (if i < n then some i.toNat else none) else if -(n : Int) ≤ i then some (i + n).toNat else none
def atI {α : Type} (xs : List α) (i : Int) : Option α := (ixN xs.length i).bind fun j => xs[j]?
theorem ixN_seq {n : Nat} {i : Int} {j : Nat} (h : ixN n i = some j) : seqIndex? i n = some j ∧ j < n ∧ -(n : Int) ≤ i ∧ i < n := by
  unfold ixN at h
  by_cases h0 : 0 ≤ i
  · rw [if_pos h0] at h
    by_cases h1 : i < n
    · rw [if_pos h1] at h
      have e : i.toNat = j := Option.some.inj h
      exact ⟨by rw [seqIndex_of h0 h1, e], by omega, by omega, h1⟩
    · rw [if_neg h1] at h; cases h
  · rw [if_neg h0] at h
    by_cases h1 : -(n : Int) ≤ i
    · rw [if_pos h1] at h
      have e : (i + n).toNat = j := Option.some.inj h
      exact ⟨by rw [seqIndex_neg (by omega) h1, e], by omega, h1, by omega⟩
    · rw [if_neg h1] at h; cases h
theorem atI_get {α : Type} {xs : List α} {i : Int} {v : α} (h : atI xs i = some v) : ∃ j, seqIndex? i xs.length = some j ∧ xs[j]? = some v ∧ j < xs.length ∧ -(xs.length : Int) ≤ i ∧ i < xs.length := by
  unfold atI at h
  cases e : ixN xs.length i with
  | none => rw [e] at h; cases h
  | some j =>
    rw [e] at h
    obtain ⟨h1, h2, h3, h4⟩ := ixN_seq e
    exact ⟨j, h1, h, h2, h3, h4⟩
theorem atI_nat {α : Type} {xs : List α} {j : Nat} {v : α} (h : xs[j]? = some v) : atI xs (j : Int) = some v := by
  have hj : j < xs.length := (List.getElem?_eq_some_iff.mp h).1
  have e : ixN xs.length (j : Int) = some j := by
    unfold ixN
    rw [if_pos (by omega), if_pos (by omega)]; simp
  unfold atI; rw [e]; exact h
theorem atI_last {α : Type} (xs : List α) (v : α) : atI (xs ++ [v]) (-1) = some v := by
  have hl : (xs ++ [v]).length = xs.length + 1 := by simp
  have e : ixN (xs ++ [v]).length (-1) = some xs.length := by
    unfold ixN
    rw [hl, if_neg (by decide), if_pos (by omega)]
    congr 1
    omega
  unfold atI
  rw [e]
  show (xs ++ [v])[xs.length]? = some v
  simp

/-! ### what may be subscripted -/
/-- what stands as an index of a plain subscript -/
def PlainIx (b : Expr) : Prop := ∀ o i, subscripted b false o i = operate [o, i] (getItem o i)
/-- a subscript by values -/
def IxR (X : Cx) (r : R2) : Prop :=
  ∀ (value slice : Expr) (pins : List (Addr × Obj)) (s : Shared) (σ : St) (H : Hp) (x y : V) (v u : Value) (Q : VK), Inv X pins σ H s → RelV x v → RelV y u → r x y H Q →
    subscripted slice false v u = operate [v, u] (getItem v u) → wpAny (model X.prog X.w) X.A (subscriptTail value slice v u) (EP X pins σ Q) X.xe s
/-- a call of a builtin's method by values: the receiver, the arguments -/
def MtR (X : Cx) (id : String) (r : V → List V → Hp → VK → Prop) : Prop :=
  ∀ (pins : List (Addr × Obj)) (s : Shared) (σ : St) (H : Hp) (x : V) (xs : List V) (v : Value) (us : List Value) (Q : VK), Inv X pins σ H s → RelV x v → Vals xs us → r x xs H Q →
    wpAny (model X.prog X.w) X.A (call (.builtin id) (v :: us)) (EP X pins σ Q) X.xe s
section
variable {X : Cx} {a b : Expr} {ta tb : TE} {pos : Pos}
theorem IxR.or {r r' : R2} (h : IxR X r) (h' : IxR X r') : IxR X (fun x y H Q => r x y H Q ∨ r' x y H Q) := by
  intro value slice pins s σ H x y v u Q I rx ry q hs
  rcases q with q | q
  · exact h value slice pins s σ H x y v u Q I rx ry q hs
  · exact h' value slice pins s σ H x y v u Q I rx ry q hs
theorem MtR.or {id : String} {r r' : V → List V → Hp → VK → Prop} (h : MtR X id r) (h' : MtR X id r') : MtR X id (fun x xs H Q => r x xs H Q ∨ r' x xs H Q) := by
  intro pins s σ H x xs v us Q I rx rs q
  rcases q with q | q
  · exact h pins s σ H x xs v us Q I rx rs q
  · exact h' pins s σ H x xs v us Q I rx rs q
/-- a[b] -/
theorem pe_ix {r : R2} (hr : IxR X r) (ha : PE X a ta) (hb : PE X b tb) (hs : PlainIx b) : PE X (.Subscript a b pos) (tOp r ta tb) := by
  intro pins s σ H Q I h
  exact Subscript_ (binT ha hb I h fun v u s2 x y H2 I2 rx ry q => hr a b pins s2 σ H2 x y v u Q I2 rx ry q (hs _ _))

def rIxL (K : PySem.W.Frag) : R2 := fun x y H Q => ∃ p xs i v, x = .ref p ∧ y = .int i ∧ SqL K H p xs ∧ atI xs i = some v ∧ Q v H
def rIxT (K : PySem.W.Frag) : R2 := fun x y H Q => ∃ p xs i v, x = .ref p ∧ y = .int i ∧ SqT K H p xs ∧ atI xs i = some v ∧ Q v H
def rIxS : R2 := fun x y H Q => ∃ z i c, x = .str z ∧ y = .int i ∧ z.length ≤ sizeLine ∧ atI z.cps.toList i = some c ∧ Q (.str ⟨#[c]⟩) H
theorem ix_list : IxR X (rIxL X.K) := by
  intro value slice pins s σ H x y v u Q I rx ry h hs
  obtain ⟨p, xs, i, z, rfl, rfl, hq, he, q⟩ := h
  cases rx
  obtain ⟨t, rfl⟩ := ry
  obtain ⟨its, r, pl, hz⟩ := I.list hq
  obtain ⟨j, h1, h2, h3, h4, h5⟩ := atI_get he
  obtain ⟨w, ew, rw'⟩ := r.get h2
  have hl := r.length
  have hn := line63
  have fin : EP X pins σ Q w s := ⟨z, H, I, rw', q⟩
  by_cases h0 : 0 ≤ i
  · have hj : i.toNat = j := by
      rw [seqIndex_of h0 h5] at h1
      exact Option.some.inj h1
    exact item_listR pl.isList h0 (by omega) (by rw [hj]; simpa using ew) fin hs
  · have hj : (i + (its.toArray.size : Int)).toNat = j := by
      rw [seqIndex_neg (by omega) h4] at h1
      rw [List.size_toArray, ← hl]
      exact Option.some.inj h1
    exact subscriptTail_builtinR (x := w) pl.isList.typeIs slot_list_getitem.lookup
      (wpAny_getItem_list_neg (Q := fun r s' => r = w ∧ EP X pins σ Q r s') pl.isList (by omega) (by rw [List.size_toArray] <;> omega) (by omega) (by rw [hj]; simpa using ew) ⟨rfl, fin⟩) hs
theorem ix_tup : IxR X (rIxT X.K) := by
  intro value slice pins s σ H x y v u Q I rx ry h hs
  obtain ⟨p, xs, i, z, rfl, rfl, hq, he, q⟩ := h
  cases rx
  obtain ⟨t, rfl⟩ := ry
  obtain ⟨its, r, pl, hz⟩ := I.tuple hq
  obtain ⟨j, h1, h2, h3, h4, h5⟩ := atI_get he
  obtain ⟨w, ew, rw'⟩ := r.get h2
  have hl := r.length
  have hn := line63
  have fin : EP X pins σ Q w s := ⟨z, H, I, rw', q⟩
  exact subscriptTail_builtinR (x := w) pl.typeIs slot_tuple_getitem.lookup
    (getItem_tuple (j := j) (Q := fun r s' => r = w ∧ EP X pins σ Q r s') pl (by omega) (by omega) (by rw [List.size_toArray, ← hl]; exact h1) (by simpa using ew) ⟨rfl, fin⟩) hs
theorem ix_str : IxR X rIxS := by
  intro value slice pins s σ H x y v u Q I rx ry h hs
  obtain ⟨z, i, c, rfl, rfl, hz, he, q⟩ := h
  obtain ⟨t, rfl⟩ := rx
  obtain ⟨t', rfl⟩ := ry
  obtain ⟨j, h1, h2, h3, h4, h5⟩ := atI_get he
  have hl : z.cps.toList.length = z.length := by simp [Str.length]
  rw [hl] at h1 h4 h5
  have hn := line63
  exact tail_any (typeIs_str s z t) slot_str_getitem.lookup (getItem_str (c := c) (by
    have e1 : decide (i < -(2 ^ 63 : Int)) = false := decide_eq_false (by omega)
    have e2 : decide (i ≥ 2 ^ 63) = false := decide_eq_false (by omega)
    rw [e1, e2, Bool.or_false]) (by rw [h1]; simpa using h2) ⟨.str ⟨#[c]⟩, H, I.tok _, ⟨_, rfl⟩, q⟩) hs
/-! ### xs[i] = v, any sign -/
/-- the list's object behind a store -/
theorem mapSeq_set (its : List Value) (n j : Nat) (u : Value) : Obj.mapSeq (·.setIfInBounds j u) { cls := .type "list", data := .seq its.toArray n } = { cls := .type "list", data := .seq (its.set j u).toArray n } := by
  simp [Obj.mapSeq]
theorem Inv.lst {pins : List (Addr × Obj)} {σ : St} {H : Hp} {s : Shared} {p : Addr} {xs : List V} (I : Inv X pins σ H s) (h : H p = some (.lst xs)) :
    ∃ (its : List Value) (n : Nat), Vals xs its ∧ s.heap.get? p = some { cls := .type "list", data := .seq its.toArray n } ∧ xs.length ≤ sizeLine := by
  obtain ⟨z, its, n, r, e⟩ := I.hok p _ h
  exact ⟨its, n, r, e, z⟩
/-- the list at p is written by an update of its object -/
theorem Inv.lstUpd {pins : List (Addr × Obj)} {σ : St} {H : Hp} {s : Shared} {p : Addr} {xs ys : List V} {its its' : List Value} {n n' : Nat} {f : Obj → Obj} (I : Inv X pins σ H s) (h : H p = some (.lst xs))
    (ho : s.heap.get? p = some { cls := .type "list", data := .seq its.toArray n }) (hf : f { cls := .type "list", data := .seq its.toArray n } = { cls := .type "list", data := .seq its'.toArray n' }) (r : Vals ys its') (hz : ys.length ≤ sizeLine) (t : Nat) :
    Inv X pins σ (upd H p (.lst ys)) { s with heap := s.heap.update p f, toks := t } := by
  have e : (s.heap.update p f).get? p = some { cls := .type "list", data := .seq its'.toArray n' } := by
    rw [Heap.get?_update_self f ho (by rw [hf] <;> rfl), hf]
  refine I.write (x := p) (e := p) (by rw [h]; trivial) (.inl rfl) (fun b u hb q => (Heap.get?_update_other _ _ (Ne.symm hb)).trans q) ⟨_, e⟩ ?_
  exact ⟨hz, its', n', r, e⟩
def rSetL : V → V → V → Hp → (Hp → Prop) → Prop := fun o i v H Q => ∃ p xs k j, o = .ref p ∧ i = .int k ∧ H p = some (.lst xs) ∧ ixN xs.length k = some j ∧ Q (upd H p (.lst (xs.set j v)))
theorem set_list : PSet X rSetL := by
  intro pins s σ H o i v ov iv u Q I ro ri rv h
  obtain ⟨p, xs, k, j, rfl, rfl, hp, hj, q⟩ := h
  cases ro
  obtain ⟨t, rfl⟩ := ri
  obtain ⟨its, n, r, ho, hz⟩ := I.lst hp
  obtain ⟨h1, h2, h3, h4⟩ := ixN_seq hj
  have hl := r.length
  have hn := line63
  have I' : Inv X pins σ (upd H p (.lst (xs.set j v))) { s with heap := s.heap.update p (Obj.mapSeq (·.setIfInBounds j u)) } :=
    I.lstUpd hp ho (mapSeq_set its n j u) (r.set rv j) (by rw [List.length_set]; exact hz) s.toks
  by_cases h0 : 0 ≤ k
  · have hk : k.toNat = j := by
      rw [seqIndex_of h0 h4] at h1
      exact Option.some.inj h1
    exact PySem.W.ki_setAt ho h0 (by omega) (by rw [List.size_toArray, ← hl]; exact h4) (by rw [hk]; exact ⟨_, I', q⟩)
  · have hk : (k + (its.toArray.size : Int)).toNat = j := by
      rw [seqIndex_neg (by omega) h3] at h1
      rw [List.size_toArray, ← hl]
      exact Option.some.inj h1
    exact PySem.W.ki_setBack ho (by omega) (by rw [List.size_toArray, ← hl]; exact h3) (by omega) (by rw [hk]; exact ⟨_, I', q⟩)

/-! ### slices -/
theorem slice_bounds (lo hi : Option Int) (n : Nat) : (sliceBounds lo hi none n).1 = ((HT.sIx n 0 lo : Nat) : Int) ∧ (sliceBounds lo hi none n).2.1 = ((HT.sIx n n hi : Nat) : Int) ∧ (sliceBounds lo hi none n).2.2 = 1 := by
  refine ⟨?_, ?_, rfl⟩
  · cases lo with
    | none => simp [sliceBounds, HT.sIx]
    | some i =>
      simp only [sliceBounds, HT.sIx, Option.getD_none, show (1 : Int) > 0 by decide, if_true]
      by_cases h : i < 0
      · simp only [h, if_true] <;> omega
      · simp only [h, if_false] <;> omega
  · cases hi with
    | none => simp [sliceBounds, HT.sIx]
    | some i =>
      simp only [sliceBounds, HT.sIx, Option.getD_none, show (1 : Int) > 0 by decide, if_true]
      by_cases h : i < 0
      · simp only [h, if_true] <;> omega
      · simp only [h, if_false] <;> omega
theorem slicePick_cut (its : List Value) (lo hi : Option Int) : slicePick its.toArray lo hi none = ((its.drop (HT.sIx its.length 0 lo)).take (HT.sIx its.length its.length hi - HT.sIx its.length 0 lo)).toArray := by
  obtain ⟨h1, h2, h3⟩ := slice_bounds lo hi its.toArray.size
  unfold slicePick
  rw [h1, h2, h3]
  simp only [sliceRange_one, pick_run, List.size_toArray] <;> rfl
/-- xs[lo:hi] of a list: a new list -/
def rSlL (K : PySem.W.Frag) : V → Option Int → Option Int → Hp → VK → Prop := fun x lo hi H Q => ∃ a xs, x = .ref a ∧ SqL K H a xs ∧ ∀ p, H p = none → Q (.ref p) (upd H p (.lst (cutV xs lo hi)))
theorem sl_list : SlR X (rSlL X.K) := by
  intro pins s σ H x v vl vu lo hi sl Q I rx hs pl pu h
  obtain ⟨a, xs, rfl, hx, q⟩ := h
  cases rx
  obtain ⟨its, r, ht, hz⟩ := I.list hx
  have hlen := r.length
  refine ⟨"list", _, slot_list_getitem.lookup, ht.isList.typeIs, ?_⟩
  refine wpAny_getItem_list_slice ht.isList hs pl pu .none (by simp) ?_ (by rw [List.size_toArray] <;> omega)
  rw [slicePick_cut, ← hlen]
  refine ⟨.ref s.heap.objs.size, _, I.laid (t' := s.toks) (o := .lst (cutV xs lo hi)) (fun b ob q => Heap.get?_push_of_some _ q) (Nat.le_refl _) ?_, rfl, q _ (I.hok.fresh (Nat.le_refl _))⟩
  exact ⟨Nat.le_trans (cutV_length xs lo hi) hz, _, 0, (r.drop (HT.sIx xs.length 0 lo)).take (HT.sIx xs.length xs.length hi - HT.sIx xs.length 0 lo), Heap.get?_push_size _ rfl⟩

/-! ### in, not in: flat items -/
def flatV : V → Bool
  | .non => true
  | .bl _ => true
  | .int _ => true
  | .str _ => true
  | _ => false
/-- == of flat values -/
def eqV : V → V → Bool
  | .non, .non => true
  | .bl a, .bl b => a == b
  | .bl a, .int b => (if a then 1 else 0) == b
  | .int a, .bl b => a == (if b then 1 else 0)
  | .int a, .int b => a == b
  | .str a, .str b => a == b
  | _, _ => false
theorem eqAt_V {A : Around} {s : Shared} {y x : V} {u v : Value} (ry : RelV y u) (rx : RelV x v) (fy : flatV y = true) (fx : flatV x = true) : SeqAt.EqAt A s u v (eqV y x) := by
  cases y with
  | non =>
    cases ry
    cases x with
    | non => cases rx; exact SeqAt.EqAt.same _
    | bl b => cases rx; exact SeqAt.EqAt.none_bool b
    | int b => obtain ⟨t, rfl⟩ := rx; exact SeqAt.EqAt.none_int b t
    | str b => obtain ⟨t, rfl⟩ := rx; exact SeqAt.EqAt.none_str b t
    | _ => exact absurd (show false = true from fx) Bool.false_ne_true
  | bl a =>
    cases ry
    cases x with
    | non => cases rx; exact SeqAt.EqAt.bool_none a
    | bl b => cases rx; exact SeqAt.EqAt.bool_bool a b
    | int b => obtain ⟨t, rfl⟩ := rx; exact SeqAt.EqAt.bool_int a b t
    | str b => obtain ⟨t, rfl⟩ := rx; exact SeqAt.EqAt.bool_str a b t
    | _ => exact absurd (show false = true from fx) Bool.false_ne_true
  | int a =>
    obtain ⟨t', rfl⟩ := ry
    cases x with
    | non => cases rx; exact SeqAt.EqAt.int_none a t'
    | bl b => cases rx; exact SeqAt.EqAt.int_bool a t' b
    | int b => obtain ⟨t, rfl⟩ := rx; exact SeqAt.EqAt.int_int a t' b t
    | str b => obtain ⟨t, rfl⟩ := rx; exact SeqAt.EqAt.int_str a t' b t
    | _ => exact absurd (show false = true from fx) Bool.false_ne_true
  | str a =>
    obtain ⟨t', rfl⟩ := ry
    cases x with
    | non => cases rx; exact SeqAt.EqAt.str_none a t'
    | bl b => cases rx; exact SeqAt.EqAt.str_bool a t' b
    | int b => obtain ⟨t, rfl⟩ := rx; exact SeqAt.EqAt.str_int a t' b t
    | str b => obtain ⟨t, rfl⟩ := rx; exact SeqAt.EqAt.str_str a t' b t
    | _ => exact absurd (show false = true from fx) Bool.false_ne_true
  | _ => exact absurd (show false = true from fy) Bool.false_ne_true
/-- the items' answers, read off the values (a value's own answer does not lean on its token) -/
def eqU (x : V) (u : Value) : Bool := match u with
  | .none => eqV .non x
  | .bool b => eqV (.bl b) x
  | .int i _ => eqV (.int i) x
  | .str z _ => eqV (.str z) x
  | _ => false
theorem eqU_of {x y : V} {u : Value} (r : RelV y u) (f : flatV y = true) : eqU x u = eqV y x := by
  cases y with
  | non => cases r; rfl
  | bl b => cases r; rfl
  | int i => obtain ⟨t, rfl⟩ := r; rfl
  | str z => obtain ⟨t, rfl⟩ := r; rfl
  | _ => exact absurd (show false = true from f) Bool.false_ne_true
theorem mem_eqAt {A : Around} {s : Shared} {x : V} {v : Value} (rx : RelV x v) (fx : flatV x = true) : ∀ {xs : List V} {us : List Value}, Vals xs us → xs.all flatV = true → ∀ u ∈ us, SeqAt.EqAt A s u v (eqU x u)
  | _, _, .nil, _ => fun u hu => by cases hu
  | y :: xs, u :: us, .cons r t, f => fun u' hu => by
    rw [List.all_cons, Bool.and_eq_true] at f
    rcases List.mem_cons.mp hu with rfl | hu
    · rw [eqU_of r f.1]; exact eqAt_V r rx f.1 fx
    · exact mem_eqAt rx fx t f.2 u' hu
/-! ### len, list(x), tuple(x) of any list or tuple that is read -/
theorem call_len_seq : CallR X (.builtin "len") (fun xs H Q => ∃ p ys, xs = [.ref p] ∧ (SqL X.K H p ys ∨ SqT X.K H p ys) ∧ Q (.int ys.length) H) := by
  intro pins s σ H xs us Q I r h
  obtain ⟨p, ys, rfl, hq, q⟩ := h
  obtain ⟨u, rfl, rx⟩ := vals1 r
  cases rx
  have hn := line63
  rcases hq with hq | hq
  · obtain ⟨its, r', pl, hz⟩ := I.list hq
    have hlen := r'.length
    exact Calls.call_len_list pl.isList (by simp only [List.size_toArray] <;> omega) ⟨.int ys.length, H, I.tok _, ⟨s.toks + 1, by rw [List.size_toArray, hlen]⟩, q⟩
  · obtain ⟨its, r', pl, hz⟩ := I.tuple hq
    have hlen := r'.length
    exact len_tuple pl (by simp only [List.size_toArray] <;> omega) ⟨.int ys.length, H, I.tok _, ⟨s.toks + 1, by rw [List.size_toArray, hlen]⟩, q⟩
theorem call_len_str : CallR X (.builtin "len") (fun xs H Q => ∃ z, xs = [.str z] ∧ z.length ≤ sizeLine ∧ Q (.int z.length) H) := by
  intro pins s σ H xs us Q I r h
  obtain ⟨z, rfl, hz, q⟩ := h
  obtain ⟨u, rfl, t, rfl⟩ := vals1 r
  have hn := line63
  exact len_str (by omega) ⟨.int z.length, H, I.tok _, ⟨_, rfl⟩, q⟩
theorem CallR.or {f : Value} {r r' : List V → Hp → VK → Prop} (h : CallR X f r) (h' : CallR X f r') : CallR X f (fun xs H Q => r xs H Q ∨ r' xs H Q) := by
  intro pins s σ H xs us Q I rs q
  rcases q with q | q
  · exact h pins s σ H xs us Q I rs q
  · exact h' pins s σ H xs us Q I rs q
theorem call_list_of : CallR X (.type "list") (fun xs H Q => ∃ p ys, xs = [.ref p] ∧ (SqL X.K H p ys ∨ SqT X.K H p ys) ∧ ∀ l, H l = none → Q (.ref l) (upd H l (.lst ys))) := by
  intro pins s σ H xs us Q I r h
  obtain ⟨p, ys, rfl, hq, q⟩ := h
  obtain ⟨u, rfl, rx⟩ := vals1 r
  cases rx
  have fin : ∀ (its : List Value), Vals ys its → ys.length ≤ sizeLine → ∀ (h' : Heap) (c' : Nat), (∀ b o', s.heap.get? b = some o' → h'.get? b = some o') →
      h'.get? s.heap.objs.size = some { cls := .type "list", dict := none, data := .seq its.toArray c', slots := #[] } → EP X pins σ Q (.ref s.heap.objs.size) { s with heap := h' } := fun its r' hz h' c' kp e =>
    ⟨.ref s.heap.objs.size, _, I.laid (t' := s.toks) kp (Nat.le_refl _) (show ObjOk X.prog X.w _ h' _ (.lst ys) from ⟨hz, its, c', r', e⟩), rfl, q _ (I.hok.fresh (Nat.le_refl _))⟩
  rcases hq with hq | hq
  · obtain ⟨its, r', pl, hz⟩ := I.list hq
    have hlen := r'.length
    obtain ⟨o, ho, hc, n, hd⟩ := pl.isList
    exact call_list_seq p (.inl rfl) ho hc hd (fun h' c' kp e => fin its r' hz h' c' kp e) (by simp only [List.size_toArray] <;> omega)
  · obtain ⟨its, r', pl, hz⟩ := I.tuple hq
    have hlen := r'.length
    obtain ⟨o, ho, hc, n, hd⟩ := pl
    exact call_list_seq p (.inr rfl) ho hc hd (fun h' c' kp e => fin its r' hz h' c' kp e) (by simp only [List.size_toArray] <;> omega)
theorem call_tuple_of : CallR X (.type "tuple") (fun xs H Q => ∃ p ys, xs = [.ref p] ∧ ((SqL X.K H p ys ∧ ∀ l, H l = none → Q (.ref l) (upd H l (.tup ys))) ∨ (SqT X.K H p ys ∧ Q (.ref p) H))) := by
  intro pins s σ H xs us Q I r h
  obtain ⟨p, ys, rfl, h⟩ := h
  obtain ⟨u, rfl, rx⟩ := vals1 r
  cases rx
  rcases h with ⟨hq, q⟩ | ⟨hq, q⟩
  · obtain ⟨its, r', pl, hz⟩ := I.list hq
    have hlen := r'.length
    refine call_tuple_list pl.isList (fun h' kp => ?_) (by simp only [List.size_toArray] <;> omega)
    have I1 : Inv X pins σ H { s with heap := h' } := I.kept (t' := s.toks) kp
    have I2 : Inv X pins σ (upd H h'.objs.size (.tup ys)) { s with heap := h'.push { cls := .type "tuple", data := .seq its.toArray } } :=
      I1.laid (t' := s.toks) (fun b o e => Heap.get?_push_of_some _ e) (Nat.le_refl _) (show ObjOk X.prog X.w _ _ _ (.tup ys) from ⟨hz, its, r', IsTupP.new _ _⟩)
    exact ⟨.ref h'.objs.size, _, I2, rfl, q _ (I1.hok.fresh (Nat.le_refl _))⟩
  · obtain ⟨its, r', pl, hz⟩ := I.tuple hq
    exact call_tuple_same pl ⟨.ref p, H, I, rfl, q⟩

/-! ### the call of a builtin's method: o.m(..) -/
/-- the value is of that builtin type -/
def tyV (K : PySem.W.Frag) (T : String) (x : V) (H : Hp) : Prop := match x with
  | .str _ => T = "str"
  | .int _ => T = "int"
  | .ref p => (T = "list" ∧ ∃ xs, SqL K H p xs) ∨ (T = "tuple" ∧ ∃ o, K.lookup p = some o ∧ o.cls = .type "tuple" ∧ o.dict = none) ∨
      (T = "dict" ∧ ((∃ kvs, H p = some (.dK kvs)) ∨ ∃ kvs, H p = some (.dT kvs))) ∨ (T = "set" ∧ ∃ S n, H p = some (.set S n))
  | _ => False
theorem tyV_is {pins : List (Addr × Obj)} {σ : St} {H : Hp} {s : Shared} {T : String} {x : V} {v : Value} (I : Inv X pins σ H s) (r : RelV x v) (ty : tyV X.K T x H) :
    s.TypeIs v T ∧ ∀ a, v = .ref a → ∃ ob, s.heap.get? a = some ob ∧ ob.dict = none := by
  cases x with
  | str z =>
    obtain ⟨t, rfl⟩ := r
    cases (show T = "str" from ty)
    exact ⟨typeIs_str s z t, fun _ e => nomatch e⟩
  | int i =>
    obtain ⟨t, rfl⟩ := r
    cases (show T = "int" from ty)
    exact ⟨typeIs_int s i t, fun _ e => nomatch e⟩
  | ref p =>
    cases r
    rcases ty with ⟨rfl, xs, hq⟩ | ⟨rfl, o, hk, hc, hd⟩ | ⟨rfl, hk⟩ | ⟨rfl, S, n, hk⟩
    · obtain ⟨its, _, pl, _⟩ := I.list hq
      refine ⟨pl.isList.typeIs, fun a e => ?_⟩
      cases e
      obtain ⟨o, n, e, c, hd, _⟩ := pl
      exact ⟨o, e, hd⟩
    · refine ⟨⟨o, I.kIn p o hk, hc⟩, fun a e => ?_⟩
      cases e
      exact ⟨o, I.kIn _ o hk, hd⟩
    · have z : ∃ o, s.heap.get? p = some o ∧ o.ExactDict := by
        rcases hk with ⟨kvs, hk⟩ | ⟨kvs, hk⟩
        · obtain ⟨_, _, _, _, o, _, _, e, ex, _⟩ := I.hok p _ hk
          exact ⟨o, e, ex⟩
        · obtain ⟨_, _, _, _, o, _, _, e, ex, _⟩ := I.hok p _ hk
          exact ⟨o, e, ex⟩
      obtain ⟨o, e, ex⟩ := z
      refine ⟨⟨o, e, ex.1⟩, fun a e2 => ?_⟩
      cases e2
      exact ⟨o, e, ex.2.1⟩
    · obtain ⟨o, _, _, _, e, ex, _⟩ := I.hok p _ hk
      refine ⟨⟨o, e, ex.1⟩, fun a e2 => ?_⟩
      cases e2
      exact ⟨o, e, ex.2.1⟩
  | _ => exact False.elim ty
def tBM0 (K : PySem.W.Frag) (T : String) (r : V → List V → Hp → VK → Prop) (to : TE) : TE := fun σ H Q => to σ H fun x H1 => tyV K T x H1 ∧ r x [] H1 Q
def tBM (K : PySem.W.Frag) (T : String) (r : V → List V → Hp → VK → Prop) (to : TE) (t : TA) : TE := fun σ H Q => to σ H fun x H1 => tyV K T x H1 ∧ t σ H1 fun xs H2 => r x xs H2 Q
variable {o e : Expr} {es : List Expr} {to : TE} {t : TA} {name : Str} {apos cpos : Pos} {T id : String} {r : V → List V → Hp → VK → Prop}
theorem pe_bm0 (pa : PlainAttrs T) (slot : Slot T name id) (hty : typeOf (.builtin id) = pure (.type "method_descriptor")) (hm : MtR X id r) (ho : PE X o to)
    (hbase : attributeBase o name X.env (eval o X.env) = eval o X.env := by rfl) (hline : (apos.endLine == cpos.line) = true := by rfl) : PE X (.Call (.Attribute o name apos) [] [] cpos) (tBM0 X.K T r to) := by
  intro pins s σ H Q I h
  refine wpAny_Call_method0_late hbase hline (thn (ho pins s σ H _ I h) fun v s1 ⟨x, H1, I1, r1, ty, q1⟩ => ?_)
  obtain ⟨h1, h2⟩ := tyV_is I1 r1 ty
  exact ⟨T, id, pa, slot, hty, h1, h2, Calls.callWith_builtin rfl (PySem.evalArgs_none (hm pins s1 σ H1 x [] v [] Q I1 r1 .nil q1))⟩
theorem pe_bm (pa : PlainAttrs T) (slot : Slot T name id) (hty : typeOf (.builtin id) = pure (.type "method_descriptor")) (hm : MtR X id r) (ho : PE X o to) (ha : PA X (e :: es) t)
    (hbase : attributeBase o name X.env (eval o X.env) = eval o X.env := by rfl)
    (hfew : ((backTo cpos (starEach (e :: es) X.env)).all (fun x => !x.1) && (backToKw cpos (keywordEach [] X.env)).all (fun x => x.1.isSome)
      && decide ((e :: es).length + ([] : List Keyword).length + (if ([] : List Keyword).isEmpty then 0 else 1) < 30)) = true := by rfl)
    (hline : (apos.endLine == cpos.line) = true := by rfl) (hs : starEach (e :: es) X.env = (false, eval e X.env) :: starEach es X.env := by rfl) (hplain : (backTo cpos (starEach es X.env)).any (·.1) = false := by rfl) :
    PE X (.Call (.Attribute o name apos) (e :: es) [] cpos) (tBM X.K T r to t) := by
  intro pins s σ H Q I h
  refine wpAny_Call_method_late hbase hfew hline rfl (thn (ho pins s σ H _ I h) fun v s1 ⟨x, H1, I1, r1, ty, q1⟩ => ?_)
  obtain ⟨h1, h2⟩ := tyV_is I1 r1 ty
  refine ⟨T, id, pa, slot, hty, h1, h2, ?_⟩
  have hA := ha cpos pins s1 σ H1 _ I1 q1
  rw [hs] at hA ⊢
  refine Calls.callWith_builtin (by show (false || (backTo cpos (starEach es X.env)).any (·.1)) = false; rw [hplain] <;> rfl) (Calls.evalArgs_plain ?_)
  exact thn hA fun us s2 ⟨vs, H2, I2, r2, q2⟩ => hm pins s2 σ H2 x vs v us Q I2 r1 r2 q2
/- xs.append(e), list.index on a module's tuple .. are MtR facts of 06m -/
end
end L2

namespace L2
open PySem PySem.Spec PyProof.Rows

def MtM (X : Cx) (id : String) (r : V → List V → Hp → VK → Prop) : Prop :=
  ∀ (pins : List (Addr × Obj)) (s : Shared) (σ : St) (H : Hp) (x : V) (xs : List V) (v : Value) (us : List Value) (Q : VK), Inv X pins σ H s → RelV x v → Vals xs us → r x xs H Q →
    wpAny (model X.prog X.w) X.A (call (.builtin id) (v :: us)) (EP X pins σ Q) X.xe s

/-! ### lists of values -/
theorem Vals.one : ∀ {x : V} {us : List Value}, Vals [x] us → ∃ u, us = [u] ∧ RelV x u
  | _, _, .cons r .nil => ⟨_, rfl, r⟩
theorem Vals.two : ∀ {x y : V} {us : List Value}, Vals [x, y] us → ∃ u v, us = [u, v] ∧ RelV x u ∧ RelV y v
  | _, _, _, .cons r (.cons q .nil) => ⟨_, _, rfl, r, q⟩
theorem Vals.zero : ∀ {us : List Value}, Vals [] us → us = []
  | _, .nil => rfl
theorem Vals.dropLast {xs : List V} {us : List Value} (h : Vals xs us) : Vals xs.dropLast us.dropLast := by
  induction h with
  | nil => exact .nil
  | cons r t ih =>
    cases t with
    | nil => exact .nil
    | cons q t' => exact .cons r ih
theorem Vals.eraseIdx : ∀ {xs : List V} {us : List Value} (i : Nat), Vals xs us → Vals (xs.eraseIdx i) (us.eraseIdx i)
  | _, _, _, .nil => .nil
  | _, _, 0, .cons _ t => t
  | _, _, i + 1, .cons r t => .cons r (Vals.eraseIdx i t)
theorem Vals.reverse {xs : List V} {us : List Value} (h : Vals xs us) : Vals xs.reverse us.reverse := by
  induction h with
  | nil => exact .nil
  | cons r t ih => rw [List.reverse_cons, List.reverse_cons]; exact Vals.append ih (.cons r .nil)
theorem erase_last {α : Type} (l : List α) : l.eraseIdx (l.length - 1) = l.dropLast := by
  induction l with
  | nil => rfl
  | cons a r ih =>
    cases r with
    | nil => rfl
    | cons b r =>
      have e : (a :: b :: r).length - 1 = ((b :: r).length - 1) + 1 := by
        have h1 : (a :: b :: r).length = r.length + 2 := rfl
        have h2 : (b :: r).length = r.length + 1 := rfl
        omega
      rw [e, List.eraseIdx_cons_succ, ih]
      all_goals rfl
theorem len_erase {α : Type} : ∀ (l : List α) (i : Nat), (l.eraseIdx i).length ≤ l.length
  | [], _ => Nat.le_refl _
  | _ :: _, 0 => Nat.le_succ _
  | _ :: r, i + 1 => Nat.succ_le_succ (len_erase r i)
section
variable {X : Cx} {pins : List (Addr × Obj)} {σ : St} {H : Hp} {s : Shared} {l b : Addr} {xs ys zs : List V}

/-! ### the two steps: a tracked list is rewritten, a new list is laid -/
theorem Inv.lset {its its' : List Value} {n : Nat} {f : Array Value → Array Value} {t' : Nat} (I : Inv X pins σ H s) (hH : H l = some (.lst xs))
    (e : s.heap.get? l = some { cls := .type "list", data := .seq its.toArray n }) (hf : f its.toArray = its'.toArray) (hv : Vals ys its') (hz : ys.length ≤ sizeLine) :
    Inv X pins σ (upd H l (.lst ys)) { s with heap := s.heap.update l (Obj.mapSeq f), toks := t' } := by
  have q := PySem.IsL.update e f
  rw [hf] at q
  refine I.write (x := l) (e := l) (by rw [hH]; exact trivial) (.inl rfl) (fun b' u hb hu => (Heap.get?_update_other s.heap (Obj.mapSeq f) (Ne.symm hb)).trans hu) ⟨_, q⟩ ?_
  exact ⟨hz, its', _, hv, q⟩
theorem Inv.lnew {its : List Value} {t' : Nat} (I : Inv X pins σ H s) (hv : Vals ys its) (hz : ys.length ≤ sizeLine) :
    Inv X pins σ (upd H s.heap.objs.size (.lst ys)) { s with heap := s.heap.push { cls := .type "list", data := .seq its.toArray }, toks := t' } :=
  I.laid (fun _ _ q => Heap.get?_push_of_some _ q) (Nat.le_refl _) ⟨hz, its, 0, hv, Heap.get?_push_size _ rfl⟩
theorem Inv.fresh (I : Inv X pins σ H s) : H s.heap.objs.size = none := I.hok.fresh (Nat.le_refl _)
theorem Inv.lstM (I : Inv X pins σ H s) (hH : H l = some (.lst xs)) : xs.length ≤ sizeLine ∧ ∃ (its : List Value) (n : Nat), Vals xs its ∧ xs.length = its.length ∧ s.heap.get? l = some { cls := .type "list", data := .seq its.toArray n } := by
  obtain ⟨z, its, n, r, e⟩ := I.hok l _ hH
  exact ⟨z, its, n, r, r.length, e⟩

theorem notLongL {n : Nat} (h : n ≤ sizeLine) : Builtin.List.listTooLong n = false := by
  unfold Builtin.List.listTooLong
  exact decide_eq_false (by omega)
end

section
variable {X : Cx}

/-! ### methods -/
def rAppend : V → List V → Hp → VK → Prop := fun x vs H Q => ∃ l xs y, x = .ref l ∧ vs = [y] ∧ H l = some (.lst xs) ∧ xs.length < sizeLine ∧ Q .non (upd H l (.lst (xs ++ [y])))
theorem mt_append : MtM X "list.append" rAppend := by
  intro pins s σ H x vs v us Q I rx rv h
  obtain ⟨l, xs, y, rfl, rfl, hH, hz, q⟩ := h
  cases rx
  obtain ⟨u, rfl, ru⟩ := rv.one
  obtain ⟨z, its, n, r, hl, e⟩ := I.lstM hH
  refine call_meets F.slot_list_append ⟨_, e, rfl⟩ F.entry_list_append (F.args_list_append_2 _ _) (PySem.list_append l its.toArray n u (by rw [List.size_toArray]; omega)) ⟨e, ?_⟩
  refine ⟨.non, _, I.lset (its' := its ++ [u]) hH e (by simp) (r.append (.cons ru .nil)) ?_, rfl, q⟩
  rw [List.length_append, List.length_singleton]
  omega

def rExtend : V → List V → Hp → VK → Prop := fun x vs H Q => ∃ l b xs zs, x = .ref l ∧ vs = [.ref b] ∧ H l = some (.lst xs) ∧ H b = some (.lst zs) ∧ xs.length + zs.length ≤ sizeLine ∧ Q .non (upd H l (.lst (xs ++ zs)))
theorem mt_extend : MtM X "list.extend" rExtend := by
  intro pins s σ H x vs v us Q I rx rv h
  obtain ⟨l, b, xs, zs, rfl, rfl, hH, hB, hz, q⟩ := h
  cases rx
  obtain ⟨u, rfl, ru⟩ := rv.one
  cases ru
  obtain ⟨z, its, n, r, hl, e⟩ := I.lstM hH
  obtain ⟨z2, its2, n2, r2, hl2, e2⟩ := I.lstM hB
  have hsz : its.toArray.size + its2.toArray.size ≤ sizeLine := by rw [List.size_toArray, List.size_toArray]; omega
  have hlong : ¬ (!its.toArray.isEmpty && Builtin.List.listTooLong (its.toArray.size + its2.toArray.size)) = true := by
    rw [notLongL hsz, Bool.and_false]
    exact Bool.false_ne_true
  refine call_meets F.slot_list_extend ⟨_, e, rfl⟩ F.entry_list_extend (F.args_list_extend_2 _ _)
    (AutoSeq1.list_extend_list_list_0 l its.toArray n b its2.toArray n2 hlong (by rw [List.size_toArray]; omega) (by omega)) ⟨e, e2, ?_⟩
  refine ⟨.non, _, I.lset (its' := its ++ its2) hH e (by simp) (r.append r2) ?_, rfl, q⟩
  rw [List.length_append]
  omega

def rPop : V → List V → Hp → VK → Prop := fun x vs H Q => ∃ l xs y, x = .ref l ∧ vs = [] ∧ H l = some (.lst xs) ∧ xs[xs.length - 1]? = some y ∧ Q y (upd H l (.lst xs.dropLast))
theorem mt_pop : MtM X "list.pop" rPop := by
  intro pins s σ H x vs v us Q I rx rv h
  obtain ⟨l, xs, y, rfl, rfl, hH, hy, q⟩ := h
  cases rx
  have hus := rv.zero
  subst hus
  obtain ⟨z, its, n, r, hl, e⟩ := I.lstM hH
  obtain ⟨u, hu, ru⟩ := r.get hy
  have hy' : its.toArray[its.toArray.size - 1]? = some u := by
    show its.toArray[its.length - 1]? = some u
    rw [← Array.getElem?_toList, ← hl]
    exact hu
  refine call_meets F.slot_list_pop ⟨_, e, rfl⟩ F.entry_list_pop (F.args_list_pop_1 _) (MeetsSeq.list_pop_last l its.toArray n u hy' (by rw [List.size_toArray]; omega)) ⟨e, ?_⟩
  refine ⟨y, _, I.lset (its' := its.dropLast) hH e ?_ r.dropLast ?_, ru, q⟩
  · show its.toArray.eraseIdxIfInBounds (its.toArray.size - 1) = its.dropLast.toArray
    rw [List.size_toArray, List.eraseIdxIfInBounds_toArray, erase_last]
  · rw [List.length_dropLast]
    omega

def rPopAt : V → List V → Hp → VK → Prop := fun x vs H Q => ∃ l xs i k y, x = .ref l ∧ vs = [.int i] ∧ H l = some (.lst xs) ∧ -(2 ^ 63) ≤ i ∧ i < 2 ^ 63 ∧ seqIndex? i xs.length = some k ∧ xs[k]? = some y ∧ Q y (upd H l (.lst (xs.eraseIdx k)))
theorem mt_popAt : MtM X "list.pop" rPopAt := by
  intro pins s σ H x vs v us Q I rx rv h
  obtain ⟨l, xs, i, k, y, rfl, rfl, hH, h1, h2, hk, hy, q⟩ := h
  cases rx
  obtain ⟨u, rfl, ru⟩ := rv.one
  obtain ⟨t, rfl⟩ := ru
  obtain ⟨z, its, n, r, hl, e⟩ := I.lstM hH
  obtain ⟨w, hw, rw'⟩ := r.get hy
  refine call_meets F.slot_list_pop ⟨_, e, rfl⟩ F.entry_list_pop (F.args_list_pop_2 _ _)
    (MeetsSeq.list_pop_at l its.toArray n i t k w (fitsIndex_both h1 h2) (by rw [List.size_toArray, ← hl]; exact hk) (by rw [← Array.getElem?_toList]; exact hw) (by rw [List.size_toArray]; omega)) ⟨e, ?_⟩
  refine ⟨y, _, I.lset (its' := its.eraseIdx k) hH e ?_ (r.eraseIdx k) ?_, rw', q⟩
  · show its.toArray.eraseIdxIfInBounds k = (its.eraseIdx k).toArray
    rw [List.eraseIdxIfInBounds_toArray]
  · have := len_erase xs k
    omega

/-! ### list + list, list += list, list * int -/
def rCat : R2 := fun x y H Q => ∃ l b xs zs, x = .ref l ∧ y = .ref b ∧ H l = some (.lst xs) ∧ H b = some (.lst zs) ∧ xs.length + zs.length ≤ sizeLine ∧ ∀ p, H p = none → Q (.ref p) (upd H p (.lst (xs ++ zs)))
theorem op_cat : OpR X (binaryOp .Add) rCat := by
  intro pins s σ H x y v u Q I rx ry h
  obtain ⟨l, b, xs, zs, rfl, rfl, hH, hB, hz, q⟩ := h
  cases rx
  cases ry
  obtain ⟨z, its, n, r, hl, e⟩ := I.lstM hH
  obtain ⟨z2, its2, n2, r2, hl2, e2⟩ := I.lstM hB
  refine PySem.P.add_list e e2 ?_ (by rw [List.size_toArray, List.size_toArray]; omega)
  have ea : its.toArray ++ its2.toArray = (its ++ its2).toArray := by simp
  rw [ea]
  exact ⟨.ref _, _, I.lnew (t' := s.toks) (r.append r2) (by rw [List.length_append]; omega), rfl, q _ I.fresh⟩
/-! ### del xs[i] -/
end

/-! ### xs[a:b] = ys -/
section
variable {prog : Program} {w : World} {A : Around} {E : Value → Shared → Prop} {s : Shared}
set_option maxRecDepth 100000 in
end

section
variable {X : Cx}
end
end L2

namespace Att
open PySem PySem.W PySem.Calls PyProof.Rows

/-! ### the script -/
theorem ints_of_wellAll {P : Params} {h : Heap} : ∀ (ns : List Int) (vs : List Value), WellAll P h vs (ns.map WData.int) → IntsAre vs ns := by
  intro ns
  induction ns with
  | nil =>
    intro vs w
    rw [List.map_nil] at w
    cases w
    exact .nil
  | cons n ns ih =>
    intro vs w
    rw [List.map_cons] at w
    cases w with
    | cons a b =>
      cases a
      exact .cons _ _ (ih _ b)

theorem script_of {l : OpenLaw} {n : Nat} (hn : l.most = some n) {P : Params} {h : Heap} {args : List WData} {vals : List Value}
    (hpre : l.row.toRowW.claim.pre args = true) (hwl : WellAll P h vals args) :
    ∃ a vs ns, vals = [Value.ref a] ∧ args = [WData.list (ns.map WData.int)] ∧ h.get? a = some { cls := .type "list", data := .seq vs.toArray } ∧ IntsAre vs ns ∧ ns.length ≤ n := by
  have hsh : WShape.hasAll [] args [.list .int] = true := (pre_splitW hpre).1
  have hc : l.pre.holds [] { args := args } = true := (pre_splitW hpre).2
  obtain ⟨d, r, rfl, h1, h2⟩ := hasAllW_cons hsh
  obtain rfl := hasAllW_nil h2
  obtain ⟨xs, rfl, h3⟩ := hasW_list h1
  obtain ⟨ns, rfl⟩ := items_int h3
  have hlen : ns.length ≤ n := by
    unfold OpenLaw.pre at hc
    have h4 : (WTm.not (.lt (.lit (.int (n : Int))) (.len (.arg 0)))).holds [] { args := [.list (ns.map .int)] } = true := by
      have h4 := (holds_andW hc).1
      rw [hn] at h4
      exact h4
    have h5 := condW_of h4 (w_not (w_lt w_lit (w_len_list (w_arg rfl))))
    rw [List.length_map] at h5
    refine Nat.le_of_not_lt fun q => ?_
    have q' : (n : Int) < ((ns.length : Nat) : Int) := by omega
    first
      | (rw [decide_eq_true q'] at h5; exact absurd h5 (by decide))
      | (simp at h5; omega)
  cases hwl with
  | cons w1 w2 =>
    cases w2
    cases w1 with
    | list ho hall => exact ⟨_, _, ns, rfl, rfl, ho, ints_of_wellAll ns _ hall, hlen⟩

theorem post_true (l : OpenLaw) (args : List WData) : l.row.toRowW.claim.post args (.bool true) args = true :=
  postW_of (r := l.row.toRowW) (X := (true == true))
    (show WShape.has [] (.bool true) .bool = true by first | rfl | decide | simp [WShape.has, WShape.arms, WShape.armsAll])
    (show (WTm.eq .res (.lit (.bool true))).value [] { args := args, res := some (.bool true), after := args } = some (.bool (true == true)) from w_eq_bool (w_res rfl) w_lit) rfl

/-! ### the attachment: holds_open's last premise (the goal 'hc' behind k_head) from a wpAny of the law's body -/
/-- the same from a codeAny of the CALL (for a layer whose function contracts speak of calls) -/
theorem attach_call {l : OpenLaw} {n : Nat} {q : Program} {loose : List Str} {XP : (Str → Option Value) → Heap → Prop} {YP : World → Heap → Prop} {d : DefRec}
    (hn : l.most = some n) (hdf : d.params.defaults = [])
    (call : ∀ (w : World) (s₀ s₁ : Shared) (mg mb : Str → Option Value) (fa : Addr) (o : Obj) (pm cd doc : Value) (a : Addr) (vs : List Value) (ns : List Int),
      Ground q loose [] XP w s₀ mg mb s₁.heap → YP w s₁.heap →
      s₁.heap.get? fa = some o → o.data = .func (docDef d.name d.params d.body d.scope pm cd doc) → s₁.heap.CodeRec cd d.name → mg d.name = some (.ref fa) →
      s₁.heap.get? a = some { cls := .type "list", data := .seq vs.toArray } → IntsAre vs ns → ns.length ≤ n → s₁.gens = #[] →
      codeAny (model l.prog w) callerA (.call (.ref fa) ⟨[.ref a], []⟩) (fun r s' => r = .ok (.ret (.bool true)) ∧ OldK s₁.heap s'.heap ∧ s'.os = s₁.os ∧ AllBare s'.gens) s₁) :
    WalkO q loose XP YP l.row.toRowW d [] (fun f vs => PySem.call f vs) := by
  intro w s₀ s₁ mg mb G Y fa o pm cd doc dV kV ho hd hcd hD hmg hg args vals as hpre hlay hrd hwl hlo
  obtain rfl : dV = .none := Dflts.none hD hdf
  obtain rfl : kV = .none := Dflts.noKw hD
  obtain ⟨a, vs, ns, rfl, rfl, hobj, hints, hlen⟩ := script_of hn hpre hwl
  refine enter_call (codeAny_mono (call w s₀ s₁ mg mb fa o pm cd doc a vs ns G Y ho (fd_plain hd) hcd hmg hobj hints hlen hg) fun r s' hq => ?_)
  obtain ⟨rfl, h2, h3, h4⟩ := hq
  exact ⟨.inl ⟨.bool true, .bool true, [], rfl, fun _ => rfl, .bool true, post_true l _, fun _ => ⟨List.Pairwise.nil, fun _ hm => (nomatch hm)⟩⟩, h2, h3, h4⟩

/-! ### rules over ANY heap (no ledger) from facts about the written part K: the library's own take a ledger (News) for what they write -/
section
variable {prog : Program} {w : World} {A : Around} {E : Value → Shared → Prop} {s : Shared} {K : Frag}

/-! the whole heap as the ledger: makes every rule that writes through a ledger a rule over any heap -/
def ledger (h : Heap) (L d : Addr) : List (Addr × Obj) := (List.range h.objs.size).filterMap fun a => if a = L ∨ a = d then none else (h.get? a).map fun o => (a, o)
end
end Att

namespace L2
open PySem PySem.Spec PyProof.Rows

theorem vals_ints : ∀ {vs : List Value} {ns : List Int}, IntsAre vs ns → Vals (ns.map V.int) vs
  | _, _, .nil => .nil
  | _, _, .cons n t h => .cons ⟨t, rfl⟩ (vals_ints h)

/-- nothing is tracked but the script, known to the object (or it is an object of the module) -/
def Only (H : Hp) : Prop := ∀ b, H b = none ∨ ∃ o xs, H b = some (.frz o (.lst xs))

/-- THE HEAD: the law's promise, at the heap behind the top. F, the promise of the law's def, may use that base is part of the heap (so K.In base, base.Ns mainGlobals mg stand in Mod) -/
theorem law_call {P : Program} {w : World} {K : PySem.W.Frag} {mg mb : Str → Option Value} {CX : CXT} {k : Nat} {fa a : Addr} {fd : FuncData} {x : Str} {sp : Sp} {s₁ : Shared} {vs : List Value} {ns : List Int}
    (KX : K.In s₁.heap) (hns : s₁.heap.Ns mainGlobals mg) (hb : s₁.heap.Ns builtinsNs mb) (hbb : ∀ x : Str, x ≠ "__name__" → mb x = bootBuiltins x) (hlim : s₁.heap.NoLimit) (hg : s₁.gens = #[])
    (ha : s₁.heap.get? a = some { cls := .type "list", data := .seq vs.toArray }) (hi : IntsAre vs ns) (hl : ns.length ≤ sizeLine) (hr : Room k callerA)
    (F : ∀ base : Heap, K.In base → base.Ns mainGlobals mg → FnOk P w K mg base CX k fa fd [x] sp) (hbind : ∀ (s : Shared) (u : Value), BindsTo s fd ⟨[u], []⟩ [(x, u)])
    (hsp : ∀ H : Hp, Only H → SqL K H a (ns.map V.int) → sp [.ref a] H (fun v _ => v = .bl true) fun _ _ _ => False)
    (hCX : ∀ H e s', CX [] H s₁ (fun _ _ _ => False) e s' → False) :
    codeAny (model P w) callerA (.call (.ref fa) ⟨[.ref a], []⟩) (fun r s' => r = .ok (.ret (.bool true)) ∧ OldK s₁.heap s'.heap ∧ s'.os = s₁.os ∧ AllBare s'.gens) s₁ := by
  have rv := vals_ints hi
  have lenV := hi.length
  -- from an abstract heap in which nothing but the script may be tracked
  have core : ∀ H : Hp, Only H → SqL K H a (ns.map V.int) → HOk P w H s₁.heap → (∀ b, H b ≠ none → b = a) → (H a ≠ none → K.lookup a = none) →
      codeAny (model P w) callerA (.call (.ref fa) ⟨[.ref a], []⟩) (fun r s' => r = .ok (.ret (.bool true)) ∧ OldK s₁.heap s'.heap ∧ s'.os = s₁.os ∧ AllBare s'.gens) s₁ := by
    intro H hO hS hok hA hK
    have base_of : ∀ {b : Addr} {o : Obj}, s₁.heap.get? b = some o → H b = none → (hidT s₁.heap H).get? b = some o := fun e n => hidT_get e n
    have noA : ∀ {b : Addr} {o : Obj} {es : Array DictEntry} {ep : Nat}, s₁.heap.get? b = some o → o.data = .dict es ep → H b = none := fun {b o es ep} e d => by
      cases q : H b with
      | none => rfl
      | some u =>
        have e' : b = a := hA b (by rw [q]; simp)
        subst e'
        rw [ha] at e; cases e
        have d' : Data.seq vs.toArray _ = Data.dict es ep := d
        cases d'
    have nsK : ∀ {b : Addr} {m : Str → Option Value}, s₁.heap.Ns b m → (hidT s₁.heap H).Ns b m := fun {b m} ⟨o, es, ep, e, d, r⟩ => ⟨o, es, ep, base_of e (noA e d), d, r⟩
    have hKb : K.In (hidT s₁.heap H) := fun b o e => base_of (KX b o e) (by
      cases q : H b with
      | none => rfl
      | some u =>
        have e' : b = a := hA b (by rw [q]; simp)
        subst e'
        rw [hK (by rw [q]; simp)] at e; cases e)
    have hM : Mod K mg (hidT s₁.heap H) := ⟨hKb, nsK hns, ⟨mb, nsK hb, hbb⟩, let ⟨mc, h1, h2⟩ := hlim; ⟨mc, nsK h1, h2⟩⟩
    have e0 : Env0 P w K mg (hidT s₁.heap H) callerA [] s₁ H := ⟨rfl, hM, fun b o e => of_hidT e, Nat.le_of_eq (hidT_size _ _), trivial, fun b hb => absurd (show b ∈ ([] : List Addr) from hb) (by simp), hok, .of_eq hg⟩
    refine codeAny_mono ((F _ hKb (nsK hns)).run callerA [] s₁ H ⟨[.ref a], []⟩ [.ref a] [.ref a] _ _ hr e0 (hbind s₁ (.ref a)) (.cons rfl .nil) (hsp H hO hS)) fun r s' h => ?_
    cases r with
    | error e => exact (hCX H e s' h).elim
    | ok fl =>
      cases fl with
      | next => exact False.elim h
      | brk => exact False.elim h
      | cont => exact False.elim h
      | ret u =>
        obtain ⟨v, H', os, bare, un, hok', r', q⟩ := h
        have q' : v = .bl true := q
        subst q'
        obtain rfl : u = Value.bool true := r'
        refine ⟨rfl, OldK.of_keep fun b o e => ?_, os, bare⟩
        cases q : H b with
        | none => exact un.keep b o e q (by intro z; exact absurd (show b ∈ ([] : List Addr) from z) (by simp)) (by simp)
        | some u =>
          rcases hO b with z | ⟨ob, xs, z⟩
          · rw [q] at z; cases z
          · have z2 := un.frzs b ob _ z
            obtain ⟨e1, _⟩ := hok b _ z
            obtain ⟨e2, _⟩ := hok' b _ z2
            rw [e] at e1; cases e1
            exact e2
  cases hk : K.lookup a with
  | some o =>
    -- the script is one of the module's own objects
    have e := KX a o hk
    rw [ha] at e
    cases e
    refine core (fun _ => none) (fun _ => .inl rfl) (.inr ⟨_, vs.toArray, _, hk, rfl, rfl, rfl, by rw [List.size_toArray, lenV]; exact hl, by simpa using rv⟩) (fun b u z => by have z' : (none : Option HO) = some u := z; cases z') (fun b z => absurd rfl z) fun z => absurd rfl z
  | none =>
    refine core (fun b => if b = a then some (.frz { cls := .type "list", data := .seq vs.toArray } (.lst (ns.map V.int))) else none) (fun b => ?_) (.inl (.inr ⟨{ cls := .type "list", data := .seq vs.toArray }, if_pos rfl⟩)) (fun b u z => ?_) (fun b z => ?_) fun _ => hk
    · by_cases hb : b = a
      · exact .inr ⟨_, _, if_pos hb⟩
      · exact .inl (if_neg hb)
    · by_cases hb : b = a
      · have z' := (if_pos hb).symm.trans z
        cases z'
        subst hb
        exact ⟨ha, by rw [List.length_map]; exact hl, vs, _, rv, ha⟩
      · have z' := (if_neg hb).symm.trans z
        cases z'
    · by_cases hb : b = a
      · exact hb
      · exact absurd (if_neg hb) z
end L2

namespace L2
open PySem PySem.Spec PyProof.Rows

abbrev KOf {K : PySem.W.Frag} {h : Heap} (_ : K.In h) : PySem.W.Frag := K

/-- the goal that k_head leaves (case hc), from the law's promise. F gives the function object fd (K's own) once, then the promise over every base -/
theorem walk_of {l : PySem.W.OpenLaw} {n k : Nat} {q : Program} {loose : List Str} {XP : (Str → Option Value) → Heap → Prop} {YP : World → Heap → Prop} {d : DefRec} {K : Params → PySem.W.Frag} {CX : World → CXT} {sp : World → Sp} {x : Str}
    (hn : l.most = some n) (hn2 : n ≤ sizeLine) (hdf : d.params.defaults = []) (hr : Room k callerA)
    (hY : ∀ (w : World) (h : Heap), YP w h → (K w.params).In h)
    (F : ∀ (w : World) (mg : Str → Option Value) (fa : Addr) (h : Heap), (K w.params).In h → h.Ns mainGlobals mg → mg d.name = some (.ref fa) →
      ∃ fd : FuncData, (∀ (s : Shared) (u : Value), BindsTo s fd ⟨[u], []⟩ [(x, u)]) ∧
        ∀ base : Heap, (K w.params).In base → base.Ns mainGlobals mg → FnOk l.prog w (K w.params) mg base (CX w) k fa fd [x] (sp w))
    (hsp : ∀ (w : World) (H : Hp) (a : Addr) (ns : List Int), ns.length ≤ n → Only H → SqL (K w.params) H a (ns.map V.int) → sp w [.ref a] H (fun v _ => v = .bl true) fun _ _ _ => False)
    (hCX : ∀ (w : World) (H : Hp) (s : Shared) (e : Value) (s' : Shared), CX w [] H s (fun _ _ _ => False) e s' → False) :
    PySem.W.WalkO q loose XP YP l.row.toRowW d [] (fun f vs => PySem.call f vs) := by
  refine Att.attach_call hn hdf fun w s₀ s₁ mg mb fa o pm cd doc a vs ns G Y ho hd hcd hmg hobj hints hlen hg => ?_
  have KX := hY w _ Y
  obtain ⟨fd, hb, hF⟩ := F w mg fa _ KX G.T.g hmg
  exact law_call KX G.T.g G.T.b G.T.builtins G.T.nolimit hg hobj hints (Nat.le_trans hlen hn2) hr hF hb (fun H hO hS => hsp w H a ns hlen hO hS) fun H e s' => hCX w H s₁ e s'
end L2


/-! SHORT WORDS over the layer: a def of the text, its body, what a loop and a test want. -/
namespace L2
open PySem PySem.Spec PyProof.Rows

/-! ### the text by places -/
/-- the j-th statement of a class's body -/
def inClass (s : Stmt) (j : Nat) : Stmt := match s with
  | .ClassDef _ _ _ body _ _ _ _ _ _ _ => body.getD j (.Pass ⟨0, 0, 0, 0⟩)
  | _ => .Pass ⟨0, 0, 0, 0⟩
def defArgs (s : Stmt) : Arguments := match s with
  | .FunctionDef _ a _ _ _ _ _ _ _ _ => a
  | _ => { posonlyargs := [], args := [], vararg := none, kwonlyargs := [], kw_defaults := [], kwarg := none, defaults := [] }
def defBody (s : Stmt) : List Stmt := match s with
  | .FunctionDef _ _ b _ _ _ _ _ _ _ => b
  | _ => []
def defScope (s : Stmt) : Scope := match s with
  | .FunctionDef _ _ _ _ _ _ sc _ _ _ => sc
  | _ => { kind := .function, names := [], isGenerator := false, isCoroutine := false }

/-! ### no exception leaves a def -/
abbrev CX0 : CXT := fun _ _ _ _ _ _ => False
abbrev E0 : XK := fun _ _ _ => False
/-! ### a def (or method) of the text as it stands behind the top -/
structure Fun (K : PySem.W.Frag) (x qual : Str) (st : Stmt) (f : Addr) (fd : FuncData) : Prop where
  ex : ∃ (oc : Value) (od : Option Addr) (kV doc pm : Value) (an : Option Addr) (cdv ct : Value) (osl : Array (Option Value)),
    fd = PySem.W.fnOf x qual (defArgs st) (defBody st) (defScope st) .none kV doc pm an cdv ct ∧ K.lookup f = some ⟨oc, od, .func fd, osl⟩ ∧ PySem.W.codeIn K cdv qual = true
  kp : PySem.W.keepIn K (.ref f) = true
section
variable {P : Program} {w : World} {K : PySem.W.Frag} {mg : Str → Option Value} {base : Heap}
/-- THE RULE for a def: its body as a term of rules, and the reading of that term -/
theorem Fun.ok {x qual : Str} {st : Stmt} {f : Addr} {fd : FuncData} {N ps : List Str} {k : Nat} {sp : Sp} (F : Fun K x qual st f fd) (S : FnScope N ps (defScope st)) (len : ∀ vs H Q E, sp vs H Q E → vs.length = ps.length)
    (hbody : ∀ (cdv : Value) (A : Around) (outer : List Env) (s : Shared) (H : Hp) (vs : List V) (Q : VK) (E : XK), Room k (A.deeper (envOfC qual (defScope st) s.heap.objs.size f cdv)) → sp vs H Q E →
      ∃ t, PSs (cxOf CX0 P w K mg base N qual (defScope st) f cdv A outer s H E).nox (defBody st) t ∧ t { nx := fun _ H' => Q .non H', rt := Q } (start N vs) H) : FnOk P w K mg base CX0 (k + 1) f fd ps sp := by
  obtain ⟨oc, od, kV, doc, pm, an, cdv, ct, osl, rfl, lk, hcd⟩ := F.ex
  refine fn_of lk hcd S len fun A outer s H vs Q E hr hsp => ?_
  obtain ⟨t, h, q⟩ := hbody cdv A outer s H vs Q E hr hsp
  exact ⟨t, h.nox, q⟩
/-- how its arguments bind (no defaults): h is «fun _ _ _ _ _ _ us hl => match us, hl with | [_, _], _ => rfl», one _ a parameter -/
theorem Fun.binds {x qual : Str} {st : Stmt} {f : Addr} {fd : FuncData} {ps : List Str} (F : Fun K x qual st f fd)
    (h : ∀ (kV doc pm : Value) (an : Option Addr) (cdv ct : Value) (us : List Value), us.length = ps.length → bindArgs (PySem.W.fnOf x qual (defArgs st) (defBody st) (defScope st) .none kV doc pm an cdv ct) ⟨us, []⟩ = pure (ps.zip us)) : Binds K fd ps [] := by
  obtain ⟨oc, od, kV, doc, pm, an, cdv, ct, osl, rfl, lk, hcd⟩ := F.ex
  exact .all (h kV doc pm an cdv ct)
theorem fun_mk {x qual : Str} {st : Stmt} {f : Addr} {oc : Value} {od an : Option Addr} {osl : Array (Option Value)} {kV doc pm cdv ct : Value} (l : K.lookup f = some ⟨oc, od, .func (PySem.W.fnOf x qual (defArgs st) (defBody st) (defScope st) .none kV doc pm an cdv ct), osl⟩)
    (c : PySem.W.codeIn K cdv qual = true) (k : PySem.W.keepIn K (.ref f) = true) : Fun K x qual st f (PySem.W.fnOf x qual (defArgs st) (defBody st) (defScope st) .none kV doc pm an cdv ct) := ⟨⟨oc, od, kV, doc, pm, an, cdv, ct, osl, rfl, l, c⟩, k⟩
end
theorem hu_of {A : Around} {k : Nat} (hr : Room k A) : A.units + 1 < cLine := Nat.lt_of_le_of_lt (Nat.add_le_add_left (by decide : 1 ≤ 64) _) hr.units
theorem small1000 {n : Nat} (h : n ≤ 1000) : n < sizeLine := Nat.lt_of_le_of_lt h (by decide)

/-! ### expressions in short: the name that stands in the i-th slot -/
section
variable {X : Cx}
theorem pv (i : Nat) {x : Str} {pos : Pos} (hN : X.N[i]? = some x := by rfl) (hv : Vis X.env.scope x := by first | exact Or.inl rfl | exact Or.inr (Or.inl rfl) | exact Or.inr (Or.inr rfl)) (hd : (x == ("__debug__" : Str)) = false := by decide)
    (hcd : (x == ("__classdict__" : Str)) = false := by decide) : PE X (.Name x pos) (tVar i) := pe_var hN hv hd hcd
end

/-! ### tests -/
theorem iteF {A B : Prop} (h : B) : if false = true then A else B := by
  rw [if_neg Bool.false_ne_true]
  exact h
theorem iteT {A B : Prop} (h : A) : if true = true then A else B := by
  rw [if_pos rfl]
  exact h
theorem ite2 {c A B : Prop} [Decidable c] (h1 : c → A) (h2 : ¬ c → B) : if c then A else B := by
  by_cases h : c
  · rw [if_pos h]
    exact h1 h
  · rw [if_neg h]
    exact h2 h
/-! ### heaps -/
/-- all that was tracked is as it was -/
def Same (H H' : Hp) : Prop := ∀ b o, H b = some o → H' b = some o
theorem Same.refl (H : Hp) : Same H H := fun _ _ h => h
theorem Same.trans {H H1 H2 : Hp} (a : Same H H1) (b : Same H1 H2) : Same H H2 := fun c o h => b c o (a c o h)
theorem Same.free {H H' : Hp} (e : Same H H') {l : Addr} (h : H' l = Option.none) : H l = Option.none := by
  cases q : H l with
  | none => rfl
  | some o =>
    rw [e l o q] at h
    cases h
theorem Same.seq {K : PySem.W.Frag} {H H' : Hp} {a : Addr} {xs : List V} (e : Same H H') (h : SqL K H a xs) : SqL K H' a xs := by
  rcases h with (h | ⟨o, h⟩) | h
  · exact .inl (.inl (e _ _ h))
  · exact .inl (.inr ⟨o, e _ _ h⟩)
  · exact .inr h

end L2

-- CHANGE: your row's module here, as the last of these rows
set_option Elab.async false
set_option linter.all false
set_option maxRecDepth 100000
/-! THE HAND LAYER, for ints, bools, texts, own classes, DICTS (int and text keys), calls, loops. Paste it whole ahead of your own text; what your proof does not reach may be deleted. -/
namespace L2
open PySem PySem.Spec PyProof.Rows

end L2

namespace L2
open PySem PySem.Spec PyProof.Rows

section
variable (P : Program) (w : World)
end

section
variable {P : Program} {w : World} {H H' : Hp} {h h' : Heap} {a : Addr} {o : HO}
end

section
variable {P : Program} {w : World} {H : Hp} {h h' : Heap} {x e : Addr} {o' : HO}
end

/-! ### kept unless tracked; of the frames at fs (the callers') the slots may change (an exception that passes writes there); of the records at ex (iterators) nothing is said -/
section
variable {fs fs' ex ex' : List Addr} {H H1 H2 : Hp} {h h1 h2 h' : Heap} {a x e : Addr} {o : HO}
end

/-! ### the heap without what is tracked -/
/-! ### OpenK's ledger, filled with every new object but one -/
end L2

namespace L2
open PySem PySem.Spec PyProof.Rows

section
variable {X : Cx} {pins : List (Addr × Obj)} {σ : List (Option V)} {H H' : Hp} {s : Shared} {h' : Heap}

end

/-! ### the judgements -/
end L2

namespace L2
open PySem PySem.Spec PyProof.Rows
section
variable {X : Cx}

/-! ### names and constants -/
/-! ### arithmetic -/
variable {a b : Expr} {ta tb : TE} {pos : Pos}
/-! ### comparisons -/
/-! ### and, or, not -/
variable {tA tB' : TT} {rest : List Expr}
end
end L2

namespace L2
open PySem PySem.Spec PyProof.Rows

/-! ### a list, a tuple that is read: tracked, frozen, or an object of the module -/
section
variable {X : Cx} {pins : List (Addr × Obj)} {σ : St} {H : Hp} {s : Shared} {a : Addr} {xs ys : List V}
end

/-! ### another wish about exceptions -/
section
variable {X : Cx} {pins : List (Addr × Obj)} {σ : St} {H : Hp} {s : Shared} {E : Value → Shared → Prop}
end

/-! ### blocks and small statements -/
section
variable {X : Cx} {st : Stmt} {rest : List Stmt} {t u : TS} {e : Expr} {te : TE} {pos : Pos}
end

/-! ### targets -/
section
variable {X : Cx} {pos : Pos}
end

/-! ### while -/
section
variable {X : Cx} {pos : Pos}
end

/-! ### what a loop or a comprehension walks -/
end L2

namespace L2
open PySem PySem.Spec PyProof.Rows
section
variable {X : Cx} {tg : Expr}
/-! ### for -/
end

/-! ### the forms one uses -/
end L2

namespace L2
open PySem PySem.Spec PyProof.Rows

section
variable {X : Cx} {a b c : Expr} {ta tb tc : TE} {pos : Pos}

/-! ### ints -/
/-! ### bools among ints: n += (a < b) -/
end

/-! ### comparisons -/
section
variable {X : Cx} {a b c : Expr} {ta tb tc : TE} {pos : Pos}
/-! ### truth -/
/-! ### strs and bytes -/
/-! ### scalar builtins, by CallR -/
end
end L2

namespace L2
open PySem PySem.Spec PyProof.Rows

/-! ### an instance, its attributes a map -/
section
variable {prog : Program} {w : World} {A : Around} {E : Value → Shared → Prop} {s : Shared} {K : PySem.W.Frag} {x dx C f : Addr} {mA : Str → Option Value} {name : Str} {v : Value}

end

/-! ### the attributes as a list of pairs -/
section
variable {P : Program} {w : World} {H H' : Hp} {h h' : Heap} {a C dx : Addr} {fs fs' : List (Str × V)}
end

/-! ### what of the text a class must have -/
section
variable {X : Cx} {pins : List (Addr × Obj)} {σ : St} {H : Hp} {s : Shared} {a C dx : Addr} {fs : List (Str × V)} {f : Str} {v : V} {A : Around} {E : Value → Shared → Prop}

end

/-! ### readings and rules -/
section
variable {X : Cx} {o e value : Expr} {f : Str} {pos pos' tpos : Pos} {ta tv : TE}
end

/-! ### isinstance -/
section
variable {X : Cx} {pins : List (Addr × Obj)} {σ : St} {H : Hp} {s : Shared} {A : Around} {E : Value → Shared → Prop} {Q : Value → Shared → Prop} {c : Value} {b : Bool}
end
end L2

namespace L2
open PySem PySem.Spec PyProof.Rows

/-! ### room -/
/-! ### argument lists and displays -/
section
variable {X : Cx} {e : Expr} {es : List Expr} {te : TE} {t : TA} {pos : Pos}
end

/-! ### what a def promises -/
section
variable {X : Cx} {pins : List (Addr × Obj)} {σ : St} {H : Hp} {s s' : Shared}
end

/-! ### calls -/
section
variable {X : Cx} {CX : CXT} {k : Nat} {f C : Addr} {fd : FuncData} {ps : List Str} {sp : Sp} {dvs : List V} {ds : List Value} {E : XK} {x m : Str} {p pos apos : Pos} {e o : Expr} {es : List Expr} {ta : TE} {t : TA}

end

/-! ### keywords -/
section
variable {X : Cx} {CX : CXT} {k : Nat} {f C : Addr} {fd : FuncData} {ps ks : List Str} {sp : Sp} {E : XK} {x m : Str} {p pos apos kpos : Pos} {e o : Expr} {es : List Expr} {kws : List Keyword} {te ta : TE} {t tk : TA} {nm : Option Str}
variable {g : List Value → List Value → List Value} {gV : List V → List V → List V}
end

/-! ### a def's body keeps its promise -/
end L2

namespace L2
open PySem PySem.Spec PyProof.Rows
section
variable {X : Cx} {x : Str} {p pos : Pos} {e : Expr} {es : List Expr} {t : TA} {id T : String} {r : List V → Hp → VK → Prop}

end
end L2

namespace L2
open PySem PySem.Spec PyProof.Rows

/-! ### lists of pairs as tables -/
section
variable {κ : Type} [DecidableEq κ]
def valV (kvs : List (κ × V)) (k : κ) : Option V := (kvs.find? fun kv => decide (kv.1 = k)).map (·.2)
/-- in its place, or at the end -/
def putK (kvs : List (κ × V)) (k : κ) (v : V) : List (κ × V) :=
  if (kvs.any fun kv => decide (kv.1 = k)) = true then kvs.map (fun kv => if kv.1 = k then (kv.1, v) else kv) else kvs ++ [(k, v)]
def dropK (kvs : List (κ × V)) (k : κ) : List (κ × V) := kvs.filter fun kv => decide (kv.1 ≠ k)

theorem valV_pos {p : κ × V} {r : List (κ × V)} {k : κ} (e : p.1 = k) : valV (p :: r) k = some p.2 := by simp [valV, List.find?_cons, e]
theorem valV_neg {p : κ × V} {r : List (κ × V)} {k : κ} (e : ¬ p.1 = k) : valV (p :: r) k = valV r k := by simp [valV, List.find?_cons, e]
theorem valV_any (k : κ) : ∀ kvs : List (κ × V), (kvs.any fun kv => decide (kv.1 = k)) = (valV kvs k).isSome
  | [] => rfl
  | p :: r => by
    rw [List.any_cons]
    by_cases e : p.1 = k
    · simp only [valV_pos e, decide_eq_true e, Bool.true_or, Option.isSome_some]
    · rw [valV_neg e, decide_eq_false e, Bool.false_or]; exact valV_any k r
theorem RelO.isSome_eq {o : Option V} {u : Option Value} (r : RelO o u) : o.isSome = u.isSome := by
  cases o with
  | none => cases u with
    | none => rfl
    | some _ => exact (show False from r).elim
  | some _ => cases u with
    | none => exact (show False from r).elim
    | some _ => rfl
theorem RelO.getD {o : Option V} {u : Option Value} {d : V} {d' : Value} (r : RelO o u) (rd : RelV d d') : RelV (o.getD d) (u.getD d') := by
  cases o with
  | none => cases u with
    | none => exact rd
    | some _ => exact (show False from r).elim
  | some _ => cases u with
    | none => exact (show False from r).elim
    | some _ => exact r

/-- raw tables of the same keys -/
theorem KV.val {kvs : List (κ × V)} {vs : List (κ × Value)} (r : KV kvs vs) (k : κ) : RelO (valV kvs k) (valueAt vs k) := by
  unfold KV at r
  induction r with
  | nil => exact True.intro
  | @cons p q ps qs h t ih =>
    obtain ⟨h1, h2⟩ := h
    by_cases e : p.1 = k
    · have e' : q.1 = k := h1.symm.trans e
      have b : valueAt (q :: qs) k = some q.2 := by simp [valueAt, List.find?_cons, e']
      rw [valV_pos e, b]; exact h2
    · have e' : ¬ q.1 = k := fun z => e (h1.trans z)
      have b : valueAt (q :: qs) k = valueAt qs k := by simp [valueAt, List.find?_cons, e']
      rw [valV_neg e, b]; exact ih
theorem KV.any {kvs : List (κ × V)} {vs : List (κ × Value)} (r : KV kvs vs) (k : κ) : (kvs.any fun kv => decide (kv.1 = k)) = vs.any fun kv => decide (kv.1 = k) := by
  unfold KV at r
  induction r with
  | nil => rfl
  | cons h t ih => rw [List.any_cons, List.any_cons, ih, h.1]
theorem KV.repl {kvs : List (κ × V)} {vs : List (κ × Value)} (r : KV kvs vs) (k : κ) {y : V} {u : Value} (ry : RelV y u) :
    KV (kvs.map fun kv => if kv.1 = k then (kv.1, y) else kv) (vs.map fun kv => if kv.1 = k then (kv.1, u) else kv) := by
  unfold KV at r ⊢
  induction r with
  | nil => exact .nil
  | @cons p q ps qs h t ih =>
    rw [List.map_cons, List.map_cons]
    refine .cons ?_ ih
    obtain ⟨h1, h2⟩ := h
    by_cases e : p.1 = k
    · rw [if_pos e, if_pos (h1.symm.trans e)]; exact ⟨h1, ry⟩
    · rw [if_neg e, if_neg (fun z => e (h1.trans z))]; exact ⟨h1, h2⟩
theorem KV.put {kvs : List (κ × V)} {vs : List (κ × Value)} (r : KV kvs vs) (k : κ) {y : V} {u : Value} (ry : RelV y u) : KV (putK kvs k y) (stored vs k u) := by
  unfold putK stored
  rw [r.any k]
  by_cases e : (vs.any fun kv => decide (kv.1 = k)) = true
  · rw [if_pos e, if_pos e]; exact r.repl k ry
  · rw [if_neg e, if_neg e]; exact Paired.snoc r ⟨rfl, ry⟩
theorem KV.drop {kvs : List (κ × V)} {vs : List (κ × Value)} (r : KV kvs vs) (k : κ) : KV (dropK kvs k) (without vs k) := by
  unfold KV at r ⊢
  unfold dropK without
  induction r with
  | nil => exact .nil
  | @cons p q ps qs h t ih =>
    obtain ⟨h1, h2⟩ := h
    rw [List.filter_cons, List.filter_cons]
    by_cases e : p.1 = k
    · have a : ¬ decide (p.1 ≠ k) = true := by simp [e]
      have b : ¬ decide (q.1 ≠ k) = true := by simp [h1.symm.trans e]
      rw [if_neg a, if_neg b]; exact ih
    · have e' : ¬ q.1 = k := fun z => e (h1.trans z)
      have a : decide (p.1 ≠ k) = true := by simp [e]
      have b : decide (q.1 ≠ k) = true := by simp [e']
      rw [if_pos a, if_pos b]; exact .cons ⟨h1, h2⟩ ih
theorem KV.keys {kvs : List (κ × V)} {vs : List (κ × Value)} (r : KV kvs vs) : kvs.map (·.1) = vs.map (·.1) := by
  unfold KV at r
  induction r with
  | nil => rfl
  | cons h t ih => rw [List.map_cons, List.map_cons, ih, h.1]
theorem KV.length {kvs : List (κ × V)} {vs : List (κ × Value)} (r : KV kvs vs) : kvs.length = vs.length := Paired.length r
end


/-! ### a tracked dict, its keys ints and texts or tuples of these -/
theorem kV_is {P : Program} {w : World} {k : Key} {u : Value} (r : RelV (kV k) u) : (mixKind P w).is k u = true := by
  cases k with
  | inl i => obtain ⟨t, e⟩ := (show ∃ t, u = Value.int i t from r); subst e; exact mixKind_int P w i t
  | inr x => obtain ⟨t, e⟩ := (show ∃ t, u = Value.str x t from r); subst e; exact mixKind_str P w x t
/-- raw entries of a dict with tuple keys -/
abbrev KT (H : Hp) : List (List Key × V) → List (List Key × Addr × Value) → Prop := Paired fun p q => p.1 = q.1 ∧ H q.2.1 = some (.tup (p.1.map kV)) ∧ RelV p.2 q.2.2
theorem KT.val {H : Hp} {kvs : List (List Key × V)} {xs : List (List Key × Addr × Value)} (r : KT H kvs xs) (k : List Key) : RelO (valV kvs k) ((atKey xs k).map (·.2)) := by
  induction r with
  | nil => exact True.intro
  | @cons p q ps qs h t ih =>
    obtain ⟨h1, _, h2⟩ := h
    by_cases e : p.1 = k
    · have e' : q.1 = k := h1.symm.trans e
      have b : atKey (q :: qs) k = some q.2 := by simp [atKey, List.find?_cons, e']
      rw [valV_pos e, b]; exact h2
    · have e' : ¬ q.1 = k := fun z => e (h1.trans z)
      have b : atKey (q :: qs) k = atKey qs k := by simp [atKey, List.find?_cons, e']
      rw [valV_neg e, b]; exact ih
theorem KT.repl {H : Hp} {kvs : List (List Key × V)} {xs : List (List Key × Addr × Value)} (r : KT H kvs xs) (k : List Key) {y : V} {u : Value} (ry : RelV y u) :
    KT H (kvs.map fun kv => if kv.1 = k then (kv.1, y) else kv) (xs.map (putAt k u)) := by
  induction r with
  | nil => exact .nil
  | @cons p q ps qs h t ih =>
    rw [List.map_cons, List.map_cons]
    refine .cons ?_ ih
    obtain ⟨h1, h2, h3⟩ := h
    unfold putAt
    by_cases e : p.1 = k
    · rw [if_pos e, if_pos (h1.symm.trans e)]; exact ⟨h1, h2, ry⟩
    · rw [if_neg e, if_neg (fun z => e (h1.trans z))]; exact ⟨h1, h2, h3⟩
theorem KT.put {H : Hp} {kvs : List (List Key × V)} {xs : List (List Key × Addr × Value)} (r : KT H kvs xs) (k : List Key) {b : Addr} {y : V} {u : Value} (hb : H b = some (.tup (k.map kV))) (ry : RelV y u) :
    KT H (putK kvs k y) (storedH xs k b u) := by
  have e : (kvs.any fun kv => decide (kv.1 = k)) = (atKey xs k).isSome := by
    rw [valV_any, (r.val k).isSome_eq, Option.isSome_map]
  unfold putK storedH
  rw [e]
  by_cases q : (atKey xs k).isSome = true
  · rw [if_pos q, if_pos q]; exact r.repl k ry
  · rw [if_neg q, if_neg q]; exact Paired.snoc r ⟨rfl, hb, ry⟩
theorem KT.keeps {H H' : Hp} {kvs : List (List Key × V)} {xs : List (List Key × Addr × Value)} (r : KT H kvs xs) (ht : ∀ b ys, H b = some (.tup ys) → H' b = some (.tup ys)) : KT H' kvs xs :=
  Paired.mapP r fun _ _ z => ⟨z.1, ht _ _ z.2.1, z.2.2⟩

section
variable {P : Program} {w : World} {H : Hp} {h : Heap} {a : Addr}
end

/-- what the dict at a holds at the key y -/
def DGet (H : Hp) (a : Addr) (y : V) (r : Option V) : Prop :=
  (∃ kvs k, Rd H a (.dK kvs) ∧ y = kV k ∧ r = valV kvs k) ∨ ∃ kvs k b, Rd H a (.dT kvs) ∧ y = .ref b ∧ H b = some (.tup (k.map kV)) ∧ r = valV kvs k
/-- the heap behind a[y] = v -/
def DPut (H : Hp) (a : Addr) (y v : V) (H' : Hp) : Prop :=
  (∃ kvs k, H a = some (.dK kvs) ∧ y = kV k ∧ kvs.length < sizeLine ∧ H' = upd H a (.dK (putK kvs k v))) ∨
  ∃ kvs k b, H a = some (.dT kvs) ∧ y = .ref b ∧ H b = some (.tup (k.map kV)) ∧ kvs.length < sizeLine ∧ H' = upd H a (.dT (putK kvs k v))
theorem DGet.k {H : Hp} {a : Addr} {kvs : List (Key × V)} {k : Key} (e : H a = some (.dK kvs)) : DGet H a (kV k) (valV kvs k) := .inl ⟨kvs, k, .inl e, rfl, rfl⟩
theorem DGet.t {H : Hp} {a b : Addr} {kvs : List (List Key × V)} {k : List Key} (e : H a = some (.dT kvs)) (eb : H b = some (.tup (k.map kV))) : DGet H a (.ref b) (valV kvs k) := .inr ⟨kvs, k, b, .inl e, rfl, eb, rfl⟩
theorem DPut.k {H : Hp} {a : Addr} {kvs : List (Key × V)} {k : Key} {v : V} (e : H a = some (.dK kvs)) (hl : kvs.length < sizeLine) : DPut H a (kV k) v (upd H a (.dK (putK kvs k v))) := .inl ⟨kvs, k, e, rfl, hl, rfl⟩
theorem DPut.t {H : Hp} {a b : Addr} {kvs : List (List Key × V)} {k : List Key} {v : V} (e : H a = some (.dT kvs)) (eb : H b = some (.tup (k.map kV))) (hl : kvs.length < sizeLine) :
    DPut H a (.ref b) v (upd H a (.dT (putK kvs k v))) := .inr ⟨kvs, k, b, e, rfl, eb, hl, rfl⟩


section
variable {X : Cx} {pins : List (Addr × Obj)} {σ : St} {H : Hp} {s : Shared} {a : Addr} {y v : V} {u r : Value} {o : Option V} {A : Around} {E : Value → Shared → Prop}

end

section
variable {X : Cx} {pins : List (Addr × Obj)} {σ : St} {H : Hp} {s : Shared} {a : Addr} {kvs : List (Key × V)} {k : Key} {u : Value} {A : Around} {E : Value → Shared → Prop}
end


/-! ### readings and rules -/
/-- the element of a subscription, not a slice -/
def NoSl (i : Expr) : Prop := ∀ ov iv, subscripted i false ov iv = operate [ov, iv] (getItem ov iv)
theorem subD_of {prog : Program} {w : World} {A : Around} {E : Value → Shared → Prop} {s : Shared} {env : Env} {value slice : Expr} {pos : Pos} {T id : String} {Q : Value → Shared → Prop}
    (hl : typeLookup (.type T) "__getitem__" = pure (some (.builtin id))) (hs : NoSl slice)
    (h : wpAny (model prog w) A (eval value env) (fun o s₁ => wpAny (model prog w) A (eval slice env) (fun i s₂ => s₂.TypeIs o T ∧ wpAny (model prog w) A (getItem o i) Q E s₂) E s₁) E s) :
    wpAny (model prog w) A (eval (.Subscript value slice pos) env) Q E s := by
  refine Subscript_ (wpAny_mono h (fun o s₁ h₁ => wpAny_mono h₁ (fun i s₂ h₂ => ?_) fun _ _ x => x) fun _ _ x => x)
  obtain ⟨hT, h₂⟩ := h₂
  unfold subscriptTail
  refine wpAny_bind ?_
  rw [getitemInPython_of_ne hT.not_modules]
  refine wpAny_bind (wpAny_specialOf hT hl ?_)
  have fin : wpAny (model prog w) A (subscripted slice false o i) (fun r s₃ => wpAny (model prog w) A (letTemporaryGo value o r >>= fun _ => pure r) Q E s₃) E s₂ := by
    rw [hs o i]
    exact wpAny_operating (wpAny_mono h₂ (fun r s₃ h₃ => wpAny_bind (wpAny_letTemporaryGo (wpAny_pure h₃))) fun _ _ x => x)
  first
    | exact wpAny_pure (wpAny_bind fin)
    | exact wpAny_bind (wpAny_pure (wpAny_bind fin))
    | exact wpAny_bind fin

section
variable {X : Cx} {o i e value : Expr} {pos pos' tpos : Pos} {td ty tv : TE}
end


/-! ### displays -/
section
variable {X : Cx} {pos : Pos}
end

/-! ### methods -/
section
variable {X : Cx} {pins : List (Addr × Obj)} {σ : St} {H : Hp} {s : Shared} {a : Addr} {y d : V} {u r : Value} {o : Option V} {A : Around} {E : Value → Shared → Prop}
end

section
variable {X : Cx} {o e f : Expr} {apos cpos : Pos} {td ty tx : TE}
end

/-! ### dict(d): a copy -/
section
variable {X : Cx} {pins : List (Addr × Obj)} {σ : St} {H : Hp} {s : Shared} {a : Addr} {kvs : List (Key × V)} {A : Around} {E : Value → Shared → Prop}
end


section
variable {X : Cx} {pins : List (Addr × Obj)} {σ : St} {H : Hp} {s : Shared} {a : Addr} {y : V} {u : Value} {A : Around} {E : Value → Shared → Prop}
end
end L2

namespace Att
open PySem PySem.W PySem.Calls PyProof.Rows

/-! ### the script -/
/-! ### the attachment: holds_open's last premise (the goal 'hc' behind k_head) from a wpAny of the law's body -/
/-! ### rules over ANY heap (no ledger) from facts about the written part K: the library's own take a ledger (News) for what they write -/
section
variable {prog : Program} {w : World} {A : Around} {E : Value → Shared → Prop} {s : Shared} {K : Frag}

/-! the whole heap as the ledger: makes every rule that writes through a ledger a rule over any heap -/
end
end Att

namespace L2
open PySem PySem.Spec PyProof.Rows

end L2

namespace L2
open PySem PySem.Spec PyProof.Rows

end L2


/-! SHORT WORDS over the layer: a def of the text, its body, what a loop and a test want. -/
namespace L2
open PySem PySem.Spec PyProof.Rows

/-! ### the text by places -/
/-! ### no exception leaves a def -/
/-! ### a def (or method) of the text as it stands behind the top -/
section
variable {P : Program} {w : World} {K : PySem.W.Frag} {mg : Str → Option Value} {base : Heap}
end
/-! ### expressions in short: the name that stands in the i-th slot -/
section
variable {X : Cx}
end

/-! ### tests -/
/-! ### heaps -/
/-! ### a dict's pairs: keys that differ -/
section
variable {κ : Type} [DecidableEq κ]
end
end L2

namespace L2
open PySem PySem.Spec PyProof.Rows

/-! ### the closure of a comprehension's block -/
theorem forIn_yield_fold {α β : Type} {l : List α} {f : α → β → Sem (ForInStep β)} (g : α → β → β) (c : β) (h : ∀ x ∈ l, ∀ c, f x c = pure (.yield (g x c))) :
    forIn l c f = (pure (l.foldl (fun c x => g x c) c) : Sem β) := by
  induction l generalizing c with
  | nil => rfl
  | cons x l ih =>
    rw [List.forIn_cons, h x List.mem_cons_self, pure_bind]
    exact ih (g x c) fun y hy => h y (List.mem_cons_of_mem _ hy)
def closeL (env : Env) (names : List (Str × NameKind)) : List (Str × Addr) :=
  names.foldl (fun c x => if x.2 == .free then (x.1, (env.cells.lookup x.1).getD 0) :: c else c) []
theorem closureFor_eq {scope : Scope} {env : Env} (h : ∀ y ∈ scope.names, y.2 = .free → ∃ c, env.cells.lookup y.1 = some c) : closureFor scope env = pure (closeL env scope.names) := by
  unfold closeL
  simp only [closureFor]
  rw [forIn_yield_fold (fun x c => if x.2 == .free then (x.1, (env.cells.lookup x.1).getD 0) :: c else c) [] (fun x hx c => by
    obtain ⟨n, kind⟩ := x
    by_cases e : kind = NameKind.free
    · subst e
      obtain ⟨a, ha⟩ := h _ hx rfl
      have ha' : env.cells.lookup n = some a := ha
      simp only [beq_self_eq_true, if_true, cellOf, ha', Option.getD_some, pure_bind]
    · have e' : (kind == NameKind.free) = false := by simpa using e
      simp only [e', Bool.false_eq_true, if_false])]
  rfl
theorem mem_closeL {env : Env} : ∀ {names : List (Str × NameKind)} {acc : List (Str × Addr)} {p : Str × Addr},
    p ∈ names.foldl (fun c x => if x.2 == .free then (x.1, (env.cells.lookup x.1).getD 0) :: c else c) acc ↔ p ∈ acc ∨ ∃ y ∈ names, y.2 = .free ∧ p = (y.1, (env.cells.lookup y.1).getD 0)
  | [], acc, p => by simp
  | x :: r, acc, p => by
    rw [List.foldl_cons, mem_closeL]
    by_cases e : x.2 = NameKind.free
    · rw [if_pos (by simpa using e)]
      constructor
      · rintro (h | ⟨y, hy, h1, h2⟩)
        · rcases List.mem_cons.mp h with h | h
          · exact .inr ⟨x, List.mem_cons_self, e, h⟩
          · exact .inl h
        · exact .inr ⟨y, List.mem_cons_of_mem _ hy, h1, h2⟩
      · rintro (h | ⟨y, hy, h1, h2⟩)
        · exact .inl (List.mem_cons_of_mem _ h)
        · rcases List.mem_cons.mp hy with rfl | hy
          · exact .inl (h2 ▸ List.mem_cons_self)
          · exact .inr ⟨y, hy, h1, h2⟩
    · rw [if_neg (by simpa using e)]
      constructor
      · rintro (h | ⟨y, hy, h1, h2⟩)
        · exact .inl h
        · exact .inr ⟨y, List.mem_cons_of_mem _ hy, h1, h2⟩
      · rintro (h | ⟨y, hy, h1, h2⟩)
        · exact .inl h
        · rcases List.mem_cons.mp hy with rfl | hy
          · exact absurd h1 e
          · exact .inr ⟨y, hy, h1, h2⟩
theorem mem_of_lookup {β : Type} : ∀ {l : List (Str × β)} {x : Str} {c : β}, l.lookup x = some c → (x, c) ∈ l
  | [], _, _, h => by simp at h
  | (n, d) :: r, x, c, h => by
    rw [List.lookup_cons] at h
    cases e : x == n with
    | true =>
      rw [e] at h
      have e' : x = n := by simpa using e
      subst e'
      cases h
      exact List.mem_cons_self
    | false =>
      rw [e] at h
      exact List.mem_cons_of_mem _ (mem_of_lookup h)
theorem lookup_of_mem {β : Type} : ∀ {l : List (Str × β)} {x : Str} {c : β}, (x, c) ∈ l → ∃ d, l.lookup x = some d
  | [], _, _, h => nomatch h
  | (n, d) :: r, x, c, h => by
    rw [List.lookup_cons]
    cases e : x == n with
    | true => exact ⟨d, rfl⟩
    | false =>
      rcases List.mem_cons.mp h with h | h
      · injection h with h1 _
        subst h1
        simp at e
      · exact lookup_of_mem h
theorem closeL_sub {env : Env} {names : List (Str × NameKind)} (h : ∀ y ∈ names, y.2 = .free → ∃ c, env.cells.lookup y.1 = some c) {x : Str} {c : Addr} (e : (closeL env names).lookup x = some c) : env.cells.lookup x = some c := by
  rcases mem_closeL.mp (mem_of_lookup e) with z | ⟨y, hy, h1, h2⟩
  · cases z
  · obtain ⟨d, hd⟩ := h y hy h1
    injection h2 with e1 e2
    subst e1
    rw [hd] at e2
    rw [hd, e2]
    rfl
theorem closeL_has {env : Env} {names : List (Str × NameKind)} {x : Str} (h : (x, NameKind.free) ∈ names) : ∃ c, (closeL env names).lookup x = some c :=
  lookup_of_mem (mem_closeL.mpr (.inr ⟨_, h, rfl, rfl⟩))
theorem relabel_lookup {env : Env} : ∀ {names : List (Str × NameKind)} {x : Str} {k : NameKind},
    (names.map fun (n, k) => if (k == NameKind.free && env.scope.kind == .function && env.kindOf n == some .cell) then (n, NameKind.cell) else (n, k)).lookup x = some k →
    ∃ k0, names.lookup x = some k0 ∧ (k = k0 ∨ (k0 = .free ∧ k = .cell))
  | [], _, _, h => by simp at h
  | (n, k) :: r, x, k', h => by
    have ih := @relabel_lookup env r x k'
    rw [List.map_cons] at h
    by_cases hc : (k == NameKind.free && env.scope.kind == .function && env.kindOf n == some .cell) = true
    · dsimp only at h
      rw [if_pos hc, List.lookup_cons] at h
      rw [List.lookup_cons]
      cases e : x == n with
      | true =>
        rw [e] at h
        cases h
        refine ⟨k, rfl, .inr ⟨?_, rfl⟩⟩
        simp only [Bool.and_eq_true, beq_iff_eq] at hc
        exact hc.1.1
      | false =>
        rw [e] at h
        exact ih h
    · dsimp only at h
      rw [if_neg hc, List.lookup_cons] at h
      rw [List.lookup_cons]
      cases e : x == n with
      | true =>
        rw [e] at h
        cases h
        exact ⟨k, rfl, .inl rfl⟩
      | false =>
        rw [e] at h
        exact ih h
theorem relabel_free {env : Env} : ∀ {names : List (Str × NameKind)} {x : Str}, names.lookup x = some .free →
    (names.map fun (n, k) => if (k == NameKind.free && env.scope.kind == .function && env.kindOf n == some .cell) then (n, NameKind.cell) else (n, k)).lookup x = some .cell ∨
    (names.map fun (n, k) => if (k == NameKind.free && env.scope.kind == .function && env.kindOf n == some .cell) then (n, NameKind.cell) else (n, k)).lookup x = some .free
  | [], _, h => by simp at h
  | (n, k) :: r, x, h => by
    have ih := @relabel_free env r x
    rw [List.map_cons]
    rw [List.lookup_cons] at h
    by_cases hc : (k == NameKind.free && env.scope.kind == .function && env.kindOf n == some .cell) = true
    · dsimp only
      rw [if_pos hc, List.lookup_cons]
      cases e : x == n with
      | true => exact .inl rfl
      | false =>
        rw [e] at h
        exact ih h
    · dsimp only
      rw [if_neg hc, List.lookup_cons]
      cases e : x == n with
      | true =>
        rw [e] at h
        cases h
        exact .inr rfl
      | false =>
        rw [e] at h
        exact ih h

/-! ### a comprehension's loop, no exception -/
theorem comp_loop {prog : Program} {w : World} {A : Around} {R : Result → Shared → Prop} {s : Shared} {elt target iter : Expr} {ifs : List Expr} {scope : Scope} {pos : Pos} {it acc : Value} {env : Env} (I : Nat → Shared → Prop)
    (turn : ∀ n s, I n s → wpAny (model prog w) A (pyNext it) (fun r s₁ => match r with
      | none => R (.ok .next) s₁
      | some v => wpAny (model prog w) A (letOwnedTupleGo target it v) (fun _ s₁' => wpAny (model prog w) A (assign target env v) (fun _ s₂ =>
          wpAny (model prog w) A (forIn ifs true fun c r => if r = true then do let ok ← isTrue c env (eval c env); pure (ForInStep.yield ok) else pure (ForInStep.yield r)) (fun ok s₃ =>
            if ok = true then wpAny (model prog w) A (eval elt env) (fun x s₄ =>
              wpAny (model prog w) A (call (.builtin "list.append") [acc, x]) (fun _ s₅ => ∃ m, m < n ∧ I m s₅) (fun _ _ => False) s₄) (fun _ _ => False) s₃
            else ∃ m, m < n ∧ I m s₃) (fun _ _ => False) s₂) (fun _ _ => False) s₁') (fun _ _ => False) s₁) (fun _ _ => False) s)
    (n : Nat) (h : I n s) :
    codeAny (model prog w) A (.compLoop (.ListComp elt [⟨target, iter, ifs, 0⟩] scope pos) 0 it acc env) R s := by
  refine codeAny_loop rfl I (fun n s hI => ?_) n h
  show wpAny _ A ((compTurn (.ListComp elt [⟨target, iter, ifs, 0⟩] scope pos) 0 it acc env).onRaise (fun x => do noteFrame x env; theTreesLotGoes x)) _ _ s
  refine wpAny_noted ?_
  rw [compTurn_list]
  refine wpAny_bind (wpAny_standAt (wpAny_bind (wpAny_mono (turn n s hI) (fun r s₁ h₁ => ?_) fun _ _ h' => h'.elim)))
  cases r with
  | none => exact wpAny_pure h₁
  | some v =>
    refine wpAny_bind (wpAny_mono h₁ (fun _ s₁' h₁' => ?_) fun _ _ h' => h'.elim)
    refine wpAny_bind (wpAny_mono h₁' (fun _ s₂ h₂ => wpAny_bind (wpAny_mono h₂ (fun ok s₃ h₃ => ?_) fun _ _ h' => h'.elim)) fun _ _ h' => h'.elim)
    cases ok with
    | false => exact wpAny_pure ⟨rfl, h₃⟩
    | true =>
      exact wpAny_bind (wpAny_bind (wpAny_mono h₃ (fun x s₄ h₄ => wpAny_bind (wpAny_mono h₄ (fun _ s₅ h₅ => wpAny_pure (wpAny_pure ⟨rfl, h₅⟩)) fun _ _ h' => h'.elim)) fun _ _ h' => h'.elim))

/-! ### the block's context -/
def Cx.blk (X : Cx) (pins : List (Addr × Obj)) (scope : Scope) (cl : List (Str × Addr)) (C : Addr) (N' : List Str) (fp : List Addr) (s : Shared) (H : Hp) : Cx :=
  { X with N := N', s₀ := s, H₀ := H, env := compEnvC scope cl C X.env, outer := X.stack, ex := fp, fn := fun _ => false, pn := X.pn ++ pins, xe := fun _ _ => False }
/-- the block's names at its entry: for each its slot ahead (none: the block's own) -/
def blkSt (ix : List (Option Nat)) (σ : St) : St := ix.map fun o => o.bind fun i => (σ[i]?).join
/-- what is known ahead is known behind -/
def Ext : St → St → Prop
  | [], [] => True
  | none :: a, _ :: b => Ext a b
  | some v :: a, o :: b => o = some v ∧ Ext a b
  | _, _ => False
theorem Ext.get : ∀ {a b : St}, Ext a b → ∀ (j : Nat) (v : V), a[j]? = some (some v) → b[j]? = some (some v)
  | [], [], _, j, v, h => by simp at h
  | none :: a, _ :: b, e, 0, v, h => by simp at h
  | none :: a, _ :: b, e, j + 1, v, h => by
    have e : Ext a b := e
    rw [List.getElem?_cons_succ] at h ⊢
    exact e.get j v h
  | some u :: a, o :: b, e, 0, v, h => by
    have e1 : o = some u := e.1
    rw [List.getElem?_cons_zero] at h ⊢
    rw [e1]
    exact h
  | some u :: a, o :: b, e, j + 1, v, h => by
    have e : Ext a b := e.2
    rw [List.getElem?_cons_succ] at h ⊢
    exact e.get j v h
  | [], _ :: _, e, _, _, _ => e.elim
  | none :: _, [], e, _, _, _ => e.elim
  | some _ :: _, [], e, _, _, _ => e.elim
theorem Ext.length : ∀ {a b : St}, Ext a b → a.length = b.length
  | [], [], _ => rfl
  | none :: a, _ :: b, e => by
    have e : Ext a b := e
    simp [e.length]
  | some u :: a, o :: b, e => by
    have e : Ext a b := e.2
    simp [e.length]
  | [], _ :: _, e => e.elim
  | none :: _, [], e => e.elim
  | some _ :: _, [], e => e.elim

def blkOk (sc : Scope) (N : List Str) (scope : Scope) (N' : List Str) (ix : List (Option Nat)) : Bool :=
  decide (scope.kind = .function) && decide (∀ y ∈ scope.names, y.2 ≠ .cell) && decide (∀ y ∈ scope.names, y.2 = .local → scope.names.lookup y.1 = some .local) &&
  decide (∀ y ∈ scope.names, y.2 = .free → sc.names.lookup y.1 = some .cell ∨ sc.names.lookup y.1 = some .free) && decide (ix.length = N'.length) &&
  ((N'.zip ix).all fun p => p.2.all fun i => decide (N[i]? = some p.1) && decide (scope.names.lookup p.1 = some .free))
structure BlkOk (sc : Scope) (N : List Str) (scope : Scope) (N' : List Str) (ix : List (Option Nat)) : Prop where
  kind : scope.kind = .function
  nocell : ∀ y ∈ scope.names, y.2 ≠ .cell
  names : ∀ y ∈ scope.names, y.2 = .local → scope.names.lookup y.1 = some .local
  free : ∀ y ∈ scope.names, y.2 = .free → sc.names.lookup y.1 = some .cell ∨ sc.names.lookup y.1 = some .free
  len : ix.length = N'.length
  at_ : ∀ (j : Nat) (x : Str) (i : Nat), N'[j]? = some x → ix[j]? = some (some i) → N[i]? = some x ∧ scope.names.lookup x = some .free
theorem BlkOk.of {sc : Scope} {N : List Str} {scope : Scope} {N' : List Str} {ix : List (Option Nat)} (h : blkOk sc N scope N' ix = true) : BlkOk sc N scope N' ix := by
  unfold blkOk at h
  simp only [Bool.and_eq_true, decide_eq_true_eq] at h
  obtain ⟨⟨⟨⟨⟨h1, h2⟩, h3⟩, h4⟩, h5⟩, h6⟩ := h
  refine ⟨h1, h2, h3, h4, h5, fun j x i e1 e2 => ?_⟩
  have hz : (N'.zip ix)[j]? = some (x, some i) := by
    rw [List.getElem?_zip_eq_some]
    exact ⟨e1, e2⟩
  have hm : (x, some i) ∈ N'.zip ix := List.mem_of_getElem? hz
  have q := List.all_eq_true.mp h6 _ hm
  simp only [Option.all_some, Bool.and_eq_true, decide_eq_true_eq] at q
  exact q

abbrev aL (its : List Value) : Obj := { cls := .type "list", data := .seq its.toArray its.length }

section
variable {X : Cx} {pins : List (Addr × Obj)} {σ : St} {H : Hp} {s : Shared} {sc : Scope} {N N' : List Str} {scope : Scope} {ix : List (Option Nat)} {fp : List Addr} {C : Addr}
theorem blk_cells (ok : X.Ok) (hsc : X.env.scope = sc) (B : BlkOk sc N scope N' ix) : ∀ y ∈ scope.names, y.2 = .free → ∃ c, X.env.cells.lookup y.1 = some c := fun y hy e => by
  have q := B.free y hy e
  rw [← hsc] at q
  exact ok.has y.1 q
theorem blk_ok (I : Inv X pins σ H s) (hsc : X.env.scope = sc) (B : BlkOk sc N scope N' ix) (hf : ∀ b ∈ fp, FpOk X pins H b) (hlt : ∀ b ∈ fp, b < s.heap.objs.size) (hC : s.heap.objs.size ≤ C) :
    (X.blk pins scope (closeL X.env scope.names) C N' fp s H).Ok where
  mod := I.ok.mod
  kind := B.kind
  glob := I.ok.glob
  blt := I.ok.blt
  above := hC
  inj := fun x y c a b => I.ok.inj x y c (closeL_sub (blk_cells I.ok hsc B) a) (closeL_sub (blk_cells I.ok hsc B) b)
  has := fun x h => by
    have z : ∃ k, (relabel scope X.env).names.lookup x = some k ∧ (k = .cell ∨ k = .free) := by
      rcases h with h | h
      · exact ⟨_, h, .inl rfl⟩
      · exact ⟨_, h, .inr rfl⟩
    obtain ⟨k, hk, hk'⟩ := z
    obtain ⟨k0, h0, h1⟩ := relabel_lookup (env := X.env) (names := scope.names) hk
    have hm := mem_of_lookup h0
    have e : k0 = .free := by
      rcases h1 with h1 | h1
      · subst h1
        rcases hk' with e | e
        · exact absurd e (B.nocell _ hm)
        · exact e
      · exact h1.1
    subst e
    exact closeL_has hm
  cab := fun x c h _ => by cases h
  hd := I.ok.hd
  frames := I.ok.frames
  stk := .inl rfl
  exf := fun b hb => ⟨fun e => by
      have := hlt b hb
      have e' : b = C := e
      subst e'
      exact absurd (Nat.lt_of_lt_of_le this hC) (Nat.lt_irrefl _), fun x c e => (hf b hb).2.2.2.2.1 x c (closeL_sub (blk_cells I.ok hsc B) e)⟩
  bs := I.bs
  bsz := Nat.le_trans I.ok.bsz I.sz
  noex := fun b o e hb => by
    rcases (hf b hb).2.2.2.1 with z | z
    · exact I.ok.noex b o e z
    · have q := Heap.lt_size (I.ok.bs b o e).1
      exact absurd (Nat.lt_of_lt_of_le q z) (Nat.lt_irrefl _)
  exfs := fun b hb z => by
    rcases List.mem_cons.mp (I.stkSub b z) with e | e
    · exact (hf b hb).2.1 e
    · exact (hf b hb).2.2.1 e
  funs := I.stack
  frf := I.stkFree

/-- the block is entered -/
theorem blk_inv {s1 : Shared} {h1 : Heap} {tk : Nat} {D : Addr} {its : List Value} (I : Inv X pins σ H s) (hsc : X.env.scope = sc) (hN : X.N = N) (B : BlkOk sc N scope N' ix) (hf : ∀ b ∈ fp, FpOk X pins H b) (hlt : ∀ b ∈ fp, b < s.heap.objs.size) (hC : s.heap.objs.size ≤ C)
    (hD : s.heap.objs.size ≤ D) (hDC : D ≠ C) (old : ∀ b o, s.heap.get? b = some o → h1.get? b = some o) (hns : h1.Ns C (fun _ => none)) (ho : h1.get? D = some (aL its)) (e : s1 = { s with heap := h1, toks := tk }) :
    Inv (X.blk pins scope (closeL X.env scope.names) C N' fp s H) [(D, aL its)] (blkSt ix σ) H s1 := by
  subst e
  have ok' := blk_ok (C := C) I hsc B hf hlt hC
  have cells := blk_cells I.ok hsc B
  have fresh : ∀ a, s.heap.objs.size ≤ a → H a = none := fun a ha => I.hok.fresh ha
  refine ⟨ok', rfl, I.bare, Un.kept old, ?_, ?_, fresh C hC, ?_, ?_, I.hok.kept old, ?_⟩
  · refine ⟨_, hns, fun j x v e1 e2 hv => ?_⟩
    have e2 : (blkSt ix σ)[j]? = some (some v) := e2
    unfold blkSt at e2
    rw [List.getElem?_map] at e2
    cases q : ix[j]? with
    | none => rw [q] at e2; cases e2
    | some o =>
      rw [q] at e2
      cases o with
      | none => cases e2
      | some i =>
        have e3 : (σ[i]?).join = some v := by simpa using e2
        have e4 : σ[i]? = some (some v) := by
          cases r : σ[i]? with
          | none => rw [r] at e3; cases e3
          | some o =>
            rw [r] at e3
            have e3 : o = some v := e3
            rw [e3]
        obtain ⟨n1, n2⟩ := B.at_ j x i e1 q
        have n3 := B.free _ (mem_of_lookup n2) rfl
        obtain ⟨m, hm, hl⟩ := I.loc
        have vis : Vis X.env.scope x := by
          rw [hsc]
          exact .inr n3
        obtain ⟨u, r, l⟩ := hl i x v (by rw [hN]; exact n1) e4 vis
        refine ⟨u, r, .inr ⟨relabel_free (env := X.env) n2, ?_⟩⟩
        obtain ⟨c, hc⟩ := closeL_has (env := X.env) (mem_of_lookup n2)
        refine ⟨c, hc, ?_⟩
        have hc' := closeL_sub cells hc
        rcases l with ⟨k, _⟩ | ⟨_, c', e5, o', z1, z2⟩
        · have k : X.env.scope.names.lookup x = some .local := k
          rw [hsc] at k
          rcases n3 with z | z
          · rw [k] at z; cases z
          · rw [k] at z; cases z
        · rw [hc'] at e5
          cases e5
          exact ⟨o', old _ _ z1, z2⟩
  · intro x c e
    obtain ⟨v, o, z1, z2⟩ := I.cell x c (closeL_sub cells e)
    exact ⟨v, o, old _ _ z1, z2⟩
  · intro x c e
    exact I.freeC x c (closeL_sub cells e)
  · intro p hp
    rcases List.mem_append.mp hp with hp | hp
    · obtain ⟨p1, p2, p3, p4, p5⟩ := I.pin p hp
      refine ⟨old _ _ p1, p2, fun z => ?_, fun z => ?_, p5⟩
      · have z : p.1 = C := z
        have := Heap.lt_size p1
        rw [z] at this
        exact absurd (Nat.lt_of_lt_of_le this hC) (Nat.lt_irrefl _)
      · rcases List.mem_cons.mp (I.stkSub p.1 z) with e | e
        · exact p3 e
        · exact p4 e
    · have hp : p = (D, aL its) := List.mem_singleton.mp hp
      subst hp
      refine ⟨ho, fresh D hD, hDC, fun z => ?_, fun v e => by cases e⟩
      have q : ∃ o, s.heap.get? D = some o := by
        obtain ⟨_, o, z, _⟩ := I.stack.mem z
        exact ⟨o, z⟩
      obtain ⟨o, q⟩ := q
      exact absurd (Nat.lt_of_lt_of_le (Heap.lt_size q) hD) (Nat.lt_irrefl _)
  · show (ix.map _).length = N'.length
    rw [List.length_map]
    exact B.len

/-- the block is left: its list is tracked -/
theorem blk_leave {s4 : Shared} {H4 : Hp} {σ' : St} {D : Addr} {its : List Value} {ys : List V} {cl : List (Str × Addr)} (I : Inv X pins σ H s) (hf : ∀ b ∈ fp, FpOk X pins H b) (hD : s.heap.objs.size ≤ D) (hC : s.heap.objs.size ≤ C)
    (J : Inv (X.blk pins scope cl C N' fp s H) [(D, aL its)] σ' H4 s4) (rv : Vals ys its) (hl : ys.length ≤ sizeLine) : Inv X pins σ (upd H4 D (.lst ys)) s4 := by
  have pD := J.pin (D, aL its) (List.mem_append_right _ List.mem_cons_self)
  have hD4 : H4 D = none := pD.2.1
  have neD : ∀ b o, s.heap.get? b = some o → b ≠ D := fun b o e z => by
    have := Heap.lt_size e
    rw [z] at this
    exact absurd (Nat.lt_of_lt_of_le this hD) (Nat.lt_irrefl _)
  have u := J.base
  have u : Un (frs X.stack) fp H H4 s.heap s4.heap := u
  refine I.call' (ch := fp) J.os ⟨u.keep, u.slot, fun b o e n hx => ?_, u.there, fun b xs e => ?_, fun b o x e => ?_, fun b ps e => ?_⟩ ?_ J.bare (fun b hb => ⟨(hf b hb).2.2.2.1, (hf b hb).2.1, (hf b hb).2.2.2.2.1, (hf b hb).2.2.2.2.2⟩)
  · rw [upd_ne (neD b o e)]
    exact u.free b o e n hx
  · have q := u.tups b xs e
    rw [upd_ne (ne_of_none q hD4)]
    exact q
  · have q := u.frzs b o x e
    rw [upd_ne (ne_of_none q hD4)]
    exact q
  · obtain ⟨more, q⟩ := u.tbls b ps e
    exact ⟨more, by rw [upd_ne (ne_of_none q hD4)]; exact q⟩
  · intro b o e
    by_cases hb : b = D
    · subst hb
      rw [upd_same] at e
      cases e
      exact ⟨hl, its, _, rv, pD.1⟩
    · rw [upd_ne hb] at e
      exact (J.hok b o e).stay (fun _ _ _ q => q) (fun c q => by rw [upd_ne (ne_of_none q hD4)]; exact q) fun c xs q => by rw [upd_ne (ne_of_none q hD4)]; exact q
end

/-! ### the tests of a comprehension -/
def PTs (X : Cx) (ifs : List Expr) (t : TT) : Prop :=
  ∀ (pins : List (Addr × Obj)) (s : Shared) (σ : St) (H : Hp) (Q : Bool → Hp → Prop), Inv X pins σ H s → t σ H Q →
    wpAny (model X.prog X.w) X.A (forIn ifs true fun c r => if r = true then do let ok ← isTrue c X.env (eval c X.env); pure (ForInStep.yield ok) else pure (ForInStep.yield r)) (TP X pins σ Q) X.xe s
def tTrue : TT := fun _ H Q => Q true H
theorem pts_nil {X : Cx} : PTs X [] tTrue := fun pins s σ H Q I h => wpAny_tests_nil ⟨H, I, h⟩
/-- [elt for target in iter if ..]: W: the turn, a measure, the items so far, the heap -/
def CompGo (J : It) (ix : List (Option Nat)) (g : TG) (tt : TT) (te : TE) (σ : St) (H : Hp) (Q : VK) : Prop :=
  ∃ W : Nat → Nat → List V → Hp → Prop, (∃ m, W 0 m [] H) ∧ ∀ i m ys H, W i m ys H → ys.length ≤ sizeLine ∧
    ((J.stop i H ∧ ∀ p, H p = none → Q (.ref p) (upd H p (.lst ys))) ∨
    (J.go i H ∧ ∃ N : List V → Hp → Prop, (∀ ys' H', N ys' H' → ∃ m', m' < m ∧ W (i + 1) m' ys' H') ∧
      ∀ x H', J.yld i H x H' → g x (blkSt ix σ) H' fun σ2 H2 => Ext (blkSt ix σ) σ2 ∧ tt σ2 H2 fun ok H3 => if ok = true then te σ2 H3 fun y H4 => N (ys ++ [y]) H4 else N ys H3))
def tComp (wi : TI) (ix : List (Option Nat)) (g : TG) (tt : TT) (te : TE) : TE := fun σ H Q => wi σ H fun J H1 => CompGo J ix g tt te σ H1 Q

section
variable {X : Cx} {sc : Scope} {N N' : List Str} {scope : Scope} {ix : List (Option Nat)} {tg iter elt : Expr} {ifs : List Expr} {pos : Pos} {wi : TI} {g : TG} {tt : TT} {te : TE}
theorem blk_run {use : Option (Value → Sem Unit)} {QQ : Value → Shared → Prop} {pins : List (Addr × Obj)} {σ : St} {H : Hp} {s : Shared} {Q : VK} {cpos : Pos} (hc : X.calm = true) (hi : PI X tg iter wi)
    (hsc : X.env.scope = sc) (hN : X.N = N) (B : BlkOk sc N scope N' ix)
    (hg : ∀ pins cl C fp s H, PG (X.blk pins scope cl C N' fp s H) tg g) (ht : ∀ pins cl C fp s H, PTs (X.blk pins scope cl C N' fp s H) ifs tt) (he : ∀ pins cl C fp s H, PE (X.blk pins scope cl C N' fp s H) elt te)
    (hs : ∀ x, foldedSetIterable iter X.env x = pure x) (I : Inv X pins σ H s) (h : tComp wi ix g tt te σ H Q)
    (fin : ∀ (D C : Addr) (s4 : Shared) (H4 : Hp) (m : Str → Option Value), Inv X pins σ H4 s4 → Q (.ref D) H4 → s4.heap.Ns C m → FpOk X pins H4 C →
      compPost (model X.prog X.w) X.A X.xe use QQ (.ref D) C (.ok .next) s4) :
    wpAny (model X.prog X.w) X.A (comprehension (.ListComp elt [⟨tg, iter, ifs, 0⟩] scope pos) scope X.env cpos (newList []) false (eval iter X.env) use) QQ X.xe s := by
  refine wpAny_comprehension_free (use := use) rfl hs (closureFor_eq (blk_cells I.ok hsc B)) B.kind B.names (thn (hi pins s σ H _ I h) fun v s1 h1 => thn h1 fun itv s2 h2 => ?_)
  obtain ⟨it, fp, tn, J, H2, e, I2, T, st2, f2, W, ⟨m0, w0⟩, turn⟩ := h2
  subst e
  refine wpAny_newObj_type (wpAny_newFunctionEnv B.nocell (by intro y hy; simp at hy) (fun h₁ hns₁ hsb₁ => ?_) B.kind)
  dsimp only at hns₁ hsb₁ ⊢
  generalize hH2 : s2.heap.push { cls := .type "list", dict := none, data := .seq ([] : List Value).toArray } = G2 at hns₁ hsb₁ ⊢
  have hC : G2.objs.size = s2.heap.objs.size + 1 := by rw [← hH2, Heap.size_push]
  have hCle : s2.heap.objs.size ≤ G2.objs.size := by rw [hC]; exact Nat.le_succ _
  have hDC : s2.heap.objs.size ≠ G2.objs.size := by rw [hC]; exact Nat.ne_of_lt (Nat.lt_succ_self _)
  have old : ∀ b o, s2.heap.get? b = some o → h₁.get? b = some o := fun b o e => hsb₁.extBut b o (by rw [hC]; exact Nat.ne_of_lt (Nat.lt_succ_of_lt (Heap.lt_size e))) (Heap.get?_push_of_some _ (hH2 ▸ Heap.get?_push_of_some _ e))
  have hacc : h₁.get? s2.heap.objs.size = some (aL []) := hsb₁.extBut _ _ hDC (Heap.get?_push_of_some _ (hH2 ▸ Heap.get?_push_size _ rfl))
  have hlt : ∀ b ∈ fp, b < s2.heap.objs.size := fun b hb => by
    obtain ⟨o, e, _⟩ := T.obj _ _ st2 b hb
    exact Heap.lt_size e
  have st1 : tn 0 h₁ := T.keep _ _ _ st2 fun b _ o e => old b o e
  have I1 := blk_inv (fp := fp) (C := G2.objs.size) (D := s2.heap.objs.size) (its := []) (h1 := h₁) (tk := s2.toks + ([] : List (Str × Value)).length) I2 hsc hN B f2 hlt hCle (Nat.le_refl _) hDC old hns₁ hacc rfl
  -- the loop
  have fpk : ∀ {H' : Hp} {pl : List (Addr × Obj)}, (∀ b ∈ fp, H' b = none) → (∀ p ∈ pl, p.1 = s2.heap.objs.size) → ∀ b ∈ fp, FpOk (X.blk pins scope (closeL X.env scope.names) G2.objs.size N' fp s2 H2) pl H' b := fun hn hpl b hb => by
    refine ⟨hn b hb, fun z => ?_, fun z => ?_, .inl hb, fun x c e => (f2 b hb).2.2.2.2.1 x c (closeL_sub (blk_cells I2.ok hsc B) e), fun p hp => ?_⟩
    · have z : b = G2.objs.size := z
      have := hlt b hb
      rw [z, hC] at this
      exact absurd (Nat.lt_of_succ_lt this) (Nat.lt_irrefl _)
    · rcases List.mem_cons.mp (I2.stkSub b z) with e | e
      · exact (f2 b hb).2.1 e
      · exact (f2 b hb).2.2.1 e
    · rcases List.mem_append.mp hp with hp | hp
      · exact (f2 b hb).2.2.2.2.2 p hp
      · rw [hpl p hp]
        exact Nat.ne_of_gt (hlt b hb)
  have hpl1 : ∀ (o : Obj), ∀ p ∈ [(s2.heap.objs.size, o)], p.1 = s2.heap.objs.size := fun o p hp => by
    rw [List.mem_singleton.mp hp]
  have loop : codeAny (model X.prog X.w) X.A (.compLoop (.ListComp elt [⟨tg, iter, ifs, 0⟩] scope pos) 0 (.ref it) (.ref s2.heap.objs.size) (compEnvC scope (closeL X.env scope.names) G2.objs.size X.env))
      (compPost (model X.prog X.w) X.A X.xe use QQ (.ref s2.heap.objs.size) G2.objs.size) { s2 with heap := h₁, toks := s2.toks + ([] : List (Str × Value)).length } := by
    refine comp_loop (fun n s' => ∃ i ys H' its, Inv (X.blk pins scope (closeL X.env scope.names) G2.objs.size N' fp s2 H2) [(s2.heap.objs.size, aL its)] (blkSt ix σ) H' s' ∧ Vals ys its ∧ tn i s'.heap ∧ (∀ b ∈ fp, H' b = none) ∧ W i n ys H') ?_ m0
      ⟨0, [], H2, [], I1, .nil, st1, fun b hb => (f2 b hb).1, w0⟩
    rintro n s3 ⟨i, ys, H3, its, I3, rv, st3, fr3, w3⟩
    obtain ⟨hl, tr⟩ := turn i n ys H3 w3
    rcases tr with ⟨stop, q⟩ | ⟨go, N, hN, step⟩
    · refine thn (T.done (X.blk pins scope (closeL X.env scope.names) G2.objs.size N' fp s2 H2) rfl rfl rfl hc i _ s3 _ H3 _ I3 (fpk fr3 (hpl1 _)) st3 stop) fun r s4 ⟨hr, I4⟩ => ?_
      subst hr
      have I5 := blk_leave I2 f2 (Nat.le_refl _) hCle I4 rv hl
      obtain ⟨m, hm, _⟩ := I4.loc
      have hD4 := (I4.pin (s2.heap.objs.size, aL its) (List.mem_append_right _ List.mem_cons_self)).2.1
      refine fin _ _ s4 _ m I5 (q _ hD4) hm ?_
      have hCn : H3 G2.objs.size = none := I4.free
      refine I2.fpOk hCle ?_
      rw [upd_ne (Ne.symm hDC)]
      exact hCn
    · refine thn (T.item (X.blk pins scope (closeL X.env scope.names) G2.objs.size N' fp s2 H2) rfl rfl rfl hc i _ s3 _ H3 _ I3 (fpk fr3 (hpl1 _)) st3 go) fun r s4 ⟨u, hr, h4⟩ => ?_
      subst hr
      refine thn h4 fun _ s5 ⟨x, H5, I5, r5, y5, st5, fr5⟩ => ?_
      have I5' := I5.pinned (fpk fr5 (hpl1 _)) (T.obj _ _ st5)
      refine thn (hg _ _ _ _ _ _ _ s5 _ H5 x u _ I5' r5 (step x H5 y5)) fun _ s6 ⟨σ6, H6, I6, ex6, q6⟩ => ?_
      refine thn (ht _ _ _ _ _ _ _ s6 σ6 H6 _ I6 q6) fun ok s7 ⟨H7, I7, q7⟩ => ?_
      have back : ∀ {s8 : Shared} {H8 : Hp} {its' : List Value} {ys' : List V}, Inv (X.blk pins scope (closeL X.env scope.names) G2.objs.size N' fp s2 H2) ([(s2.heap.objs.size, aL its')] ++ pinsAt fp s5.heap) σ6 H8 s8 → Vals ys' its' → N ys' H8 →
          ∃ m, m < n ∧ ∃ i ys H' its, Inv (X.blk pins scope (closeL X.env scope.names) G2.objs.size N' fp s2 H2) [(s2.heap.objs.size, aL its)] (blkSt ix σ) H' s8 ∧ Vals ys its ∧ tn i s8.heap ∧ (∀ b ∈ fp, H' b = none) ∧ W i m ys H' := fun {s8 H8 its' ys'} I8 rv8 n8 => by
        obtain ⟨m', hm, w8⟩ := hN ys' H8 n8
        refine ⟨m', hm, i + 1, ys', H8, its', (I8.weak ex6.length fun j v e => ex6.get j v e).unpinned, rv8, T.keep _ _ _ st5 fun b hb o e => (I8.pin (b, o) (List.mem_append_right _ (List.mem_append_right _ (mem_pinsAt hb e)))).1, fun b hb => ?_, w8⟩
        obtain ⟨o, e, d⟩ := T.obj _ _ st5 b hb
        exact (I8.pin (b, o) (List.mem_append_right _ (List.mem_append_right _ (mem_pinsAt hb e)))).2.1
      cases ok with
      | false =>
        rw [if_neg Bool.false_ne_true] at q7 ⊢
        exact back I7 rv q7
      | true =>
        rw [if_pos rfl] at q7 ⊢
        refine thn (he _ _ _ _ _ _ _ s7 σ6 H7 _ I7 q7) fun yv s8 ⟨y, H8, I8, r8, q8⟩ => ?_
        have pD := I8.pin (s2.heap.objs.size, aL its) (List.mem_append_right _ (List.mem_append_left _ List.mem_cons_self))
        refine append_at (hsz := by show its.toArray.size ≤ sizeLine; rw [List.size_toArray, ← rv.length]; exact hl) pD.1 fun h9 hs9 hD9 => ?_
        have e9 : h9.get? s2.heap.objs.size = some (aL (its ++ [yv])) := by
          rw [hD9]
          show some ({ cls := .type "list", data := .seq (its.toArray.push yv) (its.length + 1) } : Obj) = some { cls := .type "list", data := .seq (its ++ [yv]).toArray (its ++ [yv]).length }
          rw [List.length_append, List.length_singleton, List.push_toArray]
        have I8' : Inv (X.blk pins scope (closeL X.env scope.names) G2.objs.size N' fp s2 H2) (pinsAt fp s5.heap) σ6 H8 s8 := I8.pins_of fun p hp => I8.pin p (List.mem_append_right _ (List.mem_append_right _ hp))
        have hpn : ∀ p ∈ (X.blk pins scope (closeL X.env scope.names) G2.objs.size N' fp s2 H2).pn ++ pinsAt fp s5.heap, p.1 ≠ s2.heap.objs.size := fun p hp => by
          rcases List.mem_append.mp hp with hp | hp
          · exact Nat.ne_of_lt (Heap.lt_size (I2.pin p hp).1)
          · exact Nat.ne_of_lt (hlt _ (of_pinsAt hp).1)
        have I9 := I8'.turned (t' := s8.toks) (it := s2.heap.objs.size) (fun b o hb e => hs9.extBut b o hb e) pD.2.1 hDC (.inr (Nat.le_refl _)) (fun x c e z => by
          subst z
          obtain ⟨v, o, z1, z2⟩ := I8.cell x _ e
          rw [pD.1] at z1
          cases z1
          cases z2) hpn
        refine back (its' := its ++ [yv]) (ys' := ys ++ [y]) (I9.pins_of fun p hp => ?_) (rv.append (.cons r8 .nil)) q8
        rcases List.mem_append.mp hp with hp | hp
        · rw [List.mem_singleton.mp hp]
          exact ⟨e9, pD.2.1, pD.2.2.1, pD.2.2.2.1, fun v e => by cases e⟩
        · exact I9.pin p (List.mem_append_right _ hp)
  exact codeAny_compStart_list loop (T.self X.A 0 _ _ _ st1 loop)

/-- a list comprehension of one clause -/
theorem pe_comp (hc : X.calm = true) (N' : List Str) (ix : List (Option Nat)) (hi : PI X tg iter wi) (hB : blkOk X.env.scope X.N scope N' ix = true)
    (hg : ∀ pins cl C fp s H, PG (X.blk pins scope cl C N' fp s H) tg g) (ht : ∀ pins cl C fp s H, PTs (X.blk pins scope cl C N' fp s H) ifs tt) (he : ∀ pins cl C fp s H, PE (X.blk pins scope cl C N' fp s H) elt te)
    (hs : ∀ x, foldedSetIterable iter X.env x = pure x := by intro _; rfl) : PE X (.ListComp elt [⟨tg, iter, ifs, 0⟩] scope pos) (tComp wi ix g tt te) := by
  intro pins s σ H Q I h
  rw [eval_ListComp]
  refine blk_run (use := none) hc hi rfl rfl (BlkOk.of hB) hg ht he hs I h fun D C s4 H4 m I4 q4 hm hf => ?_
  refine ⟨m, hm, fun h' hs' => ?_⟩
  exact ⟨.ref D, H4, I4.turned (t' := s4.toks) (fun b o hb e => hs'.extBut b o hb e) hf.1 hf.2.1 hf.2.2.2.1 hf.2.2.2.2.1 hf.2.2.2.2.2, rfl, q4⟩
/-- name = [..], the name a plain local of the def on the same line -/
theorem ps_setComp {i : Nat} {x : Str} {pos' spos : Pos} (hc : X.calm = true) (N' : List Str) (ix : List (Option Nat)) (hNd : X.N.Nodup) (hxi : X.N[i]? = some x) (hx : X.env.scope.names.lookup x = some .local) (hi : PI X tg iter wi) (hB : blkOk X.env.scope X.N scope N' ix = true)
    (hg : ∀ pins cl C fp s H, PG (X.blk pins scope cl C N' fp s H) tg g) (ht : ∀ pins cl C fp s H, PTs (X.blk pins scope cl C N' fp s H) ifs tt) (he : ∀ pins cl C fp s H, PE (X.blk pins scope cl C N' fp s H) elt te)
    (hsw : swapsWith (.ListComp elt [⟨tg, iter, ifs, 0⟩] scope pos) (some (.Name x pos')) spos.line X.env = pure true := by rfl)
    (hs : ∀ x, foldedSetIterable iter X.env x = pure x := by intro _; rfl) : PS X (.Assign [.Name x pos'] (.ListComp elt [⟨tg, iter, ifs, 0⟩] scope pos) spos) (tAsg (tComp wi ix g tt te) (gName i)) := by
  intro pins s σ H D I h
  rw [exec_Assign_Name_used _ _ _ _ hsw]
  refine wpAny_bind (wpAny_standAt (wpAny_bind ?_))
  show wpAny _ X.A (do let _ ← comprehension (.ListComp elt [⟨tg, iter, ifs, 0⟩] scope pos) scope X.env _ (newList []) false (eval iter X.env) (some (assign (.Name x pos') X.env))) _ _ s
  refine wpAny_bind (wpAny_mono (blk_run (use := some (assign (.Name x pos') X.env)) (QQ := fun _ s' => SP X pins D .next s') hc hi rfl rfl (BlkOk.of hB) hg ht he hs I h fun Da C s4 H4 m I4 q4 hm hf => ?_) (fun _ s' hq => wpAny_pure (wpAny_pure hq)) fun _ _ e => e)
  show wpAny _ X.A (assign (.Name x pos') X.env (.ref Da)) _ _ _
  refine wpAny_assign_Name (store_ok2 (v := .ref Da) I4 hNd hxi (.inl hx) rfl (fun s5 I5 hsb => ?_) (.inr hx))
  obtain ⟨a, hsb, ha⟩ := hsb
  have hCa : C ≠ a := by
    rcases ha with z | z
    · rw [z]; exact hf.2.1
    · exact fun e => hf.2.2.2.2.1 x a z e.symm
  refine ⟨m, hm.sameBut hsb hCa, fun h' hs' => ?_⟩
  exact ⟨_, H4, I5.turned (t' := s5.toks) (fun b o hb e => hs'.extBut b o hb e) hf.1 hf.2.1 hf.2.2.2.1 hf.2.2.2.2.1 hf.2.2.2.2.2, q4⟩
end
end L2

namespace L2
open PySem PySem.Spec PyProof.Rows

/-! ### slices of texts -/
theorem pick_cut {α : Type} (xs : List α) (i k : Nat) : (List.range k).filterMap (fun m => xs[i + m]?) = (xs.drop i).take k := by
  induction k with
  | zero => simp
  | succ k ih =>
    rw [List.range_succ, List.filterMap_append, ih, List.take_add_one, List.getElem?_drop]
    cases h : xs[i + k]? with
    | none => simp [h]
    | some v => simp [h]
theorem clip1 (n : Nat) (i : Int) (d : Nat) : max 0 (min (if i < 0 then i + (n : Int) else i) (n : Int)) = ((HT.sIx n d (some i) : Nat) : Int) := by
  simp only [HT.sIx]
  by_cases h : i < 0
  · simp only [h, if_true]; omega
  · simp only [h, if_false]; omega
theorem range_map_eq (a b : Nat) : List.map (fun k : Nat => ((a : Int) + 1 * (k : Int)).toNat) (List.range (if (a : Int) < (b : Int) then ((b : Int) - a + 1 - 1) / 1 else 0).toNat) = (List.range (b - a)).map fun k => a + k := by
  have e : (if (a : Int) < (b : Int) then ((b : Int) - a + 1 - 1) / 1 else 0).toNat = b - a := by
    split <;> omega
  rw [e]
  apply List.map_congr_left
  intro k _
  omega
theorem picked_eq (n : Nat) (lo hi : Option Int) : Builtin.Str.strSliceIndices lo hi 1 n = (List.range (HT.sIx n n hi - HT.sIx n 0 lo)).map fun k => HT.sIx n 0 lo + k := by
  unfold Builtin.Str.strSliceIndices sliceRange
  simp only [show ((1 : Int) > 0) = True by simp, if_true]
  rw [← range_map_eq]
  cases lo with
  | none =>
    cases hi with
    | none => rfl
    | some j => simp only [clip1 n j n]; rfl
  | some i =>
    cases hi with
    | none => simp only [clip1 n i 0]; rfl
    | some j => simp only [clip1 n i 0, clip1 n j n]
/-- x[lo:hi] -/
def cutS (x : Str) (lo hi : Option Int) : Str := ⟨((x.cps.toList.drop (HT.sIx x.length 0 lo)).take (HT.sIx x.length x.length hi - HT.sIx x.length 0 lo)).toArray⟩
theorem cutS_toList (x : Str) (lo hi : Option Int) : (cutS x lo hi).cps.toList = (x.cps.toList.drop (HT.sIx x.length 0 lo)).take (HT.sIx x.length x.length hi - HT.sIx x.length 0 lo) := by
  simp [cutS]
theorem cutS_le (x : Str) (lo hi : Option Int) : (cutS x lo hi).length ≤ x.length := by
  show (cutS x lo hi).cps.size ≤ x.cps.size
  rw [← Array.length_toList, cutS_toList, List.length_take, List.length_drop, Array.length_toList]
  omega
def rSlS : V → Option Int → Option Int → Hp → VK → Prop := fun x lo hi H Q => ∃ z, x = .str z ∧ z.length ≤ sizeLine ∧ Q (.str (cutS z lo hi)) H
section
variable {X : Cx}
theorem sl_str : SlR X rSlS := by
  intro pins s σ H x v vl vu lo hi sl Q I r hs pl pu h
  obtain ⟨z, rfl, hz, q⟩ := h
  obtain ⟨t, rfl⟩ := r
  obtain ⟨l, hl, el⟩ : ∃ l : Option (Int × Tok), vl = partValue l ∧ l.map (·.1) = lo := by
    cases pl with
    | none => exact ⟨none, rfl, rfl⟩
    | int i t => exact ⟨some (i, t), rfl, rfl⟩
  obtain ⟨u, hu, eu⟩ : ∃ u : Option (Int × Tok), vu = partValue u ∧ u.map (·.1) = hi := by
    cases pu with
    | none => exact ⟨none, rfl, rfl⟩
    | int i t => exact ⟨some (i, t), rfl, rfl⟩
  subst hl hu
  refine ⟨"str", _, F.slot_str_getitem.lookup, typeIs_str s z t, wpAny_getItem_str_slice (l := l) (u := u) (st := none) hs rfl ?_⟩
  have ep : slicePicked z l u none = (List.range (HT.sIx z.length z.length hi - HT.sIx z.length 0 lo)).map fun k => HT.sIx z.length 0 lo + k := by
    unfold slicePicked
    rw [el, eu]
    exact picked_eq z.length lo hi
  have ec : (slicePicked z l u none).filterMap (fun i => z.cps[i]?) = (cutS z lo hi).cps.toList := by
    rw [ep, List.filterMap_map, cutS_toList]
    have e2 : ((fun i => z.cps[i]?) ∘ fun k => HT.sIx z.length 0 lo + k) = fun m => z.cps.toList[HT.sIx z.length 0 lo + m]? := by
      funext m
      simp
    rw [e2]
    exact pick_cut _ _ _
  unfold sliceMade
  split
  · rename_i hw
    have hw' : (slicePicked z l u none).length = z.length := by simpa using hw
    rw [ep, List.length_map, List.length_range] at hw'
    have e : cutS z lo hi = z := by
      have b1 : HT.sIx z.length z.length hi ≤ z.length := HT.sIx_le _ _ (Nat.le_refl _) _
      have e1 : (cutS z lo hi).cps.toList = z.cps.toList := by
        rw [cutS_toList]
        have lz : z.cps.toList.length = z.length := Array.length_toList
        by_cases h0 : z.length = 0
        · have : z.cps.toList = [] := List.eq_nil_of_length_eq_zero (by rw [lz, h0])
          rw [this]
          simp
        · have a0 : HT.sIx z.length 0 lo = 0 := by omega
          have b0 : HT.sIx z.length z.length hi = z.length := by omega
          rw [a0, b0, List.drop_zero, Nat.sub_zero, ← lz, List.take_length]
      have e2 : (cutS z lo hi).cps = z.cps := Array.toList_inj.mp e1
      exact congrArg Str.mk e2
    rw [e] at q
    exact ⟨.str z, H, I, ⟨t, rfl⟩, q⟩
  · have e : (⟨((slicePicked z l u none).filterMap (fun i => z.cps[i]?)).toArray⟩ : Str) = cutS z lo hi := by
      rw [ec]
    rw [e]
    exact ⟨Nat.le_trans (cutS_le z lo hi) hz, .str (cutS z lo hi), H, I.tok _, ⟨_, rfl⟩, q⟩

/-! ### lists of texts -/
theorem vals_strs : ∀ {ys : List Str} {us : List Value}, Vals (ys.map V.str) us → StrsAre us ys
  | [], _, h => by cases h; exact .nil
  | y :: ys, _, h => by
    cases h with
    | cons r t =>
      obtain ⟨t', rfl⟩ := r
      exact .cons _ _ (vals_strs t)
/-! ### any, all of bools -/
theorem vals_bl : ∀ {bs : List Bool} {us : List Value}, Vals (bs.map V.bl) us → us = bs.map Value.bool
  | [], _, h => by cases h; rfl
  | b :: bs, _, h => by
    cases h with
    | cons r t =>
      have r : _ = Value.bool b := r
      rw [List.map_cons, r, vals_bl t]
theorem range_all (bs : List Bool) : (List.range bs.length).all (fun i => bs.getD i false) = bs.all id := by
  induction bs with
  | nil => rfl
  | cons b r ih =>
    rw [List.length_cons, List.range_succ_eq_map, List.all_cons, List.all_cons, List.all_map, ← ih]
    rfl
def rAll (K : PySem.W.Frag) : List V → Hp → VK → Prop := fun xs H Q => ∃ (p : Addr) (bs : List Bool), xs = [.ref p] ∧ SqL K H p (bs.map V.bl) ∧ Q (.bl (bs.all id)) H
theorem truth_bl {prog : Program} {w : World} {A : Around} (bs : List Bool) : TruthOf prog w A (fun i v => (bs.map Value.bool).toArray[i]? = some v) (fun i => bs.getD i false) := by
  intro i v s Q E hP hQ
  have hP : (bs.map Value.bool)[i]? = some v := by simpa using hP
  rw [List.getElem?_map] at hP
  cases e : bs[i]? with
  | none => rw [e] at hP; cases hP
  | some b =>
    rw [e] at hP
    have hP := Option.some.inj hP
    subst hP
    have : bs.getD i false = b := by simp [List.getD, e]
    have hQ : Q (bs.getD i false) s := hQ
    rw [this] at hQ
    exact wpAny_truthy_bool hQ
theorem call_allB (hc : X.calm = true) : CallR X (.builtin "all") (rAll X.K) := by
  intro pins s σ H xs us Q I r h
  obtain ⟨p, bs, rfl, hp, q⟩ := h
  obtain ⟨u, rfl, ru⟩ := vals1 r
  cases ru
  obtain ⟨its, rv, pl, hz⟩ := I.list hp
  have ei := vals_bl rv
  subst ei
  have hlt : p < s.heap.objs.size := by
    obtain ⟨_, _, e, _⟩ := pl
    exact Heap.lt_size e
  have hh : X.A.handled = none := I.ok.hd hc
  refine call_all_walk (wpAny_pyIter_list pl.isList ⟨s.heap.objs.size, _, _, _, _, _, fun i => bs.getD i false, rfl, Walks.list (A := X.A.in1) hh s.heap.objs.size p (Nat.ne_of_lt hlt) (bs.map Value.bool).toArray, ⟨⟨_, Heap.get?_push_size _ rfl, rfl, rfl⟩, pl.isList.push _⟩, truth_bl bs, fun h' tk hk => ?_⟩)
  have e : (List.range (bs.map Value.bool).toArray.size).all (fun i => bs.getD i false) = bs.all id := by
    rw [List.size_toArray, List.length_map]
    exact range_all bs
  rw [e]
  refine ⟨.bl (bs.all id), H, I.kept (t' := tk) fun b o eb => hk b o (fun hm => ?_) (Heap.get?_push_of_some _ eb), rfl, q⟩
  exact absurd (Heap.lt_size eb) (by rw [List.mem_singleton.mp hm]; exact Nat.lt_irrefl _)

/-! ### max of a list of ints -/
/-! ### isinstance -/
def clsV : V → Option Value
  | .ty n => some (.type n)
  | .ref a => some (.ref a)
  | _ => none
def rIsI (K : PySem.W.Frag) : List V → Hp → VK → Prop := fun xs H Q => ∃ x c t cv b, xs = [x, c] ∧ clsV c = some cv ∧ TyOf K H x t ∧ PySem.W.kitOne K t cv = some b ∧ Q (.bl b) H
theorem call_isI : CallR X (.builtin "isinstance") (rIsI X.K) := by
  intro pins s σ H xs us Q I r h
  obtain ⟨x, c, t, cv, b, rfl, hc, ty, hk, q⟩ := h
  obtain ⟨u, w', rfl, ru, rw'⟩ := vals2 r
  have e : w' = cv := by
    cases c with
    | ty n => have rw' : w' = Value.type n := rw'; rw [rw']; exact Option.some.inj hc
    | ref a => have rw' : w' = Value.ref a := rw'; rw [rw']; exact Option.some.inj hc
    | _ => cases hc
  subst e
  exact isinst_ok I ru ty hk fun tk => ⟨.bl b, H, I.tok tk, rfl, q⟩

/-! ### == of two lists of flat items -/
/-- ''.join(list of texts) -/
def rJoin (K : PySem.W.Frag) : V → List V → Hp → VK → Prop := fun x vs H Q => ∃ (z : Str) (p : Addr) (ys : List Str), x = .str z ∧ vs = [.ref p] ∧ SqL K H p (ys.map V.str) ∧ (ys.map (·.length)).sum + ys.length * z.length ≤ 16777216 ∧ Q (.str (Txt.join z ys)) H
theorem mt_join : MtR X "str.join" (rJoin X.K) := by
  intro pins s σ H x xs v us Q I rx r h
  obtain ⟨z, p, ys, rfl, rfl, hp, hs, q⟩ := h
  obtain ⟨t, rfl⟩ := rx
  obtain ⟨u, rfl, ru⟩ := vals1 r
  cases ru
  obtain ⟨its, rv, pl, hz⟩ := I.list hp
  exact join_list pl.isList (by simpa using vals_strs rv) hs fun t' k => ⟨.str _, H, I.tok k, ⟨t', rfl⟩, q⟩
end
end L2

namespace L2
open PySem PySem.Spec PyProof.Rows
/-! ### comprehensions: the forms one uses -/
section
variable {ix : List (Option Nat)} {g : TG} {tt : TT} {te : TE} {σ : St} {H : Hp} {Q : VK} {K : PySem.W.Frag}
theorem comp_range {lo : Int} {n : Nat} (Pv : Nat → List V → Hp → Prop) (h0 : Pv 0 [] H) (hn : n ≤ sizeLine) (hl : ∀ i ys H, Pv i ys H → ys.length ≤ i)
    (hs : ∀ i ys H, i < n → Pv i ys H → g (.int (lo + i)) (blkSt ix σ) H fun σ2 H2 => Ext (blkSt ix σ) σ2 ∧ tt σ2 H2 fun ok H3 => if ok = true then te σ2 H3 fun y H4 => Pv (i + 1) (ys ++ [y]) H4 else Pv (i + 1) ys H3)
    (hd : ∀ ys H, Pv n ys H → ∀ p, H p = none → Q (.ref p) (upd H p (.lst ys))) : CompGo (Itr lo n) ix g tt te σ H Q := by
  refine ⟨fun i m ys H => m = n - i ∧ i ≤ n ∧ Pv i ys H, ⟨n, by simp, Nat.zero_le _, h0⟩, ?_⟩
  rintro i m ys H ⟨rfl, hi, p⟩
  refine ⟨Nat.le_trans (hl _ _ _ p) (Nat.le_trans hi hn), ?_⟩
  by_cases hlt : i < n
  · refine .inr ⟨hlt, Pv (i + 1), fun ys' H' p' => ⟨n - (i + 1), by omega, rfl, hlt, p'⟩, fun x H' y => ?_⟩
    obtain ⟨e, y⟩ := y
    subst e y
    exact hs i ys _ hlt p
  · have e : i = n := by omega
    subst e
    exact .inl ⟨Nat.le_refl _, hd ys H p⟩
theorem comp_list {a : Addr} {xs : List V} (Pv : Nat → List V → Hp → Prop) (h0 : Pv 0 [] H) (hn : xs.length ≤ sizeLine) (hl : ∀ i ys H, Pv i ys H → ys.length ≤ i) (hx : ∀ i ys H, Pv i ys H → SqL K H a xs)
    (hs : ∀ i x ys H, xs[i]? = some x → Pv i ys H → g x (blkSt ix σ) H fun σ2 H2 => Ext (blkSt ix σ) σ2 ∧ tt σ2 H2 fun ok H3 => if ok = true then te σ2 H3 fun y H4 => Pv (i + 1) (ys ++ [y]) H4 else Pv (i + 1) ys H3)
    (hd : ∀ ys H, Pv xs.length ys H → ∀ p, H p = none → Q (.ref p) (upd H p (.lst ys))) : CompGo (Itl K a) ix g tt te σ H Q := by
  refine ⟨fun i m ys H => m = xs.length - i ∧ i ≤ xs.length ∧ Pv i ys H, ⟨xs.length, by simp, Nat.zero_le _, h0⟩, ?_⟩
  rintro i m ys H ⟨rfl, hi, p⟩
  have q := hx i ys H p
  refine ⟨Nat.le_trans (hl _ _ _ p) (Nat.le_trans hi hn), ?_⟩
  by_cases hlt : i < xs.length
  · refine .inr ⟨⟨xs, xs[i], q, by simp [hlt]⟩, Pv (i + 1), fun ys' H' p' => ⟨xs.length - (i + 1), by omega, rfl, hlt, p'⟩, fun x H' y => ?_⟩
    obtain ⟨e, y⟩ := y
    subst e
    exact hs i x ys _ (y xs q) p
  · have e : i = xs.length := by omega
    subst e
    exact .inl ⟨⟨xs, q, Nat.le_refl _⟩, hd ys H p⟩
/-- [te for k in range(n)]: a value for each k, the heap stays -/
theorem comp_range_map {lo : Int} {n : Nat} (f : Nat → V) (hn : n ≤ sizeLine)
    (hs : ∀ i (R : VK), i < n → R (f i) H → Ext (blkSt ix σ) ((blkSt ix σ).set 0 (some (.int (lo + i)))) ∧ te ((blkSt ix σ).set 0 (some (.int (lo + i)))) H R)
    (hd : ∀ p, H p = none → Q (.ref p) (upd H p (.lst ((List.range n).map f)))) : CompGo (Itr lo n) ix (gName 0) tTrue te σ H Q := by
  refine comp_range (fun i ys H' => H' = H ∧ ys = (List.range i).map f) ⟨rfl, rfl⟩ hn (fun i ys H' ⟨_, e⟩ => by rw [e]; simp) ?_ (fun ys H' ⟨e1, e2⟩ p hp => by subst e1 e2; exact hd p hp)
  rintro i ys H' hi ⟨rfl, rfl⟩
  obtain ⟨h1, h2⟩ := hs i (fun y H4 => H4 = H' ∧ (List.range i).map f ++ [y] = (List.range (i + 1)).map f) hi ⟨rfl, by rw [List.range_succ, List.map_append]; rfl⟩
  exact ⟨h1, h2⟩
/-- [te for x in xs] -/
theorem comp_list_map {a : Addr} {xs : List V} (f : V → V) (hn : xs.length ≤ sizeLine) (hx : SqL K H a xs)
    (hs : ∀ x (R : VK), x ∈ xs → R (f x) H → Ext (blkSt ix σ) ((blkSt ix σ).set 0 (some x)) ∧ te ((blkSt ix σ).set 0 (some x)) H R)
    (hd : ∀ p, H p = none → Q (.ref p) (upd H p (.lst (xs.map f)))) : CompGo (Itl K a) ix (gName 0) tTrue te σ H Q := by
  refine comp_list (K := K) (a := a) (xs := xs) (fun i ys H' => H' = H ∧ ys = (xs.take i).map f) ⟨rfl, rfl⟩ hn (fun i ys H' ⟨_, e⟩ => by rw [e, List.length_map, List.length_take]; omega) (fun i ys H' ⟨e, _⟩ => by subst e; exact hx) ?_ (fun ys H' ⟨e1, e2⟩ p hp => by subst e1 e2; rw [List.take_length]; exact hd p hp)
  rintro i x ys H' hi ⟨rfl, rfl⟩
  obtain ⟨h1, h2⟩ := hs x (fun y H4 => H4 = H' ∧ (xs.take i).map f ++ [y] = (xs.take (i + 1)).map f) (List.mem_of_getElem? hi) ⟨rfl, by rw [List.take_add_one, hi, List.map_append]; rfl⟩
  exact ⟨h1, h2⟩
end
/-! ### places and slices -/
theorem atI_some {α : Type} {xs : List α} {i : Int} {v : α} (h0 : 0 ≤ i) (h : xs[i.toNat]? = some v) : atI xs i = some v := by
  have e : i = ((i.toNat : Nat) : Int) := by omega
  rw [e]
  exact atI_nat h
theorem cut_to (x : Str) {v : Int} (h : 0 ≤ v) : (cutS x none (some v)).cps.toList = x.cps.toList.take v.toNat := by
  rw [cutS_toList]
  have e : HT.sIx x.length x.length (some v) = min v.toNat x.length := by
    show (if v < 0 then _ else _) = _
    rw [if_neg (by omega)]
  have e0 : HT.sIx x.length 0 none = 0 := rfl
  have lx : x.cps.toList.length = x.length := Array.length_toList
  rw [e, e0, List.drop_zero, Nat.sub_zero]
  rcases Nat.le_total v.toNat x.length with h1 | h1
  · rw [Nat.min_eq_left h1]
  · rw [Nat.min_eq_right h1, ← lx, List.take_length, List.take_of_length_le (by omega)]
theorem cut_mid (x : Str) {u v : Int} (hu : 0 ≤ u) (hv : 0 ≤ v) : (cutS x (some u) (some v)).cps.toList = (x.cps.toList.take v.toNat).drop u.toNat := by
  rw [cutS_toList]
  have e : HT.sIx x.length x.length (some v) = min v.toNat x.length := by
    show (if v < 0 then _ else _) = _
    rw [if_neg (by omega)]
  have e0 : HT.sIx x.length 0 (some u) = min u.toNat x.length := by
    show (if u < 0 then _ else _) = _
    rw [if_neg (by omega)]
  have lx : x.cps.toList.length = x.length := Array.length_toList
  rw [e, e0, List.drop_take]
  apply List.ext_getElem?
  intro i
  rw [List.getElem?_take, List.getElem?_take, List.getElem?_drop, List.getElem?_drop]
  rcases Nat.le_total u.toNat x.length with h1 | h1
  · rw [Nat.min_eq_left h1]
    by_cases h2 : i < v.toNat - u.toNat
    · rw [if_pos h2]
      by_cases h3 : i < min v.toNat x.length - u.toNat
      · rw [if_pos h3]
      · rw [if_neg h3, List.getElem?_eq_none (by omega)]
    · rw [if_neg h2, if_neg (by omega)]
  · rw [Nat.min_eq_right h1, List.getElem?_eq_none (by omega), List.getElem?_eq_none (by omega)]
    split <;> split <;> rfl
end L2

/-! ### the rules with K written (in a comprehension's block) -/
namespace L2
open PySem PySem.Spec PyProof.Rows
section
variable {X : Cx} {K : PySem.W.Frag} {tg l : Expr} {tl : TE} {pos : Pos} {es : List Expr} {t : TGs} {n : Nat}
theorem ix_listK (h : X.K = K := by rfl) : IxR X (rIxL K) := h ▸ ix_list
theorem pg_tupK {k : Nat} (hK : X.K = K) (hc : X.calm = true) (h : PGs X es t)
    (hn : (assignEach es X.env).length = n := by rfl) (hst : (assignEach es X.env).findIdx? (·.1) = none := by rfl) : PG X (.Tuple es k pos) (gTup K n t) := hK ▸ pg_tup hc h hn hst
variable {o e : Expr} {to : TE} {ta : TA} {name : Str} {apos cpos : Pos} {T id : String} {r : V → List V → Hp → VK → Prop}
end
end L2

namespace Bt
open PySem
theorem len : bootBuiltins "len" = some (.builtin "len") := by decide +kernel
theorem max : bootBuiltins "max" = some (.builtin "max") := by decide +kernel
theorem min : bootBuiltins "min" = some (.builtin "min") := by decide +kernel
theorem sum : bootBuiltins "sum" = some (.builtin "sum") := by decide +kernel
theorem sorted : bootBuiltins "sorted" = some (.builtin "sorted") := by decide +kernel
theorem any : bootBuiltins "any" = some (.builtin "any") := by decide +kernel
theorem all : bootBuiltins "all" = some (.builtin "all") := by decide +kernel
theorem isinstance : bootBuiltins "isinstance" = some (.builtin "isinstance") := by decide +kernel
theorem abs : bootBuiltins "abs" = some (.builtin "abs") := by decide +kernel
theorem ord : bootBuiltins "ord" = some (.builtin "ord") := by decide +kernel
theorem int : bootBuiltins "int" = some (.type "int") := by decide +kernel
theorem str : bootBuiltins "str" = some (.type "str") := by decide +kernel
theorem bool : bootBuiltins "bool" = some (.type "bool") := by decide +kernel
theorem list : bootBuiltins "list" = some (.type "list") := by decide +kernel
theorem tuple : bootBuiltins "tuple" = some (.type "tuple") := by decide +kernel
theorem dict : bootBuiltins "dict" = some (.type "dict") := by decide +kernel
theorem range : bootBuiltins "range" = some (.type "range") := by decide +kernel
theorem zip : bootBuiltins "zip" = some (.type "zip") := by decide +kernel
theorem enumerate : bootBuiltins "enumerate" = some (.type "enumerate") := by decide +kernel
end Bt

/-! ### the rules whose looks at names the kernel alone checks -/
namespace L2
open PySem PySem.Spec PyProof.Rows
section
variable {X : Cx} {CX : CXT} {k : Nat} {f C : Addr} {fd : FuncData} {ps : List Str} {sp : Sp} {dvs : List V} {ds : List Value} {E : XK} {x m : Str} {p pos apos pos' : Pos} {e o : Expr} {es : List Expr} {ta te : TE} {t : TA} {id T : String} {r : List V → Hp → VK → Prop}
/-- a name of the frame's own -/
theorem pvl (i : Nat) (hN : X.N[i]? = some x := by kernel_rfl) (hv : X.env.scope.names.lookup x = some .local := by kernel_rfl) (hd : (x == ("__debug__" : Str)) = false := by kernel_rfl) (hcd : (x == ("__classdict__" : Str)) = false := by kernel_rfl) :
    PE X (.Name x pos) (tVar i) := pe_var hN (.inl hv) hd hcd
/-- a name with a cell -/
theorem pvc (i : Nat) (hN : X.N[i]? = some x := by kernel_rfl) (hv : X.env.scope.names.lookup x = some .cell := by kernel_rfl) (hd : (x == ("__debug__" : Str)) = false := by kernel_rfl) (hcd : (x == ("__classdict__" : Str)) = false := by kernel_rfl) :
    PE X (.Name x pos) (tVar i) := pe_var hN (.inr (.inl hv)) hd hcd
theorem pgl (i : Nat) (hN : X.N.Nodup) (hi : X.N[i]? = some x := by kernel_rfl) (hx : X.env.scope.names.lookup x = some .local := by kernel_rfl) : PG X (.Name x pos) (gName i) := pg_name hN hi (.inl hx) (.inr hx)
theorem psl (i : Nat) (hN : X.N.Nodup) (he : PE X e te) (hi : X.N[i]? = some x := by kernel_rfl) (hx : X.env.scope.names.lookup x = some .local := by kernel_rfl) (hs : swapsWith e (some (.Name x pos')) pos.line X.env = pure false := by rfl) :
    PS X (.Assign [.Name x pos'] e pos) (tAsg te (gName i)) := ps_set hN hi (.inl hx) he hs (.inr hx)
theorem psc (i : Nat) (hN : X.N.Nodup) (he : PE X e te) (hi : X.N[i]? = some x := by kernel_rfl) (hx : X.env.scope.names.lookup x = some .cell := by kernel_rfl) (hf : X.fn x = true := by kernel_rfl) (hs : swapsWith e (some (.Name x pos')) pos.line X.env = pure false := by kernel_rfl) :
    PS X (.Assign [.Name x pos'] e pos) (tAsg te (gName i)) := ps_set hN hi (.inr hx) he hs (.inl hf)
theorem pal (i : Nat) {op : Operator} {ti : TIp} (hN : X.N.Nodup) (he : PE X e te) (ho : PIp X op ti) (hi : X.N[i]? = some x := by kernel_rfl) (hx : X.env.scope.names.lookup x = some .local := by kernel_rfl) :
    PS X (.AugAssign (.Name x pos') op e pos) (tAug i te ti) := ps_aug hN hi (.inl hx) he ho (.inr hx)
theorem pcall (F : FnOk X.prog X.w X.K X.mg X.base CX k f fd ps sp) (hr : Room k X.A) (hm : X.mg x = some (.ref f)) (hk : PySem.W.keepIn X.K (.ref f) = true) (hb : Binds X.K fd ps []) (hx : Passes CX X E) (ha : PA X (e :: es) t)
    (hg : X.env.scope.names.lookup x = some .globalImplicit := by kernel_rfl) (hdb : (x == ("__debug__" : Str)) = false := by kernel_rfl) (he : starEach (e :: es) X.env = (false, eval e X.env) :: starEach es X.env := by rfl) (hpl : (backTo pos (starEach es X.env)).any (·.1) = false := by rfl) :
    PE X (.Call (.Name x p) (e :: es) [] pos) (tCall sp [] E t) := pe_call F hr hg hm hk hb .nil hx ha hdb he hpl
theorem pcallB (hc : CallR X (.builtin id) r) (hm : X.mg x = none) (hv : bootBuiltins x = some (.builtin id)) (ha : PA X (e :: es) t) (hg : X.env.scope.names.lookup x = some .globalImplicit := by kernel_rfl) (hn : (x == ("__name__" : Str)) = false := by kernel_rfl) (hdb : (x == ("__debug__" : Str)) = false := by kernel_rfl)
    (he : starEach (e :: es) X.env = (false, eval e X.env) :: starEach es X.env := by rfl) (hpl : (backTo pos (starEach es X.env)).any (·.1) = false := by rfl) : PE X (.Call (.Name x p) (e :: es) [] pos) (tCB r t) := pe_callB hc hg hm hv ha (by simpa using hn) hdb he hpl
theorem pcallT (hc : CallR X (.type T) r) (hm : X.mg x = none) (hv : bootBuiltins x = some (.type T)) (ha : PA X (e :: es) t) (hg : X.env.scope.names.lookup x = some .globalImplicit := by kernel_rfl) (hn : (x == ("__name__" : Str)) = false := by kernel_rfl) (hdb : (x == ("__debug__" : Str)) = false := by kernel_rfl)
    (he : starEach (e :: es) X.env = (false, eval e X.env) :: starEach es X.env := by rfl) (hpl : (backTo pos (starEach es X.env)).any (·.1) = false := by rfl) : PE X (.Call (.Name x p) (e :: es) [] pos) (tCB r t) := pe_callTy hc hg hm hv ha (by simpa using hn) hdb he hpl
theorem pbltn {v : V} {u : Value} (hm : X.mg x = none) (hv : bootBuiltins x = some u) (hr : RelV v u) (hg : X.env.scope.names.lookup x = some .globalImplicit := by kernel_rfl) (hn : (x == ("__name__" : Str)) = false := by kernel_rfl) (hdb : (x == ("__debug__" : Str)) = false := by kernel_rfl) :
    PE X (.Name x pos) (tC v) := pe_bltn hg hm hv hr (by simpa using hn) hdb
theorem pglob {v : V} {u : Value} (hm : X.mg x = some u) (hr : RelV v u) (hg : X.env.scope.names.lookup x = some .globalImplicit := by kernel_rfl) (hdb : (x == ("__debug__" : Str)) = false := by kernel_rfl) : PE X (.Name x pos) (tC v) := pe_glob hg hm hr hdb
theorem prange1 {tg a : Expr} (hm : X.mg "range" = none) (ha : PA X [a] t) (hg : X.env.scope.names.lookup ("range" : Str) = some .globalImplicit := by kernel_rfl) (hs : starEach [a] X.env = [(false, eval a X.env)] := by rfl) : PI X tg (.Call (.Name "range" p) [a] [] pos) (iRng1 t) := pi_range1 hg hm ha hs
end
end L2

/-! ### exceptions of own classes: raised, passed on -/
namespace L2
open PySem PySem.Spec PyProof.Rows
/-- an exception of the class at C flies out of a call: s, H ahead of it, s', H' behind it -/
structure Fly (P : Program) (w : World) (outer : List Env) (H H' : Hp) (s s' : Shared) (a C : Addr) : Prop where
  os : s'.os = s.os
  bare : AllBare s'.gens
  un : Un (frs outer) [] H H' s.heap s'.heap
  hok : HOk P w H' s'.heap
  free : H' a = none
  fl : ∃ (B : Heap) (a0 : Value), Heap.FlyingW B outer a (.ref C) a0 s'.heap ∧ (∀ b o, s.heap.get? b = some o → H b = none → b ∉ frs outer → B.get? b = some o) ∧ (∀ b o, s.heap.get? b = some o → b ∉ frs outer → ∃ o', B.get? b = some o') ∧ ∀ b, H' b ≠ none → ∃ o, s'.heap.get? b = some o ∧ B.get? b = some o
/-- how an exception lies behind a call -/
def CX1 (P : Program) (w : World) : CXT := fun outer H s E e s' => ∃ a C H', e = .ref a ∧ Fly P w outer H H' s s' a C ∧ E (.ref C) none H'
theorem hok_there {P : Program} {w : World} {H : Hp} {h : Heap} (x : HOk P w H h) {b : Addr} (e : H b ≠ none) : ∃ o, h.get? b = some o := by
  cases q : H b with
  | none => exact absurd q e
  | some u =>
    have z := x b u q
    cases u with
    | lst xs => obtain ⟨_, _, _, _, e⟩ := z; exact ⟨_, e⟩
    | tup xs => obtain ⟨_, _, _, o, e, _⟩ := z; exact ⟨_, e⟩
    | dK kvs => obtain ⟨_, _, _, _, o, _, _, e, _⟩ := z; exact ⟨_, e⟩
    | dT kvs => obtain ⟨_, _, _, _, o, _, _, e, _⟩ := z; exact ⟨_, e⟩
    | set S n => obtain ⟨o, _, _, _, e, _⟩ := z; exact ⟨_, e⟩
    | ins C dx fs => obtain ⟨_, _, _, e, _⟩ := z; exact ⟨_, e⟩
    | own y => obtain ⟨_, e⟩ := z; exact ⟨_, e⟩
    | xd fs => obtain ⟨_, ⟨_, _, _, e, _⟩, _⟩ := z; exact ⟨_, e⟩
    | rng lo hi => obtain ⟨_, _, _, e⟩ := z; exact ⟨_, e⟩
    | frz ob v => obtain ⟨e, _⟩ := z; exact ⟨_, e⟩
    | tbl ps =>
      have z : h.get? b = some _ := z
      exact ⟨_, z⟩
    | met f y =>
      have z : h.get? b = some _ := z
      exact ⟨_, z⟩
    | ext φ => obtain ⟨_, ⟨_, e⟩, _⟩ := z; exact ⟨_, e⟩
/-- behind a step that keeps what is not hidden and the frames up to their slots -/
theorem un_after {fr : List Addr} {H0 H1 H2 : Hp} {h0 h1 h2 : Heap} (u : Un fr [] H0 H1 h0 h1) (keep : ∀ b o, h1.get? b = some o → H1 b = none → b ∉ fr → h0.get? b = some o → h2.get? b = some o)
    (slot : ∀ b o, h1.get? b = some o → H1 b = none → b ∈ fr → ∃ sl, h2.get? b = some { o with slots := sl }) (free : ∀ b, H1 b = none → (∃ o, h1.get? b = some o) → H2 b = none)
    (there : ∀ b o, h0.get? b = some o → ∃ o', h2.get? b = some o') (tups : ∀ b xs, H1 b = some (.tup xs) → H2 b = some (.tup xs)) (frzs : ∀ b o x, H1 b = some (.frz o x) → H2 b = some (.frz o x))
    (tbls : ∀ b ps, H1 b = some (.tbl ps) → ∃ more, H2 b = some (.tbl (ps ++ more))) : Un fr [] H0 H2 h0 h2 where
  keep := fun b o e n hb hx => keep b o (u.keep b o e n hb hx) (u.free b o e n hx) hb e
  slot := fun b o e n hb hx => by
    obtain ⟨sl, e1⟩ := u.slot b o e n hb hx
    obtain ⟨sl', e2⟩ := slot b _ e1 (u.free b o e n hx) hb
    exact ⟨sl', e2⟩
  free := fun b o e n hx => by
    obtain ⟨o', e1⟩ := u.there b o e hx
    exact free b (u.free b o e n hx) ⟨o', e1⟩
  there := fun b o e hx => there b o e
  tups := fun b xs e => tups b xs (u.tups b xs e)
  frzs := fun b o x e => frzs b o x (u.frzs b o x e)
  tbls := fun b ps e => by
    obtain ⟨m1, e1⟩ := u.tbls b ps e
    obtain ⟨m2, e2⟩ := tbls b _ e1
    exact ⟨m1 ++ m2, by rw [e2, Array.append_assoc]⟩
section
variable {P : Program} {w : World} {K : PySem.W.Frag} {mg : Str → Option Value} {base : Heap} {N : List Str} {qual : Str} {scope : Scope} {f : Addr} {cd : Value} {A : Around} {outer : List Env} {s : Shared} {H : Hp} {E : XK}
/-- raised in this frame -/
theorem fly_made {CX : CXT} {pins : List (Addr × Obj)} {σ : St} {H1 : Hp} {s1 : Shared} {h' : Heap} {e C : Addr} {vs : List Value} {Q : Unit → Shared → Prop} {EE : Value → Shared → Prop} (I : Inv (cxOf CX P w K mg base N qual scope f cd A outer s H E) pins σ H1 s1) (hx : Heap.MadeExcOf s1.heap h' e (.ref C) vs)
    (hQ : ∀ h2, Fly P w outer H H1 s { s1 with heap := h2 } e C → Q () { s1 with heap := h2 }) :
    wpAny (model P w) (cxOf CX P w K mg base N qual scope f cd A outer s H E).A (leaving (cxOf CX P w K mg base N qual scope f cd A outer s H E).env (.ref e)) Q EE { s1 with heap := h' } := by
  have fm : ∀ b ∈ frs (cxOf CX P w K mg base N qual scope f cd A outer s H E).stack, s1.heap.get? b ≠ none := fun b hb => by
    obtain ⟨_, o, ho, _⟩ := I.stack.mem hb
    rw [ho]
    exact fun z => by cases z
  have inB : ∀ b o, s1.heap.get? b = some o → b ∉ frs (cxOf CX P w K mg base N qual scope f cd A outer s H E).stack → (PySem.W.hideAll s1.heap (frs (cxOf CX P w K mg base N qual scope f cd A outer s H E).stack)).get? b = some o := fun b o e hb => PySem.W.hideAll_get _ e hb
  have hl : s1.heap.FunFrames (PySem.W.hideAll s1.heap (frs (cxOf CX P w K mg base N qual scope f cd A outer s H E).stack)) (cxOf CX P w K mg base N qual scope f cd A outer s H E).stack :=
    PySem.W.funFrames_hide I.stack fun env he b hb => List.mem_filterMap.mpr ⟨env, he, hb⟩
  refine wpAny_leaves_madeW (base := PySem.W.hideAll s1.heap (frs (cxOf CX P w K mg base N qual scope f cd A outer s H E).stack)) (h := s1.heap) I.ok.frames rfl (fun b o q => PySem.W.of_hideAll _ q) hl hx fun h2 t fl tup hnt hsm => hQ h2 ?_
  have keepB : ∀ b o, s1.heap.get? b = some o → b ∉ frs (cxOf CX P w K mg base N qual scope f cd A outer s H E).stack → h2.get? b = some o := fun b o e hb => fl.1 b o (inB b o e hb)
  have below : ∀ b o, s.heap.get? b = some o → b ∉ frs outer → b ∉ frs (cxOf CX P w K mg base N qual scope f cd A outer s H E).stack := fun b o e hb z => by
    rcases List.mem_cons.mp (I.stkSub b z) with q | q
    · have h1 := Heap.lt_size e
      rw [q] at h1
      exact absurd (Nat.lt_of_lt_of_le h1 I.ok.above) (Nat.lt_irrefl _)
    · exact hb q
  have frm : ∀ b ∈ frs (cxOf CX P w K mg base N qual scope f cd A outer s H E).stack, ∀ o, s1.heap.get? b = some o → ∃ sl, h2.get? b = some { o with slots := sl } := fun b hb o e => by
    obtain ⟨_, o', ho, hd⟩ := I.stack.mem hb
    rw [e] at ho
    cases ho
    exact hsm b o (hx.keeps b o e) hd
  have sub : ∀ b ∈ frs outer, b ∈ frs (cxOf CX P w K mg base N qual scope f cd A outer s H E).stack := fun b hb => by
    show b ∈ frs (_ :: outer)
    unfold frs at hb ⊢
    obtain ⟨env, he, hf⟩ := List.mem_filterMap.mp hb
    exact List.mem_filterMap.mpr ⟨env, List.mem_cons_of_mem _ he, hf⟩
  have trk : ∀ b, H1 b ≠ none → ∃ o, h2.get? b = some o ∧ (PySem.W.hideAll s1.heap (frs (cxOf CX P w K mg base N qual scope f cd A outer s H E).stack)).get? b = some o := fun b hb => by
    obtain ⟨o, ho⟩ := hok_there I.hok hb
    have nb : b ∉ frs (cxOf CX P w K mg base N qual scope f cd A outer s H E).stack := fun z => hb (I.stkFree b z)
    exact ⟨o, keepB b o ho nb, inB b o ho nb⟩
  refine ⟨I.os, I.bare, un_after I.base (fun b o e _ hb e0 => keepB b o e (below b o e0 hb)) (fun b o e _ hb => frm b (sub b hb) o e) (fun b n _ => n) (fun b o e => ?_) (fun _ _ q => q) (fun _ _ _ q => q) (fun b ps q => ⟨#[], by rw [q]; simp⟩), fun b o q => ?_, ?_, _, _, fl, fun b o e n hb => ?_, fun b o e hb => ?_, trk⟩
  · obtain ⟨o', e1⟩ := I.base.there b o e (by show b ∉ []; simp)
    by_cases hb : b ∈ frs (cxOf CX P w K mg base N qual scope f cd A outer s H E).stack
    · obtain ⟨sl, e2⟩ := frm b hb o' e1
      exact ⟨_, e2⟩
    · exact ⟨o', keepB b o' e1 hb⟩
  · refine (I.hok b o q).stay (fun c u hc e => ?_) (fun _ z => z) fun _ _ z => z
    have hc' : H1 c ≠ none := by
      rcases hc with rfl | hc
      · rw [q]; exact fun z => by cases z
      · rw [hc]; exact fun z => by cases z
    exact keepB c u e fun z => hc' (I.stkFree c z)
  · cases q : H1 e with
    | none => rfl
    | some u =>
      obtain ⟨o, ho⟩ := hok_there I.hok (b := e) (by rw [q]; exact fun z => by cases z)
      rw [hx.new] at ho
      cases ho
  · have e1 := I.base.keep b o e n hb (by show b ∉ []; simp)
    exact inB b o e1 (below b o e hb)
  · obtain ⟨o', e1⟩ := I.base.there b o e (by show b ∉ []; simp)
    exact ⟨o', inB b o' e1 (below b o e hb)⟩
/-- passed on from a callee -/
theorem fly_on {CX : CXT} {pins : List (Addr × Obj)} {σ : St} {H1 H2 : Hp} {s1 s2 : Shared} {e C : Addr} {Q : Unit → Shared → Prop} {EE : Value → Shared → Prop} (I : Inv (cxOf CX P w K mg base N qual scope f cd A outer s H E) pins σ H1 s1) (F : Fly P w (cxOf CX P w K mg base N qual scope f cd A outer s H E).stack H1 H2 s1 s2 e C)
    (hQ : ∀ h2, Fly P w outer H H2 s { s2 with heap := h2 } e C → Q () { s2 with heap := h2 }) :
    wpAny (model P w) (cxOf CX P w K mg base N qual scope f cd A outer s H E).A (leaving (cxOf CX P w K mg base N qual scope f cd A outer s H E).env (.ref e)) Q EE s2 := by
  obtain ⟨fos, fbare, fun_, fhok, ffree, B, a0, hfl, hst, hth, htr⟩ := F
  refine wpAny_leaves_onW I.ok.frames rfl hfl fun h2 fl hsm => hQ h2 ?_
  have below : ∀ b o, s.heap.get? b = some o → b ∉ frs outer → b ∉ frs (cxOf CX P w K mg base N qual scope f cd A outer s H E).stack := fun b o e hb z => by
    rcases List.mem_cons.mp (I.stkSub b z) with q | q
    · have h1 := Heap.lt_size e
      rw [q] at h1
      exact absurd (Nat.lt_of_lt_of_le h1 I.ok.above) (Nat.lt_irrefl _)
    · exact hb q
  have sub : ∀ b ∈ frs outer, b ∈ frs (cxOf CX P w K mg base N qual scope f cd A outer s H E).stack := fun b hb => by
    show b ∈ frs (_ :: outer)
    unfold frs at hb ⊢
    obtain ⟨env, he, hf⟩ := List.mem_filterMap.mp hb
    exact List.mem_filterMap.mpr ⟨env, List.mem_cons_of_mem _ he, hf⟩
  have frm : ∀ b ∈ frs (cxOf CX P w K mg base N qual scope f cd A outer s H E).stack, ∀ o, s1.heap.get? b = some o → ∃ sl, h2.get? b = some { o with slots := sl } := fun b hb o e => by
    obtain ⟨sl, e1⟩ := fun_.slot b o e (I.stkFree b hb) hb (by simp)
    obtain ⟨_, o', ho, hd⟩ := I.stack.mem hb
    rw [e] at ho
    cases ho
    obtain ⟨sl', e2⟩ := hsm b _ e1 hd
    exact ⟨sl', e2⟩
  have keepB : ∀ b o, s1.heap.get? b = some o → H1 b = none → b ∉ frs (cxOf CX P w K mg base N qual scope f cd A outer s H E).stack → h2.get? b = some o := fun b o e n hb => fl.1 b o (hst b o e n hb)
  have trk : ∀ b, H2 b ≠ none → ∃ o, s2.heap.get? b = some o ∧ h2.get? b = some o ∧ B.get? b = some o := fun b hb => by
    obtain ⟨o, e1, e2⟩ := htr b hb
    exact ⟨o, e1, fl.1 b o e2, e2⟩
  refine ⟨fos.trans I.os, fbare, un_after I.base (fun b o e n hb e0 => keepB b o e n (below b o e0 hb)) (fun b o e _ hb => frm b (sub b hb) o e) (fun b n ⟨o, e⟩ => fun_.free b o e n (by simp)) (fun b o e => ?_) (fun b xs q => fun_.tups b xs q) (fun b o x q => fun_.frzs b o x q) (fun b ps q => fun_.tbls b ps q), fun b o q => ?_, ffree, B, a0, fl, fun b o e n hb => ?_, fun b o e hb => ?_, fun b hb => ?_⟩
  · obtain ⟨o', e1⟩ := I.base.there b o e (by show b ∉ []; simp)
    by_cases hb : b ∈ frs (cxOf CX P w K mg base N qual scope f cd A outer s H E).stack
    · obtain ⟨sl, e2⟩ := frm b hb o' e1
      exact ⟨_, e2⟩
    · obtain ⟨o2, e2⟩ := hth b o' e1 hb
      exact ⟨o2, fl.1 b o2 e2⟩
  · refine (fhok b o q).stay (fun c u hc e => ?_) (fun _ z => z) fun _ _ z => z
    have hc' : H2 c ≠ none := by
      rcases hc with rfl | hc
      · rw [q]; exact fun z => by cases z
      · rw [hc]; exact fun z => by cases z
    obtain ⟨o', e1, e2, _⟩ := trk c hc'
    have e : s2.heap.get? c = some u := e
    rw [e1] at e
    cases e
    exact e2
  · have e1 := I.base.keep b o e n hb (by show b ∉ []; simp)
    exact hst b o e1 (I.base.free b o e n (by show b ∉ []; simp)) (below b o e hb)
  · obtain ⟨o', e1⟩ := I.base.there b o e (by show b ∉ []; simp)
    exact hth b o' e1 (below b o e hb)
  · obtain ⟨o, _, e2, e3⟩ := trk b hb
    exact ⟨o, e2, e3⟩
end
end L2

namespace L2
open PySem PySem.Spec PyProof.Rows
/-- what is raised in this frame reaches what is wanted of exceptions -/
def Raises (X : Cx) (E : XK) : Prop := ∀ (pins : List (Addr × Obj)) (σ : St) (H : Hp) (s : Shared) (h' : Heap) (e C : Addr) (vs : List Value), Inv X pins σ H s → Heap.MadeExcOf s.heap h' e (.ref C) vs → E (.ref C) none H → X.xe (.ref e) { s with heap := h' }
section
variable {P : Program} {w : World} {K : PySem.W.Frag} {mg : Str → Option Value} {base : Heap} {N : List Str} {qual : Str} {scope : Scope} {f : Addr} {cd : Value} {A : Around} {outer : List Env} {s : Shared} {H : Hp} {E : XK}
theorem raises1 : Raises (cxOf (CX1 P w) P w K mg base N qual scope f cd A outer s H E) E := fun pins σ H1 s1 h' e C vs I hx q => fly_made I hx fun h2 F => ⟨e, C, H1, rfl, F, q⟩
theorem passes1 : Passes (CX1 P w) (cxOf (CX1 P w) P w K mg base N qual scope f cd A outer s H E) E := fun pins σ H1 s1 e s2 I ⟨a, C, H2, ea, F, q⟩ => by
  subst ea
  exact fly_on I F fun h2 F2 => ⟨a, C, H2, rfl, F2, q⟩
theorem own1 : PassesOwn (model (cxOf (CX1 P w) P w K mg base N qual scope f cd A outer s H E).prog (cxOf (CX1 P w) P w K mg base N qual scope f cd A outer s H E).w) (cxOf (CX1 P w) P w K mg base N qual scope f cd A outer s H E).A (cxOf (CX1 P w) P w K mg base N qual scope f cd A outer s H E).env (cxOf (CX1 P w) P w K mg base N qual scope f cd A outer s H E).xe :=
  PassesOwn.leaving
end
/-- a callee that is shown not to raise -/
theorem never1 {P : Program} {w : World} {X : Cx} : Passes (CX1 P w) X E0 := fun _ _ _ _ _ _ _ ⟨_, _, _, _, _, q⟩ => q.elim
section
variable {P : Program} {w : World} {K : PySem.W.Frag} {mg : Str → Option Value} {base : Heap}
/-- THE RULE for a def that may raise -/
theorem Fun.ok1 {x qual : Str} {st : Stmt} {f : Addr} {fd : FuncData} {N ps : List Str} {k : Nat} {sp : Sp} (F : Fun K x qual st f fd) (S : FnScope N ps (defScope st)) (len : ∀ vs H Q E, sp vs H Q E → vs.length = ps.length)
    (hbody : ∀ (cdv : Value) (A : Around) (outer : List Env) (s : Shared) (H : Hp) (vs : List V) (Q : VK) (E : XK), Room k (A.deeper (envOfC qual (defScope st) s.heap.objs.size f cdv)) → sp vs H Q E →
      ∃ t, PSs (cxOf (CX1 P w) P w K mg base N qual (defScope st) f cdv A outer s H E) (defBody st) t ∧ t { nx := fun _ H' => Q .non H', rt := Q } (start N vs) H) : FnOk P w K mg base (CX1 P w) (k + 1) f fd ps sp := by
  obtain ⟨oc, od, kV, doc, pm, an, cdv, ct, osl, rfl, lk, hcd⟩ := F.ex
  exact fn_of lk hcd S len fun A outer s H vs Q E hr hsp => hbody cdv A outer s H vs Q E hr hsp
end
/-- the mro behind the own classes -/
abbrev bmV : List Value := [.type "ValueError", .type "Exception", .type "BaseException", .type "object"]
theorem own_obj {K : PySem.W.Frag} {h : Heap} {C : Addr} {bmB : List Value} {newId : String} (X : K.In h) (q : PySem.W.excIn K C bmB newId = true) :
    ∃ bm N nm qn bs hdct sn sub ab col dd k0 k1 k2 k3 k5 mN, h.get? C = some (excClassObj nm qn C N bs bm hdct sn sub ab col dd k0 k1 k2 k3 k5 newId) ∧ h.Ns N mN ∧ mN "__init__" = none ∧ OwnTail h bmB bm := by
  unfold PySem.W.excIn at q
  split at q
  · rename_i dd cd sl ho
    split at q
    · rename_i C' bm k0 k1 k2 k3 n k5 hm hs
      simp only [Bool.and_eq_true, beq_iff_eq, Bool.not_eq_true'] at q
      obtain ⟨⟨⟨⟨⟨e1, e2⟩, hdel⟩, ht⟩, hok⟩, hni⟩ := q
      subst e1 e2
      obtain ⟨nm, bs, mro, ns, qn, hd, sn, sub, ab, col, del⟩ := cd
      dsimp only at hm hdel hok hni
      subst hm hdel
      have hsl : sl = #[k0, k1, k2, k3, some (.builtin n), k5] := by
        obtain ⟨l⟩ := sl
        simp only at hs
        rw [hs]
      subst hsl
      exact ⟨bm, ns, nm, qn, bs, hd, sn, sub, ab, col, dd, k0, k1, k2, k3, k5, _, X _ _ ho, .of_isNs (PySem.W.isNs_of_in X hok), PySem.W.nsMap_none_of_in X hok hni, PySem.W.tail_of_in X ht⟩
    · cases q
  · cases q
/-- raise C(..) -/
def tRaise (C : Addr) (E : XK) (t : TA) : TS := fun _ σ H => t σ H fun vs H1 => vs.length ≤ sizeLine ∧ E (.ref C) none H1
section
variable {X : Cx} {E : XK} {C : Addr} {x : Str} {np cpos pos : Pos} {e : Expr} {es : List Expr} {t : TA}
theorem ps_raise (hR : Raises X E) (hc : X.calm = true) (hm : X.mg x = some (.ref C)) (q : PySem.W.excIn X.K C bmV "ValueError.__new__" = true) (ha : PA X (e :: es) t)
    (hg : X.env.scope.names.lookup x = some .globalImplicit := by kernel_rfl) (hdb : (x == ("__debug__" : Str)) = false := by kernel_rfl)
    (he : starEach (e :: es) X.env = (false, eval e X.env) :: starEach es X.env := by rfl) (hpl : (backTo cpos (starEach es X.env)).any (·.1) = false := by rfl) :
    PS X (.Raise (some (.Call (.Name x np) (e :: es) [] cpos)) none pos) (tRaise C E t) := by
  intro pins s σ H D I h
  obtain ⟨tl, N, nm, qn, bs, hdct, sn, sub, ab, col, dd, k0, k1, k2, k3, k5, mN, hC, hN, hni, T⟩ := own_obj I.mod.kin q
  refine wpAny_Raise_call_subT (C := C) (nm := nm) (q := qn) (N := N) (bs := bs) (bm := tl) (hdct := hdct) (sn := sn) (sub := sub) (ab := ab) (col := col) (dd := dd) (k0 := k0) (k1 := k1) (k2 := k2) (k3 := k3) (k5 := k5)
    PySem.F.excBase_ValueError (mN := mN) (T.hasType PySem.F.excBase_ValueError.hasBase) (I.ok.hd hc) (by rw [he]; show (false || (backTo cpos (starEach es X.env)).any (·.1)) = false; rw [hpl]; rfl) hni (ld_glob I hg hm ⟨rfl, ?_⟩ hdb)
  have ha' := ha cpos pins s σ H _ I h
  rw [he] at ha' ⊢
  refine Calls.evalArgs_plain (wpAny_mono ha' (fun us s2 h2 => ?_) fun _ _ y => y)
  obtain ⟨vs, H2, I2, rv, hl, hE⟩ := h2
  refine ⟨rfl, by rw [← rv.length]; exact hl, I2.bk _ _ hC, hN.keeps I2.bk, T.keeps I2.bk, fun h' e' hx => hR pins σ H2 s2 h' e' C us I2 hx hE⟩
end
end L2

/-! ### try: .. except C as n: .. -/
namespace L2
open PySem PySem.Spec PyProof.Rows
/-- an exception out of a callee, ahead of it the state with these locals -/
def XP (X : Cx) (pins : List (Addr × Obj)) (σ : St) (EX : XK) : Value → Shared → Prop := fun e s' => ∃ H1 s1, Inv X pins σ H1 s1 ∧ CX1 X.prog X.w X.stack H1 s1 EX e s'
abbrev TEX := St → Hp → VK → XK → Prop
abbrev TSX := Ends → XK → St → Hp → Prop
def PEX (X : Cx) (e : Expr) (t : TEX) : Prop :=
  ∀ (pins : List (Addr × Obj)) (s : Shared) (σ : St) (H : Hp) (Q : VK) (EX : XK), Inv X pins σ H s → t σ H Q EX → wpAny (model X.prog X.w) X.A (eval e X.env) (EP X pins σ Q) (XP X pins σ EX) s
def PSX (X : Cx) (st : Stmt) (t : TSX) : Prop :=
  ∀ (pins : List (Addr × Obj)) (s : Shared) (σ : St) (H : Hp) (D : Ends) (EX : XK), Inv X pins σ H s → t D EX σ H → wpAny (model X.prog X.w) X.A (exec st X.env) (SP X pins D) (XP X pins σ EX) s
def PSXs (X : Cx) (st : List Stmt) (t : TSX) : Prop :=
  ∀ (pins : List (Addr × Obj)) (s : Shared) (σ : St) (H : Hp) (D : Ends) (EX : XK), Inv X pins σ H s → t D EX σ H → wpAny (model X.prog X.w) X.A (execs st X.env) (SP X pins D) (XP X pins σ EX) s
def tCallX (sp : Sp) (dvs : List V) (t : TA) : TEX := fun σ H Q EX => t σ H fun vs H1 => sp (vs ++ dvs) H1 Q EX
section
variable {X : Cx} {k : Nat} {f C : Addr} {fd : FuncData} {ps : List Str} {sp : Sp} {dvs : List V} {ds : List Value} {x m : Str} {p pos apos : Pos} {e o : Expr} {es : List Expr} {ta : TE} {t : TA}
theorem run_fnX {pins : List (Addr × Obj)} {σ : St} {H : Hp} {s : Shared} {Q : VK} {EX : XK} {us : List Value} {vs : List V} (F : FnOk X.prog X.w X.K X.mg X.base (CX1 X.prog X.w) k f fd ps sp) (hr : Room k X.A) (hb : Binds X.K fd ps ds) (hd : Vals dvs ds)
    (I : Inv X pins σ H s) (r : Vals vs us) (h : sp (vs ++ dvs) H Q EX) : wpAny (model X.prog X.w) X.A (call (.ref f) us) (EP X pins σ Q) (XP X pins σ EX) s := by
  have r2 : Vals (vs ++ dvs) (us ++ ds) := r.append hd
  have hl : (us ++ ds).length = ps.length := by rw [← r2.length]; exact F.len _ _ _ _ h
  refine wpAny_call (codeAny_mono (F.run X.A X.stack s H ⟨us, []⟩ (us ++ ds) (vs ++ dvs) Q EX hr I.env0 (hb s us I.kIn hl) r2 h) fun r s' hq => ?_)
  cases r with
  | error e => exact ⟨H, s, I, hq⟩
  | ok fl =>
    cases fl with
    | ret u => exact I.after hq
    | next => exact False.elim hq
    | brk => exact False.elim hq
    | cont => exact False.elim hq
theorem pex_call (F : FnOk X.prog X.w X.K X.mg X.base (CX1 X.prog X.w) k f fd ps sp) (hr : Room k X.A) (hg : Gl X x) (hm : X.mg x = some (.ref f)) (hk : PySem.W.keepIn X.K (.ref f) = true) (hb : Binds X.K fd ps ds) (hd : Vals dvs ds)
    (ha : PA X.nox (e :: es) t) (hdb : (x == ("__debug__" : Str)) = false := by decide) (he : starEach (e :: es) X.env = (false, eval e X.env) :: starEach es X.env := by rfl) (hpl : (backTo pos (starEach es X.env)).any (·.1) = false := by rfl) :
    PEX X (.Call (.Name x p) (e :: es) [] pos) (tCallX sp dvs t) := by
  intro pins s σ H Q EX I h
  refine wpAny_Call_Name_kw (ld_glob I hg hm ?_ hdb)
  refine PySem.W.callWith_K (h₀ := X.base) I.ok.mod.kin hk (wpAny_mono (ha pos pins s σ H _ (I.wish _) h) (fun us s1 ⟨vs, H1, I1, r, q⟩ => ⟨I1.kIn, ?_⟩) fun _ _ z => False.elim z) he hpl
  exact run_fnX F hr hb hd I1.unwish r q
def tSetX (i : Nat) (te : TEX) : TSX := fun D EX σ H => te σ H (fun v H1 => D.nx (σ.set i (some v)) H1) EX
theorem psx_set {i : Nat} {te : TEX} {pos' : Pos} (hN : X.N.Nodup) (hi : X.N[i]? = some x) (hx : Loc X.env.scope x) (he : PEX X e te) (hs : swapsWith e (some (.Name x pos')) pos.line X.env = pure false := by rfl) (hf : X.fn x = true ∨ X.env.scope.names.lookup x = some .local := by first | exact .inl rfl | exact .inr rfl | assumption) :
    PSX X (.Assign [.Name x pos'] e pos) (tSetX i te) := by
  intro pins s σ H D EX I h
  refine wpAny_Assign_Name (wpAny_mono (he pins s σ H _ EX I h) (fun v s1 ⟨y, H1, I1, r1, q1⟩ => ?_) fun _ _ z => z) hs
  exact store_ok I1 hN hi hx r1 (fun s2 I2 => ⟨_, H1, I2, q1⟩) hf
theorem psxs_one {st : Stmt} {t : TSX} (h1 : PSX X st t) : PSXs X [st] t := by
  intro pins s σ H D EX I h
  refine wpAny_execs_cons (wpAny_mono (h1 pins s σ H D EX I h) (fun f s1 q => ?_) fun _ _ z => z)
  cases f with
  | next => exact wpAny_execs_nil q
  | ret v => exact q
  | brk => exact q
  | cont => exact q
end
/-- a class of exceptions of one's own: the mro behind it -/
def ecls (K : PySem.W.Frag) (C : Addr) : Option (List Value) := match K.lookup C with
  | some ⟨.type "type", _, .cls cd, sl⟩ => (match cd.mro, sl.toList with
    | .ref C' :: bm, [_, _, _, _, some (.builtin _), _] => if (C' == C && !cd.hasDel) = true then some bm else none
    | _, _ => none)
  | _ => none
theorem ecls_obj {K : PySem.W.Frag} {h : Heap} {C : Addr} {bm : List Value} (X : K.In h) (q : ecls K C = some bm) :
    ∃ N nm qn bs hdct sn sub ab col dd k0 k1 k2 k3 k5 newId, h.get? C = some (excClassObj nm qn C N bs bm hdct sn sub ab col dd k0 k1 k2 k3 k5 newId) := by
  unfold ecls at q
  split at q
  · rename_i dd cd sl ho
    split at q
    · rename_i C' bm' k0 k1 k2 k3 n k5 hm hs
      split at q
      · rename_i hc
        cases q
        simp only [Bool.and_eq_true, beq_iff_eq, Bool.not_eq_true'] at hc
        obtain ⟨e1, hdel⟩ := hc
        subst e1
        obtain ⟨nm, bs, mro, ns, qn, hd, sn, sub, ab, col, del⟩ := cd
        dsimp only at hm hdel
        subst hm hdel
        have hsl : sl = #[k0, k1, k2, k3, some (.builtin n), k5] := by
          obtain ⟨l⟩ := sl
          simp only at hs
          rw [hs]
        subst hsl
        exact ⟨ns, nm, qn, bs, hd, sn, sub, ab, col, dd, k0, k1, k2, k3, k5, n, X _ _ ho⟩
      · cases q
    · cases q
  · cases q
/-- the class at C is one of the class at M's -/
def under (K : PySem.W.Frag) (C M : Addr) : Bool := (ecls K C).any fun bm => (Value.ref C :: bm).contains (.ref M)
def catches (K : PySem.W.Frag) (M : Addr) : Bool := (ecls K M).any fun bm => bm.contains (.type "BaseException")
section
variable {M : Model} {A : Around} {E : Value → Shared → Prop}
variable {nm q nm' q' : Str} {C N C' N' : Addr} {bs bm bs' bm' : List Value} {hdct hdct' : Bool} {sn sn' : List Str} {sub sub' : List Value} {ab ab' : Bool} {col col' : Option Bool} {dd dd' : Option Addr} {k0 k1 k2 k3 k5 j0 j1 j2 j3 j5 : Option Value} {newId newId' : String}
theorem excMatches_under {h : Heap} {g : Array GenState} {d : Drawn} {t : Nat} {os : OsState} {e : Addr} {oe : Obj} {Q : Bool → Shared → Prop}
    (hC : h.get? C = some (excClassObj nm q C N bs bm hdct sn sub ab col dd k0 k1 k2 k3 k5 newId)) (hM : h.get? C' = some (excClassObj nm' q' C' N' bs' bm' hdct' sn' sub' ab' col' dd' j0 j1 j2 j3 j5 newId')) (he : h.get? e = some oe) (hcls : oe.cls = .ref C)
    (hbase : bm'.contains (.type "BaseException") = true) (hsub : (Value.ref C :: bm).contains (.ref C') = true)
    (hq : Q true ⟨h, g, d, t, os⟩) : wpAny M A (excMatches (.ref e) (.ref C')) Q E ⟨h, g, d, t, os⟩ := by
  have hcB : (Value.ref C' :: bm').contains (.type "BaseException") = true := by rw [List.contains_cons, hbase, Bool.or_true]
  have f := tc_notTuple
  unfold excMatches
  repeat (first | (with_reducible refine wpAny_loadPart_at he ?_; rw [hcls]) | with_reducible refine wpAny_loadPart_at hM ?_ | (with_reducible refine wpAny_isSubtype_exc hM ?_; rw [hcB]) | (with_reducible refine wpAny_isSubtype_exc hC ?_; rw [hsub]) | wp_step)
  exact hq
end
end L2

namespace L2
open PySem PySem.Spec PyProof.Rows
/-- within the handler of the exception at e -/
abbrev Cx.caught (X : Cx) (e : Addr) : Cx := { X with A := X.A.mark (some (.ref e)), calm := false, xe := fun _ _ => False }
theorem Cx.Ok.caught {X : Cx} (ok : X.Ok) (e : Addr) : (X.caught e).Ok :=
  ⟨ok.mod, ok.kind, ok.glob, ok.blt, ok.above, ok.inj, ok.has, ok.cab, (fun z => by cases z), ok.frames, ok.stk, ok.exf, ok.bs, ok.bsz, ok.noex, ok.exfs, ok.funs, ok.frf⟩
section
variable {X : Cx} {pins : List (Addr × Obj)} {σ : St} {H : Hp} {s : Shared}
theorem Inv.caught (I : Inv X pins σ H s) (e : Addr) : Inv (X.caught e) pins σ H s := ⟨I.ok.caught e, I.os, I.bare, I.base, I.loc, I.cell, I.free, I.freeC, I.pin, I.hok, I.len⟩
theorem Inv.uncaught {e : Addr} (I : Inv (X.caught e) pins σ H s) (ok : X.Ok) : Inv X pins σ H s := ⟨ok, I.os, I.bare, I.base, I.loc, I.cell, I.free, I.freeC, I.pin, I.hok, I.len⟩
/-- a thing that stood untracked, made here, is tracked from now on -/
theorem Inv.track {a : Addr} {o : HO} (I : Inv X pins σ H s) (hf : H a = none) (h0 : X.s₀.heap.get? a = none) (hL : a ≠ X.env.locals) (hc : ∀ x c, X.env.cells.lookup x = some c → c ≠ a) (hp : ∀ p ∈ X.pn ++ pins, p.1 ≠ a) (new : ObjOk X.prog X.w (upd H a o) s.heap a o) :
    Inv X pins σ (upd H a o) s := by
  have ne : ∀ b u, H b = some u → b ≠ a := fun b u e z => by rw [z, hf] at e; cases e
  refine ⟨I.ok, I.os, I.bare, ⟨I.base.keep, I.base.slot, fun b o' e n hx => ?_, I.base.there, fun b xs e => ?_, fun b o' u e => ?_, fun b ps e => ?_⟩, I.loc, I.cell, ?_, fun x c e => ?_, fun p q => ?_, fun b u e => ?_, I.len⟩
  · rw [upd_ne (fun z => by rw [z, h0] at e; cases e)]; exact I.base.free b o' e n hx
  · have z := I.base.tups b xs e; rw [upd_ne (ne _ _ z)]; exact z
  · have z := I.base.frzs b o' u e; rw [upd_ne (ne _ _ z)]; exact z
  · obtain ⟨more, z⟩ := I.base.tbls b ps e; exact ⟨more, by rw [upd_ne (ne _ _ z)]; exact z⟩
  · rw [upd_ne (Ne.symm hL)]; exact I.free
  · rw [upd_ne (hc x c e)]; exact I.freeC x c e
  · obtain ⟨e, n, r⟩ := I.pin p q
    exact ⟨e, by rw [upd_ne (hp p q)]; exact n, r⟩
  · by_cases hb : b = a
    · subst hb
      rw [upd_same] at e
      cases e
      exact new
    · rw [upd_ne hb] at e
      exact (I.hok b u e).stay (fun _ _ _ z => z) (fun c z => by rw [upd_ne (ne _ _ z)]; exact z) fun c xs z => by rw [upd_ne (ne _ _ z)]; exact z
/-- a local name is unbound -/
theorem goes_ok {M : Model} {A : Around} {E : Value → Shared → Prop} {i : Nat} {x : Str} {pos : Pos} {Q : Unit → Shared → Prop} (I : Inv X pins σ H s) (hN : X.N.Nodup) (hi : X.N[i]? = some x) (hk : X.env.scope.names.lookup x = some .local)
    (h : ∀ s', Inv X pins (σ.set i none) H s' → Q () s') : wpAny M A (do bindName X.env x .none; unbindBehindTheSuite X.env x pos) Q E s := by
  obtain ⟨m, hn, hl⟩ := id I.loc
  have hcls : (X.env.scope.kind == .class || (X.env.scope.kind == .module && X.env.locals != X.env.globals)) = false := by rw [I.ok.kind]; rfl
  have hiσ : i < σ.length := by rw [I.len]; exact (List.getElem?_eq_some_iff.mp hi).1
  have cne := I.cne
  refine wpAny_nameGoes_keeps hk hn hcls fun h' v hn' hs => h _ ?_
  obtain ⟨oL, _, _, hoL, _⟩ := id hn
  refine ⟨I.ok, I.os, I.bare, ⟨fun b o e n hb hx => ?_, fun b o e n hb hx => ?_, I.base.free, fun b o e hx => ?_, I.base.tups, I.base.frzs, I.base.tbls⟩, ⟨_, hn', fun j y v' e1 e2 e3 => ?_⟩, fun y c e => ?_, I.free, I.freeC, fun p hp => ?_, fun b ob e => ?_, by simpa using I.len⟩
  · exact (hs.2 b (Nat.ne_of_lt (Nat.lt_of_lt_of_le (Heap.lt_size e) I.ok.above))).trans (I.base.keep b o e n hb hx)
  · obtain ⟨sl, e1⟩ := I.base.slot b o e n hb hx
    exact ⟨sl, (hs.2 b (Nat.ne_of_lt (Nat.lt_of_lt_of_le (Heap.lt_size e) I.ok.above))).trans e1⟩
  · obtain ⟨o', e1⟩ := I.base.there b o e hx
    exact ⟨o', (hs.2 b (Nat.ne_of_lt (Nat.lt_of_lt_of_le (Heap.lt_size e) I.ok.above))).trans e1⟩
  · by_cases hj : j = i
    · subst hj
      rw [List.getElem?_set_self hiσ] at e2
      cases e2
    · rw [List.getElem?_set_ne (Ne.symm hj)] at e2
      obtain ⟨u', r', q⟩ := hl j y v' e1 e2 e3
      refine ⟨u', r', ?_⟩
      rcases q with ⟨k, e⟩ | ⟨k, c, e, z⟩
      · refine .inl ⟨k, ?_⟩
        have : y ≠ x := fun e => hj (nodup_ix hN e1 (e ▸ hi))
        simp [this, e]
      · exact .inr ⟨k, c, e, z.sameBut hs (cne y c e)⟩
  · obtain ⟨w', z⟩ := I.cell y c e
    exact ⟨w', z.sameBut hs (cne y c e)⟩
  · obtain ⟨e, n, ne, nf, d⟩ := I.pin p hp
    exact ⟨(hs.2 p.1 ne).trans e, n, ne, nf, d⟩
  · refine (I.hok b ob e).stay (fun c w' hc q => (hs.2 c ?_).trans q) (fun _ q => q) fun _ _ q => q
    rintro rfl
    have hfree := I.free
    rcases hc with rfl | hc
    · rw [hfree] at e; cases e
    · rw [hfree] at hc; cases hc
end
/-- an exception of the class at C, made by raise C(..) -/
def ExcAt (a C : Addr) (h : Heap) : Prop := ∃ o, h.get? a = some o ∧ o.cls = .ref C ∧ ∃ vs, o.data = .fields vs
def excO (a C : Addr) : HO := .ext (ExcAt a C)
/-- try: .. except M as n: .. with the handler's reading ts -/
def tTry (K : PySem.W.Frag) (M : Addr) (i : Nat) (tb : TSX) (ts : TS) : TS := fun D σ H => tb D (fun c _ H1 => ∃ C, c = .ref C ∧ under K C M = true ∧
  ∀ a, H1 a = none → ts { nx := fun σ' H' => D.nx (σ'.set i none) H', rt := D.rt, bk := fun σ' H' => D.bk (σ'.set i none) H', ct := fun σ' H' => D.ct (σ'.set i none) H' } (σ.set i (some (.ref a))) (upd H1 a (excO a C))) σ H
section
variable {X : Cx} {pins : List (Addr × Obj)} {σ : St} {H : Hp} {s : Shared}
/-- the state behind the landing -/
theorem Inv.landed {H1 H2 : Hp} {s1 s2 : Shared} {a C : Addr} {B h6 : Heap} {a0 : Value} (I : Inv X pins σ H1 s1) (hstk : X.stack = X.env :: X.outer) (os : s2.os = s1.os) (bare : AllBare s2.gens) (u : Un (frs X.stack) [] H1 H2 s1.heap s2.heap) (hok : HOk X.prog X.w H2 s2.heap)
    (hst : ∀ b o, s1.heap.get? b = some o → H1 b = none → b ∉ frs X.stack → B.get? b = some o) (hth : ∀ b o, s1.heap.get? b = some o → b ∉ frs X.stack → ∃ o', B.get? b = some o') (htr : ∀ b, H2 b ≠ none → ∃ o, s2.heap.get? b = some o ∧ B.get? b = some o)
    (fl : Heap.FlyingW B X.stack a (.ref C) a0 h6) (sm : s2.heap.UpToSlots h6) : Inv X pins σ H2 { s2 with heap := h6 } := by
  have frm : ∀ b ∈ frs X.stack, ∀ o, s1.heap.get? b = some o → ∃ sl, h6.get? b = some { o with slots := sl } := fun b hb o e => by
    obtain ⟨sl, e1⟩ := u.slot b o e (I.stkFree b hb) hb (by simp)
    obtain ⟨_, o', ho, hd⟩ := I.stack.mem hb
    rw [e] at ho
    cases ho
    obtain ⟨sl', e2⟩ := sm b _ e1 hd
    exact ⟨sl', e2⟩
  refine I.call' (s' := { s2 with heap := h6 }) (ch := []) os ⟨fun b o e n hb _ => fl.1 b o (hst b o e n hb), fun b o e _ hb _ => frm b hb o e, u.free, fun b o e _ => ?_, u.tups, u.frzs, u.tbls⟩ (fun b o q => ?_) bare (fun b z => absurd z (by simp))
  · by_cases hb : b ∈ frs X.stack
    · obtain ⟨sl, e2⟩ := frm b hb o e
      exact ⟨_, e2⟩
    · obtain ⟨o2, e2⟩ := hth b o e hb
      exact ⟨o2, fl.1 b o2 e2⟩
  · refine (hok b o q).stay (fun c v hc e => ?_) (fun _ z => z) fun _ _ z => z
    have hc' : H2 c ≠ none := by
      rcases hc with rfl | hc
      · rw [q]; exact fun z => by cases z
      · rw [hc]; exact fun z => by cases z
    obtain ⟨o', e1, e2⟩ := htr c hc'
    rw [e1] at e
    cases e
    exact fl.1 c _ e2
theorem ps_try {M : Addr} {i : Nat} {body : List Stmt} {tb : TSX} {b₀ : Stmt} {suite : List Stmt} {ts : TS} {x n : Str} {np hpos pos : Pos} (hb : PSXs X body tb) (hs : ∀ e, PSs (X.caught e) (b₀ :: suite) ts) (hm : X.mg x = some (.ref M)) (hM : catches X.K M = true)
    (hN : X.N.Nodup) (hi : X.N[i]? = some n) (hk : X.env.scope.names.lookup n = some .local := by kernel_rfl) (hg : X.env.scope.names.lookup x = some .globalImplicit := by kernel_rfl) (hdb : (x == ("__debug__" : Str)) = false := by kernel_rfl)
    (hstk : X.stack = X.env :: X.outer := by rfl) (hfr : X.env.frame = some X.env.locals := by rfl) (hex : X.ex = [] := by rfl) :
    PS X (.Try body [.ExceptHandler (some (.Name x np)) (some n) (b₀ :: suite) hpos] [] [] pos) (tTry X.K M i tb ts) := by
  intro pins s σ H D I h
  refine wpAny_Try_except (wpAny_mono (hb pins s σ H D _ I h) (fun f s1 q => ?_) fun e s2 q => ?_)
  · cases f with
    | next => exact wpAny_execs_nil q
    | ret v => exact q
    | brk => exact q
    | cont => exact q
  obtain ⟨H1, s1, I1, a, C, H2, ea, F, C', ec, hu, k⟩ := q
  subst ea
  cases ec
  obtain ⟨fos, fbare, fun_, fhok, ffree, B, a0, hfl, hst, hth, htr⟩ := F
  have hfrm : X.A.frames = some (X.env :: X.outer) := by rw [← hstk]; exact I1.ok.frames
  rw [hstk] at hfl
  refine wpAny_looks_onW hfrm hfr hfl fun h4 held4 sm4 => ?_
  refine wpAny_landsW held4 fun h5 fl5 sm5 => ?_
  have sm45 := sm4.trans sm5
  rw [← hstk] at fl5
  have I5 : Inv X pins σ H2 { s2 with heap := h5 } := I1.landed hstk fos fbare fun_ fhok hst hth htr fl5 sm45
  obtain ⟨ob, hob, hobc⟩ := fl5.there
  refine wpAny_handleBy_cons (codeAny_handlers_test (ld_glob (X := X.caught a) (I5.caught a) hg hm ?_ hdb)) (by intro q; cases q)
  obtain ⟨bm, q1, q2⟩ : ∃ bm, ecls X.K C = some bm ∧ (Value.ref C :: bm).contains (.ref M) = true := by
    unfold under at hu
    cases e : ecls X.K C with
    | none => rw [e] at hu; cases hu
    | some bm => rw [e] at hu; exact ⟨bm, rfl, hu⟩
  obtain ⟨bm', q3, q4⟩ : ∃ bm, ecls X.K M = some bm ∧ bm.contains (.type "BaseException") = true := by
    unfold catches at hM
    cases e : ecls X.K M with
    | none => rw [e] at hM; cases hM
    | some bm => rw [e] at hM; exact ⟨bm, rfl, hM⟩
  have KI : X.K.In h5 := I5.kIn
  obtain ⟨_, _, _, _, _, _, _, _, _, _, _, _, _, _, _, _, oC⟩ := ecls_obj KI q1
  obtain ⟨_, _, _, _, _, _, _, _, _, _, _, _, _, _, _, _, oM⟩ := ecls_obj KI q3
  refine excMatches_under oC oM hob hobc q4 q2 (codeAny_handlers_suite_as ?_)
  refine lands_againW fl5 fun h6 fl6 sm6 => ?_
  have I6 : Inv X pins σ H2 { s2 with heap := h6 } := I1.landed hstk fos fbare fun_ fhok hst hth htr fl6 (sm45.trans sm6)
  obtain ⟨oe, ws, hoe, hoec, hoed, hoe0⟩ := fl6.first
  have noCell : ∀ x c, X.env.cells.lookup x = some c → c ≠ a := fun x c e z => by
    obtain ⟨v, o, ho, hd⟩ := I6.cell x c e
    have ho : h6.get? c = some o := ho
    rw [z, hoe] at ho; cases ho; rw [hoed] at hd; cases hd
  have noLoc : a ≠ X.env.locals := fun z => by
    obtain ⟨m, ⟨o', es, ep, ho', hd', _⟩, _⟩ := I6.loc
    have ho' : h6.get? X.env.locals = some o' := ho'
    rw [← z, hoe] at ho'; cases ho'; rw [hoed] at hd'; cases hd'
  have noStk : a ∉ frs X.stack := fun z => by
    obtain ⟨_, o, ho, hd⟩ := I6.stack.mem z
    have ho : h6.get? a = some o := ho
    rw [hoe] at ho; cases ho; exact hd _ hoed
  have no1 : s1.heap.get? a = none := by
    cases e : s1.heap.get? a with
    | none => rfl
    | some o =>
      obtain ⟨o', e'⟩ := hth a o e noStk
      rw [fl6.2.1] at e'; cases e'
  have no0 : X.s₀.heap.get? a = none := by
    cases e : X.s₀.heap.get? a with
    | none => rfl
    | some o =>
      by_cases hx : a ∈ X.ex
      · rw [hex] at hx; cases hx
      · obtain ⟨o', e'⟩ := I1.base.there a o e hx
        rw [no1] at e'; cases e'
  have noPin : ∀ p ∈ X.pn ++ pins, p.1 ≠ a := fun p hp z => by
    obtain ⟨e, _⟩ := I1.pin p hp
    rw [z, no1] at e; cases e
  have I7 : Inv X pins σ (upd H2 a (excO a C)) { s2 with heap := h6 } := I6.track ffree no0 noLoc noCell noPin ⟨⟨oe, hoe, hoec, ws, hoed⟩, ⟨oe, hoe⟩, fun h1 h2 ⟨o, z1, z2, z3⟩ kk => ⟨o, kk o z1, z2, z3⟩⟩
  refine store_ok (X := X.caught a) (v := .ref a) (I7.caught a) hN hi (.inl hk) rfl (fun s8 I8 => ?_) (.inr hk)
  refine wpAny_mono (hs a pins s8 _ _ _ I8 (k a ffree)) (fun f s9 q => ?_) fun _ _ z => False.elim z
  cases f with
  | next =>
    obtain ⟨σ', H', I9, q⟩ := q
    exact goes_ok (I9.uncaught I1.ok) hN hi hk fun s' I' => ⟨_, _, I', q⟩
  | brk =>
    obtain ⟨σ', H', I9, q⟩ := q
    exact goes_ok (I9.uncaught I1.ok) hN hi hk fun s' I' => ⟨_, _, I', q⟩
  | cont =>
    obtain ⟨σ', H', I9, q⟩ := q
    exact goes_ok (I9.uncaught I1.ok) hN hi hk fun s' I' => ⟨_, _, I', q⟩
  | ret u =>
    obtain ⟨v, σ', H', I9, r, q⟩ := q
    exact goes_ok (I9.uncaught I1.ok) hN hi hk fun s' I' => ⟨v, _, _, I', r, q⟩
end
end L2

/-! ### the class of a caught exception -/
namespace L2
open PySem PySem.Spec PyProof.Rows PySem.W
section
open PySem.Builtin PySem.Builtin.ObjectAttr PySem.Builtin.Getset_descriptor
variable {prog : Program} {w : World} {A : Around} {E : Value → Shared → Prop} {s : Shared} {K : PySem.W.Frag} {x C : Addr} {R : Result → Shared → Prop} {ox : Obj}
theorem x_type {M : Model} {h : Heap} (hx : h.get? x = some ox) (hc : ox.cls = .ref C) : Looks M h (typeOf (.ref x)) (.ref C) := hc ▸ (Looks.ld hx).andThen .now
theorem x_class_get {tp : Value} (X : K.In s.heap) (hx : s.heap.get? x = some ox) (hc : ox.cls = .ref C) (hm : PySem.W.mroIn K C (.type "object") = some true)
    (h : R (.ok (.ret (.ref C))) s) : codeAny (model prog w) A (.call (.builtin "getset_descriptor.__get__") ⟨[.builtin "object.__class__", .ref x, tp], []⟩) R s := by
  have H0 := x_type (M := model prog w) hx hc
  have H1 := looks_mroIn (M := model prog w) X hm
  rcases s with ⟨s1, s2, s3, s4, s5⟩
  refine codeAny_call_builtin KF.slot_gs.plain
    KF.entry_gs
    (KF.slot_gs.check _ _ _ _ _ _ _ _ KF.type_class
      (KF.args_gs _ _ _) ?_)
  unfold Builtin.«getset_descriptor.__get__»
  unfold descrGet
  rw [dga_obj]
  refine wpAny_bind (wpAny_pure ?_)
  unfold descrGetter descrCheckInstance
    descrNameAndClass isInstance
  simp only [KF.owner_class]
  repeat lk
  refine ⟨Code.quiet_builtin _ (by decide +kernel),
    codeAny_builtin KF.entry_class ?_⟩
  unfold Builtin.«object.__class__»
  unfold shownTypeOf
  repeat lk
  exact h
theorem x_find {M : Model} {h : Heap} {a g : Value} (X : K.In h) (ha : PySem.W.findIn K (.ref C) "__class__" = some (some a)) (hg : PySem.W.specialIn K a "__get__" = some (some g)) (ht : PySem.W.takesIn K a = some true) :
    Looks M h (find (.ref x) (.ref C) "__class__") (.bind g a) := by
  have H1 := looks_findIn (M := M) X ha
  have H2 : Looks M h (getOf (some a)) (some g) := looks_specialIn X hg
  have H3 := looks_takesIn (M := M) X ht
  have H4 : Looks M h (dataDescriptor? (some a) (some g)) (some (g, a)) := H3.andThen .now
  exact H1.andThen (H2.andThen (H4.andThen (Looks.tag .now)))
theorem x_check {M : Model} {nameV : Value} {Q : Unit → Shared → Prop} (X : K.In s.heap) (hx : s.heap.get? x = some ox) (hc : ox.cls = .ref C) (hm : PySem.W.mroIn K C (.type "BaseException") = some true)
    (hq : Q () s) : wpAny M A (checkBuiltinCall "BaseException.__getattribute__" ⟨[.ref x, nameV], []⟩) Q E s := by
  have k1 : builtinKind "BaseException.__getattribute__" = some .slot := by decide +kernel
  have k2 : splitId "BaseException.__getattribute__" = some ("BaseException", "__getattribute__") := by decide +kernel
  have k3 := F.args_bexc_ga (.ref x) nameV
  have H0 := x_type (M := M) hx hc
  have H1 := looks_mroIn (M := M) X hm
  have HI : Looks M s.heap (isInstance (.ref x) (.type "BaseException")) true := H0.andThen H1
  rcases s with ⟨s1, s2, s3, s4, s5⟩
  simp only [checkBuiltinCall, k1, k2]
  refine wpAny_bind (HI.at ?_)
  repeat (first | assumption | wp_step)
theorem x_class_entry {tk : Tok} {Q : PySem.Fin → Shared → Prop} (X : K.In s.heap) (hx : s.heap.get? x = some ox) (hc : ox.cls = .ref C) (ha : PySem.W.findIn K (.ref C) "__class__" = some (some (.builtin "object.__class__")))
    (hn : PySem.W.specialIn K (.builtin "object.__class__") "__get__" = some (some (.builtin "getset_descriptor.__get__"))) (ht : PySem.W.takesIn K (.builtin "object.__class__") = some true) (hm : PySem.W.mroIn K C (.type "object") = some true)
    (hq : Q (.done (.ret (.ref C))) s) : wpAny (model prog w) A (Builtin.«object.__getattribute__» ⟨[.ref x, .str "__class__" tk], []⟩) Q E s := by
  have H0 := x_type (M := model prog w) hx hc
  have H1 := x_find (M := model prog w) (x := x) X ha hn ht
  refine wpAny_bind (wpAny_pure (wpAny_bind (wpAny_pure (wpAny_bind (H0.here (wpAny_bind (H1.here ?_)))))))
  show wpAny _ _ (holding [_] (call _ _) >>= ret) _ _ _
  exact wpAny_bind (wpAny_holding (wpAny_call (x_class_get X hx hc hm (wpAny_pure hq))))
variable (hg : PySem.W.findIn K (.ref C) "__getattribute__" = some (some (.builtin "BaseException.__getattribute__"))) (hh : PySem.W.findIn K (.ref C) "__getattr__" = some none)
  (ha : PySem.W.findIn K (.ref C) "__class__" = some (some (.builtin "object.__class__")))
  (hn : PySem.W.specialIn K (.builtin "object.__class__") "__get__" = some (some (.builtin "getset_descriptor.__get__"))) (ht : PySem.W.takesIn K (.builtin "object.__class__") = some true)
  (hm : PySem.W.mroIn K C (.type "object") = some true) (hB : PySem.W.mroIn K C (.type "BaseException") = some true)
include hg hh ha hn ht hm hB
theorem x_class {Q : Option Value → Shared → Prop} (X : K.In s.heap) (hx : s.heap.get? x = some ox) (hc : ox.cls = .ref C) (h : Q (some (.ref C)) { s with toks := s.toks + 1 }) : wpAny (model prog w) A (getAttr? (.ref x) "__class__") Q E s := by
  obtain ⟨s1, s2, s3, s4, s5⟩ := s
  have H0 := x_type (M := model prog w) hx hc
  have H1 := looks_findIn (M := model prog w) X hg
  have H2 := looks_findIn (M := model prog w) X hh
  unfold getAttr? getAttrBy?
  unfold getAttrBy
  refine wpAny_bind (wpAny_mkText (wpAny_bind (wpAny_attempt (wpAny_holding (wpAny_bind (H0.at (wpAny_bind (H1.at ?_))))))))
  show wpAny _ _ (getAttrByItsOwn _ _ _ _ _ _) _ _ _
  unfold getAttrByItsOwn
  refine wpAny_bind (H2.at ?_)
  refine wpAny_bind (wpAny_attempt (wpAny_holding ?_))
  show wpAny _ _ (boundAndCalled _ _ _) _ _ _
  unfold boundAndCalled
  rw [PySem.F.attr_ValueError.ga.bind]
  refine wpAny_bind (wpAny_pure ?_)
  show wpAny _ _ (call _ [_, _]) _ _ _
  refine wpAny_call (codeAny_call_builtin PySem.F.attr_ValueError.ga.plain F.entry_bexc_ga (x_check (s := ⟨s1, s2, s3, s4 + 1, s5⟩) X hx hc hB (x_class_entry (s := ⟨s1, s2, s3, s4 + 1, s5⟩) X hx hc ha hn ht hm ?_)))
  exact wpAny_pure (wpAny_pure h)
/-- what isinstance asks of a caught exception -/
theorem kitx_exc (hcl : (PySem.W.clsIn K C).isSome = true) : PySem.W.KitX K (.ref x) (.ref C) (ExcAt x C) where
  ty := fun _ _ _ ⟨o, h1, h2, _⟩ => x_type h1 h2
  it := fun _ _ X _ => by
    obtain ⟨cd, hcd⟩ := Option.isSome_iff_exists.mp hcl
    unfold PySem.W.clsIn at hcd
    split at hcd
    · rename_i ho
      intro A' Q' E' s' k q
      unfold isType loadHead
      exact wpAny_bind (wpAny_loadPart (k _ _ (X _ _ ho)) (wpAny_pure q))
    · cases hcd
  ne := fun h tp dd its n sl X htp => by
    obtain ⟨cd, hcd⟩ := Option.isSome_iff_exists.mp hcl
    refine Bool.eq_false_iff.mpr fun q => ?_
    have e : C = tp := Value.ref.inj (beq_iff_eq.mp q)
    subst e
    unfold PySem.W.clsIn at hcd
    split at hcd
    · rename_i ho
      have z := (X _ _ ho).symm.trans htp
      cases z
    · cases hcd
  ca := fun X ⟨o, h1, h2, _⟩ k => x_class hg hh ha hn ht hm hB X h1 h2 k
end
/-- the facts of a class of exceptions -/
structure ExC (K : PySem.W.Frag) (C : Addr) : Prop where
  hg : PySem.W.findIn K (.ref C) "__getattribute__" = some (some (.builtin "BaseException.__getattribute__"))
  hh : PySem.W.findIn K (.ref C) "__getattr__" = some none
  ha : PySem.W.findIn K (.ref C) "__class__" = some (some (.builtin "object.__class__"))
  hn : PySem.W.specialIn K (.builtin "object.__class__") "__get__" = some (some (.builtin "getset_descriptor.__get__"))
  ht : PySem.W.takesIn K (.builtin "object.__class__") = some true
  hm : PySem.W.mroIn K C (.type "object") = some true
  hB : PySem.W.mroIn K C (.type "BaseException") = some true
  hcl : PySem.W.hasDictIn K C = true
section
variable {X : Cx} {pins : List (Addr × Obj)} {σ : St} {H : Hp} {s : Shared} {A : Around} {E : Value → Shared → Prop} {Q : Value → Shared → Prop} {c : Value} {b : Bool}
theorem isinst_exc {a C : Addr} (I : Inv X pins σ H s) (F : ExC X.K C) (ea : H a = some (excO a C)) (e : PySem.W.kitOne X.K (.ref C) c = some b) (h : ∀ tk, Q (.bool b) { s with toks := tk }) :
    wpAny (model X.prog X.w) A (call (.builtin "isinstance") [.ref a, c]) Q E s := by
  obtain ⟨p, _, _⟩ := (show ObjOk X.prog X.w H s.heap a (excO a C) from I.hok a _ ea)
  exact PySem.W.kia_one (kitx_exc F.hg F.hh F.ha F.hn F.ht F.hm F.hB (by obtain ⟨cd, hc, _⟩ := PySem.W.any_some F.hcl; rw [hc]; rfl)) I.kIn p e (fun z => nomatch z) h
end
end L2

namespace L2
open PySem PySem.Spec PyProof.Rows
/-- the class of a value, a caught exception's too -/
def TyX (K : PySem.W.Frag) (H : Hp) (x : V) (t : Value) : Prop := TyOf K H x t ∨ ∃ a C, x = .ref a ∧ t = .ref C ∧ H a = some (excO a C) ∧ ExC K C
def rIsX (K : PySem.W.Frag) : List V → Hp → VK → Prop := fun xs H Q => ∃ x c t cv b, xs = [x, c] ∧ clsV c = some cv ∧ TyX K H x t ∧ PySem.W.kitOne K t cv = some b ∧ Q (.bl b) H
section
variable {X : Cx}
theorem call_isX : CallR X (.builtin "isinstance") (rIsX X.K) := by
  intro pins s σ H xs us Q I r h
  obtain ⟨x, c, t, cv, b, rfl, hc, ty, hk, q⟩ := h
  obtain ⟨u, w', rfl, ru, rw'⟩ := vals2 r
  have e : w' = cv := by
    cases c with
    | ty n => have rw' : w' = Value.type n := rw'; rw [rw']; exact Option.some.inj hc
    | ref a => have rw' : w' = Value.ref a := rw'; rw [rw']; exact Option.some.inj hc
    | _ => cases hc
  subst e
  rcases ty with ty | ⟨a, C, rfl, rfl, ea, F⟩
  · exact isinst_ok I ru ty hk fun tk => ⟨.bl b, H, I.tok tk, rfl, q⟩
  · cases ru
    exact isinst_exc I F ea hk fun tk => ⟨.bl b, H, I.tok tk, rfl, q⟩
/-! ### min of a list of ints -/
/-! ### sum of a list of small ints -/
theorem preSum_take (ns : List Int) : ∀ k, k ≤ ns.length → preSum (fun i => ns.getD i 0) k = (ns.take k).sum
  | 0, _ => by simp [preSum]
  | k + 1, h => by
    have h' : k < ns.length := by omega
    rw [preSum, preSum_take ns k (by omega), List.take_succ_eq_append_getElem h', List.sum_append]
    simp [List.getD, h']
/-! ### list.index, tuple.index -/
theorem idx_eqU {x : V} {xs : List V} {us : List Value} (r : Vals xs us) (f : xs.all flatV = true) {j : Nat} {u : Value} (e : us[j]? = some u) : eqU x u = eqV (xs.getD j .non) x := by
  induction r generalizing j with
  | nil => simp at e
  | @cons y v ys vs rv t ih =>
    rw [List.all_cons, Bool.and_eq_true] at f
    cases j with
    | zero => simp at e; subst e; simpa using eqU_of rv f.1
    | succ j => simpa using ih f.2 (by simpa using e)
def rIndex (K : PySem.W.Frag) : V → List V → Hp → VK → Prop := fun y vs H Q => ∃ (p : Addr) (xs : List V) (x : V) (j : Nat), y = .ref p ∧ vs = [x] ∧ SqL K H p xs ∧ flatV x = true ∧ xs.all flatV = true ∧ j < xs.length ∧ eqV (xs.getD j .non) x = true ∧ (∀ m, m < j → eqV (xs.getD m .non) x = false) ∧ Q (.int j) H
theorem mt_index : MtR X "list.index" (rIndex X.K) := by
  intro pins s σ H y vs v us Q I ry r h
  obtain ⟨p, xs, x, j, rfl, rfl, hp, fx, fs, hj, hit, hno, q⟩ := h
  cases ry
  obtain ⟨u, rfl, ru⟩ := vals1 r
  obtain ⟨its, rv, pl, hz⟩ := I.list hp
  obtain ⟨⟨cls, dd, data, sl⟩, n, ho, hc, hd1, hd2⟩ := pl
  simp only at hc hd1 hd2
  subst hc hd1 hd2
  have hlen := rv.length
  refine call_meets PySem.F.slot_list_index ⟨_, ho, rfl⟩ PySem.F.entry_list_index (PySem.F.args_list_index_2 _ _)
    (SeqAt.list_indexAt p its.toArray n none sl u (eqU x) j (by simpa [hlen] using hj) (by have := hz; unfold sizeLine at this; omega) ?_ ?_) ⟨ho, fun y hy => mem_eqAt ru fx rv fs y (by simpa using hy), ⟨.int j, H, I.tok _, ⟨_, rfl⟩, q⟩⟩
  · rw [idx_eqU (x := x) rv fs (j := j) (by simp)]; exact hit
  · intro m hm hlt
    rw [idx_eqU (x := x) rv fs (j := m) (by simp)]; exact hno m hlt
end
end L2

/-! ### for i, x in enumerate(list) -/
namespace L2
open PySem PySem.Spec PyProof.Rows
/-- the iterator's records have turned, a new thing stands at p -/
theorem Inv.turns {X : Cx} {pins : List (Addr × Obj)} {σ : St} {H : Hp} {s : Shared} {h' : Heap} {fp : List Addr} {p : Addr} {o : HO} {t' : Nat} (I : Inv X pins σ H s) (hf : ∀ b ∈ fp, FpOk X pins H b) (k : ∀ b u, b ∉ fp → s.heap.get? b = some u → h'.get? b = some u)
    (hp : s.heap.objs.size ≤ p) (new : ObjOk X.prog X.w (upd H p o) h' p o) : Inv X pins σ (upd H p o) { s with heap := h', toks := t' } := by
  have hn : H p = none := I.hok.fresh hp
  have ne : ∀ b u, H b = some u → b ≠ p := fun b u e z => by rw [z, hn] at e; cases e
  have nf : ∀ b u, H b = some u → b ∉ fp := fun b u e z => by rw [(hf b z).1] at e; cases e
  have old : ∀ b u, s.heap.get? b = some u → b ≠ p := fun b u e => Nat.ne_of_lt (Nat.lt_of_lt_of_le (Heap.lt_size e) hp)
  refine I.step (g' := s.gens) (d' := s.drawn) (ch := fp) (fun b hb => ?_) (fun b u _ _ hc e _ => k b u hc e) (fun b u _ _ hc e _ => ⟨u.slots, k b u hc e⟩) (fun b u _ e n => by rw [upd_ne (old b u e)]; exact n)
    (fun b u hc e => ⟨u, k b u hc e⟩) (fun b xs e => by rw [upd_ne (ne _ _ e)]; exact e) (fun b o' u e => by rw [upd_ne (ne _ _ e)]; exact e) (fun b ps e => ⟨#[], by rw [upd_ne (ne _ _ e), e]; simp⟩) (fun m hm => ?_) (fun b u e => ?_) I.bare
  · obtain ⟨_, f1, _, f3, f4, f5⟩ := hf b hb
    exact ⟨f3, f1, f4, f5⟩
  · obtain ⟨ob, es, ep, ho, r⟩ := hm
    exact ⟨ob, es, ep, k _ ob (fun z => (hf _ z).2.1 rfl) ho, r⟩
  · by_cases hb : b = p
    · subst hb
      rw [upd_same] at e
      cases e
      exact new
    · rw [upd_ne hb] at e
      refine (I.hok b u e).stay (fun c v hc q => k c v ?_ q) (fun c q => by rw [upd_ne (ne _ _ q)]; exact q) fun c xs q => by rw [upd_ne (ne _ _ q)]; exact q
      rcases hc with z | z
      · rw [z]; exact nf b u e
      · exact nf c _ z
/-- (0, x0), (1, x1), .. of the list at a: each a new tuple -/
def Ite (K : PySem.W.Frag) (a : Addr) : It :=
  ⟨fun i H => ∃ xs x, SqL K H a xs ∧ xs[i]? = some x, fun i H x H' => ∃ p y, x = .ref p ∧ H p = none ∧ (∀ xs, SqL K H a xs → xs[i]? = some y) ∧ H' = upd H p (.tup [.int i, y]), fun i H => ∃ xs, SqL K H a xs ∧ xs.length ≤ i⟩
theorem turn_enum {P : Program} {w : World} {K : PySem.W.Frag} {elts : List Expr} {x1} {pos : Pos} (a e it : Addr) (hne : e ≠ it) : Turn P w K (.Tuple elts x1 pos) (Ite K a) [e, it] e (fun i h => (∃ old, IsEnum h e it (i : Nat) old) ∧ h.IsListIter it a i) where
  mem := by simp
  obj := fun i h st b hb => by
    obtain ⟨⟨old, s1⟩, o, e1, c, d⟩ := st
    rcases List.mem_cons.mp hb with rfl | hb
    · exact ⟨_, s1, fun v z => by
        have z' : Data.fields _ = Data.cell v := z
        cases z'⟩
    · have q : b = it := by simpa using hb
      subst q
      exact ⟨o, e1, fun v z => by rw [d] at z; cases z⟩
  keep := fun i h h' st k => ⟨⟨st.1.choose, k e (by simp) _ st.1.choose_spec⟩, st.2.at fun o q => k it (by simp) o q⟩
  item := by
    intro X hP hw hK hc i pins s σ H E I hf st hg
    subst hP hw hK
    obtain ⟨xs, x, hq, hx⟩ := hg
    obtain ⟨its, rv, p, hz⟩ := I.list hq
    obtain ⟨u, hu, ru⟩ := rv.get hx
    obtain ⟨⟨old, he⟩, hit⟩ := st
    refine wpAny_pyNext_enum_item he hit p.isList (x := u) (by simpa using hu) hne fun h' ho li tp sz kk => ?_
    refine ⟨_, rfl, wpAny_letOwnedTupleGo_enum (s := { s with heap := h', toks := s.toks + 1 }) ho fun h2 he2 sb => ?_⟩
    have hlt : ∀ b ∈ [e, it], b < s.heap.objs.size := fun b hb => by
      rcases List.mem_cons.mp hb with rfl | hb
      · exact Heap.lt_size he
      · have q : b = it := by simpa using hb
        subst q
        obtain ⟨_, e1, _⟩ := hit
        exact Heap.lt_size e1
    have ptn : ∀ b ∈ [e, it], b ≠ s.heap.objs.size := fun b hb => Nat.ne_of_lt (hlt b hb)
    have tp2 : h2.get? s.heap.objs.size = some { cls := .type "tuple", data := .seq #[.int i s.toks, u] } := (sb.2 _ (Ne.symm (ptn e (by simp)))).trans tp
    have I2 : Inv X pins σ (upd H s.heap.objs.size (.tup [.int i, x])) { s with heap := h2, toks := s.toks + 1 } := by
      refine I.turns (fp := [e, it]) hf (fun b v hb q => ?_) (Nat.le_refl _) ⟨(by show 2 ≤ sizeLine; decide), [.int i s.toks, u], .cons ⟨_, rfl⟩ (.cons ru .nil), ⟨_, tp2, rfl, _, rfl⟩⟩
      have b1 : b ≠ e := fun z => hb (by simp [z])
      have b2 : b ≠ it := fun z => hb (by simp [z])
      exact (sb.2 b b1).trans (kk b v b1 b2 q)
    refine ⟨.ref s.heap.objs.size, _, I2, rfl, ⟨_, x, rfl, I.hok.fresh (Nat.le_refl _), (fun ys hy => by rw [I.list_inj hy hq]; exact hx), rfl⟩, ⟨⟨u, ?_⟩, ?_⟩, fun b hb => ?_⟩
    · have q : ((i + 1 : Nat) : Int) = (i : Int) + 1 := by omega
      rw [q]; exact he2
    · exact li.at fun o q => (sb.2 it (Ne.symm hne)).trans q
    · rw [upd_ne (ptn b hb)]; exact (hf b hb).1
  done := by
    intro X hP hw hK hc i pins s σ H E I hf st hg
    subst hP hw hK
    obtain ⟨xs, hq, hx⟩ := hg
    obtain ⟨its, rv, p, hz⟩ := I.list hq
    obtain ⟨⟨old, he⟩, hit⟩ := st
    obtain ⟨f0, f1, f2, f3, f4, f5⟩ := hf it (by simp)
    have hl := rv.length
    exact wpAny_pyNext_enum_end (I.ok.hd hc) he hit p.isList (by simp; omega) fun h' eb => ⟨rfl, I.turned (t' := s.toks) (fun b o hb q => eb b o hb q) f0 f1 f3 f4 f5⟩
  self := fun _ _ _ _ _ st h => wpAny_pyIter_enum st.1.choose_spec h
def iEnum (K : PySem.W.Frag) (tl : TE) : TI := fun σ H R => tl σ H fun x H1 => ∃ a, x = .ref a ∧ (∃ xs, SqL K H1 a xs) ∧ R (Ite K a) H1
theorem pi_enum {X : Cx} {elts : List Expr} {x1} {pt p cpos : Pos} {l : Expr} {tl : TE} (hl : PE X l tl) (hg : Gl X "enumerate") (hm : X.mg "enumerate" = none)
    (he : starEach [l] X.env = (false, eval l X.env) :: starEach [] X.env := by rfl) (hpl : (backTo cpos (starEach [] X.env)).any (·.1) = false := by rfl) :
    PI X (.Tuple elts x1 pt) (.Call (.Name "enumerate" p) [l] [] cpos) (iEnum X.K tl) := by
  intro pins s σ H R I h
  refine wpAny_Call_Name_kw (ld_blt I hg hm Bt.enumerate ?_ (by decide) (by decide))
  have h' : tCons tl tNil σ H (fun vs H1 => match vs with | [x] => ∃ a, x = .ref a ∧ (∃ xs, SqL X.K H1 a xs) ∧ R (Ite X.K a) H1 | _ => False) := h
  refine PyProof.Rows.callWith_type1 (thn ((pa_cons hl pa_nil he) cpos pins s σ H _ I h') fun us s1 ⟨vs, H1, I1, r1, q1⟩ => ?_) he hpl
  obtain ⟨x, rfl⟩ : ∃ x, vs = [x] := by
    match vs, q1 with
    | [x], _ => exact ⟨x, rfl⟩
  obtain ⟨a, rfl, ⟨xs, hq⟩, q⟩ := q1
  obtain ⟨u, rfl, ru⟩ := vals1 r1
  cases ru
  obtain ⟨its, rv, p, hz⟩ := I1.list hq
  refine call_enumerate_list p.isList fun h' he' li sz kk => ?_
  refine wpAny_pyIter_enum he' ?_
  refine ⟨s1.heap.objs.size + 1, [s1.heap.objs.size + 1, s1.heap.objs.size], _, _, H1, rfl, I1.kept (t' := s1.toks) kk, turn_enum a (s1.heap.objs.size + 1) s1.heap.objs.size (Nat.succ_ne_self _), ⟨⟨_, he'⟩, li⟩, fun b hb => ?_, q⟩
  rcases List.mem_cons.mp hb with rfl | hb
  · exact I1.fpOk (by omega) (I1.hok.fresh (by omega))
  · have e : b = s1.heap.objs.size := by simpa using hb
    subst e
    exact I1.fpOk (Nat.le_refl _) (I1.hok.fresh (Nat.le_refl _))
end L2

/-! ### for c in text -/
namespace L2
open PySem PySem.Spec PyProof.Rows
/-- the signs of a text, each a text -/
def Its (x : Str) : It := ⟨fun i _ => i < x.cps.size, fun i H v H' => H' = H ∧ ∃ c, x.cps[i]? = some c ∧ v = .str ⟨#[c]⟩, fun i _ => i = x.cps.size⟩
theorem turn_str {P : Program} {w : World} {K : PySem.W.Frag} {tg : Expr} (x : Str) (t : Tok) (it : Addr) (T : String) (W : ∀ A : Around, A.handled = none → Walks P w A it [it] [it] x.cps.size (SignAt x) (fun i h => h.IsStrIter it T x t i))
    (sf : ∀ (A : Around) (i : Nat) (s : Shared) (Q : Value → Shared → Prop) (E : Value → Shared → Prop), s.heap.IsStrIter it T x t i → Q (.ref it) s → wpAny (model P w) A (pyIter (.ref it)) Q E s)
    (hT : ["enumerate", "zip", "dict_itemiterator", "dict_reverseitemiterator", "odict_iterator", "itertools.zip_longest", "itertools.pairwise"].contains T = false) :
    Turn P w K tg (Its x) [it] it (fun i h => h.IsStrIter it T x t i) where
  mem := by simp
  obj := fun i h st b hb => by
    have e : b = it := by simpa using hb
    subst e
    obtain ⟨o, e, c, d⟩ := st
    exact ⟨o, e, fun v z => by rw [d] at z; cases z⟩
  keep := fun i h h' ⟨o, e, r⟩ k => ⟨o, k it (by simp) o e, r⟩
  item := by
    intro X hP hw hK hc i pins s σ H E I hf st hg
    subst hP hw hK
    obtain ⟨f0, f1, f2, f3, f4, f5⟩ := hf it (by simp)
    refine (W X.A (I.ok.hd hc)).item i s _ _ hg st fun v h' tk hv st' kk => ?_
    obtain ⟨c, u, hcu, rfl⟩ := hv
    have I1 : Inv X pins σ H { s with heap := h', toks := tk } := I.turned (fun b o hb e => kk b o (by simpa using hb) e) f0 f1 f3 f4 f5
    obtain ⟨o, e, hc', d⟩ := id st'
    exact ⟨_, rfl, go_of (s := { s with heap := h', toks := tk }) e hc' d hT ⟨.str ⟨#[c]⟩, H, I1, ⟨u, rfl⟩, ⟨rfl, c, hcu, rfl⟩, st', fun b hb => (hf b hb).1⟩⟩
  done := by
    intro X hP hw hK hc i pins s σ H E I hf st hg
    subst hP hw hK
    obtain ⟨f0, f1, f2, f3, f4, f5⟩ := hf it (by simp)
    have hg : i = x.cps.size := hg
    subst hg
    exact (W X.A (I.ok.hd hc)).done s _ _ st fun h' tk kk => ⟨rfl, I.turned (fun b o hb e => kk b o (by simpa using hb) e) f0 f1 f3 f4 f5⟩
  self := fun A i s Q E st h => sf A i s Q E st h
def iStr (tl : TE) : TI := fun σ H R => tl σ H fun v H1 => ∃ x, v = .str x ∧ R (Its x) H1
theorem pi_str {X : Cx} {tg l : Expr} {tl : TE} (hl : PE X l tl) : PI X tg l (iStr tl) := by
  intro pins s σ H R I h
  refine thn (hl pins s σ H _ I h) fun v s1 ⟨y, H1, I1, r1, q1⟩ => ?_
  obtain ⟨x, e, q⟩ := q1
  subst e
  obtain ⟨t, rfl⟩ := r1
  have fp : ∀ b ∈ [s1.heap.objs.size], FpOk X pins H1 b := fun b hb => by
    have e : b = s1.heap.objs.size := by simpa using hb
    subst e
    exact I1.fpOk (Nat.le_refl _) (I1.hok.fresh (Nat.le_refl _))
  cases ha : x.cps.all (· < 128)
  · refine wpAny_pyIter_wide ha ⟨s1.heap.objs.size, [s1.heap.objs.size], _, _, H1, rfl, I1.kept (t' := s1.toks) fun b o e => Heap.get?_push_of_some _ e, turn_str x t _ "str_iterator" (fun A hA => Walks.strWide hA _ x t) (fun _ _ _ _ _ st h => wpAny_pyIter_striter_wide st h) (by decide), ⟨_, Heap.get?_push_size _ rfl, rfl, rfl⟩, fp, q⟩
  · refine wpAny_pyIter_ascii ha ⟨s1.heap.objs.size, [s1.heap.objs.size], _, _, H1, rfl, I1.kept (t' := s1.toks) fun b o e => Heap.get?_push_of_some _ e, turn_str x t _ "str_ascii_iterator" (fun A hA => Walks.strAscii hA _ x t) (fun _ _ _ _ _ st h => wpAny_pyIter_striter_ascii st h) (by decide), ⟨_, Heap.get?_push_size _ rfl, rfl, rfl⟩, fp, q⟩
/-! ### the loops' and the comprehensions' ends -/
section
variable {K : PySem.W.Frag} {g : TG} {tb : TS} {D : Ends} {σ : St} {H : Hp} {ix : List (Option Nat)} {tt : TT} {te : TE} {Q : VK}
theorem for_enum {a : Addr} {xs : List V} (Pv : Nat → St → Hp → Prop) (h0 : Pv 0 σ H) (hx : ∀ i σ H, i ≤ xs.length → Pv i σ H → SqL K H a xs)
    (hs : ∀ i x σ H, xs[i]? = some x → Pv i σ H → ∀ p, H p = none → g (.ref p) σ (upd H p (.tup [.int i, x])) fun σ2 H2 => tb { D with nx := Pv (i + 1), ct := Pv (i + 1), bk := D.nx } σ2 H2)
    (hd : ∀ σ H, Pv xs.length σ H → D.nx σ H) : ∃ W : Nat → Nat → St → Hp → Prop, (∃ m, W 0 m σ H) ∧ ∀ i m σ H, W i m σ H →
      ((Ite K a).stop i H ∧ D.nx σ H) ∨ ((Ite K a).go i H ∧ ∃ N : St → Hp → Prop, (∀ σ' H', N σ' H' → ∃ m', m' < m ∧ W (i + 1) m' σ' H') ∧ ∀ x H', (Ite K a).yld i H x H' → g x σ H' fun σ2 H2 => tb { D with nx := N, ct := N, bk := D.nx } σ2 H2) := by
  refine ⟨fun i m σ H => m = xs.length - i ∧ i ≤ xs.length ∧ Pv i σ H, ⟨xs.length, by simp, Nat.zero_le _, h0⟩, ?_⟩
  rintro i m σ H ⟨rfl, hi, p⟩
  have q := hx i σ H hi p
  by_cases hlt : i < xs.length
  · refine .inr ⟨⟨xs, xs[i], q, by simp [hlt]⟩, Pv (i + 1), fun σ' H' p' => ⟨xs.length - (i + 1), by omega, rfl, hlt, p'⟩, fun x H' y => ?_⟩
    obtain ⟨r, z, rfl, hn, hz, rfl⟩ := y
    exact hs i z σ _ (hz xs q) p r hn
  · have e : i = xs.length := by omega
    subst e
    exact .inl ⟨⟨xs, q, Nat.le_refl _⟩, hd σ H p⟩
theorem for_str {x : Str} (Pv : Nat → St → Hp → Prop) (h0 : Pv 0 σ H)
    (hs : ∀ i c σ H, x.cps[i]? = some c → Pv i σ H → g (.str ⟨#[c]⟩) σ H fun σ2 H2 => tb { D with nx := Pv (i + 1), ct := Pv (i + 1), bk := D.nx } σ2 H2)
    (hd : ∀ σ H, Pv x.cps.size σ H → D.nx σ H) : ∃ W : Nat → Nat → St → Hp → Prop, (∃ m, W 0 m σ H) ∧ ∀ i m σ H, W i m σ H →
      ((Its x).stop i H ∧ D.nx σ H) ∨ ((Its x).go i H ∧ ∃ N : St → Hp → Prop, (∀ σ' H', N σ' H' → ∃ m', m' < m ∧ W (i + 1) m' σ' H') ∧ ∀ v H', (Its x).yld i H v H' → g v σ H' fun σ2 H2 => tb { D with nx := N, ct := N, bk := D.nx } σ2 H2) := by
  refine ⟨fun i m σ H => m = x.cps.size - i ∧ i ≤ x.cps.size ∧ Pv i σ H, ⟨x.cps.size, by simp, Nat.zero_le _, h0⟩, ?_⟩
  rintro i m σ H ⟨rfl, hi, p⟩
  by_cases hlt : i < x.cps.size
  · refine .inr ⟨hlt, Pv (i + 1), fun σ' H' p' => ⟨x.cps.size - (i + 1), by omega, rfl, hlt, p'⟩, fun v H' y => ?_⟩
    obtain ⟨rfl, c, hc, rfl⟩ := y
    exact hs i c σ _ hc p
  · have e : i = x.cps.size := by omega
    subst e
    exact .inl ⟨rfl, hd σ H p⟩
theorem comp_str {x : Str} (Pv : Nat → List V → Hp → Prop) (h0 : Pv 0 [] H) (hn : x.cps.size ≤ sizeLine) (hl : ∀ i ys H, Pv i ys H → ys.length ≤ i)
    (hs : ∀ i c ys H, x.cps[i]? = some c → Pv i ys H → g (.str ⟨#[c]⟩) (blkSt ix σ) H fun σ2 H2 => Ext (blkSt ix σ) σ2 ∧ tt σ2 H2 fun ok H3 => if ok = true then te σ2 H3 fun y H4 => Pv (i + 1) (ys ++ [y]) H4 else Pv (i + 1) ys H3)
    (hd : ∀ ys H, Pv x.cps.size ys H → ∀ p, H p = none → Q (.ref p) (upd H p (.lst ys))) : CompGo (Its x) ix g tt te σ H Q := by
  refine ⟨fun i m ys H => m = x.cps.size - i ∧ i ≤ x.cps.size ∧ Pv i ys H, ⟨x.cps.size, by simp, Nat.zero_le _, h0⟩, ?_⟩
  rintro i m ys H ⟨rfl, hi, p⟩
  refine ⟨Nat.le_trans (hl _ _ _ p) (Nat.le_trans hi hn), ?_⟩
  by_cases hlt : i < x.cps.size
  · refine .inr ⟨hlt, Pv (i + 1), fun ys' H' p' => ⟨x.cps.size - (i + 1), by omega, rfl, hlt, p'⟩, fun v H' y => ?_⟩
    obtain ⟨rfl, c, hc, rfl⟩ := y
    exact hs i c ys _ hc p
  · have e : i = x.cps.size := by omega
    subst e
    exact .inl ⟨rfl, hd ys H p⟩
/-- [te for c in text]: a value for each sign, the heap stays -/
theorem comp_str_map {x : Str} (f : Nat → V) (hn : x.cps.size ≤ sizeLine)
    (hs : ∀ c (R : VK), c ∈ x.cps.toList → R (f c) H → Ext (blkSt ix σ) ((blkSt ix σ).set 0 (some (.str ⟨#[c]⟩))) ∧ te ((blkSt ix σ).set 0 (some (.str ⟨#[c]⟩))) H R)
    (hd : ∀ p, H p = none → Q (.ref p) (upd H p (.lst (x.cps.toList.map f)))) : CompGo (Its x) ix (gName 0) tTrue te σ H Q := by
  refine comp_str (x := x) (fun i ys H' => H' = H ∧ ys = (x.cps.toList.take i).map f) ⟨rfl, rfl⟩ hn (fun i ys H' ⟨_, e⟩ => by rw [e, List.length_map, List.length_take]; omega) ?_ (fun ys H' ⟨e1, e2⟩ p hp => by
    subst e1 e2
    have e3 : x.cps.toList.take x.cps.size = x.cps.toList := List.take_of_length_le (by simp)
    rw [e3]; exact hd p hp)
  rintro i c ys H' hi ⟨rfl, rfl⟩
  have hi' : x.cps.toList[i]? = some c := by simpa using hi
  obtain ⟨h1, h2⟩ := hs c (fun y H4 => H4 = H' ∧ (x.cps.toList.take i).map f ++ [y] = (x.cps.toList.take (i + 1)).map f) (List.mem_of_getElem? hi') ⟨rfl, by rw [List.take_add_one, hi', List.map_append]; rfl⟩
  exact ⟨h1, h2⟩
end
end L2

/-! ### f-strings of two parts -/
namespace L2
open PySem PySem.Spec PyProof.Rows
/-- {e!r} of a text -/
def tRepr (te : TE) : TE := fun σ H Q => te σ H fun v H1 => ∃ x, v = .str x ∧ (reprText x).length ≤ sizeLine ∧ Q (.str (reprText x)) H1
section
variable {X : Cx} {e a b : Expr} {te ta tb : TE} {pos : Pos}
theorem pe_fmtR (he : PE X e te) : PE X (.FormattedValue e 114 none pos) (tRepr te) := by
  intro pins s σ H Q I h
  refine wpAny_FormattedValue_repr (thn (he pins s σ H _ I h) fun v s1 ⟨y, H1, I1, r1, q1⟩ => ?_)
  obtain ⟨x, rfl, hx, q⟩ := q1
  obtain ⟨t, rfl⟩ := r1
  refine wpAny_pyReprObj_gives (T := "str") (id := "str.__repr__") rfl PySem.F.slot_str_repr PySem.F.entry_str_repr (PySem.F.args_str_repr_1 _) (gives_str_repr x t) (hx := hx) ?_
  exact formatField_str (hsz := hx) fun t' tk => ⟨.str _, H1, I1.tok _, ⟨t', rfl⟩, q⟩
/-- f'..{..}' of two parts, each a text -/
def tFstr2 (ta tb : TE) : TE := fun σ H Q => ta σ H fun v H1 => ∃ x, v = .str x ∧ x.length ≤ sizeLine ∧ tb σ H1 fun u H2 => ∃ y, u = .str y ∧ (x ++ y).length ≤ sizeLine ∧ Q (.str (x ++ y)) H2
theorem empty_app (x : Str) : Str.empty ++ x = x := by
  show Str.mk (#[] ++ x.cps) = x
  simp
theorem pe_fstr2 (ha : PE X a ta) (hb : PE X b tb) : PE X (.JoinedStr [a, b] pos) (tFstr2 ta tb) := by
  intro pins s σ H Q I h
  refine JoinedStr_many (joinParts_cons (thn (ha pins s σ H _ I h) fun v s1 ⟨z, H1, I1, r1, q1⟩ => ?_))
  obtain ⟨x, rfl, hx, q⟩ := q1
  obtain ⟨t, rfl⟩ := r1
  show (Str.empty ++ x).length ≤ sizeLine ∧ _
  rw [empty_app]
  refine ⟨hx, joinParts_cons (thn (hb pins s1 σ H1 _ I1 q) fun v s2 ⟨z, H2, I2, r2, q2⟩ => ?_)⟩
  obtain ⟨y, rfl, hy, q⟩ := q2
  obtain ⟨t', rfl⟩ := r2
  exact ⟨hy, joinParts_nil (hsz := hy) ⟨.str _, H2, I2.tok _, ⟨_, rfl⟩, q⟩⟩
end
theorem repr_fits {x : Str} (hx : ∀ c ∈ x.cps.toList, c < 16 ^ 8) (hl : x.length ≤ 1000) : (reprText x).length ≤ sizeLine := by
  have := PySem.StrLaws.reprText_len x hx
  unfold sizeLine
  omega
end L2

/-! ### a module's dict of texts and ints: read alone -/
namespace L2
open PySem PySem.Spec PyProof.Rows
/-- the dict that the module has written at a -/
def MdK (P : Program) (w : World) (K : PySem.W.Frag) (a : Addr) (kvs : List (Key × V)) : Prop :=
  (a == sysModules) = false ∧ ∃ o es ep vs, K.lookup a = some o ∧ o.ExactDict ∧ o.data = .dict es ep ∧ KeysOf (mixKind P w) es ∧ Pairs (mixKind P w) es.toList vs ∧ (vs.map (·.1)).Nodup ∧ KV kvs vs
def tMGet (a : Addr) (kvs : List (Key × V)) (td ty : TE) : TE := fun σ H Q => td σ H fun x H1 => ty σ H1 fun y H2 => ∃ k v, x = .ref a ∧ y = kV k ∧ valV kvs k = some v ∧ Q v H2
def tMIn (neg : Bool) (a : Addr) (kvs : List (Key × V)) (ty td : TE) : TE := fun σ H Q => ty σ H fun y H1 => td σ H1 fun x H2 => ∃ k, x = .ref a ∧ y = kV k ∧ Q (.bl (if neg then !(valV kvs k).isSome else (valV kvs k).isSome)) H2
section
variable {X : Cx} {pins : List (Addr × Obj)} {σ : St} {H : Hp} {s : Shared} {a : Addr} {kvs : List (Key × V)} {o i : Expr} {td ty : TE} {pos : Pos}
theorem MdK.at (M : MdK X.prog X.w X.K a kvs) (I : Inv X pins σ H s) : ∃ vs, KV kvs vs ∧ s.heap.DictOf (mixKind X.prog X.w) a vs := by
  obtain ⟨_, o, es, ep, vs, h1, h2, h3, h4, h5, h6, h7⟩ := M
  exact ⟨vs, h7, o, es, ep, I.kIn a o h1, h2, h3, h4, h5, h6⟩
theorem pe_mget (M : MdK X.prog X.w X.K a kvs) (hu : X.A.units + 1 < cLine) (ho : PE X o td) (hi : PE X i ty) (hs : NoSl i) : PE X (.Subscript o i pos) (tMGet a kvs td ty) := by
  intro pins s σ H Q I h
  refine subD_of PySem.F.slot_dict_getitem.lookup hs (thn (ho pins s σ H _ I h) fun u s1 ⟨x, H1, I1, rx, q1⟩ => thn (hi pins s1 σ H1 _ I1 q1) fun iv s2 ⟨y, H2, I2, ry, k, v, ex, ey, l, q2⟩ => ?_)
  subst ex ey
  obtain rfl : u = Value.ref a := rx
  obtain ⟨vs, rel, dd⟩ := M.at I2
  obtain ⟨w', hw, rw'⟩ := RelO.some_of (v := v) (o := valueAt vs k) (by rw [← l]; exact rel.val k)
  exact ⟨dd.typeIs, wpAny_getItem_of (kV_is ry) dd.mapOf hw ⟨v, H2, I2.tok _, rw', q2⟩⟩
theorem pc_min (M : MdK X.prog X.w X.K a kvs) (hi : PE X i ty) (ho : PE X o td) : PC X .In i o (tMIn false a kvs ty td) := by
  intro pins s σ H Q I h
  refine thn (hi pins s σ H _ I h) fun iv s1 ⟨y, H1, I1, ry, q1⟩ => thn (ho pins s1 σ H1 _ I1 q1) fun u s2 ⟨x, H2, I2, rx, k, ex, ey, q2⟩ => ?_
  subst ex ey
  obtain rfl : u = Value.ref a := rx
  obtain ⟨vs, rel, dd⟩ := M.at I2
  refine wpAny_in_of (kV_is ry) M.1 dd.mapOf ?_
  rw [← (rel.val k).isSome_eq]
  exact ⟨.bl _, H2, I2.tok _, rfl, q2⟩
theorem pc_mnotin (M : MdK X.prog X.w X.K a kvs) (hi : PE X i ty) (ho : PE X o td) : PC X .NotIn i o (tMIn true a kvs ty td) := by
  intro pins s σ H Q I h
  refine thn (hi pins s σ H _ I h) fun iv s1 ⟨y, H1, I1, ry, q1⟩ => thn (ho pins s1 σ H1 _ I1 q1) fun u s2 ⟨x, H2, I2, rx, k, ex, ey, q2⟩ => ?_
  subst ex ey
  obtain rfl : u = Value.ref a := rx
  obtain ⟨vs, rel, dd⟩ := M.at I2
  refine wpAny_notIn_of (kV_is ry) M.1 dd.mapOf ?_
  rw [← (rel.val k).isSome_eq]
  exact ⟨.bl _, H2, I2.tok _, rfl, q2⟩
end
/-- a dict as the module has written it: its entries, one by one -/
def MdE (w : World) : List DictEntry → List (Key × V) → Prop
  | e :: es, (.inr x, v) :: r => e.hash = hashStr w x ∧ (∃ t, e.key = .str x t) ∧ RelV v e.val ∧ MdE w es r
  | e :: es, (.inl i, v) :: r => e.hash = hashInt i ∧ (∃ t, e.key = .int i t) ∧ RelV v e.val ∧ MdE w es r
  | [], [] => True
  | _, _ => False
theorem MdE.out {P : Program} {w : World} : ∀ {es : List DictEntry} {kvs : List (Key × V)}, MdE w es kvs → ∃ vs, (∀ e ∈ es, ∃ k, (mixKind P w).is k e.key = true ∧ e.hash = (mixKind P w).hash k) ∧ Pairs (mixKind P w) es vs ∧ vs.map (·.1) = kvs.map (·.1) ∧ KV kvs vs
  | [], [], _ => ⟨[], (fun _ z => nomatch z), .nil, rfl, .nil⟩
  | e :: es, (.inr x, v) :: r, ⟨h1, ⟨t, h2⟩, h3, h4⟩ => by
    obtain ⟨vs, a1, a2, a3, a4⟩ := MdE.out (P := P) h4
    have q : (mixKind P w).is (.inr x) e.key = true := by rw [h2]; exact mixKind_str P w x t
    refine ⟨(.inr x, e.val) :: vs, fun e' he => ?_, .cons q rfl a2, by simp [a3], .cons ⟨rfl, h3⟩ a4⟩
    rcases List.mem_cons.mp he with rfl | he
    · exact ⟨.inr x, q, h1⟩
    · exact a1 e' he
  | e :: es, (.inl i, v) :: r, ⟨h1, ⟨t, h2⟩, h3, h4⟩ => by
    obtain ⟨vs, a1, a2, a3, a4⟩ := MdE.out (P := P) h4
    have q : (mixKind P w).is (.inl i) e.key = true := by rw [h2]; exact mixKind_int P w i t
    refine ⟨(.inl i, e.val) :: vs, fun e' he => ?_, .cons q rfl a2, by simp [a3], .cons ⟨rfl, h3⟩ a4⟩
    rcases List.mem_cons.mp he with rfl | he
    · exact ⟨.inl i, q, h1⟩
    · exact a1 e' he
theorem mdk_of {P : Program} {w : World} {K : PySem.W.Frag} {a : Addr} {kvs : List (Key × V)} {es : Array DictEntry} {ep : Nat} (l : K.lookup a = some ⟨.type "dict", none, .dict es ep, #[]⟩) (m : MdE w es.toList kvs) (n : (kvs.map (·.1)).Nodup) (s : (a == sysModules) = false) : MdK P w K a kvs := by
  obtain ⟨vs, a1, a2, a3, a4⟩ := m.out (P := P)
  exact ⟨s, _, es, ep, vs, l, ⟨rfl, rfl, rfl⟩, rfl, fun e he => a1 e (by simpa using he), a2, by rw [a3]; exact n, a4⟩
end L2

/-! ### texts compared; short words for calls in programs with refusals -/
namespace L2
open PySem PySem.Spec PyProof.Rows
section
variable {X : Cx}
theorem op_le_str : OpR X (compareOp .LtE) (fun x y H Q => ∃ i j, x = .str i ∧ y = .str j ∧ Q (.bl (!decide (j.cps.toList < i.cps.toList))) H) := by
  intro pins s σ H x y v u Q I rx ry h
  obtain ⟨i, j, rfl, rfl, q⟩ := h
  obtain ⟨t, rfl⟩ := rx
  obtain ⟨t', rfl⟩ := ry
  refine PySem.P.le_str ⟨.bl _, H, I, rfl, ?_⟩
  first | exact q | simpa using q
end
namespace Bt
theorem ValueError : bootBuiltins "ValueError" = some (.type "ValueError") := by decide +kernel
end Bt
section
variable {X : Cx} {CX : CXT} {k : Nat} {f C : Addr} {fd : FuncData} {ps : List Str} {sp : Sp} {E : XK} {x m : Str} {p pos apos : Pos} {e o : Expr} {es : List Expr} {ta : TE} {t : TA}
theorem pmake0 {x : Str} (M : Mk X.K C f) (F : FnOk X.prog X.w X.K X.mg X.base CX k f fd ps sp) (hr : Room (k + 1) X.A) (hm : X.mg x = some (.ref C)) (hb : Binds X.K fd ps []) (hx : Passes CX X E)
    (hg : X.env.scope.names.lookup x = some .globalImplicit := by kernel_rfl) (hdb : (x == ("__debug__" : Str)) = false := by kernel_rfl) : PE X (.Call (.Name x p) [] [] pos) (tMake C sp [] E tNil) := pe_make0 M F hr hg hm hb .nil hx hdb
theorem pcallX (F : FnOk X.prog X.w X.K X.mg X.base (CX1 X.prog X.w) k f fd ps sp) (hr : Room k X.A) (hm : X.mg x = some (.ref f)) (hk : PySem.W.keepIn X.K (.ref f) = true) (hb : Binds X.K fd ps []) (ha : PA X.nox (e :: es) t)
    (hg : X.env.scope.names.lookup x = some .globalImplicit := by kernel_rfl) (hdb : (x == ("__debug__" : Str)) = false := by kernel_rfl) (he : starEach (e :: es) X.env = (false, eval e X.env) :: starEach es X.env := by rfl) (hpl : (backTo pos (starEach es X.env)).any (·.1) = false := by rfl) :
    PEX X (.Call (.Name x p) (e :: es) [] pos) (tCallX sp [] t) := pex_call F hr hg hm hk hb .nil ha hdb he hpl
end
/-- the walk of a law whose defs may raise -/
theorem walk_ofX {l : PySem.W.OpenLaw} {n k : Nat} {q : Program} {loose : List Str} {XP : (Str → Option Value) → Heap → Prop} {YP : World → Heap → Prop} {d : DefRec} {K : Params → PySem.W.Frag} {sp : PySem.W.Frag → Sp} {x : Str}
    (hn : l.most = some n) (hn2 : n ≤ sizeLine) (hdf : d.params.defaults = []) (hr : Room k callerA)
    (hY : ∀ (w : World) (h : Heap), YP w h → (K w.params).In h)
    (F : ∀ (w : World) (mg : Str → Option Value) (fa : Addr) (h : Heap), (K w.params).In h → h.Ns mainGlobals mg → mg d.name = some (.ref fa) →
      ∃ fd : FuncData, (∀ (s : Shared) (u : Value), BindsTo s fd ⟨[u], []⟩ [(x, u)]) ∧
        ∀ base : Heap, (K w.params).In base → base.Ns mainGlobals mg → FnOk l.prog w (K w.params) mg base (CX1 l.prog w) k fa fd [x] (sp (K w.params)))
    (hsp : ∀ (K : PySem.W.Frag) (H : Hp) (a : Addr) (ns : List Int), ns.length ≤ n → Only H → SqL K H a (ns.map V.int) → sp K [.ref a] H (fun v _ => v = .bl true) fun _ _ _ => False) :
    PySem.W.WalkO q loose XP YP l.row.toRowW d [] (fun f vs => PySem.call f vs) :=
  walk_of (K := K) (CX := fun w => CX1 l.prog w) (sp := fun w => sp (K w.params)) hn hn2 hdf hr hY F (fun w H a ns h1 h2 h3 => hsp (K w.params) H a ns h1 h2 h3) fun _ _ _ _ _ ⟨_, _, _, _, _, z⟩ => z
end L2

/-! ### f-strings of three parts, plain fields -/
namespace L2
open PySem PySem.Spec PyProof.Rows
/-- {e} of a text -/
def tPlain (te : TE) : TE := fun σ H Q => te σ H fun v H1 => ∃ x, v = .str x ∧ x.length ≤ sizeLine ∧ Q (.str x) H1
def tFstr3 (ta tb tc : TE) : TE := fun σ H Q => ta σ H fun v H1 => ∃ x, v = .str x ∧ x.length ≤ sizeLine ∧ tb σ H1 fun u H2 => ∃ y, u = .str y ∧ (x ++ y).length ≤ sizeLine ∧ tc σ H2 fun r H3 => ∃ z, r = .str z ∧ (x ++ y ++ z).length ≤ sizeLine ∧ Q (.str (x ++ y ++ z)) H3
section
variable {X : Cx} {e a b c : Expr} {te ta tb tc : TE} {pos : Pos}
theorem pe_fmtS (he : PE X e te) : PE X (.FormattedValue e (-1) none pos) (tPlain te) := by
  intro pins s σ H Q I h
  refine wpAny_FormattedValue_plain (thn (he pins s σ H _ I h) fun v s1 ⟨y, H1, I1, r1, q1⟩ => ?_)
  obtain ⟨x, rfl, hx, q⟩ := q1
  obtain ⟨t, rfl⟩ := r1
  exact formatField_str (hsz := hx) fun t' tk => ⟨.str _, H1, I1.tok _, ⟨t', rfl⟩, q⟩
theorem pe_fstr3 (ha : PE X a ta) (hb : PE X b tb) (hc : PE X c tc) : PE X (.JoinedStr [a, b, c] pos) (tFstr3 ta tb tc) := by
  intro pins s σ H Q I h
  refine JoinedStr_many (joinParts_cons (thn (ha pins s σ H _ I h) fun v s1 ⟨z, H1, I1, r1, q1⟩ => ?_))
  obtain ⟨x, rfl, hx, q⟩ := q1
  obtain ⟨t, rfl⟩ := r1
  show (Str.empty ++ x).length ≤ sizeLine ∧ _
  rw [empty_app]
  refine ⟨hx, joinParts_cons (thn (hb pins s1 σ H1 _ I1 q) fun v s2 ⟨z, H2, I2, r2, q2⟩ => ?_)⟩
  obtain ⟨y, rfl, hy, q⟩ := q2
  obtain ⟨t', rfl⟩ := r2
  refine ⟨hy, joinParts_cons (thn (hc pins s2 σ H2 _ I2 q) fun v s3 ⟨z, H3, I3, r3, q3⟩ => ?_)⟩
  obtain ⟨z, rfl, hz, q⟩ := q3
  obtain ⟨t'', rfl⟩ := r3
  exact ⟨hz, joinParts_nil (hsz := hz) ⟨.str _, H3, I3.tok _, ⟨_, rfl⟩, q⟩⟩
end
end L2

/-! ### sum of ints of any size -/
namespace L2
open PySem PySem.Spec PyProof.Rows
section
variable {X : Cx}
def rSumG (K : PySem.W.Frag) : List V → Hp → VK → Prop := fun xs H Q => ∃ (p : Addr) (ns : List Int), xs = [.ref p] ∧ SqL K H p (ns.map V.int) ∧ Q (.int ns.sum) H
theorem call_sumG (hc : X.calm = true) : CallR X (.builtin "sum") (rSumG X.K) := by
  intro pins s σ H xs us Q I r h
  obtain ⟨p, ns, rfl, hp, q⟩ := h
  obtain ⟨u, rfl, ru⟩ := vals1 r
  cases ru
  obtain ⟨its, rv, pl, hz⟩ := I.list hp
  have hi := intsAre_of rv
  have hh : X.A.handled = none := I.ok.hd hc
  obtain ⟨xs, e⟩ := hi.allInts.items
  have hns : ns = xs.toList.map (·.1) := by
    rw [← hi.numsOf, ← nums_intItems, ← e]
  have hlen : ns.length = xs.size := by rw [hns, List.length_map, Array.length_toList]
  have hn : numAt xs = fun i => ns.getD i 0 := by
    funext i; rw [hns]; exact numAt_eq _ _
  have hl := pl.isList
  rw [e] at hl
  refine sum_intListG hh hl fun h' tk t' hk => ?_
  rw [hn, preSum_take ns xs.size (by omega), ← hlen, List.take_length]
  exact ⟨.int _, H, I.kept (t' := tk) hk, ⟨t', rfl⟩, q⟩
end
end L2
/-! ### enumerate(tuple) -/
namespace PySem
open AutoSeq1 (wpAny_loadPart')
section
variable {P : Program} {w : World} {A : Around} {E : Value → Shared → Prop} {z : Shared}
theorem nextT_item {it c0 : Addr} {i : Nat} {its : Array Value} {x : Value} {Q : Value → Shared → Prop} (hit : z.heap.IsTupleIter it c0 i) (ht : z.heap.IsTuple c0 its) (hx : its[i]? = some x)
    (hQ : ∀ h', h'.IsTupleIter it c0 (i + 1) → Heap.SameBut it z.heap h' → Q x { z with heap := h' }) : wpAny (model P w) A (Builtin.SmallTypes.nextOf (.ref it)) Q E z := by
  obtain ⟨o, q1, hc, hd⟩ := id hit
  obtain ⟨ol, q2, _, nl, q3⟩ := ht
  unfold Builtin.SmallTypes.nextOf
  refine wpAny_bind (wpAny_callSpecial?_slot (name := Str.ofString "__next__") hit.typeIs F.slot_tuple_iterator_next (wpAny_call_entry F.slot_tuple_iterator_next hit.typeIs F.entry_tuple_iterator_next ?_ (F.args_tuple_iterator_next_1 _)))
  show wpAny _ _ (field (.ref it) 0 >>= _) _ _ z
  refine wpAny_bind (wpAny_field q1 hd (x := .ref c0) rfl ?_)
  show wpAny _ _ (if (Value.ref c0 == Value.none) = true then _ else _) _ _ z
  rw [if_neg (show ¬ ((Value.ref c0 == Value.none) = true) from Bool.false_ne_true)]
  show wpAny _ _ (field (.ref it) 1 >>= _) _ _ z
  refine wpAny_bind (wpAny_field q1 hd (x := .int i 0) rfl ?_)
  show wpAny _ _ (seqItems? (.ref c0) >>= _) _ _ z
  refine wpAny_bind (wpAny_seqItems q2 q3 ?_)
  simp only [Int.toNat_natCast, hx]
  refine wpAny_bind (wpAny_setField q1 hd (by simp) (wpAny_pure ⟨x, rfl, wpAny_pure (hQ _ ?_ (Heap.SameBut.update ..))⟩))
  exact ⟨_, Heap.get?_update_self _ q1 (Obj.isFreed_of_fields (Obj.data_mapFields hd _)), (Obj.cls_mapFields ..).trans hc, by rw [Obj.data_mapFields hd]; simp [rawInt]⟩
theorem nextT_end {it c0 : Addr} {i : Nat} {its : Array Value} {Q : Value → Shared → Prop} (hh : A.handled = none) (hit : z.heap.IsTupleIter it c0 i) (ht : z.heap.IsTuple c0 its) (hx : its[i]? = none)
    (hE : ∀ h' e, Heap.ExtBut it z.heap h' → (∃ o, h'.get? e = some o ∧ o.cls = .type "StopIteration") → E (.ref e) { z with heap := h' }) : wpAny (model P w) A (Builtin.SmallTypes.nextOf (.ref it)) Q E z := by
  obtain ⟨o, q1, hc, hd⟩ := id hit
  obtain ⟨ol, q2, _, nl, q3⟩ := ht
  unfold Builtin.SmallTypes.nextOf
  refine wpAny_bind (wpAny_callSpecial?_slot (name := Str.ofString "__next__") hit.typeIs F.slot_tuple_iterator_next (wpAny_call_entry F.slot_tuple_iterator_next hit.typeIs F.entry_tuple_iterator_next ?_ (F.args_tuple_iterator_next_1 _)))
  show wpAny _ _ (field (.ref it) 0 >>= _) _ _ z
  refine wpAny_bind (wpAny_field q1 hd (x := .ref c0) rfl ?_)
  show wpAny _ _ (if (Value.ref c0 == Value.none) = true then _ else _) _ _ z
  rw [if_neg (show ¬ ((Value.ref c0 == Value.none) = true) from Bool.false_ne_true)]
  show wpAny _ _ (field (.ref it) 1 >>= _) _ _ z
  refine wpAny_bind (wpAny_field q1 hd (x := .int i 0) rfl ?_)
  show wpAny _ _ (seqItems? (.ref c0) >>= _) _ _ z
  refine wpAny_bind (wpAny_seqItems q2 q3 ?_)
  simp only [Int.toNat_natCast, hx]
  refine wpAny_bind (wpAny_rule (wpAny_bind (wpAny_setField q1 hd (by simp) ?_)))
  show wpAny _ _ (newExc (.type "StopIteration") [] >>= _) _ _ _; refine wpAny_bind ?_
  simp only [newExc, newTuple]; refine wpAny_bind (wpAny_newObj_type ?_ (by size_fits))
  refine wpAny_bind (m := firstArgMember _ _) (wpAny_of_eq (a := Value.none) (by first | rfl | (simp only [firstArgMember]; rfl)) ?_); refine wpAny_newObj_type ?_ (by size_fits)
  simp only [raiseNew]; refine wpAny_bind (wpAny_handled ?_)
  first | rw [show A.in1.handled = none from hh] | rw [hh]
  refine wpAny_bind (wpAny_pure (wpAny_throw ?_)); exact hE _ _ (((Heap.SameBut.update ..).extBut.push _).push _) ⟨_, Heap.get?_push_size _ rfl, rfl⟩
end
theorem Heap.IsTuple.on {h h' : Heap} {c0 : Addr} {its : Array Value} (y : h.IsTuple c0 its) (k : ∀ o, h.get? c0 = some o → h'.get? c0 = some o) : h'.IsTuple c0 its := let ⟨o, e, r⟩ := y; ⟨o, k o e, r⟩
theorem Heap.IsTupleIter.on {h h' : Heap} {it c0 : Addr} {i : Nat} (y : h.IsTupleIter it c0 i) (k : ∀ o, h.get? it = some o → h'.get? it = some o) : h'.IsTupleIter it c0 i := let ⟨o, e, r⟩ := y; ⟨o, k o e, r⟩
end PySem
namespace L2
open PySem PySem.Spec PyProof.Rows
section
variable {X : Cx} {elts : List Expr} {x1 : Nat} {pt p cpos : Pos} {l : Expr} {tl : TE}
theorem penum (hl : PE X l tl) (hm : X.mg "enumerate" = none) (hg : X.env.scope.names.lookup ("enumerate" : Str) = some .globalImplicit := by kernel_rfl)
    (he : starEach [l] X.env = (false, eval l X.env) :: starEach [] X.env := by rfl) (hpl : (backTo cpos (starEach [] X.env)).any (·.1) = false := by rfl) :
    PI X (.Tuple elts x1 pt) (.Call (.Name "enumerate" p) [l] [] cpos) (iEnum X.K tl) := pi_enum hl hg hm he hpl
end
section
variable {K : PySem.W.Frag} {g : TG} {tb : TS} {D : Ends} {σ : St} {H : Hp} {ix : List (Option Nat)} {tt : TT} {te : TE} {Q : VK}
end
end L2

/-! ### t[a:b], also the whole -/
namespace HT
open PySem PySem.Spec PyProof.Rows
section
variable {P : Program} {w : World} {A : Around} {E : Value → Shared → Prop} {z : Shared}
end
end HT
namespace L2
open PySem PySem.Spec PyProof.Rows
section
variable {X : Cx}
/-- the whole slice -/
def Whole (n : Nat) (lo hi : Option Int) : Prop := HT.sIx n 0 lo = 0 ∧ HT.sIx n n hi = n
instance (n : Nat) (lo hi : Option Int) : Decidable (Whole n lo hi) := by unfold Whole; infer_instance
/-! ### t.m(..) of a tuple that was made -/
variable {o e : Expr} {es : List Expr} {to : TE} {t : TA} {name : Str} {apos cpos : Pos} {id : String} {r : V → List V → Hp → VK → Prop}
end
end L2

/-! ### min(list, default=d) -/
namespace PySem
section
variable {P0 : Program} {w : World} {A : Around} {R : Result → Shared → Prop} {I : Addr} {fp wr : List Addr} {n : Nat} {P : Nat → Value → Prop} {St : Nat → Heap → Prop}
end
section
variable {P0 : Program} {w : World} {A : Around} {E : Value → Shared → Prop} {z : Shared} {l : Addr} {xs : Array (Int × Tok)}
end
end PySem
namespace L2
open PySem PySem.Spec PyProof.Rows
end L2

/-! ### a list of objects beside another one of the same -/
namespace L2
open PySem
variable {X : Cx}
end L2

/-! ### tuples beside one another; a list beside another one of the same objects, == -/
namespace L2
open PySem PyProof.Rows
variable {X : Cx}
end L2

namespace PySem
open Sem (wp)
open Builtin
open AutoSeq1 (wpAny_loadPart')
end PySem
namespace L2
open PySem PyProof.Rows
variable {X : Cx}
end L2

/-! ### two minds beside one another: the same names, ranks of their own -/
namespace L2
open PySem PyProof.Rows
variable {X : Cx}
end L2

/-! ### zip(list, tuple) -/
namespace PySem
open AutoSeq1 (wpAny_loadPart')
section
variable {P : Program} {w : World} {A : Around} {E : Value → Shared → Prop} {z : Shared}
/-- the five records of zip(list, tuple), as they lie one behind the other -/
structure ZipSt (n a b : Nat) (i : Nat) (f : Value) (h : Heap) : Prop where
  out : IsZip h (n + 4) (n + 2) (n + 3) f
  its : IsPair h (n + 2) (.ref n) (.ref (n + 1))
  own : ∃ x y, IsPair h (n + 3) x y
  fst : h.IsListIter n a i
  snd : h.IsTupleIter (n + 1) b i
theorem ZipSt.on {n a b : Nat} {i : Nat} {f : Value} {h h' : Heap} (x : ZipSt n a b i f h) (k : ∀ c : Nat, n ≤ c → c ≤ n + 4 → ∀ o, h.get? c = some o → h'.get? c = some o) : ZipSt n a b i f h' :=
  ⟨k (n + 4) (Nat.le_add_right _ _) (Nat.le_refl _) _ x.out, k (n + 2) (Nat.le_add_right _ _) (Nat.add_le_add_left (by decide) _) _ x.its, let ⟨u, v, q⟩ := x.own; ⟨u, v, k (n + 3) (Nat.le_add_right _ _) (Nat.add_le_add_left (by decide) _) _ q⟩, x.fst.at fun o q => k n (Nat.le_refl _) (Nat.le_add_right _ _) o q, x.snd.on fun o q => k (n + 1) (Nat.le_add_right _ _) (Nat.add_le_add_left (by decide) _) o q⟩
end
end PySem
namespace L2
open PySem PySem.Spec PyProof.Rows
/-- records of an iterator have turned, nothing is new -/
theorem Inv.turnedAll {X : Cx} {pins : List (Addr × Obj)} {σ : St} {H : Hp} {s : Shared} {h' : Heap} {fp : List Addr} {t' : Nat} (I : Inv X pins σ H s) (hf : ∀ b ∈ fp, FpOk X pins H b) (k : ∀ b u, b ∉ fp → s.heap.get? b = some u → h'.get? b = some u) :
    Inv X pins σ H { s with heap := h', toks := t' } := by
  have nf : ∀ b u, H b = some u → b ∉ fp := fun b u e z => by rw [(hf b z).1] at e; cases e
  refine I.step (g' := s.gens) (d' := s.drawn) (ch := fp) (fun b hb => ?_) (fun b u _ _ hc e _ => k b u hc e) (fun b u _ _ hc e _ => ⟨u.slots, k b u hc e⟩) (fun _ _ _ _ n => n)
    (fun b u hc e => ⟨u, k b u hc e⟩) (fun _ _ e => e) (fun _ _ _ e => e) (fun b ps e => ⟨#[], by rw [e]; simp⟩) (fun m hm => ?_) (fun b u e => ?_) I.bare
  · obtain ⟨_, f1, _, f3, f4, f5⟩ := hf b hb
    exact ⟨f3, f1, f4, f5⟩
  · obtain ⟨ob, es, ep, ho, r⟩ := hm
    exact ⟨ob, es, ep, k _ ob (fun z => (hf _ z).2.1 rfl) ho, r⟩
  · refine (I.hok b u e).stay (fun c v hc q => k c v ?_ q) (fun _ q => q) fun _ _ q => q
    rcases hc with z | z
    · rw [z]; exact nf b u e
    · exact nf c _ z
theorem zmem {c n : Nat} : c ∈ [n + 4, n + 3, n + 2, n + 1, n] ↔ n ≤ c ∧ c ≤ n + 4 := by
  simp only [List.mem_cons, List.not_mem_nil, or_false]
  omega
section
variable {K : PySem.W.Frag} {g : TG} {σ : St} {H : Hp} {ix : List (Option Nat)} {tt : TT} {te : TE} {Q : VK}
end
/-! ### great products -/
/-! ### two tuples of texts -/
end L2

/-! ### two lists of the same numbers -/
namespace L2
open PySem PyProof.Rows
variable {X : Cx}
end L2

/-! ### a list turned about, and something put into one -/
namespace L2
open PySem PyProof.Rows
variable {X : Cx}
end L2

/-! ### max of a tuple -/
namespace L2
open PySem PySem.Spec PyProof.Rows
variable {X : Cx}
end L2

namespace L2
open PySem PySem.Spec PyProof.Rows
/-! ### sorted(dict whose keys are ints, reverse=True) -/
/-! ### a list against the empty one -/
/-! ### list(range(n)) -/
end L2

/-! ### (list of ints, list) against (list of ints, []) -/
namespace L2
open PySem PyProof.Rows
variable {X : Cx}
end L2
namespace L2
open PySem PyProof.Rows
variable {X : Cx}
end L2

/-! ### a module's dict whose keys are ints and None -/
namespace L2
open PySem PySem.Spec PyProof.Rows
def kO : Option Int → V
  | none => .non
  | some i => .int i
section
variable {X : Cx} {pins : List (Addr × Obj)} {σ : St} {H : Hp} {s : Shared} {a : Addr} {kvs : List (Option Int × V)} {o i : Expr} {td ty : TE} {pos : Pos}
end
/-! ### two dicts of the same content -/
/-! ### so many arguments -/
theorem us0 {P : List Value → Prop} (h : P []) : ∀ us : List Value, us.length = 0 → P us
  | [], _ => h
theorem usS {n : Nat} {P : List Value → Prop} (h : ∀ (a : Value) (us : List Value), us.length = n → P (a :: us)) : ∀ us : List Value, us.length = n + 1 → P us
  | a :: us, e => h a us (Nat.succ.inj e)
theorem us1 {P : List Value → Prop} (h : ∀ a, P [a]) : ∀ us : List Value, us.length = 1 → P us := usS fun a => us0 (P := fun us => P (a :: us)) (h a)
theorem us2 {P : List Value → Prop} (h : ∀ a b, P [a, b]) : ∀ us : List Value, us.length = 2 → P us := usS fun a => us1 (P := fun us => P (a :: us)) (h a)
theorem us3 {P : List Value → Prop} (h : ∀ a b c, P [a, b, c]) : ∀ us : List Value, us.length = 3 → P us := usS fun a => us2 (P := fun us => P (a :: us)) (h a)
end L2

/-! ### an exception that flies out of a comprehension -/
namespace L2
open PySem PySem.Spec PyProof.Rows
/-- a heap less one object -/
def less (B : Heap) (c : Addr) : Heap := B.update c fun o => { o with data := .freed }
section
variable {P : Program} {w : World} {K : PySem.W.Frag} {mg : Str → Option Value} {base : Heap} {N : List Str} {qual : Str} {scope : Scope} {f : Addr} {cd : Value} {A : Around} {outer : List Env} {s : Shared} {H : Hp} {E : XK}
end
/-! ### a comprehension's loop; the item may raise -/
section
variable {X : Cx} {E : XK} {pins : List (Addr × Obj)} {scope : Scope} {cl : List (Str × Addr)} {C : Addr} {N' : List Str} {fp : List Addr} {s : Shared} {H : Hp}
end
section
variable {X : Cx} {E : XK} {sc : Scope} {N N' : List Str} {scope : Scope} {ix : List (Option Nat)} {tg iter elt : Expr} {ifs : List Expr} {pos : Pos} {wi : TI} {g : TG} {tt : TT} {te : TE}
end
end L2

/-! ### methods in a try; a class made with arguments -/
namespace L2
open PySem PySem.Spec PyProof.Rows
section
variable {X : Cx} {CX : CXT} {k : Nat} {f C : Addr} {fd : FuncData} {ps : List Str} {sp : Sp} {E : XK} {x m : Str} {p pos apos : Pos} {e o : Expr} {es : List Expr} {ta : TE} {t : TA}
end
/-! ### isinstance of a caught one, by a tuple of classes -/
end L2

/-! ### what is deeply equal: lists and tuples of one another -/
namespace L2
open PySem PyProof.Rows
variable {X : Cx}
/-- equal, to a depth of n -/
inductive DEq (K : PySem.W.Frag) (H : Hp) : Nat → V → V → Prop
  | same (n : Nat) (a : Addr) : DEq K H n (.ref a) (.ref a)
  | int (n : Nat) (i : Int) : DEq K H n (.int i) (.int i)
  | str (n : Nat) (x : Str) : DEq K H n (.str x) (.str x)
  | tup {n : Nat} {a b : Addr} {xs ys : List V} (h1 : SqT K H a xs) (h2 : SqT K H b ys) (hl : xs.length = ys.length) (h : ∀ (j : Nat) (x y : V), xs[j]? = some x → ys[j]? = some y → DEq K H n x y) : DEq K H (n + 1) (.ref a) (.ref b)
  | lst {n : Nat} {a b : Addr} {xs ys : List V} (h1 : SqL K H a xs) (h2 : SqL K H b ys) (hl : xs.length = ys.length) (h : ∀ (j : Nat) (x y : V), xs[j]? = some x → ys[j]? = some y → DEq K H n x y) : DEq K H (n + 1) (.ref a) (.ref b)
/-- it is enough for a lesser depth -/
theorem DEq.more {K : PySem.W.Frag} {H : Hp} {n : Nat} {x y : V} (h : DEq K H n x y) : ∀ {m : Nat}, n ≤ m → DEq K H m x y := by
  induction h with
  | same n a => exact fun {m} _ => .same m a
  | int n i => exact fun {m} _ => .int m i
  | str n i => exact fun {m} _ => .str m i
  | tup h1 h2 hl h ih =>
    intro m hm
    cases m with
    | zero => omega
    | succ m => exact .tup h1 h2 hl fun j x y e1 e2 => ih j x y e1 e2 (by omega)
  | lst h1 h2 hl h ih =>
    intro m hm
    cases m with
    | zero => omega
    | succ m => exact .lst h1 h2 hl fun j x y e1 e2 => ih j x y e1 e2 (by omega)
end L2

/-! ### min of a tuple -/
namespace L2
open PySem PySem.Spec PyProof.Rows
variable {X : Cx}
end L2

/-! ### products of still greater numbers -/
namespace L2
open PySem PyProof.Rows
end L2

/-! ### zip(tuple, tuple) -/
namespace PySem
open AutoSeq1 (wpAny_loadPart')
abbrev zr1 (h : Heap) (a : Addr) : Heap := h.push { cls := .type "tuple_iterator", data := .fields #[.ref a, .int 0 0] }
abbrev zr2 (h : Heap) (a b : Addr) : Heap := (zr1 h a).push { cls := .type "tuple_iterator", data := .fields #[.ref b, .int 0 0] }
abbrev zr3 (h : Heap) (a b : Addr) : Heap := (zr2 h a b).push { cls := .type "tuple", data := .seq #[.ref h.objs.size, .ref (zr1 h a).objs.size] }
abbrev zr4 (h : Heap) (a b : Addr) : Heap := (zr3 h a b).push { cls := .type "tuple", data := .seq #[.none, .none] }
abbrev zr5 (h : Heap) (a b : Addr) : Heap := (zr4 h a b).push { cls := .type "zip", data := .fields #[.none, .bool false, .bool false, .ref (zr2 h a b).objs.size, .ref (zr3 h a b).objs.size] }
theorem zipNewTT (a b : Addr) (us vs : Array Value) :
    Meets (Builtin.«zip.__new__» ⟨[.type "zip", .ref a, .ref b], []⟩) (fun _ R z => z.heap.IsTuple a us ∧ z.heap.IsTuple b vs ∧ R (.ok (.ret (.ref (zr4 z.heap a b).objs.size))) { z with heap := zr5 z.heap a b }) :=
  .of_wp fun P w A R z h => by
    obtain ⟨hp, g, d, tk, os⟩ := z; obtain ⟨q1, q2, h⟩ := h
    have hsub := sub_zip
    have L1 : Heap.IsTuple (Shared.heap ⟨hp, g, d, tk, os⟩) a us := q1
    have L2 : Heap.IsTuple (Shared.heap ⟨hp.push { cls := .type "tuple_iterator", data := .fields #[.ref a, .int 0 0] }, g, d, tk, os⟩) b vs := by
      obtain ⟨o, e, r⟩ := q2
      exact ⟨o, Heap.get?_push_of_some _ e, r⟩
    wp_walk using wpAny_pyIter_tuple L1, wpAny_pyIter_tuple L2
    exact ⟨_, rfl, h⟩
section
variable {P : Program} {w : World} {A : Around} {E : Value → Shared → Prop} {z : Shared}
/-- the five records of zip(list, tuple), as they lie one behind the other -/
structure ZipTT (n a b : Nat) (i : Nat) (f : Value) (h : Heap) : Prop where
  out : IsZip h (n + 4) (n + 2) (n + 3) f
  its : IsPair h (n + 2) (.ref n) (.ref (n + 1))
  own : ∃ x y, IsPair h (n + 3) x y
  fst : h.IsTupleIter n a i
  snd : h.IsTupleIter (n + 1) b i
theorem ZipTT.on {n a b : Nat} {i : Nat} {f : Value} {h h' : Heap} (x : ZipTT n a b i f h) (k : ∀ c : Nat, n ≤ c → c ≤ n + 4 → ∀ o, h.get? c = some o → h'.get? c = some o) : ZipTT n a b i f h' :=
  ⟨k (n + 4) (Nat.le_add_right _ _) (Nat.le_refl _) _ x.out, k (n + 2) (Nat.le_add_right _ _) (Nat.add_le_add_left (by decide) _) _ x.its, let ⟨u, v, q⟩ := x.own; ⟨u, v, k (n + 3) (Nat.le_add_right _ _) (Nat.add_le_add_left (by decide) _) _ q⟩, x.fst.on fun o q => k n (Nat.le_refl _) (Nat.le_add_right _ _) o q, x.snd.on fun o q => k (n + 1) (Nat.le_add_right _ _) (Nat.add_le_add_left (by decide) _) o q⟩
theorem zipCallTT {a b : Nat} {us vs : Array Value} {Q : Value → Shared → Prop} (q1 : z.heap.IsTuple a us) (q2 : z.heap.IsTuple b vs)
    (h : ∀ h', ZipTT z.heap.objs.size a b 0 .none h' → (∀ (c : Nat) o, z.heap.get? c = some o → h'.get? c = some o) → Q (.ref (z.heap.objs.size + 4)) { z with heap := h' }) :
    wpAny (model P w) A (call (.type "zip") [.ref a, .ref b]) Q E z := by
  refine callType_new F.called_zip (by decide) (F.typeCall_zip_2 _ _) (F.newCall_zip_2 _ _) (fun obj => F.args_object_init_3 obj _ _) F.entry_zip_new (zipNewTT a b us vs) ⟨q1, q2, ?_⟩
  have s1 : (zr1 z.heap a).objs.size = z.heap.objs.size + 1 := Heap.size_push ..
  have s2 : (zr2 z.heap a b).objs.size = z.heap.objs.size + 2 := by rw [Heap.size_push, s1]
  have s3 : (zr3 z.heap a b).objs.size = z.heap.objs.size + 3 := by rw [Heap.size_push, s2]
  have s4 : (zr4 z.heap a b).objs.size = z.heap.objs.size + 4 := by rw [Heap.size_push, s3]
  have e5 : (zr5 z.heap a b).get? (zr4 z.heap a b).objs.size = some _ := Heap.get?_push_size _ rfl
  have e4 : (zr5 z.heap a b).get? (zr3 z.heap a b).objs.size = some _ := Heap.get?_push_of_some _ (Heap.get?_push_size _ rfl)
  have e3 : (zr5 z.heap a b).get? (zr2 z.heap a b).objs.size = some _ := Heap.get?_push_of_some _ (Heap.get?_push_of_some _ (Heap.get?_push_size _ rfl))
  have e2 : (zr5 z.heap a b).get? (zr1 z.heap a).objs.size = some _ := Heap.get?_push_of_some _ (Heap.get?_push_of_some _ (Heap.get?_push_of_some _ (Heap.get?_push_size _ rfl)))
  have e1 : (zr5 z.heap a b).get? z.heap.objs.size = some _ := Heap.get?_push_of_some _ (Heap.get?_push_of_some _ (Heap.get?_push_of_some _ (Heap.get?_push_of_some _ (Heap.get?_push_size _ rfl))))
  show _ ∧ _
  rw [s2, s3, s4] at e5
  rw [s1, s2] at e3
  rw [s3] at e4
  rw [s1] at e2
  rw [s4]
  exact ⟨⟨_, e5, rfl⟩, h _ ⟨e5, e3, ⟨_, _, e4⟩, ⟨_, e1, rfl, rfl⟩, ⟨_, e2, rfl, rfl⟩⟩ fun c o x => Heap.get?_push_of_some _ (Heap.get?_push_of_some _ (Heap.get?_push_of_some _ (Heap.get?_push_of_some _ (Heap.get?_push_of_some _ x))))⟩
theorem zipNextTT {n a b : Nat} {i : Nat} {us vs : Array Value} {x y : Value} {Q : Option Value → Shared → Prop} (ha : a < n) (hb : b < n) (st : ZipTT n a b i .none z.heap) (la : z.heap.IsTuple a us) (lb : z.heap.IsTuple b vs) (hx : us[i]? = some x) (hy : vs[i]? = some y)
    (hQ : ∀ h', ZipTT n a b (i + 1) (rawInt z.heap.objs.size) h' → IsPair h' z.heap.objs.size x y → (∀ (c : Nat) o, (c < n ∨ n + 4 < c) → z.heap.get? c = some o → h'.get? c = some o) → Q (some (.ref z.heap.objs.size)) { z with heap := h' }) :
    wpAny (model P w) A (pyNext (.ref (n + 4))) Q E z := by
  obtain ⟨qz, qi, ⟨u0, v0, qo⟩, q1, q2⟩ := st
  have hT : z.TypeIs (.ref (n + 4)) "zip" := ⟨_, qz, rfl⟩
  unfold pyNext
  refine wpAny_bind (wpAny_attempt (wpAny_callSpecial?_slot (name := Str.ofString "__next__") hT F.slot_zip_next (wpAny_call_entry F.slot_zip_next hT F.entry_zip_next ?_ (F.args_zip_next_1 _))))
  show wpAny _ _ (field (.ref (n + 4)) 2 >>= _) _ _ _
  refine wpAny_bind (wpAny_field qz rfl (x := .bool false) rfl ?_)
  show wpAny _ _ (field (.ref (n + 4)) 3 >>= _) _ _ _
  refine wpAny_bind (wpAny_field qz rfl (x := .ref (n + 2)) rfl ?_)
  refine wpAny_bind (wpAny_seqItems qi rfl ?_)
  show wpAny _ _ (Builtin.SmallTypes.ownedTupleIsFree (.ref (n + 4)) >>= _) _ _ _
  refine wpAny_bind ?_; unfold Builtin.SmallTypes.ownedTupleIsFree
  refine wpAny_bind (wpAny_field qz rfl (x := .none) rfl (wpAny_pure ?_))
  simp only [if_true]
  refine wpAny_bind (wpAny_rule ?_)
  refine wpAny_bind (wpAny_field qz rfl (x := .ref (n + 3)) rfl ?_)
  refine wpAny_bind (wpAny_setField_rec qz (by simp) fun h1 qz1 k1 => ?_)
  replace qz1 : IsZip h1 (n + 4) (n + 2) (n + 3) .ellipsis := qz1
  refine wpAny_bind ?_; simp only [List.zipIdx_nil, List.zipIdx_cons, List.forIn_nil, List.forIn_cons]
  refine wpAny_bind (wpAny_bind (wpAny_onRaise ?_))
  show wpAny _ _ (Builtin.SmallTypes.nextOf (.ref n) >>= _) _ _ _
  refine wpAny_bind (nextT_item (q1.extBut k1.extBut (by first | omega | (refine (?_ : @Ne Nat _ _); omega))) (la.on fun o e => k1.extBut _ o (by first | omega | (refine (?_ : @Ne Nat _ _); omega)) e) hx fun h2 q12 k2 => wpAny_pure ?_)
  have qo2 : IsPair h2 (n + 3) u0 v0 := k2.extBut _ _ (by first | omega | (refine (?_ : @Ne Nat _ _); omega)) (k1.extBut _ _ (by first | omega | (refine (?_ : @Ne Nat _ _); omega)) qo)
  refine wpAny_bind (wpAny_seqItems qo2 rfl ?_)
  refine wpAny_bind (wpAny_updateSeq_pair qo2 fun h3 qo3 k3 => ?_)
  replace qo3 : IsPair h3 (n + 3) x v0 := qo3
  refine wpAny_bind (wpAny_letGo (wpAny_pure ?_))
  refine wpAny_bind (wpAny_bind (wpAny_onRaise ?_))
  show wpAny _ _ (Builtin.SmallTypes.nextOf (.ref (n + 1)) >>= _) _ _ _
  have up3 : ∀ (c : Nat) o, c ≠ n + 4 → c ≠ n + 3 → c ≠ n → z.heap.get? c = some o → h3.get? c = some o := fun c o c1 c2 c3 e => k3.extBut _ _ c2 (k2.extBut _ _ c3 (k1.extBut _ _ c1 e))
  refine wpAny_bind (nextT_item (q2.on fun o e => up3 _ o (by first | omega | (refine (?_ : @Ne Nat _ _); omega)) (by first | omega | (refine (?_ : @Ne Nat _ _); omega)) (by first | omega | (refine (?_ : @Ne Nat _ _); omega)) e) (lb.on fun o e => up3 _ o (by first | omega | (refine (?_ : @Ne Nat _ _); omega)) (by first | omega | (refine (?_ : @Ne Nat _ _); omega)) (by first | omega | (refine (?_ : @Ne Nat _ _); omega)) e) hy fun h4 q24 k4 => wpAny_pure ?_)
  have qo4 : IsPair h4 (n + 3) x v0 := k4.extBut _ _ (by first | omega | (refine (?_ : @Ne Nat _ _); omega)) qo3
  refine wpAny_bind (wpAny_seqItems qo4 rfl ?_)
  refine wpAny_bind (wpAny_updateSeq_pair qo4 fun h5 qo5 k5 => ?_)
  replace qo5 : IsPair h5 (n + 3) x y := qo5
  refine wpAny_bind (wpAny_letGo (wpAny_pure (wpAny_pure ?_)))
  refine wpAny_bind (wpAny_seqItems qo5 rfl ?_)
  refine wpAny_bind (wpAny_newTuple ?_)
  have hsz : h5.objs.size = z.heap.objs.size := by rw [k5.1, k4.1, k3.1, k2.1, k1.1]
  have up5 : ∀ (c : Nat) o, c ≠ n + 4 → c ≠ n + 3 → c ≠ n → c ≠ n + 1 → z.heap.get? c = some o → h5.get? c = some o := fun c o c1 c2 c3 c4 e => k5.extBut _ _ c2 (k4.extBut _ _ c4 (up3 c o c1 c2 c3 e))
  have qz5 : IsZip h5 (n + 4) (n + 2) (n + 3) .ellipsis := k5.extBut _ _ (by first | omega | (refine (?_ : @Ne Nat _ _); omega)) (k4.extBut _ _ (by first | omega | (refine (?_ : @Ne Nat _ _); omega)) (k3.extBut _ _ (by first | omega | (refine (?_ : @Ne Nat _ _); omega)) (k2.extBut _ _ (by first | omega | (refine (?_ : @Ne Nat _ _); omega)) qz1)))
  have q15 : h5.IsTupleIter n a (i + 1) := ((q12.extBut k3.extBut (by first | omega | (refine (?_ : @Ne Nat _ _); omega))).extBut k4.extBut (by first | omega | (refine (?_ : @Ne Nat _ _); omega))).extBut k5.extBut (by first | omega | (refine (?_ : @Ne Nat _ _); omega))
  have q25 : h5.IsTupleIter (n + 1) b (i + 1) := q24.extBut k5.extBut (by first | omega | (refine (?_ : @Ne Nat _ _); omega))
  have lz : n + 4 < h5.objs.size := Heap.lt_size qz5
  show wpAny _ _ (Builtin.SmallTypes.ownedTupleHandOut (.ref (n + 4)) (.ref h5.objs.size) >>= _) _ _ _
  refine wpAny_bind ?_; unfold Builtin.SmallTypes.ownedTupleHandOut
  have qz6 : IsZip (h5.push { cls := .type "tuple", data := .seq #[x, y] }) (n + 4) (n + 2) (n + 3) .ellipsis := Heap.get?_push_of_some _ qz5
  refine wpAny_bind (wpAny_setField_rec qz6 (by simp) fun h7 qz7 k7 => ?_)
  replace qz7 : IsZip h7 (n + 4) (n + 2) (n + 3) (rawInt h5.objs.size) := qz7
  refine wpAny_setField_rec qz7 (by simp) fun h8 qz8 k8 => ?_
  replace qz8 : IsZip h8 (n + 4) (n + 2) (n + 3) (rawInt h5.objs.size) := qz8
  have up : ∀ (c : Nat) o, c ≠ n + 4 → h5.get? c = some o → h8.get? c = some o := fun c o c1 e => k8.extBut _ _ c1 (k7.extBut _ _ c1 (Heap.get?_push_of_some _ e))
  have qt8 : IsPair h8 h5.objs.size x y := k8.extBut _ _ (Nat.ne_of_gt lz) (k7.extBut _ _ (Nat.ne_of_gt lz) (Heap.get?_push_size _ rfl))
  rw [hsz] at qz8 qt8
  refine wpAny_pure ⟨_, rfl, wpAny_pure ?_⟩
  show Q (some (.ref h5.objs.size)) _
  rw [hsz]
  exact hQ h8 ⟨qz8, up _ _ (by first | omega | (refine (?_ : @Ne Nat _ _); omega)) (up5 _ _ (by first | omega | (refine (?_ : @Ne Nat _ _); omega)) (by first | omega | (refine (?_ : @Ne Nat _ _); omega)) (by first | omega | (refine (?_ : @Ne Nat _ _); omega)) (by first | omega | (refine (?_ : @Ne Nat _ _); omega)) qi), ⟨_, _, up _ _ (by first | omega | (refine (?_ : @Ne Nat _ _); omega)) qo5⟩, q15.on fun o e => up _ o (by first | omega | (refine (?_ : @Ne Nat _ _); omega)) e, q25.on fun o e => up _ o (by first | omega | (refine (?_ : @Ne Nat _ _); omega)) e⟩ qt8
    fun c o hc e => up c o (by first | omega | (refine (?_ : @Ne Nat _ _); omega)) (up5 c o (by first | omega | (refine (?_ : @Ne Nat _ _); omega)) (by first | omega | (refine (?_ : @Ne Nat _ _); omega)) (by first | omega | (refine (?_ : @Ne Nat _ _); omega)) (by first | omega | (refine (?_ : @Ne Nat _ _); omega)) e)
theorem zipEndTT {n a b : Nat} {i : Nat} {us vs : Array Value} {Q : Option Value → Shared → Prop} (hh : A.handled = none) (ha : a < n) (hb : b < n) (st : ZipTT n a b i .none z.heap) (la : z.heap.IsTuple a us) (lb : z.heap.IsTuple b vs) (hx : us[i]? = none)
    (hQ : ∀ h', (∀ (c : Nat) o, (c < n ∨ n + 4 < c) → z.heap.get? c = some o → h'.get? c = some o) → Q none { z with heap := h' }) :
    wpAny (model P w) A (pyNext (.ref (n + 4))) Q E z := by
  obtain ⟨qz, qi, ⟨u0, v0, qo⟩, q1, q2⟩ := st
  have hT : z.TypeIs (.ref (n + 4)) "zip" := ⟨_, qz, rfl⟩
  unfold pyNext
  refine wpAny_bind (wpAny_attempt (wpAny_callSpecial?_slot (name := Str.ofString "__next__") hT F.slot_zip_next (wpAny_call_entry F.slot_zip_next hT F.entry_zip_next ?_ (F.args_zip_next_1 _))))
  show wpAny _ _ (field (.ref (n + 4)) 2 >>= _) _ _ _
  refine wpAny_bind (wpAny_field qz rfl (x := .bool false) rfl ?_)
  show wpAny _ _ (field (.ref (n + 4)) 3 >>= _) _ _ _
  refine wpAny_bind (wpAny_field qz rfl (x := .ref (n + 2)) rfl ?_)
  refine wpAny_bind (wpAny_seqItems qi rfl ?_)
  show wpAny _ _ (Builtin.SmallTypes.ownedTupleIsFree (.ref (n + 4)) >>= _) _ _ _
  refine wpAny_bind ?_; unfold Builtin.SmallTypes.ownedTupleIsFree
  refine wpAny_bind (wpAny_field qz rfl (x := .none) rfl (wpAny_pure ?_))
  simp only [if_true]
  refine wpAny_bind (wpAny_rule ?_)
  refine wpAny_bind (wpAny_field qz rfl (x := .ref (n + 3)) rfl ?_)
  refine wpAny_bind (wpAny_setField_rec qz (by simp) fun h1 qz1 k1 => ?_)
  replace qz1 : IsZip h1 (n + 4) (n + 2) (n + 3) .ellipsis := qz1
  refine wpAny_bind ?_; simp only [List.zipIdx_nil, List.zipIdx_cons, List.forIn_nil, List.forIn_cons]
  refine wpAny_bind (wpAny_bind (wpAny_onRaise ?_))
  show wpAny _ _ (Builtin.SmallTypes.nextOf (.ref n) >>= _) _ _ _
  refine wpAny_bind (nextT_end hh (q1.extBut k1.extBut (by first | omega | (refine (?_ : @Ne Nat _ _); omega))) (la.on fun o e => k1.extBut _ o (by first | omega | (refine (?_ : @Ne Nat _ _); omega)) e) hx fun h2 e k2 he => ?_)
  obtain ⟨oe, e1, e2⟩ := he
  have qz2 : IsZip h2 (n + 4) (n + 2) (n + 3) .ellipsis := k2 _ _ (by first | omega | (refine (?_ : @Ne Nat _ _); omega)) qz1
  have hez : e ≠ n + 4 := fun x => by subst x; rw [qz2] at e1; cases e1; simp at e2
  refine wpAny_setField_rec qz2 (by simp) fun h3 _ k3 => ?_
  refine wpAny_bind (wpAny_isInstance (T := "StopIteration") (b := true) ⟨oe, k3.extBut _ _ hez e1, e2⟩ isSubtype_stop ?_)
  exact wpAny_pure (hQ _ fun c o hc q => k3.extBut _ _ (by first | omega | (refine (?_ : @Ne Nat _ _); omega)) (k2 _ _ (by first | omega | (refine (?_ : @Ne Nat _ _); omega)) (k1.extBut _ _ (by first | omega | (refine (?_ : @Ne Nat _ _); omega)) q)))
end
end PySem
namespace L2
open PySem PySem.Spec PyProof.Rows
/-- (x0, y0), (x1, y1), .. of the list at a and the tuple at b, of one length: each a new tuple -/
def Itzt (K : PySem.W.Frag) (a b : Addr) : It :=
  ⟨fun i H => ∃ xs ys x y, SqT K H a xs ∧ SqT K H b ys ∧ xs[i]? = some x ∧ ys[i]? = some y, fun i H v H' => ∃ p x y, v = .ref p ∧ H p = none ∧ (∀ xs, SqT K H a xs → xs[i]? = some x) ∧ (∀ ys, SqT K H b ys → ys[i]? = some y) ∧ H' = upd H p (.tup [x, y]),
    fun i H => ∃ xs ys, SqT K H a xs ∧ SqT K H b ys ∧ xs.length ≤ i⟩
theorem turn_zipT {P : Program} {w : World} {K : PySem.W.Frag} {elts : List Expr} {x1} {pos : Pos} (a b n : Nat) (ha : a < n) (hb : b < n) :
    Turn P w K (.Tuple elts x1 pos) (Itzt K a b) [n + 4, n + 3, n + 2, n + 1, n] (n + 4) (fun i h => ZipTT n a b i .none h) where
  mem := by simp
  obj := fun i h st c hc => by
    have field : ∀ {o : Obj} {vs : Array Value}, o.data = .fields vs → ∀ v, o.data ≠ .cell v := fun d v q => by rw [d] at q; cases q
    have seqs : ∀ {o : Obj} {vs : Array Value} {m : Nat}, o.data = .seq vs m → ∀ v, o.data ≠ .cell v := fun d v q => by rw [d] at q; cases q
    simp only [List.mem_cons, List.not_mem_nil, or_false] at hc
    rcases hc with rfl | rfl | rfl | rfl | rfl
    · exact ⟨_, st.out, field rfl⟩
    · obtain ⟨u, v, q⟩ := st.own
      exact ⟨_, q, seqs rfl⟩
    · exact ⟨_, st.its, seqs rfl⟩
    · obtain ⟨o, e, _, d⟩ := st.snd
      exact ⟨o, e, field d⟩
    · obtain ⟨o, e, _, d⟩ := st.fst
      exact ⟨o, e, field d⟩
  keep := fun i h h' st k => st.on fun c c1 c2 o q => k c (zmem.mpr ⟨c1, c2⟩) o q
  item := by
    intro X hP hw hK hc i pins s σ H E I hf st hg
    subst hP hw hK
    obtain ⟨xs, ys, x, y, hq, hr, hx, hy⟩ := hg
    obtain ⟨its, rv, p, hz⟩ := I.tuple hq
    obtain ⟨jts, rw', p', hz'⟩ := I.tuple hr
    obtain ⟨u, hu, ru⟩ := rv.get hx
    obtain ⟨v, hv, rv'⟩ := rw'.get hy
    refine zipNextTT ha hb st (show s.heap.IsTuple a its.toArray from p) (show s.heap.IsTuple b jts.toArray from p') (x := u) (y := v) (by simpa using hu) (by simpa using hv) fun h' st' tp kk => ?_
    have lz : n + 4 < s.heap.objs.size := Heap.lt_size st.out
    refine ⟨_, rfl, wpAny_letOwnedTupleGo_zip (s := { s with heap := h' }) st'.out fun h2 qz2 sb => ?_⟩
    have ptn : ∀ c ∈ [n + 4, n + 3, n + 2, n + 1, n], c ≠ s.heap.objs.size := fun c hc => Nat.ne_of_lt (Nat.lt_of_le_of_lt (zmem.mp hc).2 lz)
    have tp2 : h2.get? s.heap.objs.size = some { cls := .type "tuple", data := .seq #[u, v] } := (sb.2 _ (by first | omega | (refine (?_ : @Ne Nat _ _); omega))).trans tp
    have I2 : Inv X pins σ (upd H s.heap.objs.size (.tup [x, y])) { s with heap := h2, toks := s.toks } := by
      refine I.turns (fp := [n + 4, n + 3, n + 2, n + 1, n]) hf (fun (c : Nat) o hc q => ?_) (Nat.le_refl _) ⟨(by show 2 ≤ sizeLine; decide), [u, v], .cons ru (.cons rv' .nil), ⟨_, tp2, rfl, _, rfl⟩⟩
      have hc1 : ¬ (n ≤ c ∧ c ≤ n + 4) := fun z => hc (zmem.mpr z)
      have hc2 : c < n ∨ n + 4 < c := by omega
      exact (sb.2 c (by refine (?_ : @Ne Nat _ _); omega)).trans (kk c o hc2 q)
    refine ⟨.ref s.heap.objs.size, _, I2, rfl, ⟨_, x, y, rfl, I.hok.fresh (Nat.le_refl _), (fun zs hy => by rw [I.tuple_inj hy hq]; exact hx), (fun zs hz => by rw [I.tuple_inj hz hr]; exact hy), rfl⟩, ?_, fun c hc => ?_⟩
    · refine ⟨qz2, (sb.2 _ (by first | omega | (refine (?_ : @Ne Nat _ _); omega))).trans st'.its, let ⟨u, v, q⟩ := st'.own; ⟨u, v, (sb.2 _ (by first | omega | (refine (?_ : @Ne Nat _ _); omega))).trans q⟩, st'.fst.on fun o q => (sb.2 _ (by first | omega | (refine (?_ : @Ne Nat _ _); omega))).trans q, st'.snd.on fun o q => (sb.2 _ (by first | omega | (refine (?_ : @Ne Nat _ _); omega))).trans q⟩
    · rw [upd_ne (ptn c hc)]; exact (hf c hc).1
  done := by
    intro X hP hw hK hc i pins s σ H E I hf st hg
    subst hP hw hK
    obtain ⟨xs, ys, hq, hr, hx⟩ := hg
    obtain ⟨its, rv, p, hz⟩ := I.tuple hq
    obtain ⟨jts, rw', p', hz'⟩ := I.tuple hr
    have hl := rv.length
    refine zipEndTT (I.ok.hd hc) ha hb st (show s.heap.IsTuple a its.toArray from p) (show s.heap.IsTuple b jts.toArray from p') (by simp; omega) fun h' kk => ⟨rfl, ?_⟩
    exact I.turnedAll (fp := [n + 4, n + 3, n + 2, n + 1, n]) hf fun (c : Nat) o hc q => kk c o (by
      have hc1 : ¬ (n ≤ c ∧ c ≤ n + 4) := fun z => hc (zmem.mpr z)
      omega) q
  self := fun _ _ _ _ _ st h => wpAny_pyIter_zip st.out h
def iZipT (K : PySem.W.Frag) (t : TA) : TI := fun σ H R => t σ H fun vs H1 => ∃ a b, vs = [.ref a, .ref b] ∧ (∃ xs, SqT K H1 a xs) ∧ (∃ ys, SqT K H1 b ys) ∧ R (Itzt K a b) H1
theorem pi_zipT {X : Cx} {elts : List Expr} {x1} {pt p cpos : Pos} {l m : Expr} {t : TA} (ha : PA X [l, m] t) (hg : Gl X "zip") (hm : X.mg "zip" = none)
    (he : starEach [l, m] X.env = (false, eval l X.env) :: starEach [m] X.env := by rfl) (hpl : (backTo cpos (starEach [m] X.env)).any (·.1) = false := by rfl) :
    PI X (.Tuple elts x1 pt) (.Call (.Name "zip" p) [l, m] [] cpos) (iZipT X.K t) := by
  intro pins s σ H R I h
  refine wpAny_Call_Name_kw (ld_blt I hg hm Bt.zip ?_ (by decide) (by decide))
  refine PyProof.Rows.callWith_type1 (thn (ha cpos pins s σ H _ I h) fun us s1 ⟨vs, H1, I1, r1, q1⟩ => ?_) he hpl
  obtain ⟨a, b, rfl, ⟨xs, hq⟩, ⟨ys, hr⟩, q⟩ := q1
  cases r1 with
  | cons ra rr =>
    cases rr with
    | cons rb rr =>
      cases rr
      cases ra
      cases rb
      obtain ⟨its, rv, p, hz⟩ := I1.tuple hq
      obtain ⟨jts, rw', p', hz'⟩ := I1.tuple hr
      have pT : s1.heap.IsTuple b jts.toArray := p'
      have pA : s1.heap.IsTuple a its.toArray := p
      have la : a < s1.heap.objs.size := by
        obtain ⟨_, e1, _⟩ := pA
        exact Heap.lt_size e1
      have lb : b < s1.heap.objs.size := by
        obtain ⟨_, e1, _⟩ := pT
        exact Heap.lt_size e1
      refine zipCallTT pA pT fun h' st kk => ?_
      refine wpAny_pyIter_zip st.out ?_
      refine ⟨s1.heap.objs.size + 4, _, _, _, H1, rfl, I1.kept (t' := s1.toks) kk, turn_zipT a b s1.heap.objs.size la lb, st, fun c hc => ?_, q⟩
      have hc : s1.heap.objs.size ≤ c := (zmem.mp hc).1
      exact I1.fpOk hc (I1.hok.fresh hc)
theorem pzipT {X : Cx} {elts : List Expr} {x1} {pt p cpos : Pos} {l m : Expr} {t : TA} (ha : PA X [l, m] t) (hm : X.mg "zip" = none) (hg : X.env.scope.names.lookup ("zip" : Str) = some .globalImplicit := by kernel_rfl)
    (he : starEach [l, m] X.env = (false, eval l X.env) :: starEach [m] X.env := by rfl) (hpl : (backTo cpos (starEach [m] X.env)).any (·.1) = false := by rfl) :
    PI X (.Tuple elts x1 pt) (.Call (.Name "zip" p) [l, m] [] cpos) (iZipT X.K t) := pi_zipT ha hg hm he hpl
section
variable {K : PySem.W.Frag} {g : TG} {σ : St} {H : Hp} {ix : List (Option Nat)} {tt : TT} {te : TE} {Q : VK}
theorem comp_zipT {a b : Addr} {xs ys : List V} (hxy : xs.length = ys.length) (Pv : Nat → List V → Hp → Prop) (h0 : Pv 0 [] H) (hn : xs.length ≤ sizeLine) (hl : ∀ i zs H, Pv i zs H → zs.length ≤ i) (hx : ∀ i zs H, Pv i zs H → SqT K H a xs ∧ SqT K H b ys)
    (hs : ∀ i x y zs H, xs[i]? = some x → ys[i]? = some y → Pv i zs H → ∀ p, H p = none → g (.ref p) (blkSt ix σ) (upd H p (.tup [x, y])) fun σ2 H2 => Ext (blkSt ix σ) σ2 ∧ tt σ2 H2 fun ok H3 => if ok = true then te σ2 H3 fun v H4 => Pv (i + 1) (zs ++ [v]) H4 else Pv (i + 1) zs H3)
    (hd : ∀ zs H, Pv xs.length zs H → ∀ p, H p = none → Q (.ref p) (upd H p (.lst zs))) : CompGo (Itzt K a b) ix g tt te σ H Q := by
  refine ⟨fun i m zs H => m = xs.length - i ∧ i ≤ xs.length ∧ Pv i zs H, ⟨xs.length, by simp, Nat.zero_le _, h0⟩, ?_⟩
  rintro i m zs H ⟨rfl, hi, p⟩
  obtain ⟨q, q'⟩ := hx i zs H p
  refine ⟨Nat.le_trans (hl _ _ _ p) (Nat.le_trans hi hn), ?_⟩
  by_cases hlt : i < xs.length
  · refine .inr ⟨⟨xs, ys, xs[i], ys[i], q, q', by simp [hlt], by simp [hxy ▸ hlt]⟩, Pv (i + 1), fun ys' H' p' => ⟨xs.length - (i + 1), by omega, rfl, hlt, p'⟩, fun x H' y => ?_⟩
    obtain ⟨r, z1, z2, rfl, hn', hz1, hz2, rfl⟩ := y
    exact hs i z1 z2 zs _ (hz1 xs q) (hz2 ys q') p r hn'
  · have e : i = xs.length := by omega
    subst e
    exact .inl ⟨⟨xs, ys, q, q', Nat.le_refl _⟩, hd zs H p⟩
end
end L2

/-! ### a list walked from its end: reversed(list) -/
namespace L2
open PySem PySem.Spec PyProof.Rows
namespace Bt
theorem reversed : bootBuiltins "reversed" = some (.type "reversed") := by decide +kernel
end Bt
end L2

/-! ### tuple(reversed(tuple)) -/
namespace PySem
open Sem (wp)
open AutoSeq1 (wpAny_loadPart')
namespace RvT
theorem owner_rv : Manifest.owners.lookup (String.ofList ['d', 'e', 's', 'r', 'e', 'v', 'e', 'r'].reverse) = some Manifest.sig_reversed := by kernel_rfl
theorem slot_next : Slot "reversed" "__next__" "reversed.__next__" :=
  .of (owner := "reversed") (n := "__next__") (by rw [typeLookup_type, builtinLookup_eq_fast]; kernel_rfl) (by decide +kernel) (by decide +kernel) (by decide +kernel)
    (by first | exact .inl (by decide +kernel) | exact .inr (by decide +kernel)) (by rw [isSubtype_type]; kernel_rfl)
theorem entry_next : entryFor table "reversed.__next__" = some Builtin.«reversed.__next__» := entryFor_of_tree (by kernel_rfl)
theorem args_next_1 (a : Value) : argsOk "reversed.__next__" ⟨[a], []⟩ := by
  unfold argsOk; rw [signature?_of (id := "reversed.__next__") (n := ['_', '_', 't', 'x', 'e', 'n', '_', '_']) (o := ['d', 'e', 's', 'r', 'e', 'v', 'e', 'r']) (by kernel_rfl) owner_rv]; kernel_rfl
theorem slot_iter : Slot "reversed" "__iter__" "reversed.__iter__" :=
  .of (owner := "reversed") (n := "__iter__") (by rw [typeLookup_type, builtinLookup_eq_fast]; kernel_rfl) (by decide +kernel) (by decide +kernel) (by decide +kernel)
    (by first | exact .inl (by decide +kernel) | exact .inr (by decide +kernel)) (by rw [isSubtype_type]; kernel_rfl)
theorem args_iter_1 (a : Value) : argsOk "reversed.__iter__" ⟨[a], []⟩ := by
  unfold argsOk; rw [signature?_of (id := "reversed.__iter__") (n := ['_', '_', 'r', 'e', 't', 'i', '_', '_']) (o := ['d', 'e', 's', 'r', 'e', 'v', 'e', 'r']) (by kernel_rfl) owner_rv]; kernel_rfl
theorem entry_iter : entryFor table "reversed.__iter__" = some Builtin.«dict_keyiterator.__iter__» :=
  entryFor_alias (id' := "dict_keyiterator.__iter__") (by kernel_rfl) (by first | rfl | decide +kernel | (unfold String.splitOn; simp +decide [String.splitOnAux])) (by decide +kernel) (by kernel_rfl)
theorem nolen : typeLookup (.type "reversed") "__len__" = pure none := by rw [typeLookup_type, builtinLookup_eq_fast]; kernel_rfl
theorem hint : typeLookup (.type "reversed") "__length_hint__" = pure (some (.builtin "reversed.__length_hint__")) := by rw [typeLookup_type, builtinLookup_eq_fast]; kernel_rfl
theorem slot_hint : Slot "reversed" "__length_hint__" "reversed.__length_hint__" :=
  .of (owner := "reversed") (n := "__length_hint__") (by rw [typeLookup_type, builtinLookup_eq_fast]; kernel_rfl) (by decide +kernel) (by decide +kernel) (by decide +kernel)
    (by first | exact .inl (by decide +kernel) | exact .inr (by decide +kernel)) (by rw [isSubtype_type]; kernel_rfl)
theorem entry_hint : entryFor table "reversed.__length_hint__" = some Builtin.«reversed.__length_hint__» := entryFor_of_tree (by kernel_rfl)
theorem args_hint_1 (a : Value) : argsOk "reversed.__length_hint__" ⟨[a], []⟩ := by
  unfold argsOk; rw [signature?_of (id := "reversed.__length_hint__") (n := ['_', '_', 't', 'n', 'i', 'h', '_', 'h', 't', 'g', 'n', 'e', 'l', '_', '_']) (o := ['d', 'e', 's', 'r', 'e', 'v', 'e', 'r']) (by kernel_rfl) owner_rv]; kernel_rfl
theorem slot_init : Slot "reversed" "__init__" "object.__init__" :=
  .of (owner := "object") (n := "__init__") (by rw [typeLookup_type, builtinLookup_eq_fast]; kernel_rfl) (by decide +kernel) (by decide +kernel) (by decide +kernel)
    (by first | exact .inl (by decide +kernel) | exact .inr (by decide +kernel)) (by rw [isSubtype_type]; kernel_rfl)
theorem called : TypeCalled "reversed" "reversed.__new__" "object.__init__" :=
  ⟨by decide +kernel, by decide +kernel, ⟨_, _, F.mro_reversed⟩, F.made_reversed, by decide +kernel, F.sub_reversed_self, slot_init⟩
theorem norev_tuple : typeLookup (.type "tuple") "__reversed__" = pure none := by rw [typeLookup_type, builtinLookup_eq_fast]; kernel_rfl
theorem item_tuple : typeLookup (.type "tuple") "__getitem__" = pure (some (.builtin "tuple.__getitem__")) := by rw [typeLookup_type, builtinLookup_eq_fast]; kernel_rfl
theorem tuple_dict : isSubtype (.type "tuple") (.type "dict") = pure false := by rw [isSubtype_type]; kernel_rfl
def obj (l : Addr) (i : Int) : Obj := { cls := .type "reversed", data := .fields #[.ref l, rawInt i] }
def At (h : Heap) (a l : Addr) (i : Int) : Prop := ∃ o, h.get? a = some o ∧ o.cls = .type "reversed" ∧ o.data = .fields #[.ref l, rawInt i]
end RvT
section
variable {prog : Program} {w : World} {A : Around} {E : Value → Shared → Prop} {s : Shared}
theorem RvT.At.typeIs {a l : Addr} {i : Int} (x : RvT.At s.heap a l i) : s.TypeIs (.ref a) "reversed" := let ⟨o, ho, hc, _⟩ := x; ⟨o, ho, hc⟩
theorem RvT.At.on {h h' : Heap} {a l : Addr} {i : Int} (x : RvT.At h a l i) (e : ∀ o, h.get? a = some o → h'.get? a = some o) : RvT.At h' a l i := let ⟨o, ho, r⟩ := x; ⟨o, e _ ho, r⟩
open PyProof.Rows in
theorem RvT.new_meets (l : Addr) (items : Array Value) (hz : (items.size : Int) < 2 ^ 62) :
    Meets (Builtin.«reversed.__new__» ⟨[.type "reversed", .ref l], []⟩) (fun _ R z => IsTup z.heap l items ∧ ∀ tk, R (.ok (.ret (.ref z.heap.objs.size))) { z with heap := z.heap.push (RvT.obj l ((items.size : Int) - 1)), toks := tk }) :=
  .of_wp fun P w A R z h => by
    obtain ⟨ht, h⟩ := h
    unfold Builtin.«reversed.__new__»
    refine wpAny_bind (wpAny_of_eq (newClass_reversed _) ?_)
    try dsimp only
    refine wpAny_bind (wpAny_of_eq (a := ()) (by first | rfl | kernel_rfl) ?_)
    refine wpAny_bind (wpAny_of_eq (a := ()) (by first | rfl | kernel_rfl) ?_)
    try dsimp only
    refine wpAny_bind (wpAny_specialOf ht.typeIs RvT.norev_tuple ?_)
    try dsimp only
    refine wpAny_bind ?_
    show wpAny _ _ (isInstance (Value.ref l) (Value.type "dict") >>= _) _ _ _
    refine wpAny_bind (wpAny_isInstance (b := false) ht.typeIs RvT.tuple_dict ?_)
    try dsimp only
    rw [if_neg Bool.false_ne_true]
    show wpAny _ _ (specialOf (Value.ref l) (Str.ofString "__getitem__") >>= _) _ _ _
    refine wpAny_bind (wpAny_specialOf ht.typeIs RvT.item_tuple ?_)
    try dsimp only
    rw [if_pos (by decide +kernel)]
    refine wpAny_pure ?_
    rw [if_neg (by decide)]
    refine wpAny_bind (len_tuple ht (by omega) ?_)
    refine wpAny_bind (m := asInt? (.int items.size (z.toks + 1))) (wpAny_pure ?_)
    dsimp only
    unfold Builtin.SmallTypes.newRecord
    refine wpAny_bind (wpAny_newObj_type ?_)
    exact wpAny_pure ⟨_, rfl, h _⟩
open PyProof.Rows in
theorem RvT.call {l : Addr} {items : Array Value} {Q : Value → Shared → Prop} (hz : (items.size : Int) < 2 ^ 62) (ht : IsTup s.heap l items)
    (h : ∀ tk, Q (.ref s.heap.objs.size) { s with heap := s.heap.push (RvT.obj l ((items.size : Int) - 1)), toks := tk }) : wpAny (model prog w) A (call (.type "reversed") [.ref l]) Q E s := by
  refine callType_new RvT.called (by decide) (F.typeCall_reversed_1 _) (F.newCall_reversed_1 _) (fun obj => F.args_object_init_2 obj _) F.entry_reversed_new (RvT.new_meets l items hz) ⟨ht, fun tk => ?_⟩
  exact ⟨⟨_, Heap.get?_push_size _ rfl, rfl⟩, h tk⟩
open PyProof.Rows in
theorem RvT.item {it l : Addr} {i : Nat} {items : Array Value} {x : Value} {Q : Option Value → Shared → Prop} (hit : RvT.At s.heap it l (i : Int)) (ht : IsTup s.heap l items) (hx : items[i]? = some x) (hz : items.size ≤ 1000)
    (hQ : ∀ h' tk, RvT.At h' it l ((i : Int) - 1) → Heap.SameBut it s.heap h' → Q (some x) { s with heap := h', toks := tk }) : wpAny (model prog w) A (pyNext (.ref it)) Q E s := by
  obtain ⟨o, ho, hc, hd⟩ := id hit
  have hlt : i < items.size := (Array.getElem?_eq_some_iff.mp hx).1
  unfold pyNext
  refine wpAny_bind (wpAny_attempt (wpAny_callSpecial?_slot (name := Str.ofString "__next__") hit.typeIs RvT.slot_next
    (wpAny_call_entry RvT.slot_next hit.typeIs RvT.entry_next ?_ (RvT.args_next_1 _))))
  unfold Builtin.«reversed.__next__»
  refine wpAny_bind (wpAny_of_eq (a := (Value.ref it, [])) rfl ?_)
  try dsimp only
  refine wpAny_bind (wpAny_field ho hd (x := .ref l) rfl ?_)
  refine wpAny_bind (wpAny_field ho hd (x := rawInt (i : Int)) rfl ?_)
  show wpAny _ _ (if (i : Int) < 0 then _ else _) _ _ s
  rw [if_neg (by omega)]
  refine wpAny_bind (wpAny_specialOf ht.typeIs RvT.item_tuple ?_)
  rw [if_neg (by decide)]
  refine wpAny_bind (wpAny_mkInt ?_)
  have ht2 : IsTup ({ s with toks := s.toks + 1 } : Shared).heap l items := ht
  refine wpAny_bind (wpAny_attempt (getItem_tuple (j := i) ht2 (by omega) (by omega) ?_ hx ?_))
  · unfold seqIndex?
    have h0 : ¬ ((i : Int) < 0) := by omega
    simp [h0, hlt]
  try dsimp only
  refine wpAny_bind (wpAny_field ho hd (x := rawInt (i : Int)) rfl ?_)
  refine wpAny_bind (wpAny_setField ho hd (by simp) ?_)
  refine wpAny_pure ⟨x, rfl, wpAny_pure (hQ _ _ ?_ (Heap.SameBut.update ..))⟩
  exact ⟨_, Heap.get?_update_self _ ho (Obj.isFreed_of_fields (Obj.data_mapFields hd _)), (Obj.cls_mapFields ..).trans hc, by
    rw [Obj.data_mapFields hd]; simp⟩
theorem RvT.end {it l : Addr} {Q : Option Value → Shared → Prop} (hh : A.handled = none) (hit : RvT.At s.heap it l (-1))
    (hQ : ∀ h', Heap.ExtBut it s.heap h' → Q none { s with heap := h' }) : wpAny (model prog w) A (pyNext (.ref it)) Q E s := by
  obtain ⟨o, ho, hc, hd⟩ := id hit
  unfold pyNext
  refine wpAny_bind (wpAny_attempt (wpAny_callSpecial?_slot (name := Str.ofString "__next__") hit.typeIs RvT.slot_next
    (wpAny_call_entry RvT.slot_next hit.typeIs RvT.entry_next ?_ (RvT.args_next_1 _))))
  unfold Builtin.«reversed.__next__»
  refine wpAny_bind (wpAny_of_eq (a := (Value.ref it, [])) rfl ?_)
  try dsimp only
  refine wpAny_bind (wpAny_field ho hd (x := .ref l) rfl ?_)
  refine wpAny_bind (wpAny_field ho hd (x := rawInt (-1)) rfl ?_)
  show wpAny _ _ (if (-1 : Int) < 0 then _ else _) _ _ s
  rw [if_pos (by decide)]
  refine wpAny_bind (wpAny_rule ?_)
  refine wpAny_bind ?_
  show wpAny _ _ (setField (Value.ref it) 1 (rawInt (-1)) >>= fun _ => setField (Value.ref it) 0 Value.none) _ _ _
  refine wpAny_bind (wpAny_setField ho hd (by simp) ?_)
  have ho2 := Heap.get?_update_self (Obj.mapFields fun vs => vs.set! 1 (rawInt (-1))) ho (Obj.isFreed_of_fields (Obj.data_mapFields hd _))
  refine wpAny_setField ho2 (Obj.data_mapFields hd _) (by simp) ?_
  unfold Builtin.SmallTypes.stopIteration
  refine wpAny_bind ?_
  first
  | show wpAny _ _ (newExc (.type "StopIteration") [] >>= _) _ _ _
  | (refine wpAny_bind ?_; show wpAny _ _ (newExc (.type "StopIteration") [] >>= _) _ _ _)
  refine wpAny_bind ?_
  simp only [newExc, newTuple]
  refine wpAny_bind (wpAny_newObj_type ?_ (by size_fits))
  refine wpAny_bind (m := firstArgMember _ _) (wpAny_of_eq (a := Value.none) (by first | rfl | (simp only [firstArgMember]; rfl)) ?_)
  refine wpAny_newObj_type ?_ (by size_fits)
  simp only [raiseNew]
  refine wpAny_bind (wpAny_handled ?_)
  first | rw [show A.in1.handled = none from hh] | rw [hh]
  refine wpAny_bind (wpAny_pure (wpAny_throw ?_))
  refine wpAny_bind (wpAny_isInstance (T := "StopIteration") (b := true) ⟨_, Heap.get?_push_size _ rfl, rfl⟩ isSubtype_stop ?_)
  exact wpAny_pure (hQ _ ((((Heap.SameBut.update ..).extBut.trans (Heap.SameBut.update ..).extBut).push _).push _))
theorem RvT.iter {it l : Addr} {i : Int} {Q : Value → Shared → Prop} (hit : RvT.At s.heap it l i) (h : Q (.ref it) s) : wpAny (model prog w) A (pyIter (.ref it)) Q E s := by
  refine wpAny_pyIter_slot hit.typeIs RvT.slot_iter (wpAny_call_entry RvT.slot_iter hit.typeIs RvT.entry_iter ?_ (RvT.args_iter_1 _))
  show wpAny _ _ (ret (.ref it)) _ _ s
  exact wpAny_pure ⟨_, rfl, "reversed", _, hit.typeIs, RvT.slot_next.lookup, h⟩
end
open PyProof.Rows in
theorem RvT.walks {prog : Program} {w : World} {A : Around} (hh : A.handled = none) (I l : Addr) (hne : l ≠ I) (items : Array Value) (hz : items.size ≤ 1000) :
    Walks prog w A I [I, l] [I] items.size (fun i v => items[items.size - 1 - i]? = some v) (fun i h => i ≤ items.size ∧ RvT.At h I l ((items.size : Int) - 1 - (i : Int)) ∧ IsTup h l items) where
  sub := fun b hb => by simp at hb; simp [hb]
  frame := fun _ _ _ x hk => ⟨x.1, x.2.1.on fun o e => hk I (by simp) o e, by
    obtain ⟨o, e, r⟩ := x.2.2
    exact ⟨o, hk l (by simp) o e, r⟩⟩
  item := fun i s Q E hi x hQ => by
    have e : (items.size : Int) - 1 - (i : Int) = ((items.size - 1 - i : Nat) : Int) := by omega
    have hit := x.2.1
    rw [e] at hit
    have hx : items[items.size - 1 - i]? = some (items[items.size - 1 - i]'(by omega)) := Array.getElem?_eq_getElem (by omega)
    refine RvT.item hit x.2.2 hx hz fun h' tk hit' hs' => ?_
    have e2 : ((items.size - 1 - i : Nat) : Int) - 1 = (items.size : Int) - 1 - ((i + 1 : Nat) : Int) := by omega
    rw [e2] at hit'
    exact hQ _ h' tk hx ⟨hi, hit', by
      obtain ⟨o, e, r⟩ := x.2.2
      exact ⟨o, (hs'.2 l hne).trans e, r⟩⟩ fun b o hb eo => hs'.extBut b o (fun h => hb (by simp [h])) eo
  done := fun s Q E x hQ => by
    have e : (items.size : Int) - 1 - (items.size : Int) = -1 := by omega
    have hit := x.2.1
    rw [e] at hit
    exact RvT.end hh hit fun h' he' => hQ h' s.toks fun b o hb eo => he' b o (fun h => hb (by simp [h])) eo
  self := fun _ _ _ _ x hQ => RvT.iter x.2.1 hQ
section
variable {prog : Program} {w : World} {A : Around} {E : Value → Shared → Prop} {s : Shared}
open PyProof.Rows in
theorem RvT.hintOf {I l : Addr} {items : Array Value} {Q : Bool → Shared → Prop} (hit : RvT.At s.heap I l ((items.size : Int) - 1)) (ht : IsTup s.heap l items) (h1 : 1 ≤ items.size) (hz : items.size ≤ 1000)
    (hQ : ∀ tk, s.toks ≤ tk → Q true { s with toks := tk }) : wpAny (model prog w) A (Builtin.List.listLengthHint (.ref I)) Q E s := by
  obtain ⟨o, ho, hc, hd⟩ := id hit
  unfold Builtin.List.listLengthHint
  refine wpAny_bind (wpAny_specialOf hit.typeIs RvT.nolen ?_)
  show wpAny _ _ (specialOf (Value.ref I) (Str.ofString "__length_hint__") >>= _) _ _ _
  refine wpAny_bind (wpAny_specialOf hit.typeIs RvT.hint ?_)
  (generalize hid : ("reversed.__length_hint__" : String) = id0; (fail_if_success (clear hid id0)); wp_delta; rw [show splitId id0 = some ("reversed", "__length_hint__") from by subst hid; decide +kernel]; subst hid)
  refine wpAny_bind (wpAny_isInstance (b := true) hit.typeIs F.sub_reversed_self ?_)
  rw [if_neg (by decide)]
  show wpAny _ _ (if _ then _ else _) _ _ _
  rw [if_neg (by decide +kernel)]
  refine wpAny_bind (wpAny_rule ?_)
  refine wpAny_bind (wpAny_of_eq (RvT.slot_hint.bind _) ?_)
  try dsimp only
  refine wpAny_bind (wpAny_attempt (wpAny_call_entry RvT.slot_hint hit.typeIs RvT.entry_hint ?_ (RvT.args_hint_1 _)))
  unfold Builtin.«reversed.__length_hint__»
  refine wpAny_bind (wpAny_of_eq (a := Value.ref I) rfl ?_)
  refine wpAny_bind (wpAny_field ho hd (x := .ref l) rfl ?_)
  rw [if_neg (show ¬ ((Value.ref l == Value.none) = true) from Bool.false_ne_true)]
  refine wpAny_bind (len_tuple ht (by omega) ?_)
  refine wpAny_bind (m := asInt? (.int items.size (s.toks + 1))) (wpAny_pure ?_)
  dsimp only
  refine wpAny_bind (wpAny_field (s := { s with toks := s.toks + 1 + 1 }) ho hd (x := rawInt ((items.size : Int) - 1)) rfl ?_)
  show wpAny _ _ (if (items.size : Int) < (items.size : Int) - 1 + 1 then _ else _) _ _ _
  rw [if_neg (by omega)]
  unfold retInt
  refine wpAny_bind (wpAny_mkInt (wpAny_pure ⟨_, rfl, ?_⟩))
  dsimp only
  refine wpAny_bind (m := asInt? (.int ((items.size : Int) - 1 + 1) _)) (wpAny_pure ?_)
  dsimp only
  have e1 : (!Builtin.List.listFitsIndex ((items.size : Int) - 1 + 1)) = false := by
    unfold Builtin.List.listFitsIndex
    simp
    omega
  have e2 : Builtin.List.listTooLong ((items.size : Int) - 1 + 1).toNat = false := by
    unfold Builtin.List.listTooLong
    have : (1000 : Nat) ≤ sizeLine := by decide
    simp
    omega
  rw [e1, if_neg Bool.false_ne_true, if_neg (by omega), e2, if_neg Bool.false_ne_true]
  have e3 : ((items.size : Int) - 1 + 1 != 0) = true := by
    rw [bne_iff_ne]
    omega
  rw [e3]
  exact wpAny_pure (hQ _ (by show s.toks ≤ _; omega))
open PyProof.Rows in
theorem RvT.collect {Q : List Value → Shared → Prop} {I l : Addr} {items : Array Value} (hh : A.handled = none) (hit : RvT.At s.heap I l ((items.size : Int) - 1)) (ht : IsTup s.heap l items) (hne : l ≠ I) (h1 : 1 ≤ items.size) (hz : items.size ≤ 1000)
    (hQ : ∀ s' acc, Moved [I] (fun a b => b = a) s s' → ItemsOf (fun i v => items[items.size - 1 - i]? = some v) acc items.size → Q acc.toList s') : wpAny (model prog w) A (collect (.ref I)) Q E s := by
  have W := (RvT.walks (prog := prog) (w := w) (A := A.in1) hh I l hne items hz).toS
  have hn : items.size ≤ sizeLine := Nat.le_trans hz (by decide)
  obtain ⟨oI, hoI, _⟩ := id hit
  obtain ⟨oL, hoL, _⟩ := id ht
  have hfp : ∀ b ∈ [I, l], b < s.heap.objs.size := fun b hb => by
    rcases List.mem_cons.mp hb with rfl | hb
    · exact Heap.lt_size hoI
    · rw [List.mem_singleton.mp hb]
      exact Heap.lt_size hoL
  have hSf : s.heap.objs.size ∉ [I, l] := fun hm => Nat.lt_irrefl _ (hfp _ hm)
  have hSI : s.heap.objs.size ≠ I := fun e => hSf (by rw [e]; exact List.mem_cons_self)
  have hit0 : RvT.At s.heap I l ((items.size : Int) - 1 - ((0 : Nat) : Int)) := by
    have e : (items.size : Int) - 1 - ((0 : Nat) : Int) = (items.size : Int) - 1 := by omega
    rw [e]
    exact hit
  unfold PySem.collect
  refine wpAny_bind (wpAny_runValue (codeAny_builtin F.entry_proto_collect ?_))
  rw [Around.under_plainId F.plain_proto_collect _]
  show wpAny _ A.in1 (newList [] >>= fun l => again (.builtin "list.__iadd__" ⟨[l, .ref I], []⟩)) _ _ s
  refine wpAny_bind (wpAny_newObj_type ?_)
  refine wpAny_pure ⟨plainId_quiet F.plain_list_iadd _, codeAny_builtin F.entry_list_iadd ?_⟩
  rw [Around.under_plainId F.plain_list_iadd _]
  have hst₁ := W.frame 0 s (s.heap.push { cls := .type "list", data := .seq ([] : List Value).toArray }) s.toks ⟨Nat.zero_le _, hit0, ht⟩ (Nat.le_refl _) fun b _ o e => Heap.get?_push_of_some _ e
  have hit1 : RvT.At (s.heap.push { cls := .type "list", data := .seq ([] : List Value).toArray }) I l ((items.size : Int) - 1) := hit.on fun o e => Heap.get?_push_of_some _ e
  have ht1 : IsTup (s.heap.push { cls := .type "list", data := .seq ([] : List Value).toArray }) l items := by
    obtain ⟨o, e, r⟩ := id ht
    exact ⟨o, Heap.get?_push_of_some _ e, r⟩
  show wpAny _ A.in1 (Builtin.List.listExtendWith (.ref s.heap.objs.size) (.ref I) (.ref s.heap.objs.size)) _ _ _
  unfold Builtin.List.listExtendWith
  refine wpAny_bind (wpAny_typeOf (RvT.At.typeIs (s := { s with heap := s.heap.push { cls := .type "list", data := .seq ([] : List Value).toArray } }) hit1) ?_)
  have e1 : Builtin.List.listSameRef (.ref s.heap.objs.size) (.ref I) = false := by simp [Builtin.List.listSameRef, hSI]
  have e2 : (Value.type "reversed" == Value.type "list") = false := by decide
  have e3 : (Value.type "reversed" == Value.type "tuple") = false := by decide
  simp only [e1, e2, e3, Bool.or_false, Bool.false_eq_true, if_false]
  refine wpAny_bind (W.self 0 _ _ _ hst₁ ?_)
  refine wpAny_bind (wpAny_holding ?_)
  refine RvT.hintOf (s := { s with heap := s.heap.push { cls := .type "list", data := .seq ([] : List Value).toArray } }) hit1 ht1 h1 hz fun tk htk => ?_
  have hst₂ := W.frame 0 _ _ tk hst₁ htk fun b _ o e => e
  show wpAny _ A.in1 (rule "list.extend.makes-room" >>= fun _ => Builtin.List.listTouch (.ref s.heap.objs.size) >>= fun _ =>
    again (.builtin "list.extend.loop" ⟨[.ref s.heap.objs.size, .ref I, .ref s.heap.objs.size], []⟩)) _ _ _
  refine wpAny_bind (wpAny_rule ?_)
  have hS₁ : (s.heap.push { cls := .type "list", data := .seq ([] : List Value).toArray }).get? s.heap.objs.size = some { cls := .type "list", data := .seq ([] : List Value).toArray } := Heap.get?_push_size _ rfl
  refine wpAny_bind ?_
  show wpAny _ A.in1 (updateSeq s.heap.objs.size (·.push .none) >>= fun _ => updateSeq s.heap.objs.size (·.pop)) _ _ _
  refine wpAny_bind (wpAny_updateSeq hS₁ rfl ?_)
  have hS₂ := Heap.get?_update_self (Obj.mapSeq (·.push Value.none)) hS₁ rfl
  refine wpAny_updateSeq hS₂ rfl ?_
  have hS₃ := Heap.get?_update_self (Obj.mapSeq (·.pop)) hS₂ rfl
  have oth : ∀ b o, b ≠ s.heap.objs.size → (s.heap.push { cls := .type "list", data := .seq ([] : List Value).toArray }).get? b = some o →
      (((s.heap.push { cls := .type "list", data := .seq ([] : List Value).toArray }).update s.heap.objs.size (Obj.mapSeq (·.push Value.none))).update s.heap.objs.size (Obj.mapSeq (·.pop))).get? b = some o :=
    fun b o hb e => (Heap.get?_update_other _ _ (Ne.symm hb)).trans ((Heap.get?_update_other _ _ (Ne.symm hb)).trans e)
  refine wpAny_pure ⟨plainId_quiet F.plain_extend_loop _, codeAny_extend_loopS W hn _ hSf _ items.size 0 _ _ _ rfl (Nat.zero_le _)
    (W.frame 0 ({ s with heap := s.heap.push { cls := .type "list", data := .seq ([] : List Value).toArray }, toks := tk } : Shared) _ tk hst₂ (Nat.le_refl _) fun b hb o e => oth b o (fun h => hSf (h ▸ hb)) e) hS₃ (ItemsOf.nil _) fun s' acc' c' hm hS' hacc => ?_⟩
  show wpAny _ A (load s.heap.objs.size >>= _) _ _ s'
  refine wpAny_bind (wpAny_load hS' ?_)
  refine wpAny_pure (hQ s' acc' ⟨fun b o hb e => hm.heap b o (fun hb2 => ?_) (oth b o (Nat.ne_of_lt (Heap.lt_size e)) (Heap.get?_push_of_some _ e)), hm.gens, hm.drawn, hm.os, Nat.le_trans htk hm.toks⟩ hacc)
  rcases List.mem_cons.mp hb2 with h | h
  · exact absurd h (Nat.ne_of_lt (Heap.lt_size e))
  · exact hb h
open PyProof.Rows in
theorem RvT.code {Q₁ : Value → Shared → Prop} {I l : Addr} {items : Array Value} (hh : A.handled = none) (hit : RvT.At s.heap I l ((items.size : Int) - 1)) (ht : IsTup s.heap l items) (hne : l ≠ I) (h1 : 1 ≤ items.size) (hz : items.size ≤ 1000)
    (h : ∀ s' acc, Moved [I] (fun a b => b = a) s s' → ItemsOf (fun i v => items[items.size - 1 - i]? = some v) acc items.size → Q₁ (.ref s'.heap.objs.size) { s' with heap := s'.heap.push { cls := .type "tuple", data := .seq acc } }) :
    codeAny (model prog w) A (.call (.builtin "tuple.__new__") ⟨[.type "tuple", .ref I], []⟩) (wants Q₁ E) s := by
  refine codeAny_of_tree ?_
  show wpAny _ A.in1 (do checkBuiltinCall "tuple.__new__" ⟨[.type "tuple", .ref I], []⟩; again (.builtin "tuple.__new__" ⟨[.type "tuple", .ref I], []⟩)) _ _ s
  refine wpAny_bind (wpAny_of_eq (F.newCall_tuple_1 _) (wpAny_pure ⟨plainId_quiet F.plain_tuple_new _, codeAny_builtin F.entry_tuple_new ?_⟩))
  rw [Around.under_plainId F.plain_tuple_new _]
  have hsub := sub_tuple_self
  have hinit := init_tuple_lookup
  have hmh := madeHere_tuple
  have hTI := hit.typeIs
  wp_walk using wpAny_typeOf hTI, RvT.collect (A := A.in1) hh hit ht hne h1 hz
  intro s' acc hm hacc
  show wpAny _ _ (Builtin.Tuple.tupleExact acc.toList.toArray >>= fun v => ret v) _ _ _
  unfold Builtin.Tuple.tupleExact
  refine wpAny_bind (wpAny_newObj_type ?_ (by show acc.toList.toArray.size ≤ sizeLine; simp only [Array.toArray_toList]; rw [hacc.1]; exact Nat.le_trans hz (by decide)))
  refine wpAny_pure ?_
  have e : acc.toList.toArray = acc := by simp
  rw [e]
  exact h s' acc hm hacc
open PyProof.Rows in
theorem RvT.tuple {Q : Value → Shared → Prop} {I l : Addr} {items : Array Value} (hh : A.handled = none) (hit : RvT.At s.heap I l ((items.size : Int) - 1)) (ht : IsTup s.heap l items) (hne : l ≠ I) (h1 : 1 ≤ items.size) (hz : items.size ≤ 1000)
    (hQ : ∀ s' acc, Moved [I] (fun a b => b = a) s s' → ItemsOf (fun i v => items[items.size - 1 - i]? = some v) acc items.size → Q (.ref s'.heap.objs.size) { s' with heap := s'.heap.push { cls := .type "tuple", data := .seq acc } }) :
    wpAny (model prog w) A (PySem.call (.type "tuple") [.ref I]) Q E s := by
  refine callType_codes (Q₁ := fun obj s₁ => s₁.TypeIs obj "tuple" ∧ Q obj s₁) F.called_tuple (F.typeCall_tuple_1 _) F.entry_object_init
    (RvT.code hh hit ht hne h1 hz fun s' acc hm hacc => ⟨⟨_, Heap.get?_push_size _ rfl, rfl⟩, hQ s' acc hm hacc⟩) fun obj s₁ h₁ => ?_
  exact ⟨h₁.1, F.args_object_init_2 obj _, object_init_meets F.called_tuple.init.lookup F.called_tuple.made (by decide) prog w A.in1 _ s₁ ⟨h₁.1, rfl, h₁.2⟩⟩
end
end PySem
namespace L2
open PySem PySem.Spec PyProof.Rows
end L2

/-! ### islower, a text in a text, None in a list of trees -/
namespace L2
open PySem PyProof.Rows
variable {X : Cx} {K : PySem.W.Frag}
end L2

/-! ### list.count -/
namespace L2
open PySem PyProof.Rows
variable {X : Cx} {K : PySem.W.Frag}
end L2

/-! ### tables of sets: their places rise -/
namespace PySem
namespace StB
open SetTable
def Ris (xs : Array Nat) : Prop := xs.toList.Pairwise (· < ·)
theorem Ris.lt {xs : Array Nat} (h : Ris xs) {a b : Nat} (hab : a < b) (hb : b < xs.size) : xs[a]'(by omega) < xs[b] := by
  have := List.pairwise_iff_getElem.mp h a b (by simpa using (by omega : a < xs.size)) (by simpa using hb) hab
  simpa using this
theorem getD_at {xs : Array Nat} {i j : Nat} (h : i < xs.size) : xs.getD i j = xs[i] := by
  simp [Array.getD, h]
theorem go_spec {xs : Array Nat} {j : Nat} (hr : Ris xs) : ∀ (fuel lo hi : Nat), hi - lo ≤ fuel → lo ≤ hi → hi ≤ xs.size → (∀ i (h : i < xs.size), i < lo → xs[i] < j) → (∀ i (h : i < xs.size), hi ≤ i → j ≤ xs[i]) →
    below.go xs j fuel lo hi ≤ xs.size ∧ (∀ i (h : i < xs.size), i < below.go xs j fuel lo hi → xs[i] < j) ∧ (∀ i (h : i < xs.size), below.go xs j fuel lo hi ≤ i → j ≤ xs[i])
  | 0, lo, hi, h1, h2, h3, h4, h5 => by
    have e : lo = hi := by omega
    subst e
    exact ⟨h3, h4, h5⟩
  | fuel + 1, lo, hi, h1, h2, h3, h4, h5 => by
    unfold below.go
    by_cases hlt : lo < hi
    · rw [if_pos hlt]
      dsimp only
      have hm : (lo + hi) / 2 < xs.size := by omega
      rw [getD_at hm]
      by_cases hc : xs[(lo + hi) / 2] < j
      · rw [if_pos hc]
        refine go_spec hr fuel _ _ (by omega) (by omega) h3 (fun i h hi' => ?_) h5
        by_cases e : i = (lo + hi) / 2
        · subst e; exact hc
        · exact Nat.lt_trans (hr.lt (by omega) hm) hc
      · rw [if_neg hc]
        refine go_spec hr fuel _ _ (by omega) (by omega) (by omega) h4 (fun i h hi' => ?_)
        by_cases e : i = (lo + hi) / 2
        · subst e; omega
        · have := hr.lt (show (lo + hi) / 2 < i by omega) h
          omega
    · rw [if_neg hlt]
      have e : lo = hi := by omega
      subst e
      exact ⟨h3, h4, h5⟩
theorem below_spec {xs : Array Nat} {j : Nat} (hr : Ris xs) : below xs j ≤ xs.size ∧ (∀ i (h : i < xs.size), i < below xs j → xs[i] < j) ∧ (∀ i (h : i < xs.size), below xs j ≤ i → j ≤ xs[i]) :=
  go_spec hr xs.size 0 xs.size (by omega) (Nat.zero_le _) (Nat.le_refl _) (fun i h h' => absurd h' (Nat.not_lt_zero _)) (fun i h h' => absurd h (by omega))
theorem insert_ris {xs : Array Nat} {j : Nat} (hr : Ris xs) (hj : xs[below xs j]? ≠ some j) : Ris (insertAt xs (below xs j) j) := by
  obtain ⟨b1, b2, b3⟩ := below_spec (xs := xs) (j := j) hr
  unfold Ris
  rw [SetTable.toList_insertAt]
  have e : xs.toList = xs.toList.take (below xs j) ++ xs.toList.drop (below xs j) := (List.take_append_drop _ _).symm
  have hp := hr
  unfold Ris at hp
  rw [e, List.pairwise_append] at hp
  obtain ⟨p1, p2, p3⟩ := hp
  rw [List.pairwise_append, List.pairwise_cons]
  have up : ∀ y ∈ xs.toList.drop (below xs j), j < y := fun y hy => by
    obtain ⟨k, hk, rfl⟩ := List.getElem_of_mem hy
    rw [List.length_drop, Array.length_toList] at hk
    have hlt : below xs j + k < xs.size := by omega
    have e1 : (xs.toList.drop (below xs j))[k] = xs[below xs j + k] := by simp
    rw [e1]
    have h1 := b3 _ hlt (by omega)
    by_cases h0 : k = 0
    · subst h0
      refine Nat.lt_of_le_of_ne h1 fun e => hj ?_
      rw [Array.getElem?_eq_getElem (by omega)]
      exact congrArg some e.symm
    · have h2 := b3 _ (show below xs j < xs.size by omega) (Nat.le_refl _)
      have := hr.lt (show below xs j < below xs j + k by omega) hlt
      omega
  have down : ∀ y ∈ xs.toList.take (below xs j), y < j := fun y hy => by
    obtain ⟨k, hk, rfl⟩ := List.getElem_of_mem hy
    rw [List.length_take, Array.length_toList] at hk
    have e1 : (xs.toList.take (below xs j))[k] = xs[k]'(by omega) := by simp
    rw [e1]
    exact b2 k (by omega) (by omega)
  refine ⟨p1, ⟨up, p2⟩, fun a ha b hb => ?_⟩
  rcases List.mem_cons.mp hb with rfl | hb
  · exact down a ha
  · exact Nat.lt_trans (down a ha) (up b hb)
/-- a slot that is free is no place -/
theorem slot_free {t : SetTable} {j : Nat} (h : t.slot j = .empty ∨ t.slot j = .dummy) : t.place[below t.place j]? ≠ some j := fun e => by
  unfold SetTable.slot at h
  dsimp only at h
  rw [e, if_pos (by simp)] at h
  rcases h with h | h <;> cases h
theorem probe_free {t : SetTable} {f : Nat → Int} {h : Int} : ∀ (fuel : Nat) (p : Probe) (j : Nat) (d : Option Nat), (∀ x, p.dummy = some x → t.slot x = .dummy) → probe.go t f h fuel p = some (.empty j d) → t.slot j = .empty ∧ ∀ x, d = some x → t.slot x = .dummy
  | 0, p, j, d, hp, e => by cases e
  | fuel + 1, p, j, d, hp, e => by
    unfold probe.go at e
    cases hs : t.slot p.j with
    | empty =>
      rw [hs] at e
      cases e
      exact ⟨hs, hp⟩
    | dummy =>
      rw [hs] at e
      refine probe_free fuel _ j d (fun x hx => ?_) e
      unfold advance at hx
      split at hx
      · cases hx
        exact hs
      · cases hx
        exact hs
    | live i =>
      rw [hs] at e
      dsimp only at e
      split at e
      · cases e
      · refine probe_free fuel _ j d (fun x hx => ?_) e
        unfold advance at hx
        split at hx
        · exact hp x hx
        · exact hp x hx
theorem free_free {t : SetTable} {h : Int} {j : Nat} {b : Bool} (e : t.freeSlot h = some (j, b)) : t.place[below t.place j]? ≠ some j := by
  unfold SetTable.freeSlot at e
  cases hp : t.probe (fun _ => h + 1) h (t.probeStart h) with
  | none => rw [hp] at e; cases e
  | some m =>
    rw [hp] at e
    cases m with
    | candidate _ _ _ => cases e
    | empty j' d =>
      have e := Option.some.inj e
      obtain ⟨h1, h2⟩ := probe_free _ _ j' d (fun x hx => by cases hx) hp
      have ej : d.getD j' = j := (Prod.mk.inj e).1
      cases d with
      | none =>
        have ej : j' = j := ej
        subst ej
        exact slot_free (.inl h1)
      | some x =>
        have ej : x = j := ej
        subst ej
        exact slot_free (.inr (h2 x rfl))
theorem range_ris (n : Nat) : Ris (Array.range n) := by
  unfold Ris
  rw [Array.toList_range]
  exact List.pairwise_lt_range
theorem orStandIn_ris {t : SetTable} {n : Nat} (h : Ris t.place) : Ris (t.orStandIn n).place ∧ (t.orStandIn n).led = t.led := by
  unfold SetTable.orStandIn
  split
  · exact ⟨h, rfl⟩
  · exact ⟨range_ris _, rfl⟩
theorem sub_places {β : Type} (f : Nat → Option β) : ∀ l : List Nat, ((l.filterMap fun j => (f j).map (j, ·)).map (·.1)).Sublist l
  | [] => .slnil
  | j :: l => by
    have ih := sub_places f l
    rw [List.filterMap_cons]
    cases f j with
    | none => exact .cons _ ih
    | some x => exact .cons₂ _ ih
theorem layNew_ris {t : SetTable} {es : Array (Int × Value)} {h : Int} {x : Value} (hr : Ris t.place) : Ris (layNew t es h x).2.1.place ∧ (layNew t es h x).2.1.led = t.led := by
  unfold layNew
  cases e : t.freeSlot h with
  | none => exact ⟨range_ris _, rfl⟩
  | some jb =>
    obtain ⟨j, b⟩ := jb
    dsimp only
    have hi := insert_ris hr (free_free e)
    exact orStandIn_ris (t := (t.put j).1) hi
theorem relayAll_ris {t : SetTable} {es : Array (Int × Value)} {n : Nat} : Ris (relayAll t es n).2.1.place ∧ (relayAll t es n).2.1.led = t.led := by
  unfold relayAll
  cases e : t.relaid (es.map (·.1)) n with
  | none => exact ⟨range_ris _, rfl⟩
  | some to =>
    obtain ⟨t', order⟩ := to
    dsimp only
    split
    · unfold SetTable.relaid SetTable.laid at e
      dsimp only
      cases hl : layClean (sizeAbove n - 1) (es.map (·.1)) with
      | none => rw [hl] at e; cases e
      | some owner =>
        rw [hl] at e
        have e := Option.some.inj e
        have e1 := (Prod.mk.inj e).1
        rw [← e1]
        refine ⟨?_, rfl⟩
        unfold Ris
        dsimp only
        exact List.pairwise_lt_range.sublist (sub_places _ _)
    · exact ⟨range_ris _, rfl⟩
def vOf : Value → Int
  | .int i _ => i
  | _ => 0
/-- a set of these ints, its table in order -/
def At (prog : Program) (w : World) (h : Heap) (a : Addr) (led : Bool) (l : List Int) : Prop :=
  ∃ o es ep t, h.get? a = some o ∧ o.ExactSet ∧ o.data = .set es ep t ∧ ElemsOf (intKind prog w) es.toList ∧ (es.toList.map fun e => vOf e.2).Perm l ∧ es.size < scanBound ∧ t.fits es.size = true ∧ Ris t.place ∧ t.led = led
section
variable {prog : Program} {w : World} {A : Around} {E : Value → Shared → Prop} {s : Shared}
theorem find_iff {es : List (Int × Value)} (h : ElemsOf (intKind prog w) es) (k : Int) : (∃ j, es.findIdx? (fun e => (intKind prog w).is k e.2) = some j) ↔ k ∈ es.map (fun e => vOf e.2) := by
  constructor
  · rintro ⟨j, e⟩
    obtain ⟨hj, hpj, _⟩ := List.findIdx?_eq_some_iff_getElem.mp e
    obtain ⟨t, et⟩ := Value.isInt_shape hpj
    refine List.mem_map.mpr ⟨es[j], List.getElem_mem hj, ?_⟩
    rw [et]
    rfl
  · intro hk
    obtain ⟨e, he, hv⟩ := List.mem_map.mp hk
    cases hf : es.findIdx? (fun e => (intKind prog w).is k e.2) with
    | some j => exact ⟨j, rfl⟩
    | none =>
      have h1 := List.findIdx?_eq_none_iff.mp hf e he
      obtain ⟨⟨k', hk', _⟩, _⟩ := h e he
      obtain ⟨t, et⟩ := Value.isInt_shape hk'
      rw [et] at hv h1
      have hv : k' = k := hv
      subst hv
      rw [show (intKind prog w).is k' (.int k' t) = true from intKind_is _ _ _ _] at h1
      cases h1
theorem store {h : Heap} {a : Addr} {o : Obj} {es : Array (Int × Value)} {ep : Nat} {t : SetTable} (ho : h.get? a = some o) (hex : o.ExactSet) (hd : o.data = .set es ep t)
    {es' : Array (Int × Value)} {t' : SetTable} {led : Bool} {l : List Int} (hel : ElemsOf (intKind prog w) es'.toList) (hp : (es'.toList.map fun e => vOf e.2).Perm l) (hb : es'.size < scanBound) (hf : t'.fits es'.size = true) (hr : Ris t'.place) (hl : t'.led = led) :
    (h.update a (Obj.putSet es' t')).get? a = some { o with data := .set es' (ep + 1) t' } ∧ At prog w (h.update a (Obj.putSet es' t')) a led l := by
  have hg : (h.update a (Obj.putSet es' t')).get? a = some { o with data := .set es' (ep + 1) t' } := by
    have := Heap.get?_update_self (Obj.putSet es' t') ho (by rw [putSet_of es' t' hd]; rfl)
    rw [putSet_of es' t' hd] at this
    exact this
  exact ⟨hg, _, es', ep + 1, t', hg, hex, rfl, hel, hp, hb, hf, hr, hl⟩
theorem tail {g : Bool → Sem Unit} (hg : ∀ (b : Bool) (s₁ : Shared) (Q' : Unit → Shared → Prop), Q' () s₁ → wpAny (model prog w) A (g b) Q' E s₁)
    {a : Addr} {o : Obj} {es : Array (Int × Value)} {ep : Nat} {t : SetTable} (ho : s.heap.get? a = some o) (hex : o.ExactSet) (hd : o.data = .set es ep t)
    {es1 : Array (Int × Value)} {t2 : SetTable} {led : Bool} {l : List Int} (hel1 : ElemsOf (intKind prog w) es1.toList) (hp1 : (es1.toList.map fun e => vOf e.2).Perm l)
    (hb1 : es1.size < scanBound) (hf2 : t2.fits es1.size = true) (hr2 : Ris t2.place) (hl2 : t2.led = led) {wasDummy : Bool} {R : Option Bool → Shared → Prop}
    (h : ∀ h', Heap.SameBut a s.heap h' → At prog w h' a led l → R (some true) { s with heap := h' }) :
    wpAny (model prog w) A (do
        storeSet a es1 t2
        if (!wasDummy && t2.tooFull) = true then do
            g (relayAll t2 es1 (SetTable.grown es1.size)).2.2
            storeSet a (relayAll t2 es1 (SetTable.grown es1.size)).1 (relayAll t2 es1 (SetTable.grown es1.size)).2.1
            pure (some true)
          else pure (some true)) R E s := by
  refine wpAny_bind (wpAny_storeSet_of ho hd ?_ (fits_of_scanBound hb1))
  obtain ⟨ho1, hS1⟩ := store (prog := prog) (w := w) ho hex hd hel1 hp1 hb1 hf2 hr2 hl2
  have hsb1 := Heap.SameBut.update s.heap a (Obj.putSet es1 t2)
  split
  · have hp := relayAll_perm t2 es1 (SetTable.grown es1.size)
    have hfr := relayAll_fits t2 es1 (SetTable.grown es1.size)
    have hrr := relayAll_ris (t := t2) (es := es1) (n := SetTable.grown es1.size)
    generalize hRl : relayAll t2 es1 (SetTable.grown es1.size) = Rl at hp hfr hrr ⊢
    obtain ⟨es2, t3, gave2⟩ := Rl
    dsimp only at hp hfr hrr ⊢
    have hsz : es2.size = es1.size := by rw [← Array.length_toList, hp.length_eq, Array.length_toList]
    have hb2 : es2.size < scanBound := by rw [hsz]; exact hb1
    refine wpAny_bind (hg _ _ _ ?_)
    refine wpAny_bind (wpAny_storeSet_of ho1 rfl ?_ (fits_of_scanBound hb2))
    obtain ⟨_, hS2⟩ := store (prog := prog) (w := w) ho1 hex rfl (hel1.perm hp) ((hp.map _).trans hp1) hb2 hfr hrr.1 (hrr.2.trans hl2)
    exact wpAny_pure (h _ (hsb1.trans (Heap.SameBut.update _ a _)) hS2)
  · exact wpAny_pure (h _ hsb1 hS1)
theorem add {a : Addr} {led : Bool} {l : List Int} {k : Int} {tk : Tok} {Q : Bool → Shared → Prop} (hS : At prog w s.heap a led l) (hroom : l.length + 1 < scanBound)
    (h : ∀ (b : Bool) h', Heap.SameBut a s.heap h' → At prog w h' a led (if k ∈ l then l else l ++ [k]) → Q b { s with heap := h' }) :
    wpAny (model prog w) A (setAddHashed a (.int k tk) ((intKind prog w).hash k)) Q E s := by
  obtain ⟨o, es, ep, t, ho, hex, hd, hel, hpm, hb, hf, hr, hled⟩ := hS
  have hkey : (intKind prog w).is k (.int k tk) = true := intKind_is _ _ _ _
  have hsc : (Value.int k tk).scannable = true := rfl
  have hn : es.size = l.length := by rw [← hpm.length_eq, List.length_map, Array.length_toList]
  have hmem : k ∈ l ↔ k ∈ es.toList.map (fun e => vOf e.2) := hpm.mem_iff.symm
  unfold setAddHashed setAddHashedIn
  refine wpAny_holding (wpAny_bind (wpAny_setState_of ho hd hf ?_))
  dsimp only
  rw [byScan_of hsc hb hel]
  simp only [↓reduceIte]
  unfold setAddByScan
  refine wpAny_bind ?_
  refine wpAny_bind (wpAny_rule ?_)
  refine wpAny_bind (wpAny_setScan_of hkey ho hd hf hel ?_)
  cases hr' : List.findIdx? (fun e => (intKind prog w).is k e.2) es.toList with
  | some j =>
    dsimp only
    have hk : k ∈ l := hmem.mpr ((find_iff hel k).mp ⟨j, hr'⟩)
    refine wpAny_pure (wpAny_pure ?_)
    have := h false s.heap (Heap.SameBut.refl a s.heap) (by rw [if_pos hk]; exact ⟨o, es, ep, t, ho, hex, hd, hel, hpm, hb, hf, hr, hled⟩)
    have e : s = { s with heap := s.heap } := by cases s; rfl
    rw [e]
    exact this
  | none =>
    dsimp only
    have hk : ¬ k ∈ l := fun z => by
      obtain ⟨j, e⟩ := (find_iff hel k).mpr (hmem.mp z)
      rw [e] at hr'
      cases hr'
    have hgw : ∀ (b : Bool) {s₁ : Shared} {Q' : Unit → Shared → Prop}, Q' () s₁ → wpAny (model prog w) A (match b with | true => rule "set.scan.the-table-gave-way" | false => pure ()) Q' E s₁ :=
      fun b s₁ Q' hq => by cases b <;> first | exact wpAny_pure hq | exact wpAny_rule hq
    have hperm := layNew_perm t es ((intKind prog w).hash k) (.int k tk)
    have hfits := layNew_fits t es ((intKind prog w).hash k) (.int k tk)
    have hris := layNew_ris (t := t) (es := es) (h := (intKind prog w).hash k) (x := .int k tk) hr
    generalize hL : layNew t es ((intKind prog w).hash k) (.int k tk) = L at hperm hfits hris ⊢
    obtain ⟨es1, t1, wasDummy, gave⟩ := L
    dsimp only at hperm hfits hris ⊢
    rw [Array.toList_push] at hperm
    have hel1 : ElemsOf (intKind prog w) es1.toList := (hel.push hkey hsc).perm hperm
    have hp1 : (es1.toList.map fun e => vOf e.2).Perm (l ++ [k]) := by
      refine (hperm.map _).trans ?_
      rw [List.map_append]
      exact hpm.append (.refl _)
    have hb1 : es1.size < scanBound := by rw [← Array.length_toList, hperm.length_eq, List.length_append, Array.length_toList, hn]; simpa using hroom
    refine wpAny_bind (hgw _ ?_)
    have hend : ∀ h', Heap.SameBut a s.heap h' → At prog w h' a led (l ++ [k]) → Q true { s with heap := h' } := fun h' hsb hS' => h true h' hsb (by rw [if_neg hk]; exact hS')
    split
    · refine wpAny_bind ?_
      rw [hashByValue_scannable 8 hsc]
      refine wpAny_pure ?_
      refine tail ?_ ho hex hd hel1 hp1 hb1 ?_ ?_ ?_ ?_ (led := led)
      · intro b s₁ Q' hq; cases b <;> first | exact wpAny_pure hq | exact wpAny_rule hq
      · split
        · exact hfits
        · exact SetTable.fits_plain_off hfits
      · split <;> exact hris.1
      · split <;> exact hris.2.trans hled
      · intro h' hsb hS'; dsimp only; exact wpAny_pure (hend h' hsb hS')
    · refine wpAny_bind (wpAny_pure ?_)
      simp only [↓reduceIte]
      refine tail ?_ ho hex hd hel1 hp1 hb1 hfits hris.1 (hris.2.trans hled) ?_
      · intro b s₁ Q' hq; cases b <;> first | exact wpAny_pure hq | exact wpAny_rule hq
      · intro h' hsb hS'; dsimp only; exact wpAny_pure (hend h' hsb hS')
end
end StB
end PySem

/-! ### set(list of ints) -/
namespace PySem
open PyProof.Rows
namespace StB
/-- each of them once, in the order in which they are met -/
def once (l : List Int) (k : Int) : List Int := if k ∈ l then l else l ++ [k]
def firsts (val : Nat → Int) : Nat → List Int
  | 0 => []
  | i + 1 => once (firsts val i) (val i)
theorem firsts_len (val : Nat → Int) : ∀ i, (firsts val i).length ≤ i
  | 0 => Nat.le_refl 0
  | i + 1 => by
    have := firsts_len val i
    unfold firsts once
    split
    · omega
    · rw [List.length_append, List.length_singleton]
      omega
section
variable {prog : Program} {w : World} {A : Around} {R : Result → Shared → Prop} {I : Addr} {fp wr : List Addr} {G : Array GenState → Array GenState → Prop} {n : Nat} {P : Nat → Value → Prop} {St : Nat → Shared → Prop}
theorem loop (W : WalksS prog w A.in1 I fp wr G n P St) (S : Addr) (hSf : S ∉ fp) (led : Bool)
    (val : Nat → Int) (hval : ∀ i v, P i v → ∃ t, v = .int (val i) t) (hb : n + 1 < scanBound) :
    ∀ (k i : Nat) (s : Shared), n - i = k → i ≤ n → St i s → At prog w s.heap S led (firsts val i) →
      (∀ s', Moved (S :: wr) G s s' → At prog w s'.heap S led (firsts val n) → R (.ok (.ret .none)) s') →
      codeAny (model prog w) A (.builtin "set.update.loop" ⟨[.ref S, .ref I], []⟩) R s := by
  have hSw : S ∉ wr := fun h => hSf (W.sub _ h)
  have hsub : ∀ b ∈ wr, b ∈ S :: wr := fun b hb => List.mem_cons_of_mem _ hb
  intro k
  induction k with
  | zero =>
    intro i s hk hi hst hS hR
    have hin : i = n := by omega
    subst hin
    refine codeAny_builtin F.entry_set_update_loop ?_
    rw [Around.under_plainId F.plain_set_update_loop _]
    show wpAny _ A.in1 (pyNext (.ref I) >>= _) _ _ s
    refine wpAny_bind (W.done s _ _ hst fun s' hm => ?_)
    show wpAny _ A.in1 (ret Value.none) _ _ s'
    exact wpAny_pure (hR s' (hm.mono hsub) (by
      obtain ⟨o, es, ep, t, ho, rest⟩ := hS
      exact ⟨o, es, ep, t, hm.heap S _ hSw ho, rest⟩))
  | succ k ih =>
    intro i s hk hi hst hS hR
    have hlt : i < n := by omega
    refine codeAny_builtin F.entry_set_update_loop ?_
    rw [Around.under_plainId F.plain_set_update_loop _]
    show wpAny _ A.in1 (pyNext (.ref I) >>= _) _ _ s
    refine wpAny_bind (W.item i s _ _ hlt hst fun v s' hP hst' hm => ?_)
    obtain ⟨t, rfl⟩ := hval i v hP
    have hS' : At prog w s'.heap S led (firsts val i) := by
      obtain ⟨o, es, ep, tb, ho, rest⟩ := hS
      exact ⟨o, es, ep, tb, hm.heap S _ hSw ho, rest⟩
    show wpAny _ A.in1 (holding [Value.int (val i) t] (setAdd S (.int (val i) t)) >>= _) _ _ s'
    refine wpAny_bind (wpAny_holding ?_)
    unfold setAdd
    refine wpAny_holding ?_
    refine wpAny_bind ((intKind prog w).pyHash (k := val i) (intKind_is _ _ _ _) ?_)
    have hroom : (firsts val i).length + 1 < scanBound := by have := firsts_len val i; omega
    refine add (s := { s' with toks := s'.toks + 1 }) hS' hroom fun b h' hsb hS2 => ?_
    refine wpAny_pure ⟨plainId_quiet F.plain_set_update_loop _, ih (i + 1) _ (by omega) hlt (W.frame _ s' _ _ hst' (Nat.le_succ _) fun b hb o e => ?_) hS2 fun s'' hm'' hS'' => ?_⟩
    · rw [hsb.2 b (fun h : b = S => hSf (by rw [← h]; exact hb))]; exact e
    · refine hR s'' (Moved.trans W.gtrans ((hm.mono hsub).then_heap (Nat.le_succ _) fun b o hb e => ?_) hm'') hS''
      rw [hsb.2 b (fun h : b = S => hb (by rw [h]; exact List.mem_cons_self))]; exact e
end
section
variable {prog : Program} {w : World} {A : Around} {E : Value → Shared → Prop} {s : Shared}
def obj0 (led : Bool) : Obj := { cls := .type "set", dict := none, data := .set #[] 0 (.fresh 0 0 led) }
theorem new_1 (a : Value) {Q₁ : Value → Shared → Prop} (h : Q₁ (.ref s.heap.objs.size) { s with heap := s.heap.push (obj0 (!w.params.followText "set-order")) }) :
    codeAny (model prog w) A (.call (.builtin "set.__new__") ⟨[.type "set", a], []⟩) (wants Q₁ E) s := by
  refine codeAny_of_tree ?_
  show wpAny _ A.in1 (do checkBuiltinCall "set.__new__" ⟨[.type "set", a], []⟩; again (.builtin "set.__new__" ⟨[.type "set", a], []⟩)) _ _ s
  refine wpAny_bind (wpAny_of_eq (F.newCall_set_1 a) (wpAny_pure ⟨plainId_quiet F.plain_set_new _, codeAny_builtin F.entry_set_new ?_⟩))
  rw [Around.under_plainId F.plain_set_new _]
  unfold Builtin.«set.__new__» Builtin.Frozenset.newClass
  have hsub := sub_set_self
  obtain ⟨hp, g, d, tk, os⟩ := s
  dsimp only
  wp_walk
  refine wpAny_askSetting (wpAny_pure ?_)
  dsimp only
  simp only [newObj]
  refine wpAny_bind (wpAny_alloc (wpAny_pure ?_))
  exact wpAny_pure h
theorem at0 {h : Heap} {a : Addr} {led : Bool} (e : h.get? a = some (obj0 led)) : At prog w h a led [] :=
  ⟨_, #[], 0, _, e, ⟨rfl, rfl, rfl⟩, rfl, fun e he => (by simp at he), .refl _, by decide, by rfl, List.Pairwise.nil, rfl⟩
/-- set(list of ints) -/
theorem make {l : Addr} {items : Array Value} {ns : List Int} {Q : Value → Shared → Prop}
    (hh : A.handled = none) (hl : s.heap.IsList l items) (hi : IntsAre items.toList ns) (hb : items.size + 1 < scanBound)
    (h : ∀ (h' : Heap) (tk : Nat), At prog w h' s.heap.objs.size (!w.params.followText "set-order") (firsts (fun i => ns.getD i 0) items.size) →
      (∀ b o, b < s.heap.objs.size → s.heap.get? b = some o → h'.get? b = some o) → Q (.ref s.heap.objs.size) { s with heap := h', toks := tk }) :
    wpAny (model prog w) A (call (.type "set") [.ref l]) Q E s := by
  obtain ⟨c, tl, hmro⟩ := F.called_set.mro
  have hmade := F.called_set.made
  have hsub := F.called_set.sub
  refine wpAny_call (codeAny_of_tree ?_)
  show wpAny _ _ (callAny (.type "set") _) _ _ _
  refine wpAny_pure ⟨Code.quiet_builtin _ (by decide +kernel), codeAny_builtin F.entry_type_call ?_⟩
  rw [Around.under_plain (weight_type_call_type "set" [.ref l] []) rfl]
  have h1 := F.called_set.notType
  have h2 := F.called_set.canCreate
  have hct := F.typeCall_set_1 (.ref l)
  repeat (any_goals (first | assumption | wp_step))
  generalize hled : (!w.params.followText "set-order") = led at h
  refine codeAny_mono (new_1 (.ref l) (E := E) (Q₁ := fun obj s₁ => obj = .ref s.heap.objs.size ∧ s₁ = { s with heap := s.heap.push (obj0 led) }) (by rw [hled]; exact ⟨rfl, rfl⟩)) fun r s₁ hr => ?_
  cases r with
  | error e => exact hr
  | ok fl =>
    cases fl with
    | ret obj =>
      obtain ⟨rfl, rfl⟩ := hr
      have hS : (s.heap.push (obj0 led)).get? s.heap.objs.size = some (obj0 led) := Heap.get?_push_size _ rfl
      have hT : Shared.TypeIs { s with heap := s.heap.push (obj0 led) } (.ref s.heap.objs.size) "set" := ⟨_, hS, rfl⟩
      have hli := F.called_set.init.lookup
      have hbi := F.called_set.init.bind (.ref s.heap.objs.size)
      repeat (any_goals (first | assumption | wp_step))
      refine codeAny_mono (codeAny_call_builtin (R := wants (fun r s₂ => r = .none ∧ ∃ h' tk, s₂ = { s with heap := h', toks := tk } ∧ At prog w h' s.heap.objs.size led (firsts (fun i => ns.getD i 0) items.size) ∧
          (∀ b o, b < s.heap.objs.size → s.heap.get? b = some o → h'.get? b = some o)) E) F.called_set.init.plain F.entry_set_init (check_set_init_1 hT ?_)) fun r₂ s₂ hr₂ => ?_
      · obtain ⟨ol, hol, hcl, nl, hdl⟩ := hl
        obtain ⟨ocls, odict, odata, oslots⟩ := ol
        simp only at hcl hdl
        subst hcl; subst hdl
        have hol' : (s.heap.push (obj0 led)).get? l = some { cls := .type "list", dict := odict, data := .seq items nl, slots := oslots } := Heap.get?_push_of_some _ hol
        have hsls := F.sub_list_set
        have hslf := F.sub_list_frozenset
        have hne : (Value.type "list" == Value.type "dict") = false := by decide
        have hl1 : (s.heap.push (obj0 led)).IsList l items := ⟨_, hol', rfl, nl, rfl⟩
        have hS' := hS
        unfold obj0 at hS'
        unfold Builtin.«set.__init__» noKeywords Builtin.Frozenset.updateFrom
        generalize hPI : pyIter = PI
        unfold obj0 at *
        wp_walk
        subst hPI
        refine wpAny_pyIter_list hl1 ?_
        refine wpAny_bind (wpAny_runValue ?_)
        have hlS : l < s.heap.objs.size := Heap.lt_size hol
        have hh3 : A.in1.in1.in1.handled = none := by simp [hh]
        generalize hOB : ({ cls := .type "set", dict := none, data := .set #[] 0 (.fresh 0 0 led) } : Obj) = OB at *
        have hneI : l ≠ (s.heap.push OB).objs.size := by
          rw [Heap.size_push]; exact Nat.ne_of_lt (Nat.lt_succ_of_lt hlS)
        have hSf : s.heap.objs.size ∉ [(s.heap.push OB).objs.size, l] := by
          rw [Heap.size_push]; simp only [List.mem_cons, List.mem_singleton, List.not_mem_nil, or_false, not_or]
          exact ⟨Nat.ne_of_lt (Nat.lt_succ_self _), Nat.ne_of_gt hlS⟩
        have hval : ∀ (i : Nat) (v : Value), items[i]? = some v → ∃ t, v = .int ((fun i => ns.getD i 0) i) t := fun i v hv =>
          IntsAre.int_at hi i v (by rw [Array.getElem?_toList]; exact hv)
        refine loop ((Walks.list hh3 _ l hneI items).toS) s.heap.objs.size hSf led (fun i => ns.getD i 0) hval hb (items.size - 0) 0 _ (by omega) (Nat.zero_le _)
          ⟨⟨_, Heap.get?_push_size _ rfl, rfl, rfl⟩, (hl1.push _)⟩ ?hS0 ?hR
        case hS0 =>
          have hget : ((s.heap.push OB).push { cls := .type "list_iterator", data := .fields #[.ref l, .int 0 0] }).get? s.heap.objs.size = some OB := Heap.get?_push_of_some _ hS
          exact at0 (by rw [hget, ← hOB]; rfl)
        case hR =>
          intro s' hm hS'
          obtain ⟨h', g', d', tk', os'⟩ := s'
          have eg : g' = s.gens := hm.gens
          have ed : d' = s.drawn := hm.drawn
          have eo : os' = s.os := hm.os
          subst eg; subst ed; subst eo
          show wpAny _ _ _ _ _ _
          refine wpAny_pure ?_
          show wpAny _ _ (ret Value.none) _ _ _
          refine wpAny_pure ⟨rfl, h', tk', rfl, hS', fun b o hb e => ?_⟩
          have hb1 : b ≠ s.heap.objs.size := Nat.ne_of_lt hb
          have hb2 : b ≠ (s.heap.push OB).objs.size := by
            rw [Heap.size_push]; exact Nat.ne_of_lt (Nat.lt_succ_of_lt hb)
          exact hm.heap b o (by simp only [List.mem_cons, List.mem_singleton, List.not_mem_nil, or_false, not_or]; exact ⟨hb1, hb2⟩) (Heap.get?_push_of_some _ (Heap.get?_push_of_some _ e))
      · cases r₂ with
        | error e => exact hr₂
        | ok fl₂ =>
          cases fl₂ with
          | ret r =>
            obtain ⟨rfl, h', tk, rfl, hS', hk'⟩ := hr₂
            repeat (any_goals (first | assumption | wp_step))
            exact h _ _ hS' hk'
          | _ => exact hr₂.elim
    | _ => exact hr.elim
end
end StB
end PySem

/-! ### a set walked -/
namespace PySem
open PyProof.Rows
namespace StB
theorem owner_it : Manifest.owners.lookup (String.ofList ['r', 'o', 't', 'a', 'r', 'e', 't', 'i', '_', 't', 'e', 's'].reverse) = some Manifest.sig_set_iterator := by kernel_rfl
theorem slot_next : Slot "set_iterator" "__next__" "set_iterator.__next__" :=
  .of (owner := "set_iterator") (n := "__next__") (by rw [typeLookup_type, builtinLookup_eq_fast]; kernel_rfl) (by decide +kernel) (by decide +kernel) (by decide +kernel)
    (by first | exact .inl (by decide +kernel) | exact .inr (by decide +kernel)) (by rw [isSubtype_type]; kernel_rfl)
theorem entry_next : entryFor table "set_iterator.__next__" = some Builtin.«set_iterator.__next__» := entryFor_of_tree (by kernel_rfl)
theorem args_next_1 (a : Value) : argsOk "set_iterator.__next__" ⟨[a], []⟩ := by
  unfold argsOk; rw [signature?_of (id := "set_iterator.__next__") (n := ['_', '_', 't', 'x', 'e', 'n', '_', '_']) (o := ['r', 'o', 't', 'a', 'r', 'e', 't', 'i', '_', 't', 'e', 's']) (by kernel_rfl) owner_it]; kernel_rfl
theorem slot_iter : Slot "set_iterator" "__iter__" "set_iterator.__iter__" :=
  .of (owner := "set_iterator") (n := "__iter__") (by rw [typeLookup_type, builtinLookup_eq_fast]; kernel_rfl) (by decide +kernel) (by decide +kernel) (by decide +kernel)
    (by first | exact .inl (by decide +kernel) | exact .inr (by decide +kernel)) (by rw [isSubtype_type]; kernel_rfl)
theorem args_iter_1 (a : Value) : argsOk "set_iterator.__iter__" ⟨[a], []⟩ := by
  unfold argsOk; rw [signature?_of (id := "set_iterator.__iter__") (n := ['_', '_', 'r', 'e', 't', 'i', '_', '_']) (o := ['r', 'o', 't', 'a', 'r', 'e', 't', 'i', '_', 't', 'e', 's']) (by kernel_rfl) owner_it]; kernel_rfl
theorem entry_iter : entryFor table "set_iterator.__iter__" = some Builtin.«dict_keyiterator.__iter__» :=
  entryFor_alias (id' := "dict_keyiterator.__iter__") (by kernel_rfl) (by first | rfl | decide +kernel | (unfold String.splitOn; simp +decide [String.splitOnAux])) (by decide +kernel) (by kernel_rfl)
/-- the walker's record -/
def It (h : Heap) (I : Addr) (first : Value) (i : Nat) (S : Addr) (n ep : Nat) : Prop := ∃ o, h.get? I = some o ∧ o.cls = .type "set_iterator" ∧ o.data = .fields #[first, rawInt (i : Int), .ref S, rawInt (n : Int), rawInt (ep : Int)]
section
variable {prog : Program} {w : World} {A : Around} {E : Value → Shared → Prop} {s : Shared}
theorem It.typeIs {I S : Addr} {f : Value} {i n ep : Nat} (x : It s.heap I f i S n ep) : s.TypeIs (.ref I) "set_iterator" := let ⟨o, ho, hc, _⟩ := x; ⟨o, ho, hc⟩
theorem It.on {h h' : Heap} {I S : Addr} {f : Value} {i n ep : Nat} (x : It h I f i S n ep) (e : ∀ o, h.get? I = some o → h'.get? I = some o) : It h' I f i S n ep := let ⟨o, ho, r⟩ := x; ⟨o, e _ ho, r⟩
/-- a set's record, whole -/
def Rec (h : Heap) (S : Addr) (es : Array (Int × Value)) (ep : Nat) (t : SetTable) : Prop := ∃ o, h.get? S = some o ∧ o.ExactSet ∧ o.data = .set es ep t
theorem Rec.on {h h' : Heap} {S : Addr} {es : Array (Int × Value)} {ep : Nat} {t : SetTable} (x : Rec h S es ep t) (e : ∀ o, h.get? S = some o → h'.get? S = some o) : Rec h' S es ep t := let ⟨o, ho, r⟩ := x; ⟨o, e _ ho, r⟩
end
end StB
end PySem

/-! ### the orders in which a set is walked -/
namespace PySem
open PyProof.Rows
namespace StB
section
variable {prog : Program} {w : World} {A : Around} {E : Value → Shared → Prop} {s : Shared}
open SetTable in
end
end StB
end PySem

/-! ### a set walked by drawn places -/
namespace PySem
open PyProof.Rows
namespace StB
def Plc (h : Heap) (T : Addr) (ord : List Nat) : Prop := ∃ o, h.get? T = some o ∧ ∃ n, o.data = .seq (ord.map fun (i : Nat) => rawInt (i : Int)).toArray n
theorem Plc.on {h h' : Heap} {T : Addr} {ord : List Nat} (x : Plc h T ord) (e : ∀ o, h.get? T = some o → h'.get? T = some o) : Plc h' T ord := let ⟨o, ho, r⟩ := x; ⟨o, e _ ho, r⟩
section
variable {prog : Program} {w : World} {A : Around} {E : Value → Shared → Prop} {s : Shared}
end
end StB
end PySem

/-! ### a set gathered into a list -/
namespace PySem
open PyProof.Rows
namespace StB
theorem Rec.typeIs {s : Shared} {S : Addr} {es : Array (Int × Value)} {ep : Nat} {t : SetTable} (x : Rec s.heap S es ep t) : s.TypeIs (.ref S) "set" := let ⟨o, ho, hx, _⟩ := x; ⟨o, ho, hx.1⟩
section
variable {prog : Program} {w : World} {A : Around} {E : Value → Shared → Prop} {s : Shared}
end
end StB
end PySem

namespace PySem
open PyProof.Rows
open Sem (wp)
namespace StB
section
variable {prog : Program} {w : World} {A : Around} {E : Value → Shared → Prop} {s : Shared}
end
end StB
end PySem

/-! ### sorted(set(list of ints)) -/
namespace L2
open PySem PySem.Spec PyProof.Rows
namespace Bt
theorem set : bootBuiltins "set" = some (.type "set") := by decide +kernel
end Bt
end L2

/-! ### sorted(set(tuple of ints)); a comprehension over reversed(list) -/
namespace PySem
open PyProof.Rows
namespace StB
section
variable {prog : Program} {w : World} {A : Around} {E : Value → Shared → Prop} {s : Shared}
end
end StB
end PySem
namespace L2
open PySem PySem.Spec PyProof.Rows
end L2

/-! ### text.replace(one sign, "") behind a test against a number: the number's token tells that tokens are not 0 -/
namespace L2
open PySem PySem.Spec PyProof.Rows
variable {X : Cx}
theorem call_strike {prog : Program} {w : World} {A : Around} {E : Value → Shared → Prop} {s : Shared} {x y z : Str} {t u v : Tok} {Q : Value → Shared → Prop} (hu : u ≠ 0) (hv : v ≠ 0) (huv : u ≠ v) (hyz : (y == z) = false) (hb : x.length + (x.length + 1) * z.length ≤ 16777216)
    (hq : ∀ t' k, Q (.str (Txt.replace x y z) t') { s with toks := k }) :
    wpAny (model prog w) A (call (.builtin "str.replace") [.str x t, .str y u, .str z v]) Q E s := by
  have hl : Builtin.Str.tooLong (x.length + (Builtin.Str.occurrences x y 0 x.length (x.length + 1)).length * z.length) = false := by
    have h1 := StrLaws.occ_length_le x y 0 x.length (x.length + 1)
    have h2 : (Builtin.Str.occurrences x y 0 x.length (x.length + 1)).length * z.length ≤ (x.length + 1) * z.length := Nat.mul_le_mul_right _ h1
    unfold Builtin.Str.tooLong sizeLine
    exact decide_eq_false (by omega)
  refine call_givesAt (P := fun _ => True) F.slot_str_replace (typeIs_str _ _ _) F.entry_str_replace (F.args_str_replace_3 _ _ _)
    (Gives.at (gives_str_replace x y z t u v fun _ => ⟨by simp [hu, hv], by simp [huv], hyz, hl⟩)) trivial ?_
  have hq' := hq
  unfold Txt.replace at hq'
  cases hc : ((Builtin.Str.occurrences x y 0 x.length (x.length + 1)).isEmpty || (y.length == 0 && z.length == 0))
  · rw [hc] at hq'
    simp only [Bool.false_eq_true, if_false] at hq' ⊢
    exact ⟨fits_replaced y hb, hq' _ _⟩
  · rw [hc] at hq'
    simp only [if_true] at hq' ⊢
    exact hq' t s.toks
/-- o.replace(c, "") of a name, where the next token is not 0 -/
theorem ev_strike {pins : List (Addr × Obj)} {s : Shared} {σ : St} {H : Hp} {i : Nat} {tx : Str} {z : Str} {c : Nat} {y e0 : Str} {j1 j2 : Nat} {p5 apos p1 p2 cpos : Pos} {Q : VK} (hp : s.toks ≠ 0) (I : Inv X pins σ H s)
    (hy : y = ⟨#[c]⟩) (he0 : e0 = ⟨#[]⟩) (hz : z.length ≤ sizeLine) (hσ : σ[i]? = some (some (.str z))) (q : Q (.str ⟨(z.cps.toList.filter (· != c)).toArray⟩) H)
    (hN : X.N[i]? = some tx := by kernel_rfl) (hv : X.env.scope.names.lookup tx = some .local := by kernel_rfl) (hd : (tx == ("__debug__" : Str)) = false := by kernel_rfl) (hcd : (tx == ("__classdict__" : Str)) = false := by kernel_rfl)
    (hbase : attributeBase (.Name tx p5) "replace" X.env (eval (.Name tx p5) X.env) = eval (.Name tx p5) X.env := by rfl)
    (hfew : ((backTo cpos (starEach [.Constant (.str y) j1 p1, .Constant (.str e0) j2 p2] X.env)).all (fun x => !x.1) && (backToKw cpos (keywordEach [] X.env)).all (fun x => x.1.isSome)
      && decide (([.Constant (.str y) j1 p1, .Constant (.str e0) j2 p2] : List Expr).length + ([] : List Keyword).length + (if ([] : List Keyword).isEmpty then 0 else 1) < 30)) = true := by rfl)
    (hline : (apos.endLine == cpos.line) = true := by rfl)
    (hs : backTo cpos (starEach [.Constant (.str y) j1 p1, .Constant (.str e0) j2 p2] X.env) = [(false, eval (.Constant (.str y) j1 p1) X.env), (false, eval (.Constant (.str e0) j2 p2) X.env)] := by rfl) :
    wpAny (model X.prog X.w) X.A (eval (.Call (.Attribute (.Name tx p5) "replace" apos) [.Constant (.str y) j1 p1, .Constant (.str e0) j2 p2] [] cpos) X.env) (EP X pins σ Q) X.xe s := by
  obtain ⟨m, hn, hl⟩ := I.loc
  obtain ⟨u, r, l⟩ := hl i tx (.str z) hN hσ (.inl hv)
  obtain ⟨t, rfl⟩ := r
  refine wpAny_Call_method_late hbase hfew hline rfl ?_
  have key : MethodOn X.prog X.w X.A "replace" cpos (.str z t) (backTo cpos (starEach [.Constant (.str y) j1 p1, .Constant (.str e0) j2 p2] X.env)) (EP X pins σ Q) X.xe s := by
    refine ⟨"str", "str.replace", PySem.F.plainAttrs_str, PySem.F.slot_str_replace, PySem.F.type_str_replace, typeIs_str _ _ _, (fun _ e => nomatch e), ?_⟩
    rw [hs]
    refine Calls.callWith_builtin rfl (Calls.evalArgs_plain ?_)
    refine Calls.spliced_cons (Calls.Constant_str (Calls.spliced_cons (Calls.Constant_str (Calls.spliced_nil ?_))))
    subst hy he0
    refine call_strike hp (Nat.succ_ne_zero _) (Nat.ne_of_lt (Nat.lt_succ_self _)) rfl (by show z.length + (z.length + 1) * 0 ≤ 16777216; rw [Nat.mul_zero]; exact hz) fun t' k => ?_
    have e : Txt.replace z ⟨#[c]⟩ ⟨#[]⟩ = ⟨(z.cps.toList.filter (· != c)).toArray⟩ := by
      have h := replace_strikes z c
      generalize Txt.replace z ⟨#[c]⟩ ⟨#[]⟩ = a at h ⊢
      cases a
      rw [← h]
    rw [e]
    exact ⟨.str _, H, I.tok _, ⟨_, rfl⟩, q⟩
  rcases l with ⟨hk, hm⟩ | ⟨hk, c', hc', hcell⟩
  · exact wpAny_Name (wpAny_loadName_local I.ok.kind hk hn hm key) hd
  · rcases hk with hk | hk
    · exact wpAny_Name (wpAny_loadName_cell I.ok.kind hk hc' hcell key) hd
    · exact wpAny_Name (wpAny_loadName_free I.ok.kind hk hc' hcell key hcd) hd
/-- if l > n: .. and behind it: x = f(text.replace(c, "")) -/
def tStrike (tl : TE) (n : Int) (ta : TS) (i k : Nat) (c : Nat) (sp : Sp) (E : XK) (u : TS) : TS := fun D σ H => tl σ H fun x H1 => ∃ m : Int, x = .int m ∧
  (if n < m then ta { D with nx := fun σ' H' => False } σ H1 else ∃ z : Str, σ[i]? = some (some (.str z)) ∧ z.length ≤ sizeLine ∧ sp [.str ⟨(z.cps.toList.filter (· != c)).toArray⟩] H1 (fun v H2 => u D (σ.set k (some v)) H2) E)
theorem pss_strike {CX : CXT} {l : Expr} {tl : TE} {ta u : TS} {a rest : List Stmt} {n : Int} (i k : Nat) {lev : Nat} {tx fx xx : Str} (c : Nat) {y e0 : Str} {jn j1 j2 : Nat} {pn pc pif p5 apos p1 p2 cpos pf pcl px pas : Pos} {f : Addr} {fd : FuncData} {ps : List Str} {sp : Sp} {E : XK}
    (hNN : X.N.Nodup) (hl : PE X l tl) (ha : PSs X a ta) (F : FnOk X.prog X.w X.K X.mg X.base CX lev f fd ps sp) (hr : Room lev X.A) (hm : X.mg fx = some (.ref f)) (hk : PySem.W.keepIn X.K (.ref f) = true) (hb : Binds X.K fd ps []) (hx : Passes CX X E) (hu : PSs X rest u)
    (hmk : behindInMarks .Gt (.Constant (.int n) jn pn) = false) (hy : y = ⟨#[c]⟩ := by kernel_rfl) (he0 : e0 = ⟨#[]⟩ := by kernel_rfl)
    (hN : X.N[i]? = some tx := by kernel_rfl) (hv : X.env.scope.names.lookup tx = some .local := by kernel_rfl) (hd : (tx == ("__debug__" : Str)) = false := by kernel_rfl) (hcd : (tx == ("__classdict__" : Str)) = false := by kernel_rfl)
    (hbase : attributeBase (.Name tx p5) "replace" X.env (eval (.Name tx p5) X.env) = eval (.Name tx p5) X.env := by rfl)
    (hfew : ((backTo cpos (starEach [.Constant (.str y) j1 p1, .Constant (.str e0) j2 p2] X.env)).all (fun x => !x.1) && (backToKw cpos (keywordEach [] X.env)).all (fun x => x.1.isSome)
      && decide (([.Constant (.str y) j1 p1, .Constant (.str e0) j2 p2] : List Expr).length + ([] : List Keyword).length + (if ([] : List Keyword).isEmpty then 0 else 1) < 30)) = true := by rfl)
    (hline : (apos.endLine == cpos.line) = true := by rfl)
    (hs : backTo cpos (starEach [.Constant (.str y) j1 p1, .Constant (.str e0) j2 p2] X.env) = [(false, eval (.Constant (.str y) j1 p1) X.env), (false, eval (.Constant (.str e0) j2 p2) X.env)] := by rfl)
    (hg : X.env.scope.names.lookup fx = some .globalImplicit := by kernel_rfl) (hdb : (fx == ("__debug__" : Str)) = false := by kernel_rfl)
    (he : starEach [Expr.Call (.Attribute (.Name tx p5) "replace" apos) [.Constant (.str y) j1 p1, .Constant (.str e0) j2 p2] [] cpos] X.env = (false, eval (.Call (.Attribute (.Name tx p5) "replace" apos) [.Constant (.str y) j1 p1, .Constant (.str e0) j2 p2] [] cpos) X.env) :: starEach [] X.env := by rfl)
    (hpl : (backTo pcl (starEach [] X.env)).any (·.1) = false := by rfl)
    (hi : X.N[k]? = some xx := by kernel_rfl) (hxl : X.env.scope.names.lookup xx = some .local := by kernel_rfl)
    (hsw : swapsWith (.Call (.Name fx pf) [.Call (.Attribute (.Name tx p5) "replace" apos) [.Constant (.str y) j1 p1, .Constant (.str e0) j2 p2] [] cpos] [] pcl) (some (.Name xx px)) pas.line X.env = pure false := by rfl) :
    PSs X (.If (.Compare l [.Gt] [.Constant (.int n) jn pn] pc) a [] pif :: .Assign [.Name xx px] (.Call (.Name fx pf) [.Call (.Attribute (.Name tx p5) "replace" apos) [.Constant (.str y) j1 p1, .Constant (.str e0) j2 p2] [] cpos] [] pcl) pas :: rest) (tStrike tl n ta i k c sp E u) := by
  intro pins s σ H D I h
  refine wpAny_execs_cons (wpAny_If (wpAny_isTrue_Compare1 (thn (hl pins s σ H _ I h) fun v s1 ⟨x, H1, I1, r1, m, e, q⟩ => ?_) hmk))
  subst e
  obtain ⟨t, rfl⟩ := r1
  refine wpAny_Constant_int (gt_int (wpAny_truthy_bool ?_))
  have I2 : Inv X pins σ H1 { s1 with toks := s1.toks + 1 } := I1.tok _
  by_cases hnm : n < m
  · rw [if_pos hnm] at q
    rw [decide_eq_true hnm]
    refine thn (ha pins _ σ H1 _ I2 q) fun fl s3 q3 => ?_
    cases fl with
    | next => obtain ⟨_, _, _, q3⟩ := q3; exact q3.elim
    | ret v => exact q3
    | brk => exact q3
    | cont => exact q3
  · rw [if_neg hnm] at q
    rw [decide_eq_false hnm]
    obtain ⟨z, hσ, hz, q⟩ := q
    refine wpAny_execs_nil ?_
    refine wpAny_execs_cons (wpAny_Assign_Name (thn (Q := EP X pins σ (fun v H2 => u D (σ.set k (some v)) H2)) ?_ fun v s3 ⟨y3, H3, I3, r3, q3⟩ => store_ok I3 hNN hi (.inl hxl) r3 (fun s4 I4 => hu pins s4 _ H3 D I4 q3) (.inr hxl)) hsw)
    refine wpAny_Call_Name_kw (ld_glob I2 hg hm ?_ hdb)
    refine PySem.W.callWith_K (h₀ := X.base) I2.ok.mod.kin hk ?_ he hpl
    rw [he]
    show wpAny _ _ (spliced ((false, eval (.Call (.Attribute (.Name tx p5) "replace" apos) [.Constant (.str y) j1 p1, .Constant (.str e0) j2 p2] [] cpos) X.env) :: backTo pcl (starEach [] X.env))) _ _ _
    refine Calls.spliced_cons (thn (ev_strike (Nat.succ_ne_zero _) I2 hy he0 hz hσ (Q := fun v H2 => sp ([v] ++ []) H2 (fun v H2 => u D (σ.set k (some v)) H2) E) q hN hv hd hcd hbase hfew hline hs) fun w5 s5 ⟨x5, H5, I5, r5, q5⟩ => ?_)
    refine Calls.spliced_nil ⟨I5.kIn, ?_⟩
    exact run_fn (us := [w5]) F hr hb .nil hx I5 (.cons r5 .nil) q5
end L2

/-! ### for i, c in enumerate(text) -/
namespace L2
open PySem PySem.Spec PyProof.Rows
/-- (0, c0), (1, c1), .. of a text: each a new tuple -/
def Ites (x : Str) : It :=
  ⟨fun i _ => i < x.cps.size, fun i H v H' => ∃ p c, v = .ref p ∧ H p = none ∧ x.cps[i]? = some c ∧ H' = upd H p (.tup [.int i, .str ⟨#[c]⟩]), fun i _ => i = x.cps.size⟩
theorem turn_enumS {P : Program} {w : World} {K : PySem.W.Frag} {elts : List Expr} {x1} {pos : Pos} (x : Str) (t : Tok) (e it : Addr) (hne : e ≠ it) (Ty : String)
    (Dr : ∀ A : Around, A.handled = none → Draws P w A it [it] x.cps.size (fun i v => ∃ c u, x.cps[i]? = some c ∧ v = .str ⟨#[c]⟩ u) (fun i h => h.IsStrIter it Ty x t i)) :
    Turn P w K (.Tuple elts x1 pos) (Ites x) [e, it] e (fun i h => (∃ old, IsEnum h e it (i : Nat) old) ∧ h.IsStrIter it Ty x t i) where
  mem := by simp
  obj := fun i h st b hb => by
    obtain ⟨⟨old, s1⟩, o, e1, c, d⟩ := st
    rcases List.mem_cons.mp hb with rfl | hb
    · exact ⟨_, s1, fun v z => by
        have z' : Data.fields _ = Data.cell v := z
        cases z'⟩
    · have q : b = it := by simpa using hb
      subst q
      exact ⟨o, e1, fun v z => by rw [d] at z; cases z⟩
  keep := fun i h h' ⟨⟨old, s1⟩, o, e1, r⟩ k => ⟨⟨old, k e (by simp) _ s1⟩, o, k it (by simp) o e1, r⟩
  item := by
    intro X hP hw hK hc i pins s σ H E I hf st hg
    subst hP hw hK
    obtain ⟨⟨old, he⟩, hit⟩ := st
    have hh : X.A.in1.handled = none := I.ok.hd hc
    refine wpAny_pyNext_enum_itemD (Dr X.A.in1 hh) he hit hg hne (by simpa using hne) fun v h' tk hv ho li tp sz kk => ?_
    obtain ⟨c, u, hcu, rfl⟩ := hv
    refine ⟨_, rfl, wpAny_letOwnedTupleGo_enum (s := { s with heap := h', toks := tk + 1 }) ho fun h2 he2 sb => ?_⟩
    have hlt : ∀ b ∈ [e, it], b < s.heap.objs.size := fun b hb => by
      rcases List.mem_cons.mp hb with rfl | hb
      · exact Heap.lt_size he
      · have q : b = it := by simpa using hb
        subst q
        obtain ⟨_, e1, _⟩ := hit
        exact Heap.lt_size e1
    have ptn : ∀ b ∈ [e, it], b ≠ s.heap.objs.size := fun b hb => Nat.ne_of_lt (hlt b hb)
    have tp2 : h2.get? s.heap.objs.size = some { cls := .type "tuple", data := .seq #[.int i tk, .str ⟨#[c]⟩ u] } := (sb.2 _ (Ne.symm (ptn e (by simp)))).trans tp
    have I2 : Inv X pins σ (upd H s.heap.objs.size (.tup [.int i, .str ⟨#[c]⟩])) { s with heap := h2, toks := tk + 1 } := by
      refine I.turns (fp := [e, it]) hf (fun b v hb q => ?_) (Nat.le_refl _) ⟨(by show 2 ≤ sizeLine; decide), [.int i tk, .str ⟨#[c]⟩ u], .cons ⟨_, rfl⟩ (.cons ⟨_, rfl⟩ .nil), ⟨_, tp2, rfl, _, rfl⟩⟩
      have b1 : b ≠ e := fun z => hb (by simp [z])
      have b2 : b ≠ it := fun z => hb (by simp [z])
      exact (sb.2 b b1).trans (kk b v b1 b2 q)
    refine ⟨.ref s.heap.objs.size, _, I2, rfl, ⟨_, c, rfl, I.hok.fresh (Nat.le_refl _), hcu, rfl⟩, ⟨⟨.str ⟨#[c]⟩ u, ?_⟩, ?_⟩, fun b hb => ?_⟩
    · have q : ((i + 1 : Nat) : Int) = (i : Int) + 1 := by omega
      rw [q]; exact he2
    · obtain ⟨o, e1, r⟩ := li
      exact ⟨o, (sb.2 it (Ne.symm hne)).trans e1, r⟩
    · rw [upd_ne (ptn b hb)]; exact (hf b hb).1
  done := by
    intro X hP hw hK hc i pins s σ H E I hf st hg
    subst hP hw hK
    obtain ⟨⟨old, he⟩, hit⟩ := st
    obtain ⟨f0, f1, f2, f3, f4, f5⟩ := hf it (by simp)
    have hg : i = x.cps.size := hg
    subst hg
    have hh : X.A.in1.handled = none := I.ok.hd hc
    exact wpAny_pyNext_enum_endD (Dr X.A.in1 hh) he hit fun h' eb => ⟨rfl, I.turned (t' := s.toks) (fun b o hb q => eb b o hb q) f0 f1 f3 f4 f5⟩
  self := fun _ _ _ _ _ st h => wpAny_pyIter_enum st.1.choose_spec h
def iEnumS (tl : TE) : TI := fun σ H R => tl σ H fun v H1 => ∃ x, v = .str x ∧ R (Ites x) H1
theorem pi_enumS {X : Cx} {elts : List Expr} {x1} {pt p cpos : Pos} {l : Expr} {tl : TE} (hl : PE X l tl) (hg : Gl X "enumerate") (hm : X.mg "enumerate" = none)
    (he : starEach [l] X.env = (false, eval l X.env) :: starEach [] X.env := by rfl) (hpl : (backTo cpos (starEach [] X.env)).any (·.1) = false := by rfl) :
    PI X (.Tuple elts x1 pt) (.Call (.Name "enumerate" p) [l] [] cpos) (iEnumS tl) := by
  intro pins s σ H R I h
  refine wpAny_Call_Name_kw (ld_blt I hg hm Bt.enumerate ?_ (by decide) (by decide))
  have h' : tCons tl tNil σ H (fun vs H1 => match vs with | [v] => ∃ x, v = .str x ∧ R (Ites x) H1 | _ => False) := h
  refine PyProof.Rows.callWith_type1 (thn ((pa_cons hl pa_nil he) cpos pins s σ H _ I h') fun us s1 ⟨vs, H1, I1, r1, q1⟩ => ?_) he hpl
  obtain ⟨v, rfl⟩ : ∃ x, vs = [x] := by
    match vs, q1 with
    | [x], _ => exact ⟨x, rfl⟩
  obtain ⟨x, rfl, q⟩ := q1
  obtain ⟨u, rfl, ru⟩ := vals1 r1
  obtain ⟨t, rfl⟩ := ru
  refine call_enumerate_str fun h' he' li sz kk => ?_
  refine wpAny_pyIter_enum he' ?_
  have fp : ∀ b ∈ [s1.heap.objs.size + 1, s1.heap.objs.size], FpOk X pins H1 b := fun b hb => by
    rcases List.mem_cons.mp hb with rfl | hb
    · exact I1.fpOk (by omega) (I1.hok.fresh (by omega))
    · have e : b = s1.heap.objs.size := by simpa using hb
      subst e
      exact I1.fpOk (Nat.le_refl _) (I1.hok.fresh (Nat.le_refl _))
  cases ha : x.cps.all (· < 128)
  · have li' : h'.IsStrIter s1.heap.objs.size "str_iterator" x t 0 := by simpa [strIterType, ha] using li
    exact ⟨s1.heap.objs.size + 1, [s1.heap.objs.size + 1, s1.heap.objs.size], _, _, H1, rfl, I1.kept (t' := s1.toks) kk, turn_enumS x t (s1.heap.objs.size + 1) s1.heap.objs.size (Nat.succ_ne_self _) "str_iterator" (fun A hA => Draws.strWide hA _ x t), ⟨⟨_, he'⟩, li'⟩, fp, q⟩
  · have li' : h'.IsStrIter s1.heap.objs.size "str_ascii_iterator" x t 0 := by simpa [strIterType, ha] using li
    exact ⟨s1.heap.objs.size + 1, [s1.heap.objs.size + 1, s1.heap.objs.size], _, _, H1, rfl, I1.kept (t' := s1.toks) kk, turn_enumS x t (s1.heap.objs.size + 1) s1.heap.objs.size (Nat.succ_ne_self _) "str_ascii_iterator" (fun A hA => Draws.strAscii hA _ x t), ⟨⟨_, he'⟩, li'⟩, fp, q⟩
theorem penumS {X : Cx} {elts : List Expr} {x1} {pt p cpos : Pos} {l : Expr} {tl : TE} (hl : PE X l tl) (hm : X.mg "enumerate" = none) (hg : X.env.scope.names.lookup ("enumerate" : Str) = some .globalImplicit := by kernel_rfl)
    (he : starEach [l] X.env = (false, eval l X.env) :: starEach [] X.env := by rfl) (hpl : (backTo cpos (starEach [] X.env)).any (·.1) = false := by rfl) :
    PI X (.Tuple elts x1 pt) (.Call (.Name "enumerate" p) [l] [] cpos) (iEnumS tl) := pi_enumS hl hg hm he hpl
theorem for_enumS {g : TG} {tb : TS} {D : Ends} {σ : St} {H : Hp} {x : Str} (Pv : Nat → St → Hp → Prop) (h0 : Pv 0 σ H)
    (hs : ∀ i c σ H, x.cps[i]? = some c → Pv i σ H → ∀ p, H p = none → g (.ref p) σ (upd H p (.tup [.int i, .str ⟨#[c]⟩])) fun σ2 H2 => tb { D with nx := Pv (i + 1), ct := Pv (i + 1), bk := D.nx } σ2 H2)
    (hd : ∀ σ H, Pv x.cps.size σ H → D.nx σ H) : ∃ W : Nat → Nat → St → Hp → Prop, (∃ m, W 0 m σ H) ∧ ∀ i m σ H, W i m σ H →
      ((Ites x).stop i H ∧ D.nx σ H) ∨ ((Ites x).go i H ∧ ∃ N : St → Hp → Prop, (∀ σ' H', N σ' H' → ∃ m', m' < m ∧ W (i + 1) m' σ' H') ∧ ∀ v H', (Ites x).yld i H v H' → g v σ H' fun σ2 H2 => tb { D with nx := N, ct := N, bk := D.nx } σ2 H2) := by
  refine ⟨fun i m σ H => m = x.cps.size - i ∧ i ≤ x.cps.size ∧ Pv i σ H, ⟨x.cps.size, by simp, Nat.zero_le _, h0⟩, ?_⟩
  rintro i m σ H ⟨rfl, hi, p⟩
  by_cases hlt : i < x.cps.size
  · refine .inr ⟨hlt, Pv (i + 1), fun σ' H' p' => ⟨x.cps.size - (i + 1), by omega, rfl, hlt, p'⟩, fun v H' y => ?_⟩
    obtain ⟨r, c, rfl, hn, hc, rfl⟩ := y
    exact hs i c σ _ hc p r hn
  · have e : i = x.cps.size := by omega
    subst e
    exact .inl ⟨rfl, hd σ H p⟩
end L2

namespace Mc
open PySem PySem.Spec PyProof.Rows

/-! ### sentences -/
inductive Op where
  | and | or | thn | same
  deriving DecidableEq
def Op.str : Op → Str
  | .and => "and"
  | .or => "or"
  | .thn => "then"
  | .same => "same"
inductive Tr where
  | nm (x : Str) | yes | no | not (t : Tr) | bin (o : Op) (a b : Tr)
def Tr.tag : Tr → Str
  | .nm _ => "name"
  | .yes => "yes"
  | .no => "no"
  | .not _ => "not"
  | .bin o _ _ => o.str
def Tr.kids : Tr → List Tr
  | .not t => [t]
  | .bin _ a b => [a, b]
  | _ => []
def Tr.depth : Tr → Nat
  | .not t => t.depth + 1
  | .bin _ a b => max a.depth b.depth + 1
  | _ => 1
def Tr.size : Tr → Nat
  | .not t => t.size + 1
  | .bin _ a b => a.size + b.size + 1
  | _ => 1
def Tr.names : Tr → List Str
  | .nm x => [x]
  | .not t => t.names
  | .bin _ a b => a.names ++ b.names
  | _ => []
def Tr.isNm : Tr → Bool
  | .nm _ => true
  | _ => false
theorem Tr.depth_pos (t : Tr) : 1 ≤ t.depth := by cases t <;> simp [Tr.depth]
theorem tag_name (t : Tr) : (t.tag = ("name" : Str)) ↔ t.isNm = true := by
  cases t with
  | nm x => simp [Tr.tag, Tr.isNm]
  | yes => simp only [Tr.tag, Tr.isNm]; decide +kernel
  | no => simp only [Tr.tag, Tr.isNm]; decide +kernel
  | not t => simp only [Tr.tag, Tr.isNm]; decide +kernel
  | bin o a b => cases o <;> (simp only [Tr.tag, Tr.isNm, Op.str]; decide +kernel)

/-! ### rows of sentences -/
def fdep (ts : List Tr) : Nat := ts.foldr (fun t d => max t.depth d) 0
def fsize (ts : List Tr) : Nat := (ts.map Tr.size).sum
theorem fdep_app (a b : List Tr) : fdep (a ++ b) = max (fdep a) (fdep b) := by
  induction a with
  | nil => simp [fdep]
  | cons t r ih => simp only [List.cons_append, fdep, List.foldr_cons] at *; rw [ih]; omega
theorem fdep_kids (t : Tr) : t.depth = fdep t.kids + 1 := by
  cases t <;> simp [Tr.kids, fdep, Tr.depth]
theorem fdep_below : ∀ ts : List Tr, ts ≠ [] → fdep ts = fdep (ts.flatMap Tr.kids) + 1
  | [t], _ => by
    have := fdep_kids t
    simp only [List.flatMap_cons, List.flatMap_nil, List.append_nil]
    show max t.depth 0 = _
    omega
  | t :: u :: r, _ => by
    have h1 := fdep_below (u :: r) (by simp)
    have h2 := fdep_kids t
    rw [List.flatMap_cons, fdep_app]
    show max t.depth (fdep (u :: r)) = _
    omega
theorem fsize_app (a b : List Tr) : fsize (a ++ b) = fsize a + fsize b := by simp [fsize]
theorem fsize_kids (t : Tr) : t.size = fsize t.kids + 1 := by
  cases t <;> simp [Tr.kids, fsize, Tr.size]
theorem fsize_below (ts : List Tr) : fsize ts = fsize (ts.flatMap Tr.kids) + ts.length := by
  induction ts with
  | nil => rfl
  | cons t r ih =>
    rw [List.flatMap_cons, fsize_app]
    show t.size + fsize r = _
    have := fsize_kids t
    simp only [List.length_cons]
    omega
theorem length_le_fsize (ts : List Tr) : ts.length ≤ fsize ts := by rw [fsize_below]; omega
/-! ### sorted rows of texts -/
end Mc
namespace Mc
open PySem

abbrev Str.l (x : Str) : List Nat := x.cps.toList
theorem str_ext {a b : Str} (h : a.cps.toList = b.cps.toList) : a = b := by
  have e2 : a.cps = b.cps := Array.toList_inj.mp h
  cases a; cases b; exact congrArg Str.mk e2
theorem app_l (a b : Str) : (a ++ b).cps.toList = a.cps.toList ++ b.cps.toList := by
  show (a.cps ++ b.cps).toList = _
  simp
theorem len_l (a : Str) : a.length = a.cps.toList.length := by
  show a.cps.size = _
  simp
theorem join_l : ∀ ys : List Str, (Txt.join (⟨#[]⟩ : Str) ys).cps.toList = ys.flatMap (·.cps.toList) := by
  have gen : ∀ ys : List Str, (Str.join (⟨#[]⟩ : Str) ys).cps.toList = ys.flatMap (·.cps.toList) := by
    intro ys
    induction ys with
    | nil => rfl
    | cons x r ih =>
      cases r with
      | nil =>
        show x.cps.toList = _
        simp
      | cons y q =>
        show (x ++ (⟨#[]⟩ : Str) ++ Str.join ⟨#[]⟩ (y :: q)).cps.toList = _
        rw [app_l, app_l, ih, List.flatMap_cons]
        simp
  intro ys
  show (Builtin.Str.glued _ ys).cps.toList = _
  rw [StrLaws.glued_eq_join]
  exact gen ys

/-! ### names -/
abbrev letters : Str := "abcdefghijklmnopqrstuvwxyz"
theorem letters_at (i : Nat) (h : i < 26) : letters.cps.toList[i]? = some (97 + i) := by
  have : ∀ i : _root_.Fin 26, letters.cps.toList[i.val]? = some (97 + i.val) := by decide +kernel
  exact this ⟨i, h⟩
theorem letters_len : letters.length = 26 := by decide +kernel
def stemC (rest : Int) (k : Nat) : Nat := 97 + ((rest / 3 + 7 * k * k + k) % 26).toNat
def signC (rest : Int) (k : Nat) : Nat := 97 + ((rest / 5 + 5 * k) % 26).toNat
def stemL (rest : Int) : List Nat := (List.range 8).map (stemC rest)
theorem stemL_len (rest : Int) : (stemL rest).length = 8 := by simp [stemL]
theorem stemC_ok (rest : Int) (k : Nat) : 97 ≤ stemC rest k ∧ stemC rest k ≤ 122 := by unfold stemC; omega
theorem signC_ok (rest : Int) (k : Nat) : 97 ≤ signC rest k ∧ signC rest k ≤ 122 := by unfold signC; omega
/-- a name of point 3 -/
structure IsName (y : Str) : Prop where
  pos : 1 ≤ y.cps.toList.length
  le : y.cps.toList.length ≤ 8
  ok : ∀ c ∈ y.cps.toList, 97 ≤ c ∧ c ≤ 122
/-- the k-th name, by the first number's rest by three -/
def nameL (way : Nat) (rest : Int) (k : Nat) : List Nat :=
  match way with
  | 0 => (stemL rest).take (rest / 8 % (1 + rest % 8)).toNat ++ [signC rest k] ++ ((stemL rest).take (1 + rest % 8).toNat).drop ((rest / 8 % (1 + rest % 8)).toNat + 1)
  | 1 => (stemL rest).take (1 + (3 * k + rest) % 8).toNat
  | _ => signC rest k :: (stemL rest).take ((3 * k + rest) % 8).toNat
theorem stem_ok {rest : Int} {c : Nat} (h : c ∈ stemL rest) : 97 ≤ c ∧ c ≤ 122 := by
  obtain ⟨k, _, rfl⟩ := List.mem_map.mp h
  exact stemC_ok rest k
theorem at_lt (rest : Int) : 0 ≤ rest / 8 % (1 + rest % 8) ∧ rest / 8 % (1 + rest % 8) < 1 + rest % 8 ∧ 1 ≤ 1 + rest % 8 ∧ 1 + rest % 8 ≤ 8 := by
  have h : 0 < 1 + rest % 8 := by omega
  have h1 := Int.emod_nonneg (rest / 8) (by omega : (1 + rest % 8) ≠ 0)
  have h2 := Int.emod_lt_of_pos (rest / 8) h
  omega
theorem nameL_len (way : Nat) (rest : Int) (k : Nat) : 1 ≤ (nameL way rest k).length ∧ (nameL way rest k).length ≤ 8 := by
  obtain ⟨h1, h2, h3, h4⟩ := at_lt rest
  unfold nameL
  split
  · simp only [List.length_append, List.length_take, List.length_drop, stemL_len, List.length_singleton]
    omega
  · simp only [List.length_take, stemL_len]
    omega
  · simp only [List.length_cons, List.length_take, stemL_len]
    omega
theorem nameL_ok (way : Nat) (rest : Int) (k : Nat) : ∀ c ∈ nameL way rest k, 97 ≤ c ∧ c ≤ 122 := by
  intro c h
  unfold nameL at h
  split at h
  · rcases List.mem_append.mp h with h | h
    · rcases List.mem_append.mp h with h | h
      · exact stem_ok (List.mem_of_mem_take h)
      · rw [List.mem_singleton.mp h]; exact signC_ok _ _
    · exact stem_ok (List.mem_of_mem_take (List.mem_of_mem_drop h))
  · exact stem_ok (List.mem_of_mem_take h)
  · rcases List.mem_cons.mp h with h | h
    · rw [h]; exact signC_ok _ _
    · exact stem_ok (List.mem_of_mem_take h)
def nameS (way : Nat) (rest : Int) (k : Nat) : Str := ⟨(nameL way rest k).toArray⟩
theorem nameS_l (way : Nat) (rest : Int) (k : Nat) : (nameS way rest k).cps.toList = nameL way rest k := by simp [nameS]
theorem nameS_name (way : Nat) (rest : Int) (k : Nat) : IsName (nameS way rest k) := by
  have h := nameL_len way rest k
  refine ⟨?_, ?_, ?_⟩ <;> rw [nameS_l]
  · exact h.1
  · exact h.2
  · exact nameL_ok way rest k
def namesS (way : Nat) (rest : Int) (n : Nat) : List Str := (List.range n).map (nameS way rest)
theorem namesS_len (way : Nat) (rest : Int) (n : Nat) : (namesS way rest n).length = n := by simp [namesS]
theorem namesS_name (way : Nat) (rest : Int) (n : Nat) : ∀ y ∈ namesS way rest n, IsName y := by
  intro y h
  obtain ⟨k, _, rfl⟩ := List.mem_map.mp h
  exact nameS_name way rest k
end Mc
/-! ### sentences in the heap -/
namespace Mc
open PySem PySem.Spec PyProof.Rows L2

inductive TrAt (H : Hp) : V → Tr → Prop where
  | nm {a : Addr} {x : Str} : H a = some (.tup [.str "name", .str x]) → TrAt H (.ref a) (.nm x)
  | yes {a : Addr} : H a = some (.tup [.str "yes"]) → TrAt H (.ref a) .yes
  | no {a : Addr} : H a = some (.tup [.str "no"]) → TrAt H (.ref a) .no
  | not {a : Addr} {v : V} {t : Tr} : H a = some (.tup [.str "not", v]) → TrAt H v t → TrAt H (.ref a) (.not t)
  | bin {a : Addr} {o : Op} {v u : V} {t t' : Tr} : H a = some (.tup [.str o.str, v, u]) → TrAt H v t → TrAt H u t' → TrAt H (.ref a) (.bin o t t')
/-- the tuples stay -/
def Tups (H H' : Hp) : Prop := ∀ b xs, H b = some (.tup xs) → H' b = some (.tup xs)
theorem Tups.refl (H : Hp) : Tups H H := fun _ _ h => h
theorem Tups.trans {H H1 H2 : Hp} (a : Tups H H1) (b : Tups H1 H2) : Tups H H2 := fun c o h => b c o (a c o h)
theorem _root_.L2.Same.tups {H H' : Hp} (s : Same H H') : Tups H H' := fun b xs h => s b _ h
theorem TrAt.mono {H H' : Hp} (k : Tups H H') {v : V} {t : Tr} (h : TrAt H v t) : TrAt H' v t := by
  induction h with
  | nm e => exact .nm (k _ _ e)
  | yes e => exact .yes (k _ _ e)
  | no e => exact .no (k _ _ e)
  | not e _ ih => exact .not (k _ _ e) ih
  | bin e _ _ ih1 ih2 => exact .bin (k _ _ e) ih1 ih2
theorem TrAt.open {H : Hp} {v : V} {t : Tr} (h : TrAt H v t) : ∃ a rest, v = .ref a ∧ H a = some (.tup (.str t.tag :: rest)) ∧ (t.isNm = true → ∃ x, t = .nm x ∧ rest = [.str x]) ∧ (t.isNm = false → Paired (TrAt H) rest t.kids) := by
  cases h with
  | nm e => exact ⟨_, _, rfl, e, fun _ => ⟨_, rfl, rfl⟩, fun z => by cases z⟩
  | yes e => exact ⟨_, _, rfl, e, (fun z => by cases z), fun _ => .nil⟩
  | no e => exact ⟨_, _, rfl, e, (fun z => by cases z), fun _ => .nil⟩
  | not e h1 => exact ⟨_, _, rfl, e, (fun z => by cases z), fun _ => .cons h1 .nil⟩
  | bin e h1 h2 => exact ⟨_, _, rfl, e, (fun z => by cases z), fun _ => .cons h1 (.cons h2 .nil)⟩
theorem paired_mono {H H' : Hp} (k : Tups H H') {us : List V} {ts : List Tr} (h : Paired (TrAt H) us ts) : Paired (TrAt H') us ts := Paired.mapP h fun _ _ q => q.mono k
theorem paired_app {α β : Type} {F : α → β → Prop} : ∀ {a c : List α} {b d : List β}, Paired F a b → Paired F c d → Paired F (a ++ c) (b ++ d)
  | _, _, _, _, .nil, s => s
  | _, _, _, _, .cons r t, s => .cons r (paired_app t s)
theorem paired_get {α β : Type} {F : α → β → Prop} : ∀ {a : List α} {b : List β}, Paired F a b → ∀ (i : Nat) x, a[i]? = some x → ∃ y, b[i]? = some y ∧ F x y
  | _, _, .nil, i, x, h => by simp at h
  | _, _, .cons r t, 0, x, h => by
    rw [List.getElem?_cons_zero] at h
    cases h
    exact ⟨_, rfl, r⟩
  | _, _, .cons r t, i + 1, x, h => by
    rw [List.getElem?_cons_succ] at h
    exact paired_get t i x h
theorem cut_tail (x : V) (rest : List V) : cutV (x :: rest) (some 1) none = rest := by
  unfold cutV HT.sIx
  simp
theorem cut_tail_not (x : V) (rest : List V) : ¬ (HT.sIx (x :: rest).length 0 (some 1) = 0 ∧ HT.sIx (x :: rest).length (x :: rest).length none = (x :: rest).length) := by
  unfold HT.sIx
  simp
theorem same_upd {H : Hp} {l : Addr} {o : HO} (h : H l = none) : Same H (upd H l o) := fun b u e => by
  rw [upd_ne (ne_of_none e h)]
  exact e
theorem tups_upd {H : Hp} {b : Addr} {xs : List V} {o : HO} (h : H b = some (.lst xs)) : Tups H (upd H b o) := fun c ys e => by
  rw [upd_ne (fun z => by subst z; rw [h] at e; cases e)]
  exact e
theorem same_free {H H' : Hp} (s : Same H H') {l : Addr} (h : H' l = none) : H l = none := s.free h
end Mc
namespace Mc
open PySem PySem.Spec PyProof.Rows L2
theorem lk {n : Nat} (h : n ≤ 1000) : n ≤ sizeLine := Nat.le_of_lt (small1000 h)
end Mc

/-! ### bits, worlds, tables -/
namespace Mc
open PySem
/-! the sides of a sentence -/
end Mc

/-! ### columns, tables by bits, the least of some ranks -/
namespace Mc
open PySem
end Mc

/-! ### ranks that are turned -/
namespace Mc
open PySem
end Mc

/-! ### minds that are poured together -/
namespace Mc
open PySem
/-- the least of a row -/
def leastOf (l : List Int) (m : Int) : Prop := m ∈ l ∧ ∀ a ∈ l, m ≤ a
theorem leastOf.eq {l : List Int} {m k : Int} (h1 : leastOf l m) (h2 : leastOf l k) : m = k := by
  have := h1.2 k h2.1
  have := h2.2 m h1.1
  omega
end Mc

/-! ### a sentence of which some names are known -/
namespace Mc
open PySem
end Mc

/-! ### two sentences beside one another -/
namespace Mc
open PySem
end Mc
namespace L2
open PySem PyProof.Rows Mc
variable {X : Cx}
end L2

set_option Elab.async false
set_option linter.all false
set_option maxRecDepth 100000
set_option maxHeartbeats 8000000
namespace K09
open PySem L2
def top (i : Nat) : Stmt := PySem.Challenge.pw_mindchange_k09_each_bracket_is_needed.main.body.getD i (.Pass ⟨0, 0, 0, 0⟩)
abbrev s_is_letter : Stmt := top 14
abbrev s_is_name : Stmt := top 15
abbrev s_parts_of : Stmt := top 16
abbrev s_layer_below : Stmt := top 17
abbrev s_depth : Stmt := top 18
abbrev s_words_of : Stmt := top 24
abbrev s_leaf : Stmt := top 25
abbrev s_takes_part : Stmt := top 26
abbrev s_Unfinished___init__ : Stmt := inClass (top 27) 0
abbrev s_Unfinished_begin_part : Stmt := inClass (top 27) 1
abbrev s_Unfinished_follow_part : Stmt := inClass (top 27) 2
abbrev s_Unfinished_fold : Stmt := inClass (top 27) 3
abbrev s_Unfinished_fold_to_bracket : Stmt := inClass (top 27) 4
abbrev s_Unfinished_close_bracket : Stmt := inClass (top 27) 5
abbrev s_Unfinished_whole : Stmt := inClass (top 27) 6
abbrev s_tree_of_words : Stmt := top 28
abbrev s_read : Stmt := top 29
abbrev s_in_brackets : Stmt := top 32
abbrev s_shown_ahead : Stmt := top 33
abbrev s_shown_behind : Stmt := top 34
abbrev s_shown : Stmt := top 35
abbrev s__law_cell_at : Stmt := top 37
abbrev s__law_names_by : Stmt := top 38
abbrev s__law_leaf : Stmt := top 39
abbrev s__law_grown : Stmt := top 40
abbrev s__law_alike : Stmt := top 41
abbrev s__law_class : Stmt := top 42
abbrev s__law_told : Stmt := top 43
abbrev s__law_folded : Stmt := top 44
abbrev s__law_pairs : Stmt := top 45
abbrev s_law : Stmt := top 46
set_option genSizeOf false in
set_option genInjectivity false in
/-- the addresses and the records -/
structure Adr where
  a_is_letter : Addr
  fd_is_letter : FuncData
  a_is_name : Addr
  fd_is_name : FuncData
  a_parts_of : Addr
  fd_parts_of : FuncData
  a_layer_below : Addr
  fd_layer_below : FuncData
  a_depth : Addr
  fd_depth : FuncData
  a_words_of : Addr
  fd_words_of : FuncData
  a_leaf : Addr
  fd_leaf : FuncData
  a_takes_part : Addr
  fd_takes_part : FuncData
  a_Unfinished___init__ : Addr
  fd_Unfinished___init__ : FuncData
  a_Unfinished_begin_part : Addr
  fd_Unfinished_begin_part : FuncData
  a_Unfinished_follow_part : Addr
  fd_Unfinished_follow_part : FuncData
  a_Unfinished_fold : Addr
  fd_Unfinished_fold : FuncData
  a_Unfinished_fold_to_bracket : Addr
  fd_Unfinished_fold_to_bracket : FuncData
  a_Unfinished_close_bracket : Addr
  fd_Unfinished_close_bracket : FuncData
  a_Unfinished_whole : Addr
  fd_Unfinished_whole : FuncData
  a_tree_of_words : Addr
  fd_tree_of_words : FuncData
  a_read : Addr
  fd_read : FuncData
  a_in_brackets : Addr
  fd_in_brackets : FuncData
  a_shown_ahead : Addr
  fd_shown_ahead : FuncData
  a_shown_behind : Addr
  fd_shown_behind : FuncData
  a_shown : Addr
  fd_shown : FuncData
  a__law_cell_at : Addr
  fd__law_cell_at : FuncData
  a__law_names_by : Addr
  fd__law_names_by : FuncData
  a__law_leaf : Addr
  fd__law_leaf : FuncData
  a__law_grown : Addr
  fd__law_grown : FuncData
  a__law_alike : Addr
  fd__law_alike : FuncData
  a__law_class : Addr
  fd__law_class : FuncData
  a__law_told : Addr
  fd__law_told : FuncData
  a__law_folded : Addr
  fd__law_folded : FuncData
  a__law_pairs : Addr
  fd__law_pairs : FuncData
  a_law : Addr
  fd_law : FuncData
  c_MindError : Addr
  c_NoSentence : Addr
  c_TooDeep : Addr
  c_NoName : Addr
  c_Always : Addr
  c_Never : Addr
  c_NoMinds : Addr
  c_Unlike : Addr
  c_NoBack : Addr
  c_NoAgain : Addr
  c_Refused : Addr
  c_Unfinished : Addr
  k_LONGEST_NAME : Tok
  k_LONGEST_TEXT : Tok
  k_GREATEST_DEPTH : Tok
  d_KINDS : Addr
  d_BINDS : Addr
  d_SIGNS : Addr
/-- what the top has written -/
structure Txt (P : Program) (w : World) (K : PySem.W.Frag) (mg : Str → Option Value) (t : Adr) : Prop where
  F_is_letter : Fun K "is_letter" "is_letter" s_is_letter t.a_is_letter t.fd_is_letter
  b_is_letter : Binds K t.fd_is_letter ["sign"] []
  m_is_letter : mg "is_letter" = some (.ref t.a_is_letter)
  k_is_letter : PySem.W.keepIn K (.ref t.a_is_letter) = true
  F_is_name : Fun K "is_name" "is_name" s_is_name t.a_is_name t.fd_is_name
  b_is_name : Binds K t.fd_is_name ["text"] []
  m_is_name : mg "is_name" = some (.ref t.a_is_name)
  k_is_name : PySem.W.keepIn K (.ref t.a_is_name) = true
  F_parts_of : Fun K "parts_of" "parts_of" s_parts_of t.a_parts_of t.fd_parts_of
  b_parts_of : Binds K t.fd_parts_of ["tree"] []
  m_parts_of : mg "parts_of" = some (.ref t.a_parts_of)
  k_parts_of : PySem.W.keepIn K (.ref t.a_parts_of) = true
  F_layer_below : Fun K "layer_below" "layer_below" s_layer_below t.a_layer_below t.fd_layer_below
  b_layer_below : Binds K t.fd_layer_below ["layer"] []
  m_layer_below : mg "layer_below" = some (.ref t.a_layer_below)
  k_layer_below : PySem.W.keepIn K (.ref t.a_layer_below) = true
  F_depth : Fun K "depth" "depth" s_depth t.a_depth t.fd_depth
  b_depth : Binds K t.fd_depth ["tree"] []
  m_depth : mg "depth" = some (.ref t.a_depth)
  k_depth : PySem.W.keepIn K (.ref t.a_depth) = true
  F_words_of : Fun K "words_of" "words_of" s_words_of t.a_words_of t.fd_words_of
  b_words_of : Binds K t.fd_words_of ["text"] []
  m_words_of : mg "words_of" = some (.ref t.a_words_of)
  k_words_of : PySem.W.keepIn K (.ref t.a_words_of) = true
  F_leaf : Fun K "leaf" "leaf" s_leaf t.a_leaf t.fd_leaf
  b_leaf : Binds K t.fd_leaf ["word"] []
  m_leaf : mg "leaf" = some (.ref t.a_leaf)
  k_leaf : PySem.W.keepIn K (.ref t.a_leaf) = true
  F_takes_part : Fun K "takes_part" "takes_part" s_takes_part t.a_takes_part t.fd_takes_part
  b_takes_part : Binds K t.fd_takes_part ["earlier", "later"] []
  m_takes_part : mg "takes_part" = some (.ref t.a_takes_part)
  k_takes_part : PySem.W.keepIn K (.ref t.a_takes_part) = true
  F_Unfinished___init__ : Fun K "__init__" "Unfinished.__init__" s_Unfinished___init__ t.a_Unfinished___init__ t.fd_Unfinished___init__
  b_Unfinished___init__ : Binds K t.fd_Unfinished___init__ ["self"] []
  me_Unfinished___init__ : Meth K t.c_Unfinished "__init__" t.a_Unfinished___init__
  F_Unfinished_begin_part : Fun K "begin_part" "Unfinished.begin_part" s_Unfinished_begin_part t.a_Unfinished_begin_part t.fd_Unfinished_begin_part
  b_Unfinished_begin_part : Binds K t.fd_Unfinished_begin_part ["self", "word"] []
  me_Unfinished_begin_part : Meth K t.c_Unfinished "begin_part" t.a_Unfinished_begin_part
  F_Unfinished_follow_part : Fun K "follow_part" "Unfinished.follow_part" s_Unfinished_follow_part t.a_Unfinished_follow_part t.fd_Unfinished_follow_part
  b_Unfinished_follow_part : Binds K t.fd_Unfinished_follow_part ["self", "word"] []
  me_Unfinished_follow_part : Meth K t.c_Unfinished "follow_part" t.a_Unfinished_follow_part
  F_Unfinished_fold : Fun K "fold" "Unfinished.fold" s_Unfinished_fold t.a_Unfinished_fold t.fd_Unfinished_fold
  b_Unfinished_fold : Binds K t.fd_Unfinished_fold ["self"] []
  me_Unfinished_fold : Meth K t.c_Unfinished "fold" t.a_Unfinished_fold
  F_Unfinished_fold_to_bracket : Fun K "fold_to_bracket" "Unfinished.fold_to_bracket" s_Unfinished_fold_to_bracket t.a_Unfinished_fold_to_bracket t.fd_Unfinished_fold_to_bracket
  b_Unfinished_fold_to_bracket : Binds K t.fd_Unfinished_fold_to_bracket ["self"] []
  me_Unfinished_fold_to_bracket : Meth K t.c_Unfinished "fold_to_bracket" t.a_Unfinished_fold_to_bracket
  F_Unfinished_close_bracket : Fun K "close_bracket" "Unfinished.close_bracket" s_Unfinished_close_bracket t.a_Unfinished_close_bracket t.fd_Unfinished_close_bracket
  b_Unfinished_close_bracket : Binds K t.fd_Unfinished_close_bracket ["self"] []
  me_Unfinished_close_bracket : Meth K t.c_Unfinished "close_bracket" t.a_Unfinished_close_bracket
  F_Unfinished_whole : Fun K "whole" "Unfinished.whole" s_Unfinished_whole t.a_Unfinished_whole t.fd_Unfinished_whole
  b_Unfinished_whole : Binds K t.fd_Unfinished_whole ["self"] []
  me_Unfinished_whole : Meth K t.c_Unfinished "whole" t.a_Unfinished_whole
  F_tree_of_words : Fun K "tree_of_words" "tree_of_words" s_tree_of_words t.a_tree_of_words t.fd_tree_of_words
  b_tree_of_words : Binds K t.fd_tree_of_words ["words"] []
  m_tree_of_words : mg "tree_of_words" = some (.ref t.a_tree_of_words)
  k_tree_of_words : PySem.W.keepIn K (.ref t.a_tree_of_words) = true
  F_read : Fun K "read" "read" s_read t.a_read t.fd_read
  b_read : Binds K t.fd_read ["text"] []
  m_read : mg "read" = some (.ref t.a_read)
  k_read : PySem.W.keepIn K (.ref t.a_read) = true
  F_in_brackets : Fun K "in_brackets" "in_brackets" s_in_brackets t.a_in_brackets t.fd_in_brackets
  b_in_brackets : Binds K t.fd_in_brackets ["text", "needed"] []
  m_in_brackets : mg "in_brackets" = some (.ref t.a_in_brackets)
  k_in_brackets : PySem.W.keepIn K (.ref t.a_in_brackets) = true
  F_shown_ahead : Fun K "shown_ahead" "shown_ahead" s_shown_ahead t.a_shown_ahead t.fd_shown_ahead
  b_shown_ahead : Binds K t.fd_shown_ahead ["tree", "sign"] []
  m_shown_ahead : mg "shown_ahead" = some (.ref t.a_shown_ahead)
  k_shown_ahead : PySem.W.keepIn K (.ref t.a_shown_ahead) = true
  F_shown_behind : Fun K "shown_behind" "shown_behind" s_shown_behind t.a_shown_behind t.fd_shown_behind
  b_shown_behind : Binds K t.fd_shown_behind ["sign", "tree"] []
  m_shown_behind : mg "shown_behind" = some (.ref t.a_shown_behind)
  k_shown_behind : PySem.W.keepIn K (.ref t.a_shown_behind) = true
  F_shown : Fun K "shown" "shown" s_shown t.a_shown t.fd_shown
  b_shown : Binds K t.fd_shown ["tree"] []
  m_shown : mg "shown" = some (.ref t.a_shown)
  k_shown : PySem.W.keepIn K (.ref t.a_shown) = true
  F__law_cell_at : Fun K "_law_cell_at" "_law_cell_at" s__law_cell_at t.a__law_cell_at t.fd__law_cell_at
  b__law_cell_at : Binds K t.fd__law_cell_at ["_law_script", "_law_k"] []
  m__law_cell_at : mg "_law_cell_at" = some (.ref t.a__law_cell_at)
  k__law_cell_at : PySem.W.keepIn K (.ref t.a__law_cell_at) = true
  F__law_names_by : Fun K "_law_names_by" "_law_names_by" s__law_names_by t.a__law_names_by t.fd__law_names_by
  b__law_names_by : Binds K t.fd__law_names_by ["_law_cell", "_law_many"] []
  m__law_names_by : mg "_law_names_by" = some (.ref t.a__law_names_by)
  k__law_names_by : PySem.W.keepIn K (.ref t.a__law_names_by) = true
  F__law_leaf : Fun K "_law_leaf" "_law_leaf" s__law_leaf t.a__law_leaf t.fd__law_leaf
  b__law_leaf : Binds K t.fd__law_leaf ["_law_names", "_law_cell"] []
  m__law_leaf : mg "_law_leaf" = some (.ref t.a__law_leaf)
  k__law_leaf : PySem.W.keepIn K (.ref t.a__law_leaf) = true
  F__law_grown : Fun K "_law_grown" "_law_grown" s__law_grown t.a__law_grown t.fd__law_grown
  b__law_grown : Binds K t.fd__law_grown ["_law_names", "_law_cells", "_law_most"] []
  m__law_grown : mg "_law_grown" = some (.ref t.a__law_grown)
  k__law_grown : PySem.W.keepIn K (.ref t.a__law_grown) = true
  F__law_alike : Fun K "_law_alike" "_law_alike" s__law_alike t.a__law_alike t.fd__law_alike
  b__law_alike : Binds K t.fd__law_alike ["_law_found", "_law_due"] []
  m__law_alike : mg "_law_alike" = some (.ref t.a__law_alike)
  k__law_alike : PySem.W.keepIn K (.ref t.a__law_alike) = true
  F__law_class : Fun K "_law_class" "_law_class" s__law_class t.a__law_class t.fd__law_class
  b__law_class : Binds K t.fd__law_class ["_law_caught"] []
  m__law_class : mg "_law_class" = some (.ref t.a__law_class)
  k__law_class : PySem.W.keepIn K (.ref t.a__law_class) = true
  F__law_told : Fun K "_law_told" "_law_told" s__law_told t.a__law_told t.fd__law_told
  b__law_told : Binds K t.fd__law_told ["_law_text"] []
  m__law_told : mg "_law_told" = some (.ref t.a__law_told)
  k__law_told : PySem.W.keepIn K (.ref t.a__law_told) = true
  F__law_folded : Fun K "_law_folded" "_law_folded" s__law_folded t.a__law_folded t.fd__law_folded
  b__law_folded : Binds K t.fd__law_folded ["_law_script", "_law_start", "_law_many"] []
  m__law_folded : mg "_law_folded" = some (.ref t.a__law_folded)
  k__law_folded : PySem.W.keepIn K (.ref t.a__law_folded) = true
  F__law_pairs : Fun K "_law_pairs" "_law_pairs" s__law_pairs t.a__law_pairs t.fd__law_pairs
  b__law_pairs : Binds K t.fd__law_pairs ["_law_text"] []
  m__law_pairs : mg "_law_pairs" = some (.ref t.a__law_pairs)
  k__law_pairs : PySem.W.keepIn K (.ref t.a__law_pairs) = true
  F_law : Fun K "law" "law" s_law t.a_law t.fd_law
  b_law : Binds K t.fd_law ["_law_script"] []
  m_law : mg "law" = some (.ref t.a_law)
  k_law : PySem.W.keepIn K (.ref t.a_law) = true
  m_MindError : mg "MindError" = some (.ref t.c_MindError)
  h_MindError : catches K t.c_MindError = true
  m_NoSentence : mg "NoSentence" = some (.ref t.c_NoSentence)
  x_NoSentence : ExC K t.c_NoSentence
  u_NoSentence : under K t.c_NoSentence t.c_MindError = true
  e_NoSentence : PySem.W.excIn K t.c_NoSentence bmV "ValueError.__new__" = true
  o_NoSentence_NoSentence : PySem.W.kitOne K (.ref t.c_NoSentence) (.ref t.c_NoSentence) = some true
  o_NoSentence_TooDeep : PySem.W.kitOne K (.ref t.c_NoSentence) (.ref t.c_TooDeep) = some false
  o_NoSentence_NoName : PySem.W.kitOne K (.ref t.c_NoSentence) (.ref t.c_NoName) = some false
  o_NoSentence_Always : PySem.W.kitOne K (.ref t.c_NoSentence) (.ref t.c_Always) = some false
  o_NoSentence_Never : PySem.W.kitOne K (.ref t.c_NoSentence) (.ref t.c_Never) = some false
  o_NoSentence_NoMinds : PySem.W.kitOne K (.ref t.c_NoSentence) (.ref t.c_NoMinds) = some false
  o_NoSentence_Unlike : PySem.W.kitOne K (.ref t.c_NoSentence) (.ref t.c_Unlike) = some false
  o_NoSentence_NoBack : PySem.W.kitOne K (.ref t.c_NoSentence) (.ref t.c_NoBack) = some false
  o_NoSentence_NoAgain : PySem.W.kitOne K (.ref t.c_NoSentence) (.ref t.c_NoAgain) = some false
  o_NoSentence_Refused : PySem.W.kitOne K (.ref t.c_NoSentence) (.ref t.c_Refused) = some false
  o_NoSentence_ValueError : PySem.W.kitOne K (.ref t.c_NoSentence) (.type "ValueError") = some true
  m_TooDeep : mg "TooDeep" = some (.ref t.c_TooDeep)
  x_TooDeep : ExC K t.c_TooDeep
  u_TooDeep : under K t.c_TooDeep t.c_MindError = true
  e_TooDeep : PySem.W.excIn K t.c_TooDeep bmV "ValueError.__new__" = true
  o_TooDeep_NoSentence : PySem.W.kitOne K (.ref t.c_TooDeep) (.ref t.c_NoSentence) = some false
  o_TooDeep_TooDeep : PySem.W.kitOne K (.ref t.c_TooDeep) (.ref t.c_TooDeep) = some true
  o_TooDeep_NoName : PySem.W.kitOne K (.ref t.c_TooDeep) (.ref t.c_NoName) = some false
  o_TooDeep_Always : PySem.W.kitOne K (.ref t.c_TooDeep) (.ref t.c_Always) = some false
  o_TooDeep_Never : PySem.W.kitOne K (.ref t.c_TooDeep) (.ref t.c_Never) = some false
  o_TooDeep_NoMinds : PySem.W.kitOne K (.ref t.c_TooDeep) (.ref t.c_NoMinds) = some false
  o_TooDeep_Unlike : PySem.W.kitOne K (.ref t.c_TooDeep) (.ref t.c_Unlike) = some false
  o_TooDeep_NoBack : PySem.W.kitOne K (.ref t.c_TooDeep) (.ref t.c_NoBack) = some false
  o_TooDeep_NoAgain : PySem.W.kitOne K (.ref t.c_TooDeep) (.ref t.c_NoAgain) = some false
  o_TooDeep_Refused : PySem.W.kitOne K (.ref t.c_TooDeep) (.ref t.c_Refused) = some false
  o_TooDeep_ValueError : PySem.W.kitOne K (.ref t.c_TooDeep) (.type "ValueError") = some true
  m_NoName : mg "NoName" = some (.ref t.c_NoName)
  m_Always : mg "Always" = some (.ref t.c_Always)
  m_Never : mg "Never" = some (.ref t.c_Never)
  m_NoMinds : mg "NoMinds" = some (.ref t.c_NoMinds)
  m_Unlike : mg "Unlike" = some (.ref t.c_Unlike)
  m_NoBack : mg "NoBack" = some (.ref t.c_NoBack)
  m_NoAgain : mg "NoAgain" = some (.ref t.c_NoAgain)
  m_Refused : mg "Refused" = some (.ref t.c_Refused)
  m_Unfinished : mg "Unfinished" = some (.ref t.c_Unfinished)
  cl_Unfinished : Cls K t.c_Unfinished
  mk_Unfinished : Mk K t.c_Unfinished t.a_Unfinished___init__
  no_Unfinished_trees : NoAttr K t.c_Unfinished "trees"
  no_Unfinished_signs : NoAttr K t.c_Unfinished "signs"
  m_LONGEST_NAME : mg "LONGEST_NAME" = some (.int 8 t.k_LONGEST_NAME)
  m_LONGEST_TEXT : mg "LONGEST_TEXT" = some (.int 200 t.k_LONGEST_TEXT)
  m_GREATEST_DEPTH : mg "GREATEST_DEPTH" = some (.int 40 t.k_GREATEST_DEPTH)
  m_KINDS : mg "KINDS" = some (.ref t.d_KINDS)
  d_KINDS : MdK P w K t.d_KINDS [(.inr "&", .str "and"), (.inr "|", .str "or"), (.inr ">", .str "then"), (.inr "=", .str "same")]
  m_BINDS : mg "BINDS" = some (.ref t.d_BINDS)
  d_BINDS : MdK P w K t.d_BINDS [(.inr "&", .int 4), (.inr "|", .int 3), (.inr ">", .int 2), (.inr "=", .int 1)]
  m_SIGNS : mg "SIGNS" = some (.ref t.d_SIGNS)
  d_SIGNS : MdK P w K t.d_SIGNS [(.inr "and", .str "&"), (.inr "or", .str "|"), (.inr "then", .str ">"), (.inr "same", .str "=")]
  n_ValueError : mg "ValueError" = none
  n_list : mg "list" = none
  n_tuple : mg "tuple" = none
  n_isinstance : mg "isinstance" = none
  n_str : mg "str" = none
  n_all : mg "all" = none
  n_enumerate : mg "enumerate" = none
  n_range : mg "range" = none
  n_len : mg "len" = none
  n_int : mg "int" = none
  n_min : mg "min" = none
  n_sum : mg "sum" = none
  n_max : mg "max" = none
  n_zip : mg "zip" = none
  bl : ∀ (s : Shared) (u : Value), BindsTo s t.fd_law ⟨[u], []⟩ [("_law_script", u)]
end K09
seal L2.PE L2.PT L2.PW L2.PA L2.PS L2.PSs L2.PG L2.PGs L2.PI L2.PC L2.PO L2.PTs
open PyProof.Rows
namespace K09
open PySem L2 Mc
def spCell (K : PySem.W.Frag) : Sp := fun vs H Q _ => ∃ (a : Addr) (ns : List Int) (k : Int), vs = [.ref a, .int k] ∧ SqL K H a (ns.map V.int) ∧ 0 ≤ k ∧ Q (.int (ns.getD k.toNat 0)) H
section
variable {P : Program} {w : World} {K : PySem.W.Frag} {mg : Str → Option Value} {base : Heap} {t : Adr}
theorem scCell : FnScope ["_law_script", "_law_k"] ["_law_script", "_law_k"] (defScope s__law_cell_at) := ⟨rfl, rfl, rfl, by decide +kernel, rfl, by decide +kernel, by decide +kernel⟩
theorem ok_cell (T : Txt P w K mg t) : FnOk P w K mg base (CX1 P w) 1 t.a__law_cell_at t.fd__law_cell_at ["_law_script", "_law_k"] (spCell K) := by
  refine T.F__law_cell_at.ok1 scCell (fun vs H Q E h => by obtain ⟨a, ns, k, rfl, _⟩ := h; rfl) (fun cdv A outer s H vs Q E hr h => ?_)
  obtain ⟨a, ns, k, rfl, hS, hk, q⟩ := h
  refine ⟨_, (pss_cons (ps_if (pt_cmpR op_lt (pvl 1) (pcallB call_len_seq T.n_len Bt.len (pa_cons (pvl 0) pa_nil)) (nomark _))
        (pss_one (ps_ret (pe_ix ix_list (pvl 0) (pvl 1) (fun _ _ => rfl))))
        pss_nil)
      (pss_one (ps_ret pe_int))), ?_⟩
  refine ⟨_, rfl, _, rfl, a, _, rfl, .inl hS, _, _, rfl, rfl, _, rfl, ?_⟩
  refine ite2 (fun e => ?_) (fun e => ?_)
  · have e : k < ((ns.map V.int).length : Nat) := of_decide_eq_true e
    rw [List.length_map] at e
    refine ⟨_, rfl, _, rfl, a, _, k, .int (ns.getD k.toNat 0), rfl, rfl, hS, atI_some hk ?_, q⟩
    rw [List.getElem?_map]
    have : k.toNat < ns.length := by omega
    rw [List.getElem?_eq_getElem this]
    simp [List.getD, List.getElem?_eq_getElem this]
  · have e : ¬ k < ((ns.map V.int).length : Nat) := fun z => e (decide_eq_true z)
    rw [List.length_map] at e
    have z : ns.getD k.toNat 0 = 0 := by
      rw [List.getD, List.getElem?_eq_none (by omega)]
      rfl
    rw [z] at q
    exact q
end
end K09

namespace K09
open PySem L2 Mc
def spNamesBy : Sp := fun vs H Q _ => ∃ (c n : Int), vs = [.int c, .int n] ∧ 1 ≤ n ∧ n ≤ 8 ∧
  ∀ (p : Addr) (way : Nat) (H' : Hp), H p = none → Same H H' → H' p = some (.tup ((namesS way (c / 3) n.toNat).map V.str)) → Q (.ref p) H'
section
variable {P : Program} {w : World} {K : PySem.W.Frag} {mg : Str → Option Value} {base : Heap} {t : Adr}
theorem scNamesBy : FnScope ["_law_cell", "_law_many", "_law_letters", "_law_rest", "_law_stem", "_law_signs", "_law_size", "_law_at"] ["_law_cell", "_law_many"] (defScope s__law_names_by) := ⟨rfl, rfl, rfl, by decide +kernel, rfl, by decide +kernel, by decide +kernel⟩
theorem one_sum (f : Nat → Nat) (n : Nat) (z : Str) : (((List.range n).map fun i => (⟨#[f i]⟩ : Str)).map (·.length)).sum + ((List.range n).map fun i => (⟨#[f i]⟩ : Str)).length * z.length = n + n * z.length := by
  have e : ∀ l : List Nat, ((l.map fun i => (⟨#[f i]⟩ : Str)).map (·.length)).sum = l.length := by
    intro l
    induction l with
    | nil => rfl
    | cons x r ih =>
      rw [List.map_cons, List.map_cons, List.sum_cons, ih, List.length_cons]
      show 1 + r.length = _
      omega
  rw [e, List.length_map, List.length_range]
theorem flat_one (f : Nat → Nat) : ∀ l : List Nat, (l.flatMap fun i => [f i]) = l.map f
  | [] => rfl
  | x :: r => by rw [List.flatMap_cons, List.map_cons, flat_one f r]; rfl
theorem empty_str : ("" : Str) = ⟨#[]⟩ := by decide +kernel
theorem letter_at {i : Int} (h0 : 0 ≤ i) (h : i < 26) : atI letters.cps.toList i = some (97 + i.toNat) := atI_some h0 (letters_at i.toNat (by omega))
theorem ok_namesBy (T : Txt P w K mg t) : FnOk P w K mg base (CX1 P w) 1 t.a__law_names_by t.fd__law_names_by ["_law_cell", "_law_many"] spNamesBy := by
  refine T.F__law_names_by.ok1 scNamesBy (fun vs H Q E h => by obtain ⟨c, n, rfl, _⟩ := h; rfl) (fun cdv A outer s H vs Q E hr h => ?_)
  obtain ⟨c, n, rfl, hn1, hn8, k⟩ := h
  have nd := scNamesBy.nd
  refine ⟨_, (pss_cons (psc 2 nd pe_str)
      (pss_cons (psc 3 nd (pe_op op_fdiv (pvl 0) pe_int))
      (pss_cons (psc 4 nd (pe_bm PySem.F.plainAttrs_str PySem.F.slot_str_join PySem.F.type_str_join mt_join pe_str (pa_cons (pe_comp rfl ["_law_k", "_law_letters", "_law_rest"] [none, some 2, some 3] (prange1 T.n_range (pa_cons pe_int pa_nil)) (by kernel_rfl) (fun _ _ _ _ _ _ => (pgl 0 (show List.Nodup (α := PySem.Str) ["_law_k", "_law_letters", "_law_rest"] by decide +kernel))) (fun _ _ _ _ _ _ => pts_nil) (fun _ _ _ _ _ _ => (pe_ix ix_str (pvc 1) (pe_op op_mod (pe_op op_add (pe_op op_add (pe_op op_fdiv (pvc 2) pe_int) (pe_op op_mul (pe_op op_mul pe_int (pvl 0)) (pvl 0))) (pvl 0)) pe_int) (fun _ _ => rfl)))) pa_nil)))
      (pss_cons (psc 5 nd (pe_comp rfl ["_law_k", "_law_letters", "_law_rest"] [none, some 2, some 3] (prange1 T.n_range (pa_cons (pvl 1) pa_nil)) (by kernel_rfl) (fun _ _ _ _ _ _ => (pgl 0 (show List.Nodup (α := PySem.Str) ["_law_k", "_law_letters", "_law_rest"] by decide +kernel))) (fun _ _ _ _ _ _ => pts_nil) (fun _ _ _ _ _ _ => (pe_ix ix_str (pvc 1) (pe_op op_mod (pe_op op_add (pe_op op_fdiv (pvc 2) pe_int) (pe_op op_mul pe_int (pvl 0))) pe_int) (fun _ _ => rfl)))))
      (pss_cons (ps_if (pt_cmpR op_eq (pe_op op_mod (pvl 0) pe_int) pe_int (nomark _))
        (pss_cons (psc 6 nd (pe_op op_add pe_int (pe_op op_mod (pvc 3) pe_int)))
        (pss_cons (psc 7 nd (pe_op op_mod (pe_op op_fdiv (pvc 3) pe_int) (pvc 6)))
        (pss_one (ps_ret (pcallT call_tuple_of T.n_tuple Bt.tuple (pa_cons (pe_comp rfl ["_law_sign", "_law_stem", "_law_size", "_law_at"] [none, some 4, some 6, some 7] (pi_list (pvc 5)) (by kernel_rfl) (fun _ _ _ _ _ _ => (pgl 0 (show List.Nodup (α := PySem.Str) ["_law_sign", "_law_stem", "_law_size", "_law_at"] by decide +kernel))) (fun _ _ _ _ _ _ => pts_nil) (fun _ _ _ _ _ _ => (pe_op op_add_str (pe_op op_add_str (pe_slice sl_str (pvc 1) po_none (po_some (pvc 3))) (pvl 0)) (pe_slice sl_str (pvc 1) (po_some (pe_op op_add (pvc 3) pe_int)) (po_some (pvc 2)))))) pa_nil))))))
        pss_nil)
      (pss_cons (ps_if (pt_cmpR op_eq (pe_op op_mod (pvl 0) pe_int) pe_int (nomark _))
        (pss_one (ps_ret (pcallT call_tuple_of T.n_tuple Bt.tuple (pa_cons (pe_comp rfl ["_law_k", "_law_stem", "_law_rest"] [none, some 4, some 3] (prange1 T.n_range (pa_cons (pvl 1) pa_nil)) (by kernel_rfl) (fun _ _ _ _ _ _ => (pgl 0 (show List.Nodup (α := PySem.Str) ["_law_k", "_law_stem", "_law_rest"] by decide +kernel))) (fun _ _ _ _ _ _ => pts_nil) (fun _ _ _ _ _ _ => (pe_slice sl_str (pvc 1) po_none (po_some (pe_op op_add pe_int (pe_op op_mod (pe_op op_add (pe_op op_mul pe_int (pvl 0)) (pvc 2)) pe_int)))))) pa_nil))))
        pss_nil)
      (pss_one (ps_ret (pcallT call_tuple_of T.n_tuple Bt.tuple (pa_cons (pe_comp rfl ["_law_k", "_law_signs", "_law_stem", "_law_rest"] [none, some 5, some 4, some 3] (prange1 T.n_range (pa_cons (pvl 1) pa_nil)) (by kernel_rfl) (fun _ _ _ _ _ _ => (pgl 0 (show List.Nodup (α := PySem.Str) ["_law_k", "_law_signs", "_law_stem", "_law_rest"] by decide +kernel))) (fun _ _ _ _ _ _ => pts_nil) (fun _ _ _ _ _ _ => (pe_op op_add_str (pe_ix (ix_listK (K := K)) (pvc 1) (pvl 0) (fun _ _ => rfl)) (pe_slice sl_str (pvc 2) po_none (po_some (pe_op op_mod (pe_op op_add (pe_op op_mul pe_int (pvl 0)) (pvc 3)) pe_int)))))) pa_nil)))))))))), ?_⟩
  -- _law_rest = _law_cell // 3
  refine ⟨_, rfl, _, _, rfl, rfl, ⟨by decide, by decide⟩, ?_⟩
  -- the stem
  refine ⟨rfl, 8, rfl, by decide, by decide, ?_⟩
  refine comp_range_map (n := 8) (fun i => .str ⟨#[stemC (c / 3) i]⟩) (by decide) (fun i R hi r => ?_) (fun p1 hp1 => ?_)
  · refine ⟨⟨rfl, rfl, trivial⟩, ?_⟩
    refine ⟨_, rfl, _, rfl, _, _, rfl, rfl, ⟨by decide, by decide⟩, _, rfl, _, _, rfl, rfl, .inl ⟨by decide, by decide⟩, _, rfl, _, _, rfl, rfl, .inr ⟨by omega, by omega⟩, _, _, rfl, rfl, _, rfl, _, _, rfl, rfl, _, _, rfl, rfl, (by show (0 : Int) < 26; decide),
      _, _, _, rfl, rfl, (by show letters.length ≤ _; rw [letters_len]; decide), letter_at (by omega) (by omega), ?_⟩
    have e : stemC (c / 3) i = 97 + ((c / 3 / 3 + 7 * (0 + (i : Int)) * (0 + (i : Int)) + (0 + (i : Int))) % 26).toNat := by
      unfold stemC
      rw [Int.zero_add]
    rw [← e]
    exact r
  refine ⟨_, p1, (List.range 8).map fun i => ⟨#[stemC (c / 3) i]⟩, rfl, rfl, SqL.of (by rw [upd_same, List.map_map]; rfl), (by rw [one_sum (stemC (c / 3)) 8]; decide +kernel), ?_⟩
  have hstem : (Txt.join ("" : Str) ((List.range 8).map fun i => (⟨#[stemC (c / 3) i]⟩ : Str))).cps.toList = stemL (c / 3) := by
    rw [empty_str, join_l, List.flatMap_map]
    exact flat_one (stemC (c / 3)) _
  generalize Txt.join ("" : Str) ((List.range 8).map fun i => (⟨#[stemC (c / 3) i]⟩ : Str)) = stem at hstem ⊢
  have hstl : stem.length ≤ 8 := by rw [len_l, hstem, stemL_len]; exact Nat.le_refl _
  have hsl : stem.length ≤ sizeLine := lk (by omega)
  have s1 : Same H (upd H p1 (.lst ((List.range 8).map fun i => .str ⟨#[stemC (c / 3) i]⟩))) := same_upd hp1
  generalize upd H p1 (.lst ((List.range 8).map fun i => .str ⟨#[stemC (c / 3) i]⟩)) = H1 at s1 ⊢
  have hn : n.toNat ≤ 8 := by omega
  -- the signs
  refine ⟨_, rfl, n, rfl, by omega, by omega, ?_⟩
  refine comp_range_map (n := n.toNat) (fun i => .str ⟨#[signC (c / 3) i]⟩) (lk (by omega)) (fun i R hi r => ?_) (fun p2 hp2 => ?_)
  · refine ⟨⟨rfl, rfl, trivial⟩, ?_⟩
    refine ⟨_, rfl, _, rfl, _, _, rfl, rfl, ⟨by decide, by decide⟩, _, rfl, _, _, rfl, rfl, .inl ⟨by decide, by decide⟩, _, _, rfl, rfl, _, _, rfl, rfl, (by show (0 : Int) < 26; decide),
      _, _, _, rfl, rfl, (by show letters.length ≤ _; rw [letters_len]; decide), letter_at (by omega) (by omega), ?_⟩
    have e : signC (c / 3) i = 97 + ((c / 3 / 5 + 5 * (0 + (i : Int))) % 26).toNat := by
      unfold signC
      rw [Int.zero_add]
    rw [← e]
    exact r
  have s2 : Same H (upd H1 p2 (.lst ((List.range n.toNat).map fun i => .str ⟨#[signC (c / 3) i]⟩))) := s1.trans (same_upd hp2)
  have h2 : (upd H1 p2 (.lst ((List.range n.toNat).map fun i => .str ⟨#[signC (c / 3) i]⟩))) p2 = some (.lst ((List.range n.toNat).map fun i => .str ⟨#[signC (c / 3) i]⟩)) := upd_same
  generalize upd H1 p2 (.lst ((List.range n.toNat).map fun i => .str ⟨#[signC (c / 3) i]⟩)) = H2 at s2 h2 ⊢
  have fin : ∀ (way : Nat) (p3 : Addr) (H3 : Hp), H2 p3 = none → H3 = upd H2 p3 (.lst ((namesS way (c / 3) n.toNat).map V.str)) → ∀ l, H3 l = none → Q (.ref l) (upd H3 l (.tup ((namesS way (c / 3) n.toNat).map V.str))) := by
    rintro way p3 H3 hp3 rfl l hl
    exact k l way _ (s2.free ((same_upd hp3).free hl)) ((s2.trans (same_upd hp3)).trans (same_upd hl)) upd_same
  have hnm : ∀ way, (namesS way (c / 3) n.toNat).map V.str = (List.range n.toNat).map fun i => .str (nameS way (c / 3) i) := fun way => by
    unfold namesS
    rw [List.map_map]
    rfl
  refine ⟨_, rfl, _, _, rfl, rfl, (by show (0 : Int) < 3; decide), rfl, _, rfl, ?_⟩
  refine ite2 (fun _ => ?_) (fun _ => ?_)
  · -- alike but for a sign
    obtain ⟨a1, a2, a3, a4⟩ := at_lt (c / 3)
    refine ⟨_, rfl, _, _, rfl, rfl, (by show (0 : Int) < 8; decide), _, _, rfl, rfl, _, rfl, _, _, rfl, rfl, ⟨by decide, by decide⟩, _, rfl, _, _, rfl, rfl, (by show (0 : Int) < 1 + c / 3 % 8; omega), ?_⟩
    refine ⟨_, rfl, p2, rfl, ⟨_, SqL.of h2⟩, ?_⟩
    refine comp_list_map (a := p2) (xs := (List.range n.toNat).map fun i => .str ⟨#[signC (c / 3) i]⟩)
      (fun x => match x with | .str z => .str (cutS stem none (some (c / 3 / 8 % (1 + c / 3 % 8))) ++ z ++ cutS stem (some (c / 3 / 8 % (1 + c / 3 % 8) + 1)) (some (1 + c / 3 % 8))) | x => x)
      (lk (by simp; omega)) (SqL.of h2) (fun x R hx r => ?_) (fun p3 hp3 => ?_)
    · obtain ⟨i, hi, rfl⟩ := List.mem_map.mp hx
      have l1 := cutS_le stem none (some (c / 3 / 8 % (1 + c / 3 % 8)))
      have l2 := cutS_le stem (some (c / 3 / 8 % (1 + c / 3 % 8) + 1)) (some (1 + c / 3 % 8))
      have l3 : (⟨#[signC (c / 3) i]⟩ : Str).length = 1 := rfl
      refine ⟨⟨rfl, rfl, rfl, trivial⟩, ?_⟩
      refine ⟨_, rfl, _, rfl, _, rfl, _, rfl, hsl, _, rfl, _, _, rfl, rfl, lk (by omega), _, rfl, _, rfl, _, _, rfl, rfl, _, rfl, _, rfl, _, rfl, _, rfl, hsl, _, _, rfl, rfl, lk (by rw [Str.length_append]; omega), r⟩
    · have e : ((List.range n.toNat).map fun i => V.str ⟨#[signC (c / 3) i]⟩).map (fun x => match x with | .str z => .str (cutS stem none (some (c / 3 / 8 % (1 + c / 3 % 8))) ++ z ++ cutS stem (some (c / 3 / 8 % (1 + c / 3 % 8) + 1)) (some (1 + c / 3 % 8))) | x => x) = (namesS 0 (c / 3) n.toNat).map V.str := by
        rw [hnm, List.map_map]
        apply List.map_congr_left
        intro i _
        show V.str _ = V.str _
        refine congrArg V.str (str_ext ?_)
        rw [app_l, app_l, cut_to _ a1, cut_mid _ (by omega) (by omega), nameS_l, hstem]
        have e1 : (c / 3 / 8 % (1 + c / 3 % 8) + 1).toNat = (c / 3 / 8 % (1 + c / 3 % 8)).toNat + 1 := by omega
        rw [e1]
        rfl
      rw [e]
      exact ⟨p3, _, rfl, .inl ⟨SqL.of upd_same, fun l hl => fin 0 p3 _ hp3 rfl l hl⟩⟩
  · refine ⟨_, rfl, _, _, rfl, rfl, (by show (0 : Int) < 3; decide), rfl, _, rfl, ?_⟩
    refine ite2 (fun _ => ?_) (fun _ => ?_)
    · -- beginnings of one another
      refine ⟨_, rfl, n, rfl, by omega, by omega, ?_⟩
      refine comp_range_map (n := n.toNat) (fun i => .str (nameS 1 (c / 3) i)) (lk (by omega)) (fun i R hi r => ?_) (fun p3 hp3 => ?_)
      · refine ⟨⟨rfl, rfl, trivial⟩, ?_⟩
        refine ⟨_, rfl, _, rfl, _, _, rfl, rfl, .inl ⟨by decide, by decide⟩, _, rfl, _, _, rfl, rfl, _, _, rfl, rfl, (by show (0 : Int) < 8; decide), _, _, rfl, rfl, _, rfl, _, rfl, hsl, ?_⟩
        have e : cutS stem none (some (1 + (3 * (0 + (i : Int)) + c / 3) % 8)) = nameS 1 (c / 3) i := by
          refine str_ext ?_
          rw [cut_to _ (by omega), nameS_l, hstem, Int.zero_add]
          rfl
        exact e ▸ r
      · rw [← hnm]
        exact ⟨p3, _, rfl, .inl ⟨SqL.of upd_same, fun l hl => fin 1 p3 _ hp3 rfl l hl⟩⟩
    · -- of unlike lengths
      refine ⟨_, rfl, n, rfl, by omega, by omega, ?_⟩
      refine comp_range_map (n := n.toNat) (fun i => .str (nameS 2 (c / 3) i)) (lk (by omega)) (fun i R hi r => ?_) (fun p3 hp3 => ?_)
      · refine ⟨⟨rfl, rfl, rfl, trivial⟩, ?_⟩
        have l1 := cutS_le stem none (some ((3 * (0 + (i : Int)) + c / 3) % 8))
        have l3 : (⟨#[signC (c / 3) i]⟩ : Str).length = 1 := rfl
        refine ⟨_, rfl, _, rfl, p2, _, _, .str ⟨#[signC (c / 3) i]⟩, rfl, rfl, SqL.of h2, ?_, _, rfl, _, rfl, _, _, rfl, rfl, .inl ⟨by decide, by decide⟩, _, rfl, _, _, rfl, rfl, _, _, rfl, rfl, (by show (0 : Int) < 8; decide), _, rfl, _, rfl, hsl, _, _, rfl, rfl, lk (by omega), ?_⟩
        · rw [Int.zero_add]
          refine atI_nat ?_
          rw [List.getElem?_map, List.getElem?_range hi]
          rfl
        · have e : (⟨#[signC (c / 3) i]⟩ : Str) ++ cutS stem none (some ((3 * (0 + (i : Int)) + c / 3) % 8)) = nameS 2 (c / 3) i := by
            refine str_ext ?_
            rw [app_l, cut_to _ (by omega), nameS_l, hstem, Int.zero_add]
            rfl
          exact e ▸ r
      · rw [← hnm]
        exact ⟨p3, _, rfl, .inl ⟨SqL.of upd_same, fun l hl => fin 2 p3 _ hp3 rfl l hl⟩⟩
end
end K09

namespace K09
open PySem L2 Mc
def spLeaf : Sp := fun vs H Q _ => ∃ (p : Addr) (ns : List Str) (c : Int), vs = [.ref p, .int c] ∧ H p = some (.tup (ns.map V.str)) ∧ 1 ≤ ns.length ∧ ns.length ≤ 8 ∧
  ∀ (v : V) (tr : Tr) (H' : Hp), Same H H' → TrAt H' v tr → tr.depth = 1 → tr.size = 1 → (∀ x ∈ tr.names, x ∈ ns) → Q v H'
section
variable {P : Program} {w : World} {K : PySem.W.Frag} {mg : Str → Option Value} {base : Heap} {t : Adr}
theorem scLeaf : FnScope ["_law_names", "_law_cell", "_law_pick"] ["_law_names", "_law_cell"] (defScope s__law_leaf) := ⟨rfl, rfl, rfl, by decide +kernel, rfl, by decide +kernel, by decide +kernel⟩
theorem ok_leaf (T : Txt P w K mg t) : FnOk P w K mg base (CX1 P w) 1 t.a__law_leaf t.fd__law_leaf ["_law_names", "_law_cell"] spLeaf := by
  refine T.F__law_leaf.ok1 scLeaf (fun vs H Q E h => by obtain ⟨p, ns, c, rfl, _⟩ := h; rfl) (fun cdv A outer s H vs Q E hr h => ?_)
  obtain ⟨p, ns, c, rfl, hp, h1, h8, k⟩ := h
  have nd := scLeaf.nd
  refine ⟨_, (pss_cons (psl 2 nd (pe_op op_mod (pvl 1) (pe_op op_add (pe_op op_mul pe_int (pcallB call_len_seq T.n_len Bt.len (pa_cons (pvl 0) pa_nil))) pe_int)))
      (pss_cons (ps_if (pt_cmpR op_lt (pvl 2) (pe_op op_mul pe_int (pcallB call_len_seq T.n_len Bt.len (pa_cons (pvl 0) pa_nil))) (nomark _))
        (pss_one (ps_ret (pe_tup (pa_cons pe_str (pa_cons (pe_ix ix_tup (pvl 0) (pe_op op_mod (pvl 2) (pcallB call_len_seq T.n_len Bt.len (pa_cons (pvl 0) pa_nil))) (fun _ _ => rfl)) pa_nil)))))
        pss_nil)
      (pss_one (ps_ret (pe_ix ix_list (pe_lst (pa_cons (pe_tup (pa_cons pe_str pa_nil)) (pa_cons (pe_tup (pa_cons pe_str pa_nil)) pa_nil))) (pe_op op_sub (pvl 2) (pe_op op_mul pe_int (pcallB call_len_seq T.n_len Bt.len (pa_cons (pvl 0) pa_nil)))) (fun _ _ => rfl)))))), ?_⟩
  have el : ((ns.map V.str).length : Int) = ns.length := by rw [List.length_map]
  refine ⟨_, rfl, _, rfl, p, _, rfl, .inr (SqT.of hp), _, _, rfl, rfl, .inl ⟨by decide, by decide⟩, _, _, rfl, rfl, _, _, rfl, rfl, (by rw [el]; omega), ?_⟩
  dsimp only
  rw [el]
  have hm0 := Int.emod_nonneg c (by omega : (4 * (ns.length : Int) + 2) ≠ 0)
  have hm1 := Int.emod_lt_of_pos c (by omega : 0 < (4 * (ns.length : Int) + 2))
  generalize c % (4 * (ns.length : Int) + 2) = pick at hm0 hm1 ⊢
  refine ⟨_, rfl, _, rfl, p, _, rfl, .inr (SqT.of hp), _, _, rfl, rfl, .inl ⟨by decide, by decide⟩, _, _, rfl, rfl, _, rfl, ?_⟩
  refine ite2 (fun e => ?_) (fun e => ?_)
  · have e : pick < 4 * ((ns.map V.str).length : Int) := of_decide_eq_true e
    have hq0 := Int.emod_nonneg pick (by omega : ((ns.length : Int)) ≠ 0)
    have hq1 := Int.emod_lt_of_pos pick (by omega : 0 < (ns.length : Int))
    have hlt : (pick % (ns.length : Int)).toNat < ns.length := by omega
    refine ⟨_, rfl, _, rfl, _, rfl, p, _, rfl, .inr (SqT.of hp), _, _, rfl, rfl, (by rw [el]; omega), p, _, _, V.str ns[(pick % (ns.length : Int)).toNat], rfl, rfl, SqT.of hp, atI_some (by rw [el]; exact hq0) ?_, (lk (by first | exact Nat.le_of_ble_eq_true rfl | simp)), fun q hq => ?_⟩
    · rw [el, List.getElem?_map, List.getElem?_eq_getElem hlt]
      rfl
    · exact k (.ref q) (.nm ns[(pick % (ns.length : Int)).toNat]) _ (same_upd hq) (.nm upd_same) rfl rfl fun x hx => by
        have hx : x ∈ [ns[(pick % (ns.length : Int)).toNat]] := hx
        rw [List.mem_singleton.mp hx]
        exact List.getElem_mem hlt
  · have e : ¬ pick < 4 * ((ns.map V.str).length : Int) := fun z => e (decide_eq_true z)
    rw [el] at e
    refine ⟨(lk (by first | exact Nat.le_of_ble_eq_true rfl | simp)), fun p1 h1 => ⟨(lk (by first | exact Nat.le_of_ble_eq_true rfl | simp)), fun p2 h2 => ⟨(lk (by first | exact Nat.le_of_ble_eq_true rfl | simp)), fun l hl => ?_⟩⟩⟩
    have s1 := same_upd (o := .tup [.str "yes"]) h1
    have s2 := same_upd (o := .tup [.str "no"]) h2
    have s3 := same_upd (o := .lst [.ref p1, .ref p2]) hl
    have hp3 := s3 _ _ (s2 _ _ (s1 _ _ hp))
    refine ⟨_, rfl, _, rfl, p, _, rfl, .inr (SqT.of hp3), _, _, rfl, rfl, .inl ⟨by decide, by decide⟩, _, _, rfl, rfl, ?_⟩
    dsimp only
    rw [el]
    have hz : pick - 4 * (ns.length : Int) = 0 ∨ pick - 4 * (ns.length : Int) = 1 := by omega
    rcases hz with hz | hz
    · rw [hz]
      exact ⟨l, _, 0, .ref p1, rfl, rfl, SqL.of upd_same, rfl, k (.ref p1) .yes _ ((s1.trans s2).trans s3) (.yes (s3 _ _ (s2 _ _ upd_same))) rfl rfl fun x hx => by cases hx⟩
    · rw [hz]
      exact ⟨l, _, 1, .ref p2, rfl, rfl, SqL.of upd_same, rfl, k (.ref p2) .no _ ((s1.trans s2).trans s3) (.no (s3 _ _ upd_same)) rfl rfl fun x hx => by cases hx⟩
end
end K09

namespace K09
open PySem L2 Mc
/-- a pair of a sentence and its depth -/
def ItAt (H : Hp) (v : V) (tr : Tr) : Prop := ∃ a u, v = .ref a ∧ H a = some (.tup [u, .int tr.depth]) ∧ TrAt H u tr
theorem ItAt.mono {H H' : Hp} (k : Tups H H') {v : V} {tr : Tr} : ItAt H v tr → ItAt H' v tr := fun ⟨a, u, e, h, q⟩ => ⟨a, u, e, k _ _ h, q.mono k⟩
theorem items_mono {H H' : Hp} (k : Tups H H') {ps : List V} {ts : List Tr} (h : Paired (ItAt H) ps ts) : Paired (ItAt H') ps ts := Paired.mapP h fun _ _ q => q.mono k
theorem paired_concat {α β : Type} {F : α → β → Prop} : ∀ {ps : List α} {ts : List β}, Paired F ps ts → ps ≠ [] → ∃ qs v us tr, ps = qs ++ [v] ∧ ts = us ++ [tr] ∧ Paired F qs us ∧ F v tr
  | _, _, .nil, h => absurd rfl h
  | _, _, .cons (l₁ := []) (l₂ := []) r .nil, _ => ⟨[], _, [], _, rfl, rfl, .nil, r⟩
  | _, _, .cons (l₁ := x :: l) r t, _ => by
    obtain ⟨qs, v, us, tr, e1, e2, h1, h2⟩ := paired_concat t (by simp)
    exact ⟨_ :: qs, v, _ :: us, tr, by rw [e1]; rfl, by rw [e2]; rfl, .cons r h1, h2⟩
theorem paired_cons {α β : Type} {F : α → β → Prop} {a : α} {l : List α} {us : List β} (h : Paired F (a :: l) us) : ∃ b r, us = b :: r ∧ F a b ∧ Paired F l r := by
  cases h with
  | cons h1 h2 => exact ⟨_, _, rfl, h1, h2⟩
def okT (ns : List Str) (most : Int) (tr : Tr) : Prop := (tr.depth : Int) ≤ most ∧ ∀ x ∈ tr.names, x ∈ ns
/-- the stack at st: pairs of sentences, at most n nodes -/
def StkAt (H : Hp) (st : Addr) (ns : List Str) (most : Int) (n : Nat) : Prop :=
  ∃ ps ts, H st = some (.lst ps) ∧ Paired (ItAt H) ps ts ∧ (∀ tr ∈ ts, okT ns most tr) ∧ fsize ts ≤ n
theorem stk_put {H : Hp} {st : Addr} {ns : List Str} {most : Int} {n : Nat} {old ps : List V} {ts : List Tr} {v : V} {tr : Tr} (hst : H st = some (.lst old)) (hp : Paired (ItAt H) ps ts) (hv : ItAt H v tr) (ht : ∀ tr ∈ ts, okT ns most tr) (hk : okT ns most tr)
    (hs : fsize ts + tr.size ≤ n) : StkAt (upd H st (.lst (ps ++ [v]))) st ns most n := by
  have k : Tups H (upd H st (.lst (ps ++ [v]))) := tups_upd hst
  refine ⟨ps ++ [v], ts ++ [tr], upd_same, paired_app (items_mono k hp) (.cons (hv.mono k) .nil), fun x hx => ?_, ?_⟩
  · rcases List.mem_append.mp hx with h | h
    · exact ht x h
    · rw [List.mem_singleton.mp h]; exact hk
  · rw [fsize_app]
    show fsize ts + (tr.size + 0) ≤ n
    omega
/-- how many times what stands so far from the end was put together at most -/
def lvN (d : Nat) : Nat := if 128 ≤ d then 0 else if 64 ≤ d then 1 else if 32 ≤ d then 2 else if 16 ≤ d then 3 else if 8 ≤ d then 4 else if 4 ≤ d then 5 else if 2 ≤ d then 6 else if 1 ≤ d then 7 else 8
theorem lvN_two {d : Nat} (h0 : 1 ≤ d) (h : d < 128) : lvN d = 1 + lvN (2 * d) := by
  unfold lvN
  repeat' split
  all_goals omega
theorem lvN_mono {d e : Nat} (h : d ≤ e) : lvN e ≤ lvN d := by
  unfold lvN
  repeat' split
  all_goals omega
def Lev (most : Int) (us : List Tr) : Prop := ∀ (j : Nat) (x : Tr), us[j]? = some x → (x.depth : Int) ≤ most + (lvN (2 * us.length - 1 - j) : Nat)
theorem Lev.of {most : Int} {us : List Tr} (h : ∀ x ∈ us, (x.depth : Int) ≤ most) : Lev most us := fun j x hx => by
  have := h x (List.mem_of_getElem? hx)
  omega
theorem Lev.next {most : Int} {x1 x2 : Tr} {xr : List Tr} {o : Op} (hl : xr.length + 1 < 128) (h : Lev most (x1 :: x2 :: xr)) : Lev most (xr ++ [.bin o x1 x2]) := fun j x hx => by
  have el : (xr ++ [Tr.bin o x1 x2]).length = xr.length + 1 := by simp
  have e2 : (x1 :: x2 :: xr).length = xr.length + 2 := by simp
  rw [el]
  by_cases hj : j < xr.length
  · rw [List.getElem?_append_left hj] at hx
    have := h (j + 2) x (by simpa using hx)
    rw [e2] at this
    have e3 : 2 * (xr.length + 2) - 1 - (j + 2) = 2 * (xr.length + 1) - 1 - j := by omega
    rw [e3] at this
    exact this
  · have hj2 : j = xr.length := by
      have := (List.getElem?_eq_some_iff.mp hx).1
      rw [el] at this
      omega
    subst hj2
    rw [List.getElem?_append_right (Nat.le_refl _), Nat.sub_self] at hx
    have hx : x = .bin o x1 x2 := (Option.some.inj hx).symm
    subst hx
    have h1 := h 0 x1 rfl
    have h2 := h 1 x2 rfl
    rw [e2] at h1 h2
    have e4 : 2 * (xr.length + 1) - 1 - xr.length = xr.length + 1 := by omega
    rw [e4, lvN_two (by omega) hl]
    have e5 : 2 * (xr.length + 2) - 1 - 1 = 2 * (xr.length + 1) := by omega
    rw [e5] at h2
    have m := lvN_mono (d := 2 * (xr.length + 1)) (e := 2 * (xr.length + 2) - 1 - 0) (by omega)
    show ((max x1.depth x2.depth + 1 : Nat) : Int) ≤ _
    omega
def spGrown3 (K : PySem.W.Frag) : Sp := fun vs H Q _ => ∃ (p c : Addr) (most : Int) (ns : List Str) (cs : List Int), vs = [.ref p, .ref c, .int most] ∧ H p = some (.tup (ns.map V.str)) ∧ 1 ≤ ns.length ∧ ns.length ≤ 8 ∧ SqL K H c (cs.map V.int) ∧ cs.length ≤ 63 ∧ 1 ≤ most ∧ most ≤ 40 ∧
  ∀ (v : V) (tr : Tr) (H' : Hp), Same H H' → TrAt H' v tr → tr.depth ≤ 105 → tr.size ≤ 2 * cs.length + 1 → (∀ x ∈ tr.names, x ∈ ns) → (tr.depth : Int) ≤ most + 7 → Q v H'
section
variable {P : Program} {w : World} {K : PySem.W.Frag} {mg : Str → Option Value} {base : Heap} {t : Adr}
theorem scGrown2 : FnScope ["_law_names", "_law_cells", "_law_most", "_law_stack", "_law_cell", "_law_way", "_law_rest", "_law_one", "_law_deep", "_law_other", "_law_far", "_law_pair", "_law_trees"] ["_law_names", "_law_cells", "_law_most"] (defScope s__law_grown) := ⟨rfl, rfl, rfl, by decide +kernel, rfl, by decide +kernel, by decide +kernel⟩
theorem same_lst {H H2 : Hp} {st : Addr} {o : HO} (s : Same H H2) (h : H st = none) : Same H (upd H2 st o) := fun b u e => by
  rw [upd_ne (ne_of_none e h)]
  exact s b u e
theorem kontAB {A B C : Prop} {N : Nat} {way : Int} (h : A → ((3 ≤ way ∧ 1 ≤ N ∧ (way ≠ 3 → 2 ≤ N)) → B) → C) (hA : A) (hB : (3 ≤ way ∧ 1 ≤ N ∧ (way ≠ 3 → 2 ≤ N)) → B) : C := h hA hB
theorem ok_grown3 (T : Txt P w K mg t) : FnOk P w K mg base (CX1 P w) 2 t.a__law_grown t.fd__law_grown ["_law_names", "_law_cells", "_law_most"] (spGrown3 K) := by
  refine T.F__law_grown.ok1 scGrown2 (fun vs H Q E h => by obtain ⟨p, c, m, ns, cs, rfl, _⟩ := h; rfl) (fun cdv A outer s H vs Q E hr h => ?_)
  obtain ⟨p, c, most, ns, cs, rfl, hp, hn1, hn8, hC, hcs, hm1, hm40, k⟩ := h
  have nd := scGrown2.nd
  have G__law_leaf : FnOk P w K mg base (CX1 P w) 1 t.a__law_leaf t.fd__law_leaf ["_law_names", "_law_cell"] spLeaf := ok_leaf T
  refine ⟨_, (pss_cons (psl 3 nd (pe_lst pa_nil))
      (pss_cons (ps_for own1 rfl (pi_list (pvl 1)) (pgl 4 nd)
        (pss_cons (psl 5 nd (pe_op op_mod (pvl 4) pe_int))
        (pss_cons (psl 6 nd (pe_op op_fdiv (pvl 4) pe_int))
        (pss_cons (ps_if (PW.pt (pw_or (pt_cmpR op_lt (pvl 5) pe_int (nomark _)) (pw_or (pt_cmpR op_eq (pcallB call_len_seq T.n_len Bt.len (pa_cons (pvl 3) pa_nil)) pe_int (nomark _)) (pw_or1 (PW.pt (pw_and (pt_cmpR op_gt (pvl 5) pe_int (nomark _)) (pw_and1 (pt_cmpR op_eq (pcallB call_len_seq T.n_len Bt.len (pa_cons (pvl 3) pa_nil)) pe_int (nomark _)))))))))
          (pss_cons (ps_expr (pe_bm PySem.F.plainAttrs_list PySem.F.slot_list_append PySem.F.type_list_append mt_append (pvl 3) (pa_cons (pe_tup (pa_cons (pcall G__law_leaf (hr.mono (by first | decide | omega)) T.m__law_leaf T.k__law_leaf T.b__law_leaf never1 (pa_cons (pvl 0) (pa_cons (pvl 6) pa_nil))) (pa_cons pe_int pa_nil))) pa_nil)))
          (pss_one ps_continue))
          pss_nil)
        (pss_cons (ps_asg (pe_bm0 PySem.F.plainAttrs_list PySem.F.slot_list_pop PySem.F.type_list_pop mt_pop (pvl 3)) (pg_tup (n := 2) rfl (pgs_cons (pgl 7 nd) (pgs_cons (pgl 8 nd) pgs_nil))))
        (pss_cons (ps_if (pt_cmpR op_eq (pvl 5) pe_int (nomark _))
          (pss_one (ps_asg (pe_ix ix_list (pe_lst (pa_cons (pe_tup (pa_cons (pe_tup (pa_cons pe_str (pa_cons (pvl 7) pa_nil))) (pa_cons (pe_op op_add (pvl 8) pe_int) pa_nil))) (pa_cons (pe_tup (pa_cons (pvl 7) (pa_cons (pvl 8) pa_nil))) pa_nil))) (pcallT call_int1 T.n_int Bt.int (pa_cons (pe_cmpR op_ge (pvl 8) (pvl 2) (nomark _)) pa_nil)) (fun _ _ => rfl)) (pg_tup (n := 2) rfl (pgs_cons (pgl 7 nd) (pgs_cons (pgl 8 nd) pgs_nil)))))
          (pss_one (ps_if (pt_cmpR op_lt (pcallB (call_max2 rfl) T.n_max Bt.max (pa_cons (pvl 8) (pa_cons (pe_ix ix_tup (pe_ix ix_list (pvl 3) (pe_un un_neg pe_int) (fun _ _ => rfl)) pe_int (fun _ _ => rfl)) pa_nil))) (pvl 2) (nomark _))
            (pss_cons (ps_asg (pe_bm0 PySem.F.plainAttrs_list PySem.F.slot_list_pop PySem.F.type_list_pop mt_pop (pvl 3)) (pg_tup (n := 2) rfl (pgs_cons (pgl 9 nd) (pgs_cons (pgl 10 nd) pgs_nil))))
            (pss_cons (psl 11 nd (pe_ix ix_list (pe_lst (pa_cons (pe_tup (pa_cons (pvl 9) (pa_cons (pvl 7) pa_nil))) (pa_cons (pe_tup (pa_cons (pvl 7) (pa_cons (pvl 9) pa_nil))) pa_nil))) (pe_op op_mod (pvl 6) pe_int) (fun _ _ => rfl)))
            (pss_one (ps_par (i := 7) (j := 8) rfl nd rfl rfl (by decide) rfl rfl (pa_cons (pe_op op_catT (pe_tup (pa_cons (pe_ix ix_list (pe_lst (pa_cons pe_str (pa_cons pe_str (pa_cons pe_str (pa_cons pe_str pa_nil))))) (pe_op op_sub (pvl 5) pe_int) (fun _ _ => rfl)) pa_nil)) (pvl 11)) (pa_cons (pe_op op_add pe_int (pcallB (call_max2 rfl) T.n_max Bt.max (pa_cons (pvl 8) (pa_cons (pvl 10) pa_nil)))) pa_nil)) rfl))))
            pss_nil)))
        (pss_one (ps_expr (pe_bm PySem.F.plainAttrs_list PySem.F.slot_list_append PySem.F.type_list_append mt_append (pvl 3) (pa_cons (pe_tup (pa_cons (pvl 7) (pa_cons (pvl 8) pa_nil))) pa_nil))))))))))
      (pss_cons (psl 12 nd (pe_op op_cat (pe_comp rfl ["_law_one", "_law_deep"] [none, none] (pi_list (pvl 3)) (by kernel_rfl) (fun _ _ _ _ _ _ => (pg_tupK (K := K) (n := 2) rfl rfl (pgs_cons (pgl 0 (show List.Nodup (α := PySem.Str) ["_law_one", "_law_deep"] by decide +kernel)) (pgs_cons (pgl 1 (show List.Nodup (α := PySem.Str) ["_law_one", "_law_deep"] by decide +kernel)) pgs_nil)))) (fun _ _ _ _ _ _ => pts_nil) (fun _ _ _ _ _ _ => (pvl 0))) (pe_slice sl_list (pe_lst (pa_cons (pcall G__law_leaf (hr.mono (by first | decide | omega)) T.m__law_leaf T.k__law_leaf T.b__law_leaf never1 (pa_cons (pvl 0) (pa_cons (pcallB call_len_seq T.n_len Bt.len (pa_cons (pvl 1) pa_nil)) pa_nil))) pa_nil)) po_none (po_some (pcallT call_int1 T.n_int Bt.int (pa_cons (pe_cmpR op_eq (pcallB call_len_seq T.n_len Bt.len (pa_cons (pvl 3) pa_nil)) pe_int (nomark _)) pa_nil))))))
      (pss_cons (ps_while own1 (pt_cmpR op_gt (pcallB call_len_seq T.n_len Bt.len (pa_cons (pvl 12) pa_nil)) pe_int (nomark _))
        (pss_cons (psl 11 nd (pe_tup (pa_cons (pe_bm PySem.F.plainAttrs_list PySem.F.slot_list_pop PySem.F.type_list_pop mt_popAt (pvl 12) (pa_cons pe_int pa_nil)) (pa_cons (pe_bm PySem.F.plainAttrs_list PySem.F.slot_list_pop PySem.F.type_list_pop mt_popAt (pvl 12) (pa_cons pe_int pa_nil)) pa_nil))))
        (pss_one (ps_expr (pe_bm PySem.F.plainAttrs_list PySem.F.slot_list_append PySem.F.type_list_append mt_append (pvl 12) (pa_cons (pe_op op_catT (pe_tup (pa_cons (pe_ix ix_list (pe_lst (pa_cons pe_str (pa_cons pe_str (pa_cons pe_str (pa_cons pe_str pa_nil))))) (pe_op op_mod (pcallB call_len_seq T.n_len Bt.len (pa_cons (pvl 12) pa_nil)) pe_int) (fun _ _ => rfl)) pa_nil)) (pvl 11)) pa_nil))))))
      (pss_one (ps_ret (pe_ix ix_list (pvl 12) pe_int (fun _ _ => rfl)))))))), ?_⟩
  -- stack = []
  refine ⟨Nat.zero_le _, fun st hst0 => ?_⟩
  have s0 : Same H (upd H st (.lst [])) := same_upd hst0
  obtain ⟨I0, hI0⟩ : ∃ I0 : Nat → L2.St → Hp → Prop, ∀ i σ H2, I0 i σ H2 ↔ ∃ o4 o5 o6 o7 o8 o9 o10 o11 : Option V, σ = [some (.ref p), some (.ref c), some (.int most), some (.ref st), o4, o5, o6, o7, o8, o9, o10, o11, none] ∧ Same H H2 ∧ StkAt H2 st ns most i := ⟨_, fun _ _ _ => Iff.rfl⟩
  refine ⟨_, rfl, c, rfl, ⟨_, s0.seq hC⟩, for_list (K := K) (a := c) (xs := cs.map V.int)
    I0 ((hI0 _ _ _).mpr ⟨none, none, none, none, none, none, none, none, rfl, s0, [], [], upd_same, .nil, (fun _ h => nomatch h), Nat.le_refl _⟩) (fun i σ H2 _ hI => ((hI0 _ _ _).mp hI).elim fun _ ⟨_, _, _, _, _, _, _, _, s2, _⟩ => s2.seq hC) ?_ ?_⟩
  · rintro i y σ H2 hi hI
    obtain ⟨o4, o5, o6, o7, o8, o9, o10, o11, rfl, s2, ps, ts, hst, hit, hok, hfs⟩ := (hI0 _ _ _).mp hI
    obtain ⟨z, rfl⟩ : ∃ z, y = V.int z := by
      rw [List.getElem?_map] at hi
      cases e : cs[i]? with
      | none => rw [e] at hi; cases hi
      | some z => rw [e] at hi; exact ⟨z, (Option.some.inj hi).symm⟩
    have hi63 : i < 63 := by
      have := (List.getElem?_eq_some_iff.mp hi).1
      rw [List.length_map] at this
      omega
    have hlps := Paired.length hit
    have hlts := length_le_fsize ts
    -- way, rest
    refine ⟨_, rfl, _, _, rfl, rfl, (by show (0 : Int) < 8; decide), _, rfl, _, _, rfl, rfl, ⟨by decide, by decide⟩, ?_⟩
    dsimp only
    have hw0 : 0 ≤ z % 8 := by omega
    have hw8 : z % 8 < 8 := by omega
    generalize z % 8 = way at hw0 hw8 ⊢
    generalize z / 8 = rest
    have ey : ∀ {x y : Int}, decide (V.int x = V.int y) = true → x = y := fun {x y} h => V.int.inj (of_decide_eq_true h)
    apply kontAB (N := ps.length) (way := way)
    case h =>
      intro gA gB
      refine ⟨_, rfl, _, _, rfl, rfl, _, rfl, ite2 (fun c1 => iteT gA) (fun c1 => ⟨_, rfl, st, _, rfl, .inl (SqL.of hst), rfl, _, rfl, ite2 (fun c2 => iteT gA) (fun c2 => ⟨_, rfl, _, _, rfl, rfl, _, rfl,
        ite2 (fun c3 => ⟨_, rfl, st, _, rfl, .inl (SqL.of hst), rfl, _, rfl, ite2 (fun c4 => gA) (fun c4 => gB ?b1)⟩) (fun c3 => iteF (gB ?b2))⟩)⟩)⟩
      case b1 | b2 =>
        have z1 : ¬ way < 3 := fun h => c1 (decide_eq_true h)
        have z2 : ¬ (ps.length : Int) = 0 := fun h => c2 (decide_eq_true (congrArg V.int h))
        first
          | (have z4 : ¬ (ps.length : Int) = 1 := fun h => c4 (decide_eq_true (congrArg V.int h))
             omega)
          | (have z3 : ¬ 3 < way := fun h => c3 (decide_eq_true h)
             omega)
    case hA =>
      -- stack.append((leaf, 1)); continue
      refine ⟨_, rfl, .inl ⟨rfl, _, SqL.of hst⟩, _, rfl, _, rfl, p, ns, rest, rfl, s2 _ _ hp, hn1, hn8, fun v tr H3 s3 htr hd hs hn => ?_⟩
      refine ⟨lk (by first | exact Nat.le_of_ble_eq_true rfl | simp), fun q hq => ?_⟩
      have s4 := same_upd (o := .tup [v, .int 1]) hq
      have hst4 := s4 _ _ (s3 _ _ hst)
      refine ⟨st, ps, _, rfl, rfl, hst4, small1000 (by omega), ?_⟩
      refine (hI0 _ _ _).mpr ⟨_, _, _, _, _, _, _, _, rfl, same_lst ((s2.trans s3).trans s4) hst0, stk_put hst4 (items_mono (s3.trans s4).tups hit) ⟨q, v, rfl, ?_, htr.mono s4.tups⟩ hok ⟨by omega, hn⟩ (by omega)⟩
      rw [hd]
      exact upd_same
    case hB =>
      intro hB
      obtain ⟨hB0, hB1, hB2⟩ := hB
      obtain ⟨qs, v1, us, tr1, rfl, rfl, hq1, a1, u1, rfl, ha1, ht1⟩ := paired_concat hit (fun z => by rw [z] at hB1; exact absurd hB1 (by decide))
      have hok1 : okT ns most tr1 := hok tr1 (List.mem_append_right _ List.mem_cons_self)
      have hoku : ∀ tr ∈ us, okT ns most tr := fun tr h => hok tr (List.mem_append_left _ h)
      have hfs1 : fsize us + tr1.size ≤ i := by
        have := hfs
        rw [fsize_app] at this
        have e : fsize [tr1] = tr1.size + 0 := rfl
        omega
      have hlq := Paired.length hq1
      have hlu := length_le_fsize us
      -- one, deep_here = stack.pop()
      refine ⟨_, rfl, .inl ⟨rfl, _, SqL.of hst⟩, st, _, .ref a1, rfl, rfl, hst, (by simp), ?_⟩
      have k2 : Tups H2 (upd H2 st (.lst (qs ++ [V.ref a1]).dropLast)) := tups_upd hst
      rw [List.dropLast_concat] at k2 ⊢
      have s3 : Same H (upd H2 st (.lst qs)) := same_lst s2 hst0
      have hst3 : (upd H2 st (.lst qs)) st = some (.lst qs) := upd_same
      have ha3 := k2 _ _ ha1
      have ht3 := ht1.mono k2
      have hq3 := items_mono k2 hq1
      generalize upd H2 st (.lst qs) = H3 at k2 s3 hst3 ha3 ht3 hq3 ⊢
      refine ⟨a1, _, rfl, SqT.of ha3, rfl, _, _, rfl, _, _, rfl, rfl, ?_⟩
      refine ⟨_, rfl, rfl, _, rfl, ?_⟩
      refine ite2 (fun e3 => ?_) (fun e3 => ?_)
      · -- way 3: "not"
        refine ⟨_, rfl, lk (by first | exact Nat.le_of_ble_eq_true rfl | simp), fun q1 h1 => ⟨_, rfl, _, _, rfl, rfl, lk (by first | exact Nat.le_of_ble_eq_true rfl | simp), fun q2 h2 => ⟨_, rfl, _, rfl, lk (by first | exact Nat.le_of_ble_eq_true rfl | simp), fun q3 h3 => ⟨lk (by first | exact Nat.le_of_ble_eq_true rfl | simp), fun l hl => ?_⟩⟩⟩⟩
        have t1 := same_upd (o := .tup [.str "not", u1]) h1
        have t2 := same_upd (o := .tup [.ref q1, .int (tr1.depth + 1)]) h2
        have t3 := same_upd (o := .tup [u1, .int tr1.depth]) h3
        have t4 := same_upd (o := .lst [.ref q2, .ref q3]) hl
        have t14 := ((t1.trans t2).trans t3).trans t4
        have hst4 := t14 _ _ hst3
        have hq1' := t4 _ _ (t3 _ _ (t2 _ _ (upd_same (H := H3) (a := q1) (o := .tup [.str "not", u1]))))
        have hq2' := t4 _ _ (t3 _ _ (upd_same (a := q2) (o := .tup [.ref q1, .int (tr1.depth + 1)])))
        have hq3' := t4 _ _ (upd_same (a := q3) (o := .tup [u1, .int tr1.depth]))
        refine ⟨_, rfl, _, rfl, _, _, rfl, rfl, .inr ⟨_, rfl, ?_⟩⟩
        by_cases hcmp : most ≤ (tr1.depth : Int)
        · rw [decide_eq_true hcmp]
          refine ⟨l, _, 1, .ref q3, rfl, rfl, SqL.of upd_same, rfl, q3, _, rfl, SqT.of hq3', rfl, _, _, rfl, _, _, rfl, rfl, ?_⟩
          refine ⟨_, rfl, .inl ⟨rfl, _, SqL.of hst4⟩, _, rfl, _, rfl, lk (by first | exact Nat.le_of_ble_eq_true rfl | simp), fun q5 h5 => ?_⟩
          have t5 := same_upd (o := .tup [u1, .int tr1.depth]) h5
          refine ⟨st, qs, _, rfl, rfl, t5 _ _ hst4, small1000 (by omega), ?_⟩
          exact (hI0 _ _ _).mpr ⟨_, _, _, _, _, _, _, _, rfl, same_lst ((s3.trans t14).trans t5) hst0, stk_put (t5 _ _ hst4) (items_mono (t14.trans t5).tups hq3) ⟨q5, u1, rfl, upd_same, ht3.mono (t14.trans t5).tups⟩ hoku hok1 (by omega)⟩
        · rw [decide_eq_false hcmp]
          refine ⟨l, _, 0, .ref q2, rfl, rfl, SqL.of upd_same, rfl, q2, _, rfl, SqT.of hq2', rfl, _, _, rfl, _, _, rfl, rfl, ?_⟩
          refine ⟨_, rfl, .inl ⟨rfl, _, SqL.of hst4⟩, _, rfl, _, rfl, lk (by first | exact Nat.le_of_ble_eq_true rfl | simp), fun q5 h5 => ?_⟩
          have t5 := same_upd (o := .tup [.ref q1, .int (tr1.depth + 1)]) h5
          refine ⟨st, qs, _, rfl, rfl, t5 _ _ hst4, small1000 (by omega), ?_⟩
          refine (hI0 _ _ _).mpr ⟨_, _, _, _, _, _, _, _, rfl, same_lst ((s3.trans t14).trans t5) hst0, stk_put (tr := .not tr1) (t5 _ _ hst4) (items_mono (t14.trans t5).tups hq3) ⟨q5, .ref q1, rfl, ?_, .not (t5 _ _ hq1') (ht3.mono (t14.trans t5).tups)⟩ hoku ⟨?_, hok1.2⟩ ?_⟩
          · exact upd_same
          · show ((tr1.depth + 1 : Nat) : Int) ≤ most
            omega
          · show fsize us + (tr1.size + 1) ≤ i + 1
            omega
      · have hn3 : way ≠ 3 := fun z => e3 (decide_eq_true (congrArg V.int z))
        have hl2 := hB2 hn3
        rw [List.length_append, List.length_singleton] at hl2
        obtain ⟨rs, v2, ws, tr2, rfl, rfl, hr1, a2, u2, rfl, ha2, ht2⟩ := paired_concat hq3 (fun z => by rw [z] at hl2; exact absurd hl2 (by decide))
        have hok2 : okT ns most tr2 := hoku tr2 (List.mem_append_right _ List.mem_cons_self)
        have hokw : ∀ tr ∈ ws, okT ns most tr := fun tr h => hoku tr (List.mem_append_left _ h)
        have hfs2 : fsize ws + tr2.size + tr1.size ≤ i := by
          have := hfs1
          rw [fsize_app] at this
          have e : fsize [tr2] = tr2.size + 0 := rfl
          omega
        have hway : 4 ≤ way := by omega
        refine ⟨_, rfl, _, rfl, _, rfl, st, _, -1, _, rfl, rfl, SqL.of hst3, atI_last _ _, a2, _, 1, .int tr2.depth, rfl, rfl, SqT.of ha2, rfl, _, _, rfl, _, rfl, _, _, rfl, rfl, _, rfl, ?_⟩
        refine ite2 (fun e4 => ?_) (fun e4 => ?_)
        · -- two parts
          have e4 : (if (tr2.depth : Int) > (tr1.depth : Int) then (tr2.depth : Int) else (tr1.depth : Int)) < most := of_decide_eq_true e4
          have hd1 : (tr1.depth : Int) < most := by split at e4 <;> omega
          have hd2 : (tr2.depth : Int) < most := by split at e4 <;> omega
          refine ⟨_, rfl, .inl ⟨rfl, _, SqL.of hst3⟩, st, _, .ref a2, rfl, rfl, hst3, (by simp), ?_⟩
          have k5 : Tups H3 (upd H3 st (.lst (rs ++ [V.ref a2]).dropLast)) := tups_upd hst3
          rw [List.dropLast_concat] at k5 ⊢
          have s5 : Same H (upd H3 st (.lst rs)) := same_lst s3 hst0
          have hst5 : (upd H3 st (.lst rs)) st = some (.lst rs) := upd_same
          have ha5 := k5 _ _ ha2
          have ht5 := ht2.mono k5
          have hu5 := ht3.mono k5
          have hr5 := items_mono k5 hr1
          generalize upd H3 st (.lst rs) = H5 at k5 s5 hst5 ha5 ht5 hu5 hr5 ⊢
          refine ⟨a2, _, rfl, SqT.of ha5, rfl, _, _, rfl, _, _, rfl, rfl, ?_⟩
          -- pair = [(other, one), (one, other)][rest % 2]
          refine ⟨_, rfl, _, rfl, lk (by first | exact Nat.le_of_ble_eq_true rfl | simp), fun q1 h1 => ⟨_, rfl, _, rfl, lk (by first | exact Nat.le_of_ble_eq_true rfl | simp), fun q2 h2 => ⟨lk (by first | exact Nat.le_of_ble_eq_true rfl | simp), fun l hl => ?_⟩⟩⟩
          have t1 := same_upd (o := .tup [u2, u1]) h1
          have t2 := same_upd (o := .tup [u1, u2]) h2
          have t3 := same_upd (o := .lst [.ref q1, .ref q2]) hl
          have hq1' := t3 _ _ (t2 _ _ (upd_same (H := H5) (a := q1) (o := .tup [u2, u1])))
          have hq2' := t3 _ _ (upd_same (a := q2) (o := .tup [u1, u2]))
          have t13 := (t1.trans t2).trans t3
          have hl3 : (upd (upd (upd H5 q1 (.tup [u2, u1])) q2 (.tup [u1, u2])) l (.lst [.ref q1, .ref q2])) l = some (.lst [.ref q1, .ref q2]) := upd_same
          generalize upd (upd (upd H5 q1 (.tup [u2, u1])) q2 (.tup [u1, u2])) l (.lst [.ref q1, .ref q2]) = H6 at t13 hq1' hq2' hl3 ⊢
          clear t1 t2 t3
          obtain ⟨qp, x1, x2, y1, y2, hqp, hx, hy1, hy2, hsz2, hdp, hnm, hsel⟩ : ∃ (qp : Addr) (x1 x2 : V) (y1 y2 : Tr), H6 qp = some (.tup [x1, x2]) ∧ True ∧ TrAt H6 x1 y1 ∧ TrAt H6 x2 y2 ∧ y1.size + y2.size = tr1.size + tr2.size ∧ max y1.depth y2.depth = max tr1.depth tr2.depth ∧ (∀ z ∈ y1.names ++ y2.names, z ∈ ns) ∧ atI [V.ref q1, V.ref q2] (rest % 2) = some (.ref qp) := by
            have hm : rest % 2 = 0 ∨ rest % 2 = 1 := by omega
            rcases hm with hm | hm
            · refine ⟨q1, u2, u1, tr2, tr1, hq1', trivial, ht5.mono t13.tups, hu5.mono t13.tups, by omega, by omega, fun z hz => ?_, by rw [hm]; rfl⟩
              rcases List.mem_append.mp hz with h | h
              · exact hok2.2 z h
              · exact hok1.2 z h
            · refine ⟨q2, u1, u2, tr1, tr2, hq2', trivial, hu5.mono t13.tups, ht5.mono t13.tups, by omega, by omega, fun z hz => ?_, by rw [hm]; rfl⟩
              rcases List.mem_append.mp hz with h | h
              · exact hok1.2 z h
              · exact hok2.2 z h
          refine ⟨_, rfl, _, _, rfl, rfl, (by show (0 : Int) < 2; decide), l, _, _, .ref qp, rfl, rfl, SqL.of hl3, hsel, ?_⟩
          -- one, deep_here = (KINDS[way - 4],) + pair, 1 + max(deep_here, far)
          refine ⟨lk (by first | exact Nat.le_of_ble_eq_true rfl | simp), fun l4 hl4 => ?_⟩
          have t4 := same_upd (o := .lst [.str "and", .str "or", .str "then", .str "same"]) hl4
          obtain ⟨o, ho⟩ : ∃ o : Op, atI [V.str "and", V.str "or", V.str "then", V.str "same"] (way - 4) = some (.str o.str) := by
            have hw : way = 4 ∨ way = 5 ∨ way = 6 ∨ way = 7 := by omega
            rcases hw with rfl | rfl | rfl | rfl
            · exact ⟨.and, rfl⟩
            · exact ⟨.or, rfl⟩
            · exact ⟨.thn, rfl⟩
            · exact ⟨.same, rfl⟩
          refine ⟨_, rfl, _, _, rfl, rfl, l4, _, _, .str o.str, rfl, rfl, SqL.of upd_same, ho, lk (by first | exact Nat.le_of_ble_eq_true rfl | simp), fun q4 h4 => ?_⟩
          have t5 := same_upd (o := .tup [.str o.str]) h4
          refine ⟨_, rfl, q4, qp, _, _, rfl, rfl, SqT.of upd_same, SqT.of (t5 _ _ (t4 _ _ hqp)), (by simp), lk (by first | exact Nat.le_of_ble_eq_true rfl | simp), (fun z => by cases z), fun _ q6 h6 => ?_⟩
          have t6 := same_upd (o := .tup ([.str o.str] ++ [x1, x2])) h6
          have t46 := (t4.trans t5).trans t6
          refine ⟨_, rfl, _, rfl, _, _, rfl, _, _, rfl, rfl, _, _, rfl, ?_⟩
          have hst6 := t46 _ _ (t13 _ _ hst5)
          refine ⟨_, rfl, .inl ⟨rfl, _, SqL.of hst6⟩, _, rfl, _, rfl, lk (by first | exact Nat.le_of_ble_eq_true rfl | simp), fun q7 h7 => ?_⟩
          have t7 := same_upd (o := .tup [.ref q6, .int (1 + if (tr2.depth : Int) > (tr1.depth : Int) then (tr2.depth : Int) else (tr1.depth : Int))]) h7
          have hlr := Paired.length hr1
          have hlw := length_le_fsize ws
          refine ⟨st, rs, _, rfl, rfl, t7 _ _ hst6, small1000 (by omega), ?_⟩
          have hdd : ((max tr1.depth tr2.depth + 1 : Nat) : Int) = 1 + if (tr2.depth : Int) > (tr1.depth : Int) then (tr2.depth : Int) else (tr1.depth : Int) := by
            split <;> omega
          have hdt : (Tr.bin o y1 y2).depth = max tr1.depth tr2.depth + 1 := by
            show max y1.depth y2.depth + 1 = _
            omega
          refine (hI0 _ _ _).mpr ⟨_, _, _, _, _, _, _, _, rfl, same_lst (((s5.trans t13).trans t46).trans t7) hst0, stk_put (tr := .bin o y1 y2) (t7 _ _ hst6) (items_mono ((t13.trans t46).trans t7).tups hr5) ⟨q7, .ref q6, rfl, ?_, .bin (v := x1) (u := x2) (t7 _ _ upd_same) (hy1.mono (t46.trans t7).tups) (hy2.mono (t46.trans t7).tups)⟩ hokw ⟨?_, hnm⟩ ?_⟩
          · rw [hdt, hdd]
            exact upd_same
          · rw [hdt]
            omega
          · show fsize ws + (y1.size + y2.size + 1) ≤ i + 1
            omega
        · -- too deep: put back
          refine ⟨_, rfl, .inl ⟨rfl, _, SqL.of hst3⟩, _, rfl, _, rfl, lk (by first | exact Nat.le_of_ble_eq_true rfl | simp), fun q5 h5 => ?_⟩
          have t5 := same_upd (o := .tup [u1, .int tr1.depth]) h5
          refine ⟨st, _, _, rfl, rfl, t5 _ _ hst3, small1000 (by omega), ?_⟩
          exact (hI0 _ _ _).mpr ⟨_, _, _, _, _, _, _, _, rfl, same_lst (s3.trans t5) hst0, stk_put (t5 _ _ hst3) (items_mono t5.tups hq3) ⟨q5, u1, rfl, upd_same, ht3.mono t5.tups⟩ hoku hok1 (by omega)⟩
  · rintro σ H2 hI
    obtain ⟨o4, o5, o6, o7, o8, o9, o10, o11, rfl, s2, ps, ts, hst, hit, hok, hfs⟩ := (hI0 _ _ _).mp hI
    have hlps := Paired.length hit
    have hlts := length_le_fsize ts
    rw [List.length_map] at hfs
    -- the sentences of the stack
    refine ⟨_, rfl, st, rfl, ⟨_, SqL.of hst⟩, ?_⟩
    refine comp_list (K := K) (a := st) (xs := ps) (fun i ys H' => H' = H2 ∧ Paired (TrAt H2) ys (ts.take i)) ⟨rfl, .nil⟩ (lk (by omega)) (fun i ys H' ⟨_, h⟩ => ?_) (fun i ys H' ⟨e, _⟩ => by subst e; exact SqL.of hst) ?_ ?_
    · have := Paired.length h
      rw [List.length_take] at this
      omega
    · rintro i x ys H' hi ⟨rfl, h⟩
      obtain ⟨tr, htr, a, u, rfl, ha, hu⟩ := paired_get hit i x hi
      refine ⟨a, _, rfl, SqT.of ha, rfl, _, _, rfl, _, _, rfl, rfl, trivial, ⟨_, rfl, rfl, ?_⟩⟩
      have e6 : ts.take (i + 1) = ts.take i ++ [tr] := by
        rw [List.take_add_one, htr]
        rfl
      rw [e6]
      exact paired_app h (.cons hu .nil)
    rintro ys H' ⟨rfl, hys⟩ l1 hl1
    rw [hlps, List.take_length] at hys
    have r1 := same_upd (o := .lst ys) hl1
    -- [leaf(..)][:int(len(stack) == 0)]
    refine ⟨_, rfl, _, rfl, c, _, rfl, .inl (r1.seq (s2.seq hC)), p, ns, _, rfl, r1 _ _ (s2 _ _ hp), hn1, hn8, fun v0 tr0 H4 s4 htr0 hd0 hs0 hn0 => ⟨lk (by first | exact Nat.le_of_ble_eq_true rfl | simp), fun l2 hl2 => ?_⟩⟩
    have r2 := same_upd (o := .lst [v0]) hl2
    have hst4 := r2 _ _ (s4 _ _ (r1 _ _ hst))
    refine ⟨_, rfl, st, _, rfl, .inl (SqL.of hst4), rfl, .inr ⟨_, rfl, _, rfl, l2, _, rfl, SqL.of upd_same, fun l3 hl3 => ?_⟩⟩
    have hl1' : H4 l1 = some (.lst ys) := s4 _ _ upd_same
    have r3 : ∀ o, Same (upd H4 l2 (.lst [v0])) (upd (upd H4 l2 (.lst [v0])) l3 o) := fun o => same_upd hl3
    have r14 : Same H' (upd H4 l2 (.lst [v0])) := (r1.trans s4).trans r2
    have hysl := Paired.length hys
    refine ⟨l1, l3, ys, _, rfl, rfl, r3 _ _ _ (r2 _ _ hl1'), upd_same, lk ?_, fun l4 hl4 => ?_⟩
    · have := cutV_length [v0] none (some (if decide (V.int (ps.length : Nat) = V.int 0) = true then 1 else 0))
      have e1 : [v0].length = 1 := rfl
      omega
    obtain ⟨vs, us, hvs, hus, hune, hok', hlev', hsz'⟩ : ∃ (vs : List V) (us : List Tr), ys ++ cutV [v0] none (some (if decide (V.int (ps.length : Nat) = V.int 0) = true then 1 else 0)) = vs ∧ Paired (TrAt (upd H4 l2 (.lst [v0]))) vs us ∧ us ≠ [] ∧ (∀ tr ∈ us, tr.depth + us.length ≤ 104 ∧ ∀ x ∈ tr.names, x ∈ ns) ∧ Lev most us ∧ fsize us + us.length ≤ 2 * cs.length + 2 := by
      by_cases hps : ps.length = 0
      · have e0 : decide (V.int (ps.length : Nat) = V.int 0) = true := by rw [hps]; exact decide_eq_true rfl
        have ets : ts = [] := List.eq_nil_of_length_eq_zero (by omega)
        subst ets
        cases hys
        rw [e0]
        refine ⟨[v0], [tr0], rfl, .cons (htr0.mono r2.tups) .nil, by simp, fun tr h => ?_, Lev.of fun x hx => (by rw [List.mem_singleton.mp hx, hd0]; exact hm1), ?_⟩
        · rw [List.mem_singleton.mp h]
          refine ⟨?_, hn0⟩
          rw [hd0]
          show 1 + 1 ≤ 104
          decide
        · show tr0.size + 0 + 1 ≤ 2 * cs.length + 2
          omega
      · have e0 : decide (V.int (ps.length : Nat) = V.int 0) = false := decide_eq_false fun z => hps (by have := V.int.inj z; omega)
        rw [e0]
        refine ⟨ys, ts, ?_, paired_mono r14.tups hys, fun z => ?_, fun tr h => ?_, Lev.of fun x hx => (hok x hx).1, ?_⟩
        · show ys ++ [] = ys
          exact List.append_nil _
        · rw [z] at hlps
          exact hps hlps
        · obtain ⟨h1, h2⟩ := hok tr h
          exact ⟨by omega, h2⟩
        · omega
    rw [hvs]
    have r5 := same_upd (o := .lst vs) hl4
    have sH : Same H (upd (upd (upd H4 l2 (.lst [v0])) l3 (.lst (cutV [v0] none (some (if decide (V.int (ps.length : Nat) = V.int 0) = true then 1 else 0))))) l4 (.lst vs)) := ((s2.trans r14).trans (r3 _)).trans r5
    have hl40 : H l4 = none := ((s2.trans r14).trans (r3 _)).free hl4
    refine ⟨fun m σ H5 => ∃ (o11 : Option V) (vs : List V) (us : List Tr), σ = [some (.ref p), some (.ref c), some (.int most), some (.ref st), o4, o5, o6, o7, o8, o9, o10, o11, some (.ref l4)] ∧ Same H H5 ∧ H5 l4 = some (.lst vs) ∧ Paired (TrAt H5) vs us ∧ us ≠ [] ∧
        (∀ tr ∈ us, tr.depth + us.length ≤ 104 ∧ ∀ x ∈ tr.names, x ∈ ns) ∧ Lev most us ∧ fsize us + us.length ≤ 2 * cs.length + 2 ∧ m = us.length,
      ⟨_, o11, vs, us, rfl, sH, upd_same, paired_mono ((r3 _).trans r5).tups hus, hune, hok', hlev', hsz', rfl⟩, ?_⟩
    clear sH r5 r3 r14 hvs hus hune hok' hlev' hsz'
    rintro m σ H5 ⟨o11, vs, us, rfl, s5, hv5, hp5, hne5, hok5, hlev5, hsz5, rfl⟩
    have hlv := Paired.length hp5
    refine ⟨_, rfl, l4, _, rfl, .inl (SqL.of hv5), _, _, rfl, rfl, _, rfl, ?_⟩
    refine ite2 (fun e => ?_) (fun e => ?_)
    · have e : (1 : Int) < (vs.length : Nat) := of_decide_eq_true e
      obtain ⟨v1, v2, vr, rfl⟩ : ∃ v1 v2 vr, vs = v1 :: v2 :: vr := by
        match vs, e with
        | [], e => simp at e
        | [_], e => simp at e
        | v1 :: v2 :: vr, _ => exact ⟨v1, v2, vr, rfl⟩
      obtain ⟨x1, xs1, rfl, ht1, hp5⟩ := paired_cons hp5
      obtain ⟨x2, xr, rfl, ht2, hp5⟩ := paired_cons hp5
      · · refine ⟨fun σ' H' => ∃ m', m' < (x1 :: x2 :: xr).length ∧ ∃ (o11 : Option V) (vs : List V) (us : List Tr), σ' = [some (.ref p), some (.ref c), some (.int most), some (.ref st), o4, o5, o6, o7, o8, o9, o10, o11, some (.ref l4)] ∧ Same H H' ∧ H' l4 = some (.lst vs) ∧ Paired (TrAt H') vs us ∧ us ≠ [] ∧
            (∀ tr ∈ us, tr.depth + us.length ≤ 104 ∧ ∀ x ∈ tr.names, x ∈ ns) ∧ Lev most us ∧ fsize us + us.length ≤ 2 * cs.length + 2 ∧ m' = us.length, fun _ _ h => h, ?_⟩
          -- pair = (trees.pop(0), trees.pop(0))
          have si : ∀ n : Nat, seqIndex? 0 (n + 1) = some 0 := fun n => by simp [seqIndex?]
          refine ⟨_, rfl, .inl ⟨rfl, _, SqL.of hv5⟩, l4, _, 0, 0, v1, rfl, rfl, hv5, by decide, by decide, si _, rfl, ?_⟩
          have k1 : Tups H5 (upd H5 l4 (.lst (v2 :: vr))) := tups_upd hv5
          have hv6 : (upd H5 l4 (.lst (v2 :: vr))) l4 = some (.lst (v2 :: vr)) := upd_same
          refine ⟨_, rfl, .inl ⟨rfl, _, SqL.of hv6⟩, l4, _, 0, 0, v2, rfl, rfl, hv6, by decide, by decide, si _, rfl, ?_⟩
          have k2 : Tups (upd H5 l4 (.lst (v2 :: vr))) (upd (upd H5 l4 (.lst (v2 :: vr))) l4 (.lst vr)) := tups_upd hv6
          have hv7 : (upd (upd H5 l4 (.lst (v2 :: vr))) l4 (.lst vr)) l4 = some (.lst vr) := upd_same
          have s7 : Same H (upd (upd H5 l4 (.lst (v2 :: vr))) l4 (.lst vr)) := same_lst (same_lst s5 hl40) hl40
          have ht1' := ht1.mono (k1.trans k2)
          have ht2' := ht2.mono (k1.trans k2)
          have hp7 := paired_mono (k1.trans k2) hp5
          show (fun H7 => _) (upd (upd H5 l4 (.lst (v2 :: vr))) l4 (.lst vr))
          generalize upd (upd H5 l4 (.lst (v2 :: vr))) l4 (.lst vr) = H7 at hv7 s7 ht1' ht2' hp7 ⊢
          refine ⟨lk (by first | exact Nat.le_of_ble_eq_true rfl | simp), fun q1 h1 => ?_⟩
          have t1 := same_upd (o := .tup [v1, v2]) h1
          -- trees.append((KINDS[len(trees) % 4],) + pair)
          refine ⟨_, rfl, .inl ⟨rfl, _, SqL.of (t1 _ _ hv7)⟩, lk (by first | exact Nat.le_of_ble_eq_true rfl | simp), fun l5 hl5 => ?_⟩
          have t2 := same_upd (o := .lst [.str "and", .str "or", .str "then", .str "same"]) hl5
          obtain ⟨o, ho⟩ : ∃ o : Op, atI [V.str "and", V.str "or", V.str "then", V.str "same"] ((vr.length : Int) % 4) = some (.str o.str) := by
            have hw : (vr.length : Int) % 4 = 0 ∨ (vr.length : Int) % 4 = 1 ∨ (vr.length : Int) % 4 = 2 ∨ (vr.length : Int) % 4 = 3 := by omega
            rcases hw with hw | hw | hw | hw
            · exact ⟨.and, by rw [hw]; rfl⟩
            · exact ⟨.or, by rw [hw]; rfl⟩
            · exact ⟨.thn, by rw [hw]; rfl⟩
            · exact ⟨.same, by rw [hw]; rfl⟩
          refine ⟨_, rfl, l4, _, rfl, .inl (SqL.of (t2 _ _ (t1 _ _ hv7))), _, _, rfl, rfl, (by show (0 : Int) < 4; decide), l5, _, _, .str o.str, rfl, rfl, SqL.of upd_same, ho, lk (by first | exact Nat.le_of_ble_eq_true rfl | simp), fun q2 h2 => ?_⟩
          have t3 := same_upd (o := .tup [.str o.str]) h2
          refine ⟨_, rfl, q2, q1, _, _, rfl, rfl, SqT.of upd_same, SqT.of (t3 _ _ (t2 _ _ upd_same)), (by simp), lk (by first | exact Nat.le_of_ble_eq_true rfl | simp), (fun z => by cases z), fun _ q3 h3 => ?_⟩
          have t4 := same_upd (o := .tup ([.str o.str] ++ [v1, v2])) h3
          have t14 := ((t1.trans t2).trans t3).trans t4
          have hv8 := t14 _ _ hv7
          simp only [List.length_cons] at hlv hok5 hsz5
          have hsum : fsize (x1 :: x2 :: xr) = x1.size + (x2.size + fsize xr) := rfl
          refine ⟨l4, vr, _, rfl, rfl, hv8, small1000 (by have := length_le_fsize xr; omega), ?_⟩
          have k8 : Tups _ (upd _ l4 (.lst (vr ++ [.ref q3]))) := tups_upd hv8
          refine ⟨_, ?_, _, vr ++ [.ref q3], xr ++ [.bin o x1 x2], rfl, same_lst (s7.trans t14) hl40, upd_same, ?_, by simp, fun tr h => ?_, hlev5.next (by have := length_le_fsize xr; omega), ?_, rfl⟩
          · simp
          · exact paired_app (paired_mono (t14.tups.trans k8) hp7) (.cons (.bin (v := v1) (u := v2) (k8 _ _ upd_same) (ht1'.mono (t14.tups.trans k8)) (ht2'.mono (t14.tups.trans k8))) .nil)
          · have h1 := hok5 x1 List.mem_cons_self
            have h2 := hok5 x2 (List.mem_cons_of_mem _ List.mem_cons_self)
            rw [List.length_append, List.length_singleton]
            rcases List.mem_append.mp h with h | h
            · have h3 := hok5 tr (List.mem_cons_of_mem _ (List.mem_cons_of_mem _ h))
              exact ⟨by omega, h3.2⟩
            · rw [List.mem_singleton.mp h]
              refine ⟨?_, fun x hx => ?_⟩
              · show max x1.depth x2.depth + 1 + (xr.length + 1) ≤ 104
                omega
              · have hx : x ∈ x1.names ++ x2.names := hx
                rcases List.mem_append.mp hx with hx | hx
                · exact h1.2 x hx
                · exact h2.2 x hx
          · rw [fsize_app, List.length_append, List.length_singleton]
            show fsize xr + (x1.size + x2.size + 1 + 0) + (xr.length + 1) ≤ 2 * cs.length + 2
            omega
    · have e : ¬ (1 : Int) < (vs.length : Nat) := fun z => e (decide_eq_true z)
      cases vs with
      | nil =>
        cases hp5
        exact absurd rfl hne5
      | cons v1 vr =>
        obtain ⟨x1, xr, rfl, ht1, hp5⟩ := paired_cons hp5
        have hk := hok5 x1 List.mem_cons_self
        have hsum : fsize (x1 :: xr) = x1.size + fsize xr := rfl
        simp only [List.length_cons] at hsz5 hk
        refine ⟨_, rfl, l4, _, 0, v1, rfl, rfl, SqL.of hv5, atI_nat (j := 0) rfl, ?_⟩
        have hq : vr = [] := by
          cases vr with
          | nil => rfl
          | cons _ _ => exact absurd (by simp only [List.length_cons]; omega) e
        have hx0 : xr = [] := by
          have := Paired.length hp5
          rw [hq] at this
          exact List.eq_nil_of_length_eq_zero this.symm
        have hlv := hlev5 0 x1 rfl
        rw [hx0] at hlv
        exact k v1 x1 H5 s5 ht1 (by omega) (by omega) hk.2 hlv
end
end K09

namespace K09
open PySem L2 Mc
/-! ### the script's numbers, summed in turn -/
theorem cut_from (ns : List Int) (s : Nat) : ∃ cs : List Int, cutV (ns.map V.int) (some (s : Int)) none = cs.map V.int ∧ cs.length = ns.length - s := by
  refine ⟨(ns.drop (HT.sIx (ns.map V.int).length 0 (some (s : Int)))).take (HT.sIx (ns.map V.int).length (ns.map V.int).length none - HT.sIx (ns.map V.int).length 0 (some (s : Int))), ?_, ?_⟩
  · unfold cutV
    rw [List.map_take, List.map_drop]
  · rw [List.length_take, List.length_drop]
    unfold HT.sIx
    simp only [List.length_map]
    split <;> omega
def spFolded (K : PySem.W.Frag) : Sp := fun vs H Q _ => ∃ (a : Addr) (ns : List Int) (s m : Nat), vs = [.ref a, .int s, .int m] ∧ SqL K H a (ns.map V.int) ∧ ns.length ≤ 63 ∧ 1 ≤ m ∧ m ≤ 100 ∧
  ∀ (l : Addr) (cs : List Int) (H' : Hp), H l = none → Same H H' → H' l = some (.lst (cs.map V.int)) → cs.length ≤ m → Q (.ref l) H'
section
variable {P : Program} {w : World} {K : PySem.W.Frag} {mg : Str → Option Value} {base : Heap} {t : Adr}
theorem scFolded : FnScope ["_law_script", "_law_start", "_law_many", "_law_cells", "_law_k", "_law_cell"] ["_law_script", "_law_start", "_law_many"] (defScope s__law_folded) := ⟨rfl, rfl, rfl, by decide +kernel, rfl, by decide +kernel, by decide +kernel⟩
theorem ok_folded (T : Txt P w K mg t) : FnOk P w K mg base (CX1 P w) 1 t.a__law_folded t.fd__law_folded ["_law_script", "_law_start", "_law_many"] (spFolded K) := by
  refine T.F__law_folded.ok1 scFolded (fun vs H Q E h => by obtain ⟨a, ns, s, m, rfl, _⟩ := h; rfl) (fun cdv A outer s0 H vs Q E hr h => ?_)
  obtain ⟨a, ns, s, m, rfl, hS, hlen, hm1, hm2, k⟩ := h
  have nd := scFolded.nd
  refine ⟨_, (pss_cons (ps_setComp (i := 3) rfl ["_law_k"] [none] nd rfl rfl (prange1 T.n_range (pa_cons (pcallB (call_min2 rfl) T.n_min Bt.min (pa_cons (pvl 2) (pa_cons (pcallB (call_max2 rfl) T.n_max Bt.max (pa_cons pe_int (pa_cons (pe_op op_sub (pcallB call_len_seq T.n_len Bt.len (pa_cons (pvl 0) pa_nil)) (pvl 1)) pa_nil))) pa_nil))) pa_nil)) (by kernel_rfl) (fun _ _ _ _ _ _ => (pgl 0 (show List.Nodup (α := PySem.Str) ["_law_k"] by decide +kernel))) (fun _ _ _ _ _ _ => pts_nil) (fun _ _ _ _ _ _ => pe_int))
      (pss_cons (ps_for own1 rfl (penum (pe_slice sl_list (pvl 0) (po_some (pvl 1)) po_none) T.n_enumerate) (pg_tup (n := 2) rfl (pgs_cons (pgl 4 nd) (pgs_cons (pgl 5 nd) pgs_nil)))
        (pss_one (ps_asg (pe_op op_add (pe_ix ix_list (pvl 3) (pe_op op_mod (pvl 4) (pvl 2)) (fun _ _ => rfl)) (pvl 5)) (pg_sub (pvl 3) (pe_op op_mod (pvl 4) (pvl 2)) set_list))))
      (pss_one (ps_ret (pvl 3))))), ?_⟩
  have el : ((ns.map V.int).length : Int) = ns.length := by rw [List.length_map]
  obtain ⟨n, hn, hnm, hnl⟩ : ∃ n : Nat, (if (if ((ns.map V.int).length : Int) - (s : Int) > 0 then ((ns.map V.int).length : Int) - (s : Int) else 0) < (m : Int) then (if ((ns.map V.int).length : Int) - (s : Int) > 0 then ((ns.map V.int).length : Int) - (s : Int) else 0) else (m : Int)) = (n : Int) ∧ n ≤ m ∧ ∀ k, k < ns.length - s → k % m < n := by
    refine ⟨min m (ns.length - s), ?_, Nat.min_le_left _ _, fun k hk => ?_⟩
    · rw [el]
      split <;> split <;> omega
    · have h1 := Nat.mod_lt k (show 0 < m by omega)
      have h2 := Nat.mod_le k m
      omega
  refine ⟨_, rfl, _, rfl, a, _, rfl, .inl hS, _, rfl, _, _, rfl, rfl, _, _, rfl, _, _, rfl, ?_⟩
  rw [hn]
  refine ⟨_, rfl, by omega, by omega, ?_⟩
  rw [Int.toNat_natCast]
  refine comp_range_map (n := n) (fun _ => .int 0) (lk (by omega)) (fun i R hi r => ⟨trivial, r⟩) (fun lc hlc => ?_)
  have s1 := same_upd (o := .lst ((List.range n).map fun _ => V.int 0)) hlc
  obtain ⟨ds, hds, hdl⟩ := cut_from ns s
  refine ⟨_, rfl, _, rfl, _, rfl, a, _, rfl, s1.seq hS, fun l hl => ?_⟩
  rw [hds]
  have s2 := same_upd (o := .lst (ds.map V.int)) hl
  have hlc1 : (upd H lc (.lst ((List.range n).map fun _ => V.int 0))) lc = some (.lst ((List.range n).map fun _ => V.int 0)) := upd_same
  have hlne : l ≠ lc := fun z => by subst z; rw [hlc1] at hl; cases hl
  refine ⟨l, rfl, ⟨_, SqL.of upd_same⟩, for_enum (K := K) (a := l) (xs := ds.map V.int)
    (fun i σ H2 => ∃ (o4 o5 : Option V) (cs : List Int), σ = [some (.ref a), some (.int s), some (.int m), some (.ref lc), o4, o5] ∧ Same H H2 ∧ H2 l = some (.lst (ds.map V.int)) ∧ H2 lc = some (.lst (cs.map V.int)) ∧ cs.length = n)
    ⟨none, none, List.replicate n 0, rfl, s1.trans s2, upd_same, ?_, by simp⟩ (fun i σ H2 _ ⟨_, _, _, _, _, h, _⟩ => SqL.of h) ?_ ?_⟩
  · rw [upd_ne (Ne.symm hlne), hlc1]
    congr 2
    rw [List.map_const']
    simp
  · rintro i y σ H2 hi ⟨o4, o5, cs, rfl, s3, hl2, hlc2, hcl⟩ e he
    have hid : i < ns.length - s := by
      have := (List.getElem?_eq_some_iff.mp hi).1
      rw [List.length_map] at this
      omega
    rw [List.getElem?_map] at hi
    obtain ⟨z, hz, rfl⟩ : ∃ z, ds[i]? = some z ∧ y = V.int z := by
      cases q : ds[i]? with
      | none => rw [q] at hi; cases hi
      | some z => rw [q] at hi; exact ⟨z, rfl, (Option.some.inj hi).symm⟩
    have hj := hnl i hid
    have s4 := same_upd (o := .tup [.int i, .int z]) he
    have hlc3 := s4 _ _ hlc2
    have em : (i : Int) % (m : Int) = ((i % m : Nat) : Int) := by simp
    have hm0 : (0 : Int) < (m : Int) := by omega
    have hjl : i % m < cs.length := by omega
    refine ⟨e, _, rfl, SqT.of upd_same, rfl, _, _, rfl, _, _, rfl, rfl, ?_⟩
    refine ⟨_, rfl, _, rfl, _, rfl, _, _, rfl, rfl, hm0, lc, _, _, .int cs[i % m], rfl, rfl, SqL.of hlc3, ?_, _, rfl, _, _, rfl, rfl, ?_⟩
    · show atI _ ((i : Int) % (m : Int)) = _
      rw [em]
      refine atI_nat ?_
      rw [List.getElem?_map, List.getElem?_eq_getElem hjl]; rfl
    refine ⟨_, rfl, _, rfl, _, rfl, _, _, rfl, rfl, hm0, lc, _, _, i % m, rfl, rfl, hlc3, ?_, ?_⟩
    · show ixN _ ((i : Int) % (m : Int)) = _
      rw [em]
      unfold ixN
      rw [List.length_map, if_pos (Int.natCast_nonneg _), if_pos (by omega), Int.toNat_natCast]
    · refine ⟨_, _, cs.set (i % m) (cs[i % m] + z), rfl, fun b o eb => ?_, ?_, ?_, by rw [List.length_set]; exact hcl⟩
      · rw [upd_ne (ne_of_none eb hlc)]
        exact s4 _ _ (s3 _ _ eb)
      · rw [upd_ne hlne]; exact s4 _ _ hl2
      · rw [upd_same, List.map_set]
  · rintro σ H2 ⟨o4, o5, cs, rfl, s3, hl2, hlc2, hcl⟩
    exact ⟨_, rfl, k lc cs H2 hlc s3 hlc2 (by omega)⟩
end
end K09

namespace K09
open PySem L2 Mc
/-! ### what a tag tells -/
theorem lkB {n : Nat} (h : n ≤ 100000) : n ≤ sizeLine := Nat.le_trans h (by decide)
theorem opStr_ne (o : Op) : ¬ o.str = ("yes" : Str) ∧ ¬ o.str = ("no" : Str) ∧ ¬ o.str = ("not" : Str) ∧ ¬ o.str = ("name" : Str) := by cases o <;> decide +kernel
theorem tg_nm {t : Tr} (h : V.str t.tag = V.str ("name" : Str)) : ∃ x, t = .nm x := by
  have := (tag_name t).mp (V.str.inj h)
  cases t <;> first | exact ⟨_, rfl⟩ | cases this
theorem tg_yes {t : Tr} (h : V.str t.tag = V.str ("yes" : Str)) : t = .yes := by
  have h := V.str.inj h
  cases t with
  | yes => rfl
  | nm x => exact absurd (show ("name" : Str) = "yes" from h) (by decide +kernel)
  | no => exact absurd (show ("no" : Str) = "yes" from h) (by decide +kernel)
  | not u => exact absurd (show ("not" : Str) = "yes" from h) (by decide +kernel)
  | bin o a b => exact absurd (show o.str = ("yes" : Str) from h) (opStr_ne o).1
theorem tg_no {t : Tr} (h : V.str t.tag = V.str ("no" : Str)) : t = .no := by
  have h := V.str.inj h
  cases t with
  | no => rfl
  | nm x => exact absurd (show ("name" : Str) = "no" from h) (by decide +kernel)
  | yes => exact absurd (show ("yes" : Str) = "no" from h) (by decide +kernel)
  | not u => exact absurd (show ("not" : Str) = "no" from h) (by decide +kernel)
  | bin o a b => exact absurd (show o.str = ("no" : Str) from h) (opStr_ne o).2.1
theorem tg_not {t : Tr} (h : V.str t.tag = V.str ("not" : Str)) : ∃ u, t = .not u := by
  have h := V.str.inj h
  cases t with
  | not u => exact ⟨u, rfl⟩
  | nm x => exact absurd (show ("name" : Str) = "not" from h) (by decide +kernel)
  | yes => exact absurd (show ("yes" : Str) = "not" from h) (by decide +kernel)
  | no => exact absurd (show ("no" : Str) = "not" from h) (by decide +kernel)
  | bin o a b => exact absurd (show o.str = ("not" : Str) from h) (opStr_ne o).2.2.1
theorem tg_bin {t : Tr} (h1 : ¬ V.str t.tag = V.str ("name" : Str)) (h2 : ¬ V.str t.tag = V.str ("yes" : Str)) (h3 : ¬ V.str t.tag = V.str ("no" : Str)) (h4 : ¬ V.str t.tag = V.str ("not" : Str)) : ∃ o a b, t = .bin o a b := by
  cases t with
  | nm x => exact absurd rfl h1
  | yes => exact absurd rfl h2
  | no => exact absurd rfl h3
  | not u => exact absurd rfl h4
  | bin o a b => exact ⟨o, a, b, rfl⟩
theorem nd_of {p : Prop} [Decidable p] (e : ¬ decide p = true) : ¬ p := fun z => e (decide_eq_true z)
theorem trBin {H : Hp} {a : Addr} {o : Op} {x y : Tr} (h : TrAt H (.ref a) (.bin o x y)) : ∃ v u, H a = some (.tup [.str o.str, v, u]) ∧ TrAt H v x ∧ TrAt H u y := by
  cases h with
  | bin e h1 h2 => exact ⟨_, _, e, h1, h2⟩
theorem trNot {H : Hp} {a : Addr} {x : Tr} (h : TrAt H (.ref a) (.not x)) : ∃ v, H a = some (.tup [.str "not", v]) ∧ TrAt H v x := by
  cases h with
  | not e h1 => exact ⟨_, e, h1⟩
theorem trNm {H : Hp} {a : Addr} {x : Str} (h : TrAt H (.ref a) (.nm x)) : H a = some (.tup [.str "name", .str x]) := by
  cases h with
  | nm e => exact e
end K09

namespace K09
open PySem L2 Mc
/-! ### takes_part -/
def isOp (x : Str) : Prop := x = "&" ∨ x = "|" ∨ x = ">" ∨ x = "="
def bindI (x : Str) : Int := if x = "&" then 4 else if x = "|" then 3 else if x = ">" then 2 else 1
def takesF (e l : Str) : Bool := if e = "(" then false else if e = "~" then true else if e = l then !decide (l = ">") else decide (bindI l < bindI e)
abbrev bdL : List (Key × V) := [(.inr "&", .int 4), (.inr "|", .int 3), (.inr ">", .int 2), (.inr "=", .int 1)]
abbrev kdL : List (Key × V) := [(.inr "&", .str "and"), (.inr "|", .str "or"), (.inr ">", .str "then"), (.inr "=", .str "same")]
theorem bd_at {x : Str} (h : isOp x) : valV bdL (.inr x) = some (.int (bindI x)) := by
  rcases h with rfl | rfl | rfl | rfl <;> decide +kernel
theorem bd_no {x : Str} (h : ¬ isOp x) : valV bdL (.inr x) = none := by
  have h1 : ¬ x = "&" := fun z => h (.inl z)
  have h2 : ¬ x = "|" := fun z => h (.inr (.inl z))
  have h3 : ¬ x = ">" := fun z => h (.inr (.inr (.inl z)))
  have h4 : ¬ x = "=" := fun z => h (.inr (.inr (.inr z)))
  simp [valV, List.find?, Ne.symm h1, Ne.symm h2, Ne.symm h3, Ne.symm h4, fun z => h1 (Eq.symm z), fun z => h2 (Eq.symm z), fun z => h3 (Eq.symm z), fun z => h4 (Eq.symm z)]
def spTakes : Sp := fun vs H Q _ => ∃ e l, vs = [.str e, .str l] ∧ (e = "(" ∨ e = "~" ∨ isOp e) ∧ isOp l ∧ Q (.bl (takesF e l)) H
section
variable {P : Program} {w : World} {K : PySem.W.Frag} {mg : Str → Option Value} {base : Heap} {t : Adr}
theorem scTakes : FnScope ["earlier", "later"] ["earlier", "later"] (defScope s_takes_part) := ⟨rfl, rfl, rfl, by decide +kernel, rfl, by decide +kernel, by decide +kernel⟩
theorem ok_takes (T : Txt P w K mg t) : FnOk P w K mg base (CX1 P w) 1 t.a_takes_part t.fd_takes_part ["earlier", "later"] spTakes := by
  refine T.F_takes_part.ok1 scTakes (fun vs H Q E h => by obtain ⟨e, l, rfl, _⟩ := h; rfl) (fun cdv A outer s H vs Q E hr h => ?_)
  obtain ⟨e, l, rfl, he, hl, k⟩ := h
  have nd := scTakes.nd
  have hu := hu_of hr
  refine ⟨_, (pss_cons (ps_if (pt_cmpR op_eq (pvl 0) pe_str (nomark _))
        (pss_one (ps_ret pe_bl))
        pss_nil)
      (pss_cons (ps_if (pt_cmpR op_eq (pvl 0) pe_str (nomark _))
        (pss_one (ps_ret pe_bl))
        pss_nil)
      (pss_cons (ps_if (pt_cmpR op_eq (pvl 0) (pvl 1) (nomark _))
        (pss_one (ps_ret (pe_cmpR op_ne (pvl 1) pe_str (nomark _))))
        pss_nil)
      (pss_one (ps_ret (pe_cmpR op_gt (pe_mget T.d_BINDS hu (pglob (v := .ref t.d_BINDS) T.m_BINDS rfl) (pvl 0) (fun _ _ => rfl)) (pe_mget T.d_BINDS hu (pglob (v := .ref t.d_BINDS) T.m_BINDS rfl) (pvl 1) (fun _ _ => rfl)) (nomark _))))))), ?_⟩
  unfold takesF at k
  refine ⟨_, rfl, rfl, _, rfl, ?_⟩
  refine ite2 (fun e1 => ?_) (fun e1 => ?_)
  · have e1 : e = "(" := V.str.inj (of_decide_eq_true e1)
    rw [if_pos e1] at k
    exact k
  have e1 : ¬ e = "(" := fun z => e1 (decide_eq_true (congrArg V.str z))
  rw [if_neg e1] at k
  refine ⟨_, rfl, rfl, _, rfl, ?_⟩
  refine ite2 (fun e2 => ?_) (fun e2 => ?_)
  · have e2 : e = "~" := V.str.inj (of_decide_eq_true e2)
    rw [if_pos e2] at k
    exact k
  have e2 : ¬ e = "~" := fun z => e2 (decide_eq_true (congrArg V.str z))
  rw [if_neg e2] at k
  have he : isOp e := by rcases he with z | z | z; exact absurd z e1; exact absurd z e2; exact z
  refine ⟨_, rfl, _, rfl, rfl, _, rfl, ?_⟩
  refine ite2 (fun e3 => ?_) (fun e3 => ?_)
  · have e3 : e = l := V.str.inj (of_decide_eq_true e3)
    rw [if_pos e3] at k
    refine ⟨_, rfl, rfl, ?_⟩
    have q : (!decide (V.str l = V.str (Str.ofString ">"))) = !decide (l = ">") := by
      by_cases z : l = ">"
      · simp [z]
      · simp [z]
    rw [q]; exact k
  have e3 : ¬ e = l := fun z => e3 (decide_eq_true (congrArg V.str z))
  rw [if_neg e3] at k
  refine ⟨_, rfl, .inr e, _, rfl, rfl, bd_at he, _, rfl, .inr l, _, rfl, rfl, bd_at hl, _, _, rfl, rfl, ?_⟩
  exact k
end
end K09

namespace K09
open PySem L2 Mc
/-! ### shown -/
def opSign : Op → Str
  | .and => "&"
  | .or => "|"
  | .thn => ">"
  | .same => "="
theorem opSign_op (o : Op) : isOp (opSign o) := by
  cases o
  · exact .inl rfl
  · exact .inr (.inl rfl)
  · exact .inr (.inr (.inl rfl))
  · exact .inr (.inr (.inr rfl))
def brk (b : Bool) (x : Str) : Str := if b = true then ("(" : Str) ++ x ++ (")" : Str) else x
def aheadB (t : Tr) (o : Op) : Bool := match t with | .bin o' _ _ => !takesF (opSign o') (opSign o) | _ => false
def behindB (s : Str) (t : Tr) : Bool := match t with | .bin o' _ _ => takesF s (opSign o') | _ => false
def shownF : Tr → Str
  | .nm x => x
  | .yes => "1"
  | .no => "0"
  | .not t => ("~" : Str) ++ brk (behindB "~" t) (shownF t)
  | .bin o a b => brk (aheadB a o) (shownF a) ++ (" " : Str) ++ opSign o ++ (" " : Str) ++ brk (behindB (opSign o) b) (shownF b)
def Short (t : Tr) : Prop := ∀ x ∈ t.names, x.length ≤ 8
theorem Short.not {t : Tr} (h : Short (.not t)) : Short t := h
theorem Short.left {o : Op} {a b : Tr} (h : Short (.bin o a b)) : Short a := fun x hx => h x (List.mem_append_left _ hx)
theorem Short.right {o : Op} {a b : Tr} (h : Short (.bin o a b)) : Short b := fun x hx => h x (List.mem_append_right _ hx)
theorem len_brk (b : Bool) (x : Str) : (brk b x).length ≤ x.length + 2 := by
  unfold brk
  split
  · rw [Str.length_append, Str.length_append]
    have e1 : ("(" : Str).length = 1 := by decide +kernel
    have e2 : (")" : Str).length = 1 := by decide +kernel
    omega
  · omega
theorem len_sign (o : Op) : (opSign o).length = 1 := by cases o <;> decide +kernel
theorem len_blank : (" " : Str).length = 1 := by decide +kernel
theorem len_wave : ("~" : Str).length = 1 := by decide +kernel
theorem len_shown : ∀ t : Tr, Short t → (shownF t).length ≤ 13 * t.size
  | .nm x, h => by
    have := h x List.mem_cons_self
    show x.length ≤ 13 * 1
    omega
  | .yes, _ => by decide +kernel
  | .no, _ => by decide +kernel
  | .not t, h => by
    have h1 := len_shown t h
    have h2 := len_brk (behindB "~" t) (shownF t)
    have h3 := len_wave
    show (("~" : Str) ++ brk (behindB "~" t) (shownF t)).length ≤ 13 * (t.size + 1)
    rw [Str.length_append]
    omega
  | .bin o a b, h => by
    have h1 := len_shown a h.left
    have h2 := len_shown b h.right
    have h3 := len_brk (aheadB a o) (shownF a)
    have h4 := len_brk (behindB (opSign o) b) (shownF b)
    have h5 := len_sign o
    have h6 := len_blank
    show (brk (aheadB a o) (shownF a) ++ (" " : Str) ++ opSign o ++ (" " : Str) ++ brk (behindB (opSign o) b) (shownF b)).length ≤ 13 * (a.size + b.size + 1)
    rw [Str.length_append, Str.length_append, Str.length_append, Str.length_append]
    omega
abbrev sgL : List (Key × V) := [(.inr "and", .str "&"), (.inr "or", .str "|"), (.inr "then", .str ">"), (.inr "same", .str "=")]
theorem sg_at (o : Op) : valV sgL (.inr o.str) = some (.str (opSign o)) := by cases o <;> decide +kernel
theorem sg_bin {t : Tr} (h : (valV sgL (.inr t.tag)).isSome = true) : ∃ o a b, t = .bin o a b := by
  cases t with
  | bin o a b => exact ⟨o, a, b, rfl⟩
  | nm x => exact absurd h (by show ¬ ((valV sgL (.inr "name")).isSome = true); decide +kernel)
  | yes => exact absurd h (by show ¬ ((valV sgL (.inr "yes")).isSome = true); decide +kernel)
  | no => exact absurd h (by show ¬ ((valV sgL (.inr "no")).isSome = true); decide +kernel)
  | not u => exact absurd h (by show ¬ ((valV sgL (.inr "not")).isSome = true); decide +kernel)
theorem sg_nobin {t : Tr} (h : ¬ (valV sgL (.inr t.tag)).isSome = true) (o : Op) (s : Str) : aheadB t o = false ∧ behindB s t = false := by
  cases t with
  | bin o' a b => exact absurd (show (valV sgL (.inr o'.str)).isSome = true by rw [sg_at]; rfl) h
  | _ => exact ⟨rfl, rfl⟩
def spInB : Sp := fun vs H Q _ => ∃ x b, vs = [.str x, .bl b] ∧ x.length ≤ 20000 ∧ Q (.str (brk b x)) H
def spShown (d : Nat) : Sp := fun vs H Q _ => ∃ v tr, vs = [v] ∧ TrAt H v tr ∧ tr.depth ≤ d ∧ Short tr ∧ tr.size ≤ 1000 ∧ Q (.str (shownF tr)) H
def spAhead (d : Nat) : Sp := fun vs H Q _ => ∃ v tr o, vs = [v, .str (opSign o)] ∧ TrAt H v tr ∧ tr.depth ≤ d ∧ Short tr ∧ tr.size ≤ 1000 ∧ Q (.str (brk (aheadB tr o) (shownF tr))) H
def spBehind (d : Nat) : Sp := fun vs H Q _ => ∃ v tr s, vs = [.str s, v] ∧ (s = "~" ∨ ∃ o, s = opSign o) ∧ TrAt H v tr ∧ tr.depth ≤ d ∧ Short tr ∧ tr.size ≤ 1000 ∧ Q (.str (brk (behindB s tr) (shownF tr))) H
section
variable {P : Program} {w : World} {K : PySem.W.Frag} {mg : Str → Option Value} {base : Heap} {t : Adr}
theorem scInB : FnScope ["text", "needed"] ["text", "needed"] (defScope s_in_brackets) := ⟨rfl, rfl, rfl, by decide +kernel, rfl, by decide +kernel, by decide +kernel⟩
theorem ok_inb (T : Txt P w K mg t) : FnOk P w K mg base (CX1 P w) 1 t.a_in_brackets t.fd_in_brackets ["text", "needed"] spInB := by
  refine T.F_in_brackets.ok1 scInB (fun vs H Q E h => by obtain ⟨x, b, rfl, _⟩ := h; rfl) (fun cdv A outer s H vs Q E hr h => ?_)
  obtain ⟨x, b, rfl, hx, k⟩ := h
  have nd := scInB.nd
  refine ⟨_, (pss_one (ps_ret (pe_ifExp (pt_val (pvl 1)) (pe_fstr3 pe_str (pe_fmtS (pvl 0)) pe_str) (pvl 0)))), ?_⟩
  have e1 : ("(" : Str).length = 1 := by decide +kernel
  have e2 : (")" : Str).length = 1 := by decide +kernel
  unfold brk at k
  refine ⟨_, rfl, _, rfl, ?_⟩
  cases b with
  | true =>
    refine iteT ?_
    refine ⟨_, rfl, lkB (by rw [e1]; decide), _, rfl, _, rfl, lkB (by omega), _, rfl, lkB (by rw [Str.length_append]; omega), _, rfl, lkB (by rw [Str.length_append, Str.length_append]; omega), ?_⟩
    exact k
  | false =>
    refine iteF ?_
    exact ⟨_, rfl, k⟩
theorem scAhead : FnScope ["tree", "sign", "needed"] ["tree", "sign"] (defScope s_shown_ahead) := ⟨rfl, rfl, rfl, by decide +kernel, rfl, by decide +kernel, by decide +kernel⟩
theorem ok_ahead (T : Txt P w K mg t) {d n : Nat} (hn : 1 ≤ n) (G_shown : FnOk P w K mg base (CX1 P w) n t.a_shown t.fd_shown ["tree"] (spShown d)) : FnOk P w K mg base (CX1 P w) (n + 1) t.a_shown_ahead t.fd_shown_ahead ["tree", "sign"] (spAhead d) := by
  have G_takes_part : FnOk P w K mg base (CX1 P w) 1 t.a_takes_part t.fd_takes_part ["earlier", "later"] spTakes := ok_takes T
  have G_in_brackets : FnOk P w K mg base (CX1 P w) 1 t.a_in_brackets t.fd_in_brackets ["text", "needed"] spInB := ok_inb T
  refine T.F_shown_ahead.ok1 scAhead (fun vs H Q E h => by obtain ⟨v, tr, o, rfl, _⟩ := h; rfl) (fun cdv A outer s H vs Q E hr h => ?_)
  obtain ⟨v, tr, o, rfl, ht, hd, hsh, hsz, k⟩ := h
  obtain ⟨a, rest, rfl, ha, hnm, hkid⟩ := ht.open
  have nd := scAhead.nd
  have hu := hu_of hr
  have hl := len_shown tr hsh
  refine ⟨_, (pss_cons (psl 2 nd (pe_and (pe_cmp (pc_min T.d_SIGNS (pe_ix ix_tup (pvl 0) pe_int (fun _ _ => rfl)) (pglob (v := .ref t.d_SIGNS) T.m_SIGNS rfl))) (pe_one (pe_not (pcall G_takes_part (hr.mono (by first | decide | omega)) T.m_takes_part T.k_takes_part T.b_takes_part never1 (pa_cons (pe_mget T.d_SIGNS hu (pglob (v := .ref t.d_SIGNS) T.m_SIGNS rfl) (pe_ix ix_tup (pvl 0) pe_int (fun _ _ => rfl)) (fun _ _ => rfl)) (pa_cons (pvl 1) pa_nil)))))))
      (pss_one (ps_ret (pcall G_in_brackets (hr.mono (by first | decide | omega)) T.m_in_brackets T.k_in_brackets T.b_in_brackets never1 (pa_cons (pcall G_shown (hr.mono (by first | decide | omega)) T.m_shown T.k_shown T.b_shown never1 (pa_cons (pvl 0) pa_nil)) (pa_cons (pvl 2) pa_nil)))))), ?_⟩
  refine ⟨_, rfl, a, _, 0, .str tr.tag, rfl, rfl, SqT.of ha, atI_nat (j := 0) rfl, .inr tr.tag, rfl, rfl, _, rfl, ?_⟩
  refine ite2 (fun e => ?_) (fun e => ?_)
  · obtain ⟨o', x, y, rfl⟩ := sg_bin e
    refine ⟨_, rfl, a, _, 0, .str o'.str, rfl, rfl, SqT.of ha, atI_nat (j := 0) rfl, .inr o'.str, _, rfl, rfl, sg_at o', _, rfl, opSign o', opSign o, rfl, .inr (.inr (opSign_op o')), opSign_op o, _, rfl, ?_⟩
    exact ⟨_, rfl, _, _, rfl, ht, hd, hsh, hsz, _, rfl, _, _, rfl, by omega, k⟩
  · rw [(sg_nobin e o "~").1] at k
    exact ⟨_, rfl, _, _, rfl, ht, hd, hsh, hsz, _, rfl, _, _, rfl, by omega, k⟩
theorem scBehind : FnScope ["sign", "tree", "needed"] ["sign", "tree"] (defScope s_shown_behind) := ⟨rfl, rfl, rfl, by decide +kernel, rfl, by decide +kernel, by decide +kernel⟩
theorem ok_behind (T : Txt P w K mg t) {d n : Nat} (hn : 1 ≤ n) (G_shown : FnOk P w K mg base (CX1 P w) n t.a_shown t.fd_shown ["tree"] (spShown d)) : FnOk P w K mg base (CX1 P w) (n + 1) t.a_shown_behind t.fd_shown_behind ["sign", "tree"] (spBehind d) := by
  have G_takes_part : FnOk P w K mg base (CX1 P w) 1 t.a_takes_part t.fd_takes_part ["earlier", "later"] spTakes := ok_takes T
  have G_in_brackets : FnOk P w K mg base (CX1 P w) 1 t.a_in_brackets t.fd_in_brackets ["text", "needed"] spInB := ok_inb T
  refine T.F_shown_behind.ok1 scBehind (fun vs H Q E h => by obtain ⟨v, tr, o, rfl, _⟩ := h; rfl) (fun cdv A outer s H vs Q E hr h => ?_)
  obtain ⟨v, tr, sg, rfl, hsg, ht, hd, hsh, hsz, k⟩ := h
  obtain ⟨a, rest, rfl, ha, hnm, hkid⟩ := ht.open
  have nd := scBehind.nd
  have hu := hu_of hr
  have hl := len_shown tr hsh
  refine ⟨_, (pss_cons (psl 2 nd (pe_and (pe_cmp (pc_min T.d_SIGNS (pe_ix ix_tup (pvl 1) pe_int (fun _ _ => rfl)) (pglob (v := .ref t.d_SIGNS) T.m_SIGNS rfl))) (pe_one (pcall G_takes_part (hr.mono (by first | decide | omega)) T.m_takes_part T.k_takes_part T.b_takes_part never1 (pa_cons (pvl 0) (pa_cons (pe_mget T.d_SIGNS hu (pglob (v := .ref t.d_SIGNS) T.m_SIGNS rfl) (pe_ix ix_tup (pvl 1) pe_int (fun _ _ => rfl)) (fun _ _ => rfl)) pa_nil))))))
      (pss_one (ps_ret (pcall G_in_brackets (hr.mono (by first | decide | omega)) T.m_in_brackets T.k_in_brackets T.b_in_brackets never1 (pa_cons (pcall G_shown (hr.mono (by first | decide | omega)) T.m_shown T.k_shown T.b_shown never1 (pa_cons (pvl 1) pa_nil)) (pa_cons (pvl 2) pa_nil)))))), ?_⟩
  refine ⟨_, rfl, a, _, 0, .str tr.tag, rfl, rfl, SqT.of ha, atI_nat (j := 0) rfl, .inr tr.tag, rfl, rfl, _, rfl, ?_⟩
  refine ite2 (fun e => ?_) (fun e => ?_)
  · obtain ⟨o', x, y, rfl⟩ := sg_bin e
    have hsg' : sg = "(" ∨ sg = "~" ∨ isOp sg := by
      rcases hsg with z | ⟨o, z⟩
      · exact .inr (.inl z)
      · rw [z]; exact .inr (.inr (opSign_op o))
    refine ⟨_, rfl, _, rfl, a, _, 0, .str o'.str, rfl, rfl, SqT.of ha, atI_nat (j := 0) rfl, .inr o'.str, _, rfl, rfl, sg_at o', sg, opSign o', rfl, hsg', opSign_op o', ?_⟩
    exact ⟨_, rfl, _, _, rfl, ht, hd, hsh, hsz, _, rfl, _, _, rfl, by omega, k⟩
  · rw [(sg_nobin e .and sg).2] at k
    exact ⟨_, rfl, _, _, rfl, ht, hd, hsh, hsz, _, rfl, _, _, rfl, by omega, k⟩
theorem scShown : FnScope ["tree", "kind", "sign"] ["tree"] (defScope s_shown) := ⟨rfl, rfl, rfl, by decide +kernel, rfl, by decide +kernel, by decide +kernel⟩
theorem ok_shown (T : Txt P w K mg t) : ∀ d : Nat, FnOk P w K mg base (CX1 P w) (2 * d + 1) t.a_shown t.fd_shown ["tree"] (spShown d)
  | 0 => by
    refine T.F_shown.ok1 scShown (fun vs H Q E h => by obtain ⟨v, tr, rfl, _⟩ := h; rfl) (fun cdv A outer s H vs Q E hr h => ?_)
    obtain ⟨v, tr, rfl, ht, hd, k⟩ := h
    have := tr.depth_pos
    omega
  | d + 1 => by
    have G_shown_ahead := ok_ahead (T := T) (by omega) (ok_shown T d)
    have G_shown_behind := ok_behind (T := T) (by omega) (ok_shown T d)
    refine T.F_shown.ok1 scShown (fun vs H Q E h => by obtain ⟨v, tr, rfl, _⟩ := h; rfl) (fun cdv A outer s H vs Q E hr h => ?_)
    obtain ⟨v, tr, rfl, ht, hd, hsh, hsz, k⟩ := h
    obtain ⟨a, rest, rfl, ha, hnm, hkid⟩ := ht.open
    have nd := scShown.nd
    have hu := hu_of hr
    refine ⟨_, (pss_cons (psl 1 nd (pe_ix ix_tup (pvl 0) pe_int (fun _ _ => rfl)))
      (pss_cons (ps_if (pt_cmpR op_eq (pvl 1) pe_str (nomark _))
        (pss_one (ps_ret (pe_ix ix_tup (pvl 0) pe_int (fun _ _ => rfl))))
        pss_nil)
      (pss_cons (ps_if (pt_cmpR op_eq (pvl 1) pe_str (nomark _))
        (pss_one (ps_ret pe_str))
        pss_nil)
      (pss_cons (ps_if (pt_cmpR op_eq (pvl 1) pe_str (nomark _))
        (pss_one (ps_ret pe_str))
        pss_nil)
      (pss_cons (ps_if (pt_cmpR op_eq (pvl 1) pe_str (nomark _))
        (pss_one (ps_ret (pe_op op_add_str pe_str (pcall G_shown_behind (hr.mono (by first | decide | omega)) T.m_shown_behind T.k_shown_behind T.b_shown_behind never1 (pa_cons pe_str (pa_cons (pe_ix ix_tup (pvl 0) pe_int (fun _ _ => rfl)) pa_nil))))))
        pss_nil)
      (pss_cons (psl 2 nd (pe_mget T.d_SIGNS hu (pglob (v := .ref t.d_SIGNS) T.m_SIGNS rfl) (pvl 1) (fun _ _ => rfl)))
      (pss_one (ps_ret (pe_op op_add_str (pe_op op_add_str (pe_op op_add_str (pe_op op_add_str (pcall G_shown_ahead (hr.mono (by first | decide | omega)) T.m_shown_ahead T.k_shown_ahead T.b_shown_ahead never1 (pa_cons (pe_ix ix_tup (pvl 0) pe_int (fun _ _ => rfl)) (pa_cons (pvl 2) pa_nil))) pe_str) (pvl 2)) pe_str) (pcall G_shown_behind (hr.mono (by first | decide | omega)) T.m_shown_behind T.k_shown_behind T.b_shown_behind never1 (pa_cons (pvl 2) (pa_cons (pe_ix ix_tup (pvl 0) pe_int (fun _ _ => rfl)) pa_nil)))))))))))), ?_⟩
    refine ⟨_, rfl, a, _, 0, .str tr.tag, rfl, rfl, SqT.of ha, atI_nat (j := 0) rfl, ?_⟩
    refine ⟨_, rfl, rfl, _, rfl, ite2 (fun c => ?N) (fun c1 => ⟨_, rfl, rfl, _, rfl, ite2 (fun c => ?Y) (fun c2 => ⟨_, rfl, rfl, _, rfl, ite2 (fun c => ?O) (fun c3 => ⟨_, rfl, rfl, _, rfl, ite2 (fun c => ?W) (fun c4 => ?B)⟩)⟩)⟩)⟩
    case N =>
      obtain ⟨x, rfl⟩ := tg_nm (of_decide_eq_true c)
      exact ⟨_, rfl, a, _, 1, .str x, rfl, rfl, SqT.of (trNm ht), rfl, k⟩
    case Y =>
      obtain rfl := tg_yes (of_decide_eq_true c)
      exact k
    case O =>
      obtain rfl := tg_no (of_decide_eq_true c)
      exact k
    case W =>
      obtain ⟨u, rfl⟩ := tg_not (of_decide_eq_true c)
      obtain ⟨vu, hau, htu⟩ := trNot ht
      have hl := len_shown u hsh.not
      have hb := len_brk (behindB "~" u) (shownF u)
      have hz : u.size + 1 ≤ 1000 := hsz
      have hdu : u.depth + 1 ≤ d + 1 := hd
      have hw := len_wave
      refine ⟨_, rfl, a, _, 1, vu, rfl, rfl, SqT.of hau, rfl, vu, u, "~", rfl, .inl rfl, htu, by omega, hsh.not, by omega, _, _, rfl, rfl, lkB (by omega), k⟩
    case B =>
      obtain ⟨o, x, y, rfl⟩ := tg_bin (nd_of c1) (nd_of c2) (nd_of c3) (nd_of c4)
      obtain ⟨vx, vy, hab, htx, hty⟩ := trBin ht
      have hl1 := len_shown x hsh.left
      have hl2 := len_shown y hsh.right
      have hb1 := len_brk (aheadB x o) (shownF x)
      have hb2 := len_brk (behindB (opSign o) y) (shownF y)
      have hz : x.size + y.size + 1 ≤ 1000 := hsz
      have hdu : max x.depth y.depth + 1 ≤ d + 1 := hd
      have h5 := len_sign o
      have h6 := len_blank
      refine ⟨_, rfl, .inr o.str, _, rfl, rfl, sg_at o, ?_⟩
      refine ⟨_, rfl, a, _, 1, vx, rfl, rfl, SqT.of hab, rfl, _, rfl, vx, x, o, rfl, htx, by omega, hsh.left, by omega, _, _, rfl, rfl, lkB (by omega), _, rfl, _, _, rfl, rfl, lkB (by rw [Str.length_append]; omega), _, _, rfl, rfl, lkB (by rw [Str.length_append, Str.length_append]; omega),
        _, rfl, _, rfl, a, _, 2, vy, rfl, rfl, SqT.of hab, rfl, vy, y, opSign o, rfl, .inr ⟨o, rfl⟩, hty, by omega, hsh.right, by omega, _, _, rfl, rfl, lkB (by rw [Str.length_append, Str.length_append, Str.length_append]; omega), k⟩
end
end K09

namespace K09
open PySem L2
/-! ### the promises -/
def isLet (c : Nat) : Bool := decide (97 ≤ c) && decide (c ≤ 122)
def isName (x : Str) : Bool := (decide (1 ≤ (x.length : Int)) && decide ((x.length : Int) ≤ 8)) && x.cps.toList.all isLet
/-- the texts that come: few signs, each a code point -/
def Small (x : Str) : Prop := x.length ≤ 1000 ∧ ∀ c ∈ x.cps.toList, c < 16 ^ 8
def spLetter : Sp := fun vs H Q _ => ∃ c, vs = [.str ⟨#[c]⟩] ∧ Q (.bl (isLet c)) H
def spIsName : Sp := fun vs H Q _ => ∃ x, vs = [.str x] ∧ x.length ≤ sizeLine ∧ ∀ H', (∀ b o, H b = some o → H' b = some o) → Q (.bl (isName x)) H'
section
variable {P : Program} {w : World} {K : PySem.W.Frag} {mg : Str → Option Value} {base : Heap} {t : Adr}
theorem lt_one (a b : Nat) : decide (([a] : List Nat) < [b]) = decide (a < b) := by
  have e : (([a] : List Nat) < [b]) ↔ a < b := by simp [List.cons_lt_cons_iff]
  simp [e]
theorem le_a (c : Nat) : (!decide ((⟨#[c]⟩ : Str).cps.toList < (Str.ofString "a").cps.toList)) = decide (97 ≤ c) := by
  show (!decide ([c] < [97])) = _
  rw [lt_one]
  by_cases h : 97 ≤ c
  · simp [h]
  · simp [h]; omega
theorem le_z (c : Nat) : (!decide ((Str.ofString "z").cps.toList < (⟨#[c]⟩ : Str).cps.toList)) = decide (c ≤ 122) := by
  show (!decide ([122] < [c])) = _
  rw [lt_one]
  by_cases h : c ≤ 122
  · simp [h]
  · simp [h]; omega
theorem scLetter : FnScope ["sign"] ["sign"] (defScope s_is_letter) := ⟨rfl, rfl, rfl, by decide +kernel, rfl, by decide +kernel, by decide +kernel⟩
theorem ok_letter (T : Txt P w K mg t) : FnOk P w K mg base (CX1 P w) 1 t.a_is_letter t.fd_is_letter ["sign"] spLetter := by
  refine T.F_is_letter.ok1 scLetter (fun vs H Q E h => by obtain ⟨c, rfl, _⟩ := h; rfl) (fun cdv A outer s H vs Q E hr h => ?_)
  obtain ⟨c, rfl, k⟩ := h
  have nd := scLetter.nd
  refine ⟨_, (pss_one (ps_ret (pe_chain op_le_str op_le_str pe_str (pvl 0) pe_str))), ?_⟩
  refine ⟨_, rfl, _, _, rfl, rfl, ?_⟩
  rw [le_a]
  refine ⟨_, rfl, ?_⟩
  by_cases h1 : 97 ≤ c
  · rw [if_pos (decide_eq_true h1)]
    refine ⟨_, _, rfl, rfl, ?_⟩
    rw [le_z]
    have e : isLet c = decide (c ≤ 122) := by simp [isLet, h1]
    rw [← e]; exact k
  · rw [if_neg (by simpa using h1)]
    have e : isLet c = false := by simp [isLet, h1]
    rw [e] at k; exact k
theorem scIsName : FnScope ["text"] ["text"] (defScope s_is_name) := ⟨rfl, rfl, rfl, by decide +kernel, rfl, by decide +kernel, by decide +kernel⟩
theorem ok_isname (T : Txt P w K mg t) : FnOk P w K mg base (CX1 P w) 2 t.a_is_name t.fd_is_name ["text"] spIsName := by
  refine T.F_is_name.ok1 scIsName (fun vs H Q E h => by obtain ⟨x, rfl, _⟩ := h; rfl) (fun cdv A outer s H vs Q E hr h => ?_)
  obtain ⟨x, rfl, hx, k⟩ := h
  have nd := scIsName.nd
  have G_is_letter : FnOk P w K mg base (CX1 P w) 1 t.a_is_letter t.fd_is_letter ["sign"] spLetter := ok_letter T
  refine ⟨_, (pss_one (ps_ret (pe_and (pe_chain op_le op_le pe_int (pcallB call_len_str T.n_len Bt.len (pa_cons (pvl 0) pa_nil)) (pglob (v := .int 8) T.m_LONGEST_NAME ⟨_, rfl⟩)) (pe_one (pcallB (call_allB rfl) T.n_all Bt.all (pa_cons (pe_comp rfl ["sign"] [none] (pi_str (pvl 0)) (by kernel_rfl) (fun _ _ _ _ _ _ => (pgl 0 (show List.Nodup (α := PySem.Str) ["sign"] by decide +kernel))) (fun _ _ _ _ _ _ => pts_nil) (fun _ _ _ _ _ _ => (pcall G_is_letter (hr.mono (by first | decide | omega)) T.m_is_letter T.k_is_letter T.b_is_letter never1 (pa_cons (pvl 0) pa_nil)))) pa_nil)))))), ?_⟩
  refine ⟨_, rfl, _, rfl, hx, _, _, rfl, rfl, _, rfl, ?_⟩
  have fin : isName x = false → Q (.bl false) H := fun e => by have := k H (fun _ _ z => z); rw [e] at this; exact this
  refine ite2 (fun e1 => ?_) (fun e1 => ⟨_, rfl, fin (by simp at e1; simp [isName]; omega)⟩)
  have e1 := of_decide_eq_true e1
  refine ⟨_, _, rfl, rfl, _, rfl, ?_⟩
  refine ite2 (fun e2 => ?_) (fun e2 => fin (by simp at e2; simp [isName]; omega))
  have e2 := of_decide_eq_true e2
  refine ⟨_, rfl, x, rfl, comp_str_map (fun c => .bl (isLet c)) hx (fun c R _ hR => ⟨True.intro, _, rfl, c, rfl, hR⟩) fun p hp => ?_⟩
  refine ⟨p, x.cps.toList.map isLet, rfl, ?_, ?_⟩
  · refine SqL.of ?_
    rw [upd_same, List.map_map]; rfl
  · have := k (upd H p (.lst (x.cps.toList.map fun c => V.bl (isLet c)))) (fun b o q => by rw [upd_ne (fun z => by rw [z, hp] at q; cases q)]; exact q)
    have e : isName x = (x.cps.toList.map isLet).all id := by simp [isName, e1, e2]
    rw [e] at this
    exact this
/-- a leaf, or a refusal -/
def spWLeaf (t : Adr) : Sp := fun vs H Q E => ∃ x, vs = [.str x] ∧ Small x ∧
  ((x = "1" ∧ ∀ p, H p = none → Q (.ref p) (upd H p (.tup [.str "yes"]))) ∨ (x = "0" ∧ ∀ p, H p = none → Q (.ref p) (upd H p (.tup [.str "no"]))) ∨
   (¬ x = "1" ∧ ¬ x = "0" ∧ ∀ H', (∀ b o, H b = some o → H' b = some o) → if isName x = true then ∀ p, H' p = none → Q (.ref p) (upd H' p (.tup [.str "name", .str x])) else E (.ref t.c_NoSentence) none H'))
theorem scWLeaf : FnScope ["word"] ["word"] (defScope s_leaf) := ⟨rfl, rfl, rfl, by decide +kernel, rfl, by decide +kernel, by decide +kernel⟩
theorem ok_wleaf (T : Txt P w K mg t) : FnOk P w K mg base (CX1 P w) 3 t.a_leaf t.fd_leaf ["word"] (spWLeaf t) := by
  refine T.F_leaf.ok1 scWLeaf (fun vs H Q E h => by obtain ⟨x, rfl, _⟩ := h; rfl) (fun cdv A outer s H vs Q E hr h => ?_)
  obtain ⟨x, rfl, hx, k⟩ := h
  have nd := scWLeaf.nd
  have G_is_name : FnOk P w K mg base (CX1 P w) 2 t.a_is_name t.fd_is_name ["text"] spIsName := ok_isname T
  refine ⟨_, (pss_cons (ps_if (pt_cmpR op_eq (pvl 0) pe_str (nomark _))
        (pss_one (ps_ret (pe_tup (pa_cons pe_str pa_nil))))
        pss_nil)
      (pss_cons (ps_if (pt_cmpR op_eq (pvl 0) pe_str (nomark _))
        (pss_one (ps_ret (pe_tup (pa_cons pe_str pa_nil))))
        pss_nil)
      (pss_cons (ps_if (pt_not (pt_val (pcall G_is_name (hr.mono (by first | decide | omega)) T.m_is_name T.k_is_name T.b_is_name never1 (pa_cons (pvl 0) pa_nil))))
        (pss_one (ps_raise raises1 rfl T.m_NoSentence T.e_NoSentence (pa_cons (pe_fstr2 pe_str (pe_fmtR (pvl 0))) pa_nil)))
        pss_nil)
      (pss_one (ps_ret (pe_tup (pa_cons pe_str (pa_cons (pvl 0) pa_nil)))))))), ?_⟩
  refine ⟨_, rfl, rfl, _, rfl, ?_⟩
  refine ite2 (fun e => ?_) (fun e => ?_)
  · have e : x = "1" := V.str.inj (of_decide_eq_true e)
    rcases k with ⟨_, k⟩ | ⟨e', _⟩ | ⟨e', _⟩
    · exact ⟨(by show 1 ≤ sizeLine; decide), fun p hp => k p hp⟩
    · rw [e] at e'; exact absurd e' (by decide +kernel)
    · exact absurd e e'
  have e1 : ¬ x = "1" := fun z => e (decide_eq_true (congrArg V.str z))
  refine ⟨_, rfl, rfl, _, rfl, ?_⟩
  refine ite2 (fun e => ?_) (fun e => ?_)
  · have e : x = "0" := V.str.inj (of_decide_eq_true e)
    rcases k with ⟨e', _⟩ | ⟨_, k⟩ | ⟨_, e', _⟩
    · exact absurd e' e1
    · exact ⟨(by show 1 ≤ sizeLine; decide), fun p hp => k p hp⟩
    · exact absurd e e'
  have e0 : ¬ x = "0" := fun z => e (decide_eq_true (congrArg V.str z))
  have k : ∀ H', (∀ b o, H b = some o → H' b = some o) → if isName x = true then ∀ p, H' p = none → Q (.ref p) (upd H' p (.tup [.str "name", .str x])) else E (.ref t.c_NoSentence) none H' := by
    rcases k with ⟨e', _⟩ | ⟨e', _⟩ | ⟨_, _, k⟩
    · exact absurd e' e1
    · exact absurd e' e0
    · exact k
  refine ⟨_, rfl, x, rfl, Nat.le_trans hx.1 (by decide), fun H' s' => ?_⟩
  have k' := k H' s'
  refine ⟨_, rfl, ?_⟩
  cases hn : isName x with
  | true =>
    rw [hn, if_pos rfl] at k'
    exact ⟨_, rfl, (by show 2 ≤ sizeLine; decide), fun p hp => k' p hp⟩
  | false =>
    rw [hn, if_neg (by decide)] at k'
    rw [if_pos (show (!false) = true from rfl)]
    refine ⟨_, rfl, (by decide +kernel), _, rfl, x, rfl, repr_fits hx.2 hx.1, _, rfl, ?_, (by show 1 ≤ sizeLine; decide), k'⟩
    have e1 := PySem.StrLaws.reprText_len x hx.2
    have e2 := hx.1
    rw [strLen_append]
    have e3 : (Str.ofString "no part of a sentence begins with ").length = 34 := by decide +kernel
    rw [e3]
    unfold sizeLine
    omega
end
end K09

namespace K09
open PySem L2 Mc
/-! ### words_of -/
def wstep (st : List Str × Str) (c : Nat) : List Str × Str :=
  if isLet c = true then (st.1, st.2 ++ ⟨#[c]⟩) else
    (if c = 32 then (if st.2 = "" then st.1 else st.1 ++ [st.2]) else (if st.2 = "" then st.1 else st.1 ++ [st.2]) ++ [⟨#[c]⟩], "")
def wfold (l : List Nat) : List Str × Str := l.foldl wstep ([], "")
theorem wfold_snoc (l : List Nat) (c : Nat) : wfold (l ++ [c]) = wstep (wfold l) c := by simp [wfold]
def wordsF (x : Str) : List Str := (wfold (x.cps.toList ++ [32])).1
theorem wstep_len {st : List Str × Str} {c n : Nat} (h1 : st.1.length ≤ 2 * n) (h2 : st.2.length ≤ n) : (wstep st c).1.length ≤ 2 * (n + 1) ∧ (wstep st c).2.length ≤ n + 1 := by
  unfold wstep
  have e0 : (Str.ofString "").length = 0 := rfl
  split
  · refine ⟨by show st.1.length ≤ _; omega, ?_⟩
    show (st.2 ++ ⟨#[c]⟩ : Str).length ≤ _
    rw [strLen_append]
    have : (⟨#[c]⟩ : Str).length = 1 := rfl
    omega
  · refine ⟨?_, ?_⟩
    · show (if c = 32 then _ else _ : List Str).length ≤ _
      split <;> split <;> first | omega | (simp only [List.length_append, List.length_cons, List.length_nil]; omega)
    · show (Str.ofString "").length ≤ _
      rw [e0]; exact Nat.zero_le _
theorem wfold_len : ∀ (k : Nat) (l : List Nat), l.length = k → (wfold l).1.length ≤ 2 * l.length ∧ (wfold l).2.length ≤ l.length
  | 0, l, h => by
    have : l = [] := List.length_eq_zero_iff.mp h
    subst this
    exact ⟨Nat.le_refl _, Nat.le_refl _⟩
  | k + 1, l, h => by
    have hne : l ≠ [] := fun z => by rw [z] at h; cases h
    obtain ⟨l', c, rfl⟩ : ∃ l' c, l = l' ++ [c] := ⟨l.dropLast, l.getLast hne, (List.dropLast_concat_getLast hne).symm⟩
    rw [wfold_snoc]
    have hk : l'.length = k := by simpa using h
    obtain ⟨h1, h2⟩ := wfold_len k l' hk
    have := wstep_len (c := c) h1 h2
    simpa using this
def spWords : Sp := fun vs H Q _ => ∃ x, vs = [.str x] ∧ x.length ≤ 1000 ∧ ∀ p, H p = none → Q (.ref p) (upd H p (.lst ((wordsF x).map V.str)))
section
variable {P : Program} {w : World} {K : PySem.W.Frag} {mg : Str → Option Value} {base : Heap} {t : Adr}
theorem scWords : FnScope ["text", "words", "name", "sign"] ["text"] (defScope s_words_of) := ⟨rfl, rfl, rfl, by decide +kernel, rfl, by decide +kernel, by decide +kernel⟩
theorem ok_words (T : Txt P w K mg t) : FnOk P w K mg base (CX1 P w) 2 t.a_words_of t.fd_words_of ["text"] spWords := by
  refine T.F_words_of.ok1 scWords (fun vs H Q E h => by obtain ⟨x, rfl, _⟩ := h; rfl) (fun cdv A outer s H vs Q E hr h => ?_)
  obtain ⟨x, rfl, hx, k⟩ := h
  have nd := scWords.nd
  have G_is_letter : FnOk P w K mg base (CX1 P w) 1 t.a_is_letter t.fd_is_letter ["sign"] spLetter := ok_letter T
  refine ⟨_, (pss_cons (psl 1 nd (pe_lst pa_nil))
      (pss_cons (psl 2 nd pe_str)
      (pss_cons (ps_for own1 rfl (pi_str (pe_op op_add_str (pvl 0) pe_str)) (pgl 3 nd)
        (pss_cons (ps_if (pt_val (pcall G_is_letter (hr.mono (by first | decide | omega)) T.m_is_letter T.k_is_letter T.b_is_letter never1 (pa_cons (pvl 3) pa_nil)))
          (pss_cons (pal 2 nd (pvl 3) iop_add_str)
          (pss_one ps_continue))
          pss_nil)
        (pss_cons (ps_if (pt_cmpR op_ne (pvl 2) pe_str (nomark _))
          (pss_cons (ps_expr (pe_bm PySem.F.plainAttrs_list PySem.F.slot_list_append PySem.F.type_list_append mt_append (pvl 1) (pa_cons (pvl 2) pa_nil)))
          (pss_one (psl 2 nd pe_str)))
          pss_nil)
        (pss_one (ps_if (pt_cmpR op_ne (pvl 3) pe_str (nomark _))
          (pss_one (ps_expr (pe_bm PySem.F.plainAttrs_list PySem.F.slot_list_append PySem.F.type_list_append mt_append (pvl 1) (pa_cons (pvl 3) pa_nil))))
          pss_nil)))))
      (pss_one (ps_ret (pvl 1)))))), ?_⟩
  have hl : x.length + (Str.ofString " ").length ≤ sizeLine := by
    have : (Str.ofString " ").length = 1 := rfl
    unfold sizeLine; omega
  refine ⟨Nat.zero_le _, fun p hp => ?_⟩
  refine ⟨_, rfl, _, _, rfl, rfl, hl, _, rfl, for_str (x := x ++ Str.ofString " ") (fun i σ H2 => ∃ sg, σ = [some (.str x), some (.ref p), some (.str (wfold ((x ++ Str.ofString " ").cps.toList.take i)).2), sg] ∧ H2 = upd H p (.lst ((wfold ((x ++ Str.ofString " ").cps.toList.take i)).1.map V.str)))
    ⟨none, rfl, rfl⟩ ?_ ?_⟩
  · rintro i c σ H2 hi ⟨sg, rfl, rfl⟩
    have hi' : (x ++ Str.ofString " ").cps.toList[i]? = some c := by simpa using hi
    have e1 : wfold ((x ++ Str.ofString " ").cps.toList.take (i + 1)) = wstep (wfold ((x ++ Str.ofString " ").cps.toList.take i)) c := by
      rw [List.take_add_one, hi']; exact wfold_snoc _ _
    have hb := wfold_len _ ((x ++ Str.ofString " ").cps.toList.take i) rfl
    have hn : ((x ++ Str.ofString " ").cps.toList.take i).length ≤ 1001 := by
      have q1 : (x ++ Str.ofString " ").length = x.length + 1 := strLen_append _ _
      have q2 : (x ++ Str.ofString " ").cps.toList.length = (x ++ Str.ofString " ").length := by simp [Str.length]
      rw [List.length_take]; omega
    rw [e1]
    generalize wfold ((x ++ Str.ofString " ").cps.toList.take i) = st at hb ⊢
    obtain ⟨ws, nm⟩ := st
    obtain ⟨hb1, hb2⟩ := hb
    dsimp only at hb1 hb2 ⊢
    refine ⟨_, rfl, c, rfl, _, rfl, ?_⟩
    unfold wstep
    cases hL : isLet c with
    | true =>
      rw [if_pos rfl]
      refine ⟨_, rfl, _, rfl, _, _, rfl, rfl, ?_, ⟨_, rfl, rfl⟩⟩
      have : (⟨#[c]⟩ : Str).length = 1 := rfl
      unfold sizeLine; omega
    | false =>
      rw [if_neg (by decide)]
      have hc : (⟨#[c]⟩ : Str) = Str.ofString " " ↔ c = 32 := by
        constructor
        · intro z
          have z := congrArg (fun y : Str => y.cps.toList) z
          have z : [c] = [32] := z
          simpa using z
        · rintro rfl; rfl
      refine ⟨_, rfl, rfl, _, rfl, ?_⟩
      refine ite2 (fun e => ?_) (fun e => ?_)
      · have e : ¬ nm = "" := by
          intro z; subst z; simp at e
        refine ⟨_, rfl, .inl ⟨rfl, _, SqL.of upd_same⟩, _, rfl, p, _, _, rfl, rfl, upd_same, (by unfold sizeLine; simp; omega), ?_⟩
        refine ⟨_, rfl, rfl, _, rfl, ?_⟩
        refine ite2 (fun e2 => ?_) (fun e2 => ?_)
        · have e2 : ¬ c = 32 := by
            intro z; have := hc.mpr z; rw [this] at e2; simp at e2
          refine ⟨_, rfl, .inl ⟨rfl, _, SqL.of upd_same⟩, _, rfl, p, _, _, rfl, rfl, upd_same, (by unfold sizeLine; simp; omega), ?_⟩
          refine ⟨_, rfl, ?_⟩
          rw [upd_upd, upd_upd]
          simp [e, e2]
        · have e2 : c = 32 := by
            apply Classical.byContradiction; intro z
            exact e2 (by simp [show ¬ (⟨#[c]⟩ : Str) = Str.ofString " " from fun y => z (hc.mp y)])
          refine ⟨_, rfl, ?_⟩
          rw [upd_upd]
          simp [e, e2]
      · have e : nm = "" := by
          apply Classical.byContradiction; intro z
          exact e (by simp [z])
        refine ⟨_, rfl, rfl, _, rfl, ?_⟩
        refine ite2 (fun e2 => ?_) (fun e2 => ?_)
        · have e2 : ¬ c = 32 := by
            intro z; have := hc.mpr z; rw [this] at e2; simp at e2
          refine ⟨_, rfl, .inl ⟨rfl, _, SqL.of upd_same⟩, _, rfl, p, _, _, rfl, rfl, upd_same, (by unfold sizeLine; simp; omega), ?_⟩
          refine ⟨_, by rw [e]; rfl, ?_⟩
          rw [upd_upd]
          simp [e, e2]
        · have e2 : c = 32 := by
            apply Classical.byContradiction; intro z
            exact e2 (by simp [show ¬ (⟨#[c]⟩ : Str) = Str.ofString " " from fun y => z (hc.mp y)])
          refine ⟨_, by rw [e]; rfl, ?_⟩
          simp [e, e2]
  · rintro σ H2 ⟨sg, rfl, rfl⟩
    have e : (x ++ Str.ofString " ").cps.toList.take (x ++ Str.ofString " ").cps.size = x.cps.toList ++ [32] := by
      rw [List.take_of_length_le (by simp)]
      show (x.cps ++ #[32]).toList = _
      simp
    rw [e]
    exact ⟨_, rfl, k p hp⟩
end
end K09

namespace K09
open PySem L2 Mc
/-! ### Unfinished -/
theorem ts_ne : ¬ (("trees" : Str) = "signs") := by decide +kernel
/-- the attributes, in the order in which they are stored -/
def fl (tl sl : Addr) : List (Str × V) := putF "signs" (.ref sl) (putF "trees" (.ref tl) [])
theorem fl_trees (tl sl : Addr) : (fl tl sl).lookup ("trees" : Str) = some (.ref tl) := by
  unfold fl
  rw [lookup_putF, if_neg ts_ne, lookup_putF, if_pos rfl]
theorem fl_signs (tl sl : Addr) : (fl tl sl).lookup ("signs" : Str) = some (.ref sl) := by
  unfold fl
  rw [lookup_putF, if_pos rfl]
theorem fl_no (tl sl : Addr) {m : Str} (h1 : ¬ m = "signs") (h2 : ¬ m = "trees") : (fl tl sl).lookup m = none := by
  unfold fl
  rw [lookup_putF, if_neg h1, lookup_putF, if_neg h2]
  all_goals rfl
/-- an Unfinished at p: its trees and its signs, the last one first -/
structure UAt (C : Addr) (H : Hp) (p dx tl sl : Addr) (ts : List Tr) (ss : List Str) : Prop where
  ob : H p = some (.ins C dx (fl tl sl))
  ne : tl ≠ sl
  tr : ∃ us, H tl = some (.lst us) ∧ Paired (TrAt H) us.reverse ts
  sg : H sl = some (.lst (ss.reverse.map V.str))
/-- all but the two lists stays -/
def Keep (tl sl : Addr) (H H' : Hp) : Prop := ∀ b o, H b = some o → b ≠ tl → b ≠ sl → H' b = some o
theorem Keep.tups {tl sl : Addr} {H H' : Hp} (k : Keep tl sl H H') {us us' : List V} (h1 : H tl = some (.lst us)) (h2 : H sl = some (.lst us')) : Tups H H' := fun b xs e => k b _ e (ne_of e h1 (by intro z; cases z)) (ne_of e h2 (by intro z; cases z))
def spUInit (C : Addr) : Sp := fun vs H Q _ => ∃ p dx, vs = [.ref p] ∧ H p = some (.ins C dx []) ∧ ∀ tl sl H', H tl = none → H sl = none → UAt C H' p dx tl sl [] [] → (∀ b o, H b = some o → b ≠ p → H' b = some o) → Q .non H'
def opOf (x : Str) : Op := if x = "&" then .and else if x = "|" then .or else if x = ">" then .thn else .same
theorem kd_at {x : Str} (h : isOp x) : valV kdL (.inr x) = some (.str (opOf x).str) := by
  rcases h with rfl | rfl | rfl | rfl <;> decide +kernel
def foldT (s : Str) : List Tr → List Tr
  | r :: rest => if s = "~" then .not r :: rest else match rest with
    | l :: rest' => .bin (opOf s) l r :: rest'
    | [] => [r]
  | [] => []
def spFold (C : Addr) : Sp := fun vs H Q _ => ∃ p dx tl sl ts s ss, vs = [.ref p] ∧ UAt C H p dx tl sl ts (s :: ss) ∧ ((s = "~" ∧ 1 ≤ ts.length) ∨ (isOp s ∧ 2 ≤ ts.length)) ∧ ts.length ≤ 5000 ∧ ∀ H', UAt C H' p dx tl sl (foldT s ts) ss → Keep tl sl H H' → Q .non H'
section
variable {P : Program} {w : World} {K : PySem.W.Frag} {mg : Str → Option Value} {base : Heap} {t : Adr}
theorem scUInit : FnScope ["self"] ["self"] (defScope s_Unfinished___init__) := ⟨rfl, rfl, rfl, by decide +kernel, rfl, by decide +kernel, by decide +kernel⟩
theorem ok_uinit (T : Txt P w K mg t) : FnOk P w K mg base (CX1 P w) 1 t.a_Unfinished___init__ t.fd_Unfinished___init__ ["self"] (spUInit t.c_Unfinished) := by
  refine T.F_Unfinished___init__.ok1 scUInit (fun vs H Q E h => by obtain ⟨p, dx, rfl, _⟩ := h; rfl) (fun cdv A outer s H vs Q E hr h => ?_)
  obtain ⟨p, dx, rfl, hp, k⟩ := h
  have nd := scUInit.nd
  refine ⟨_, (pss_cons (ps_fld (pvl 0) (pe_lst pa_nil) rfl)
      (pss_one (ps_fld (pvl 0) (pe_lst pa_nil) rfl))), ?_⟩
  refine ⟨Nat.zero_le _, fun tl htl => ?_⟩
  have n1 : p ≠ tl := ne_of_none hp htl
  refine ⟨_, rfl, p, t.c_Unfinished, dx, _, rfl, by rw [upd_ne n1]; exact hp, T.cl_Unfinished, T.no_Unfinished_trees, (by show 0 < 1000; decide), ?_⟩
  refine ⟨Nat.zero_le _, fun sl hsl => ?_⟩
  have n2 : p ≠ sl := ne_of_none upd_same hsl
  have n3 : tl ≠ sl := by
    intro z; subst z
    rw [upd_ne (Ne.symm n1), upd_same] at hsl; cases hsl
  refine ⟨_, rfl, p, t.c_Unfinished, dx, _, rfl, by rw [upd_ne n2, upd_same], T.cl_Unfinished, T.no_Unfinished_signs, (by show 1 < 1000; decide), ?_⟩
  refine k tl sl _ htl ?_ ⟨upd_same, n3, ⟨[], ?_, .nil⟩, ?_⟩ fun b o e hb => ?_
  · rw [upd_ne (Ne.symm n2), upd_ne (Ne.symm n3)] at hsl; exact hsl
  · rw [upd_ne (Ne.symm n1), upd_ne n3, upd_ne (Ne.symm n1), upd_same]
  · rw [upd_ne (Ne.symm n2), upd_same]; rfl
  · have b1 : b ≠ tl := ne_of_none e htl
    have b2 : b ≠ sl := ne_of_none (by rw [upd_ne hb, upd_ne b1]; exact e) hsl
    rw [upd_ne hb, upd_ne b2, upd_ne hb, upd_ne b1]; exact e
/-! ### fold -/
theorem scFold : FnScope ["self", "sign", "right", "left"] ["self"] (defScope s_Unfinished_fold) := ⟨rfl, rfl, rfl, by decide +kernel, rfl, by decide +kernel, by decide +kernel⟩
theorem ok_fold (T : Txt P w K mg t) : FnOk P w K mg base (CX1 P w) 1 t.a_Unfinished_fold t.fd_Unfinished_fold ["self"] (spFold t.c_Unfinished) := by
  refine T.F_Unfinished_fold.ok1 scFold (fun vs H Q E h => by obtain ⟨p, dx, tl, sl, ts, s, ss, rfl, _⟩ := h; rfl) (fun cdv A outer s H vs Q E hr h => ?_)
  obtain ⟨p, dx, tl, sl, ts, sg, ss, rfl, U, hs, hl, k⟩ := h
  have nd := scFold.nd
  have hu := hu_of hr
  refine ⟨_, (pss_cons (psl 1 nd (pe_bm0 PySem.F.plainAttrs_list PySem.F.slot_list_pop PySem.F.type_list_pop mt_pop (pe_fld (pvl 0) rfl)))
      (pss_cons (psl 2 nd (pe_bm0 PySem.F.plainAttrs_list PySem.F.slot_list_pop PySem.F.type_list_pop mt_pop (pe_fld (pvl 0) rfl)))
      (pss_cons (ps_if (pt_cmpR op_eq (pvl 1) pe_str (nomark _))
        (pss_cons (ps_expr (pe_bm PySem.F.plainAttrs_list PySem.F.slot_list_append PySem.F.type_list_append mt_append (pe_fld (pvl 0) rfl) (pa_cons (pe_tup (pa_cons pe_str (pa_cons (pvl 2) pa_nil))) pa_nil)))
        (pss_one ps_retN))
        pss_nil)
      (pss_cons (psl 3 nd (pe_bm0 PySem.F.plainAttrs_list PySem.F.slot_list_pop PySem.F.type_list_pop mt_pop (pe_fld (pvl 0) rfl)))
      (pss_one (ps_expr (pe_bm PySem.F.plainAttrs_list PySem.F.slot_list_append PySem.F.type_list_append mt_append (pe_fld (pvl 0) rfl) (pa_cons (pe_tup (pa_cons (pe_mget T.d_KINDS hu (pglob (v := .ref t.d_KINDS) T.m_KINDS rfl) (pvl 1) (fun _ _ => rfl)) (pa_cons (pvl 3) (pa_cons (pvl 2) pa_nil)))) pa_nil)))))))), ?_⟩
  obtain ⟨ob, ne, ⟨us, htl, hpu⟩, hsl⟩ := U
  have hsl' : H sl = some (.lst (ss.reverse.map V.str ++ [.str sg])) := by rw [hsl]; simp
  have nps : p ≠ sl := ne_of ob hsl (by intro z; cases z)
  have npt : p ≠ tl := ne_of ob htl (by intro z; cases z)
  obtain ⟨r, rest, rfl⟩ : ∃ r rest, ts = r :: rest := by
    cases ts with
    | nil => rcases hs with ⟨_, z⟩ | ⟨_, z⟩ <;> simp at z
    | cons r rest => exact ⟨r, rest, rfl⟩
  obtain ⟨ur, vr, hus, hr1, hpr⟩ : ∃ ur vr, us = vr.reverse ++ [ur] ∧ TrAt H ur r ∧ Paired (TrAt H) vr rest := by
    generalize hq : us.reverse = q at hpu
    cases hpu with
    | cons h1 h2 => exact ⟨_, _, by rw [← List.reverse_reverse us, hq]; simp, h1, h2⟩
  subst hus
  refine ⟨_, rfl, p, t.c_Unfinished, dx, _, _, rfl, ob, T.cl_Unfinished, T.no_Unfinished_signs, fl_signs _ _, .inl ⟨rfl, _, SqL.of hsl⟩, sl, _, .str sg, rfl, rfl, hsl', by simp, ?_⟩
  rw [List.dropLast_concat]
  generalize hH1 : upd H sl (.lst (ss.reverse.map V.str)) = H1
  have o1 : ∀ b, b ≠ sl → H1 b = H b := fun b hb => by rw [← hH1, upd_ne hb]
  refine ⟨_, rfl, p, t.c_Unfinished, dx, _, _, rfl, (o1 p nps).trans ob, T.cl_Unfinished, T.no_Unfinished_trees, fl_trees _ _, .inl ⟨rfl, _, SqL.of ((o1 tl ne).trans htl)⟩, tl, _, ur, rfl, rfl, (o1 tl ne).trans htl, by simp, ?_⟩
  rw [List.dropLast_concat]
  generalize hH2 : upd H1 tl (.lst vr.reverse) = H2
  have o2 : ∀ b, b ≠ sl → b ≠ tl → H2 b = H b := fun b hb hb' => by rw [← hH2, upd_ne hb', o1 b hb]
  have htl2 : H2 tl = some (.lst vr.reverse) := by rw [← hH2, upd_same]
  have hsl2 : H2 sl = some (.lst (ss.reverse.map V.str)) := by rw [← hH2, upd_ne (Ne.symm ne), ← hH1, upd_same]
  have tup2 : Tups H H2 := fun b xs e => (o2 b (ne_of e hsl (by intro z; cases z)) (ne_of e htl (by intro z; cases z))).trans e
  refine ⟨_, rfl, rfl, _, rfl, ?_⟩
  refine ite2 (fun e => ?_) (fun e => ?_)
  · have e : sg = "~" := V.str.inj (of_decide_eq_true e)
    refine ⟨_, rfl, p, t.c_Unfinished, dx, _, _, rfl, (o2 p nps npt).trans ob, T.cl_Unfinished, T.no_Unfinished_trees, fl_trees _ _, .inl ⟨rfl, _, SqL.of htl2⟩, _, rfl, (by show 2 ≤ sizeLine; decide), fun q hq => ?_⟩
    have n1 : tl ≠ q := ne_of_none htl2 hq
    have n2 : sl ≠ q := ne_of_none hsl2 hq
    refine ⟨tl, _, _, rfl, rfl, by rw [upd_ne n1]; exact htl2, ?_, ?_⟩
    · have := Paired.length hpr
      simp at hl ⊢; unfold sizeLine; omega
    have up : ∀ b o, H2 b = some o → b ≠ tl → upd (upd H2 q (.tup [.str "not", ur])) tl (.lst (vr.reverse ++ [.ref q])) b = some o := fun b o z hb => by
      rw [upd_ne hb, upd_ne (ne_of_none z hq)]; exact z
    have tup3 : Tups H (upd (upd H2 q (.tup [.str "not", ur])) tl (.lst (vr.reverse ++ [.ref q]))) := fun b xs z => up b _ (tup2 b xs z) (ne_of z htl (by intro z; cases z))
    refine k _ ⟨up p _ ((o2 p nps npt).trans ob) npt, ne, ⟨_, upd_same, ?_⟩, up sl _ hsl2 (Ne.symm ne)⟩ fun b o z h1 h2 => up b o ((o2 b h2 h1).trans z) h1
    rw [List.reverse_append]
    simp only [foldT, e, if_true, List.reverse_reverse]
    refine .cons (.not ?_ (hr1.mono tup3)) (paired_mono tup3 hpr)
    rw [upd_ne (Ne.symm n1), upd_same]
  · have e : ¬ sg = "~" := fun z => e (decide_eq_true (congrArg V.str z))
    obtain ⟨hop, h2⟩ : isOp sg ∧ 2 ≤ (r :: rest).length := by rcases hs with ⟨z, _⟩ | z; exact absurd z e; exact z
    obtain ⟨l, rest', rfl⟩ : ∃ l rest', rest = l :: rest' := by
      cases rest with
      | nil => simp at h2
      | cons l rest' => exact ⟨l, rest', rfl⟩
    obtain ⟨ul, vr', rfl, hl1, hpr⟩ : ∃ ul vr', vr = ul :: vr' ∧ TrAt H ul l ∧ Paired (TrAt H) vr' rest' := by
      cases hpr with
      | cons h1 h2 => exact ⟨_, _, rfl, h1, h2⟩
    have htl2' : H2 tl = some (.lst (vr'.reverse ++ [ul])) := by rw [htl2]; simp
    refine ⟨_, rfl, p, t.c_Unfinished, dx, _, _, rfl, (o2 p nps npt).trans ob, T.cl_Unfinished, T.no_Unfinished_trees, fl_trees _ _, .inl ⟨rfl, _, SqL.of htl2⟩, tl, _, ul, rfl, rfl, htl2', by simp, ?_⟩
    rw [List.dropLast_concat]
    generalize hH3 : upd H2 tl (.lst vr'.reverse) = H3
    have o3 : ∀ b, b ≠ sl → b ≠ tl → H3 b = H b := fun b hb hb' => by rw [← hH3, upd_ne hb', o2 b hb hb']
    have htl3 : H3 tl = some (.lst vr'.reverse) := by rw [← hH3, upd_same]
    have hsl3 : H3 sl = some (.lst (ss.reverse.map V.str)) := by rw [← hH3, upd_ne (Ne.symm ne), hsl2]
    have tup3 : Tups H H3 := fun b xs e => (o3 b (ne_of e hsl (by intro z; cases z)) (ne_of e htl (by intro z; cases z))).trans e
    refine ⟨_, rfl, p, t.c_Unfinished, dx, _, _, rfl, (o3 p nps npt).trans ob, T.cl_Unfinished, T.no_Unfinished_trees, fl_trees _ _, .inl ⟨rfl, _, SqL.of htl3⟩, _, rfl, .inr sg, _, rfl, rfl, kd_at hop, _, rfl, _, rfl, (by show 3 ≤ sizeLine; decide), fun q hq => ?_⟩
    have n1 : tl ≠ q := ne_of_none htl3 hq
    have n2 : sl ≠ q := ne_of_none hsl3 hq
    refine ⟨tl, _, _, rfl, rfl, by rw [upd_ne n1]; exact htl3, ?_, ?_⟩
    · have := Paired.length hpr
      simp at hl ⊢; unfold sizeLine; omega
    have up : ∀ b o, H3 b = some o → b ≠ tl → upd (upd H3 q (.tup [.str (opOf sg).str, ul, ur])) tl (.lst (vr'.reverse ++ [.ref q])) b = some o := fun b o z hb => by
      rw [upd_ne hb, upd_ne (ne_of_none z hq)]; exact z
    have tup4 : Tups H (upd (upd H3 q (.tup [.str (opOf sg).str, ul, ur])) tl (.lst (vr'.reverse ++ [.ref q]))) := fun b xs z => up b _ (tup3 b xs z) (ne_of z htl (by intro z; cases z))
    refine k _ ⟨up p _ ((o3 p nps npt).trans ob) npt, ne, ⟨_, upd_same, ?_⟩, up sl _ hsl3 (Ne.symm ne)⟩ fun b o z h1 h2 => up b o ((o3 b h2 h1).trans z) h1
    rw [List.reverse_append]
    simp only [foldT, e, if_false, List.reverse_reverse]
    refine .cons (.bin ?_ (hl1.mono tup4) (hr1.mono tup4)) (paired_mono tup4 hpr)
    rw [upd_ne (Ne.symm n1), upd_same]
end
end K09

namespace K09
open PySem L2 Mc
/-! ### folding as long as the last sign asks for it -/
def okS (ss : List Str) : Prop := ∀ s ∈ ss, s = "(" ∨ s = "~" ∨ isOp s
def nb (ss : List Str) : Nat := ss.countP fun s : Str => !decide (s = "(") && !decide (s = "~")
def foldW (c : Str → Bool) : List Tr → List Str → List Tr × List Str
  | ts, [] => (ts, [])
  | ts, s :: ss => if c s = true then foldW c (foldT s ts) ss else (ts, s :: ss)
theorem op_nb {s : Str} (h : isOp s) : ¬ s = "(" ∧ ¬ s = "~" := by
  rcases h with rfl | rfl | rfl | rfl <;> exact ⟨by decide +kernel, by decide +kernel⟩
theorem nb_tilde (ss : List Str) : nb ("~" :: ss) = nb ss := by
  unfold nb
  rw [List.countP_cons]
  simp
theorem nb_op {s : Str} (h : isOp s) (ss : List Str) : nb (s :: ss) = nb ss + 1 := by
  unfold nb
  rw [List.countP_cons]
  simp [(op_nb h).1, (op_nb h).2]
theorem nb_br (ss : List Str) : nb ("(" :: ss) = nb ss := by
  unfold nb
  rw [List.countP_cons]
  simp
/-- a sign that is folded has its parts, and the count stays -/
theorem fold_count {s : Str} {ss : List Str} {ts : List Tr} (ho : s = "~" ∨ isOp s) (h : ts.length = nb (s :: ss) + 1) : ((s = "~" ∧ 1 ≤ ts.length) ∨ (isOp s ∧ 2 ≤ ts.length)) ∧ (foldT s ts).length = nb ss + 1 := by
  rcases ho with rfl | ho
  · rw [nb_tilde] at h
    refine ⟨.inl ⟨rfl, by omega⟩, ?_⟩
    cases ts with
    | nil => simp at h
    | cons r rest => simpa [foldT] using h
  · rw [nb_op ho] at h
    refine ⟨.inr ⟨ho, by omega⟩, ?_⟩
    match ts, h with
    | r :: l :: rest, h => simpa [foldT, (op_nb ho).2] using h
theorem Keep.trans {tl sl : Addr} {H H1 H2 : Hp} (a : Keep tl sl H H1) (b : Keep tl sl H1 H2) : Keep tl sl H H2 := fun c o e h1 h2 => b c o (a c o e h1 h2) h1 h2
def notBr (s : Str) : Bool := !decide (s = "(")
def spFtb (C : Addr) : Sp := fun vs H Q _ => ∃ p dx tl sl ts ss, vs = [.ref p] ∧ UAt C H p dx tl sl ts ss ∧ okS ss ∧ ts.length = nb ss + 1 ∧ ts.length ≤ 5000 ∧
  ∀ H', UAt C H' p dx tl sl (foldW notBr ts ss).1 (foldW notBr ts ss).2 → Keep tl sl H H' → Q .non H'
section
variable {P : Program} {w : World} {K : PySem.W.Frag} {mg : Str → Option Value} {base : Heap} {t : Adr}
theorem scFtb : FnScope ["self"] ["self"] (defScope s_Unfinished_fold_to_bracket) := ⟨rfl, rfl, rfl, by decide +kernel, rfl, by decide +kernel, by decide +kernel⟩
theorem ok_ftb (T : Txt P w K mg t) : FnOk P w K mg base (CX1 P w) 2 t.a_Unfinished_fold_to_bracket t.fd_Unfinished_fold_to_bracket ["self"] (spFtb t.c_Unfinished) := by
  refine T.F_Unfinished_fold_to_bracket.ok1 scFtb (fun vs H Q E h => by obtain ⟨p, dx, tl, sl, ts, ss, rfl, _⟩ := h; rfl) (fun cdv A outer s H vs Q E hr h => ?_)
  obtain ⟨p, dx, tl, sl, ts, ss, rfl, U, hok, hc, hl, k⟩ := h
  have nd := scFtb.nd
  have G_Unfinished_fold : FnOk P w K mg base (CX1 P w) 1 t.a_Unfinished_fold t.fd_Unfinished_fold ["self"] (spFold t.c_Unfinished) := ok_fold T
  refine ⟨_, (pss_one (ps_while own1 (PW.pt (pw_and (pt_truth (pe_fld (pvl 0) rfl) (fun _ => rfl)) (pw_and1 (pt_cmpR op_ne (pe_ix ix_list (pe_fld (pvl 0) rfl) (pe_un un_neg pe_int) (fun _ _ => rfl)) pe_str (nomark _)))))
        (pss_one (ps_expr (pe_meth0 (pvl 0) T.cl_Unfinished T.me_Unfinished_fold G_Unfinished_fold (hr.mono (by first | decide | omega)) T.b_Unfinished_fold .nil never1))))), ?_⟩
  refine ⟨fun m σ H2 => ∃ ts' ss', m = ss'.length ∧ σ = [some (.ref p)] ∧ UAt t.c_Unfinished H2 p dx tl sl ts' ss' ∧ Keep tl sl H H2 ∧ okS ss' ∧ ts'.length = nb ss' + 1 ∧ ts'.length ≤ 5000 ∧ foldW notBr ts' ss' = foldW notBr ts ss,
    ⟨_, ts, ss, rfl, rfl, U, fun _ _ z _ _ => z, hok, hc, hl, rfl⟩, ?_⟩
  rintro m σ H2 ⟨ts', ss', rfl, rfl, U2, k2, hok2, hc2, hl2, hf⟩
  refine ⟨_, rfl, p, _, dx, _, _, rfl, U2.ob, T.cl_Unfinished, T.no_Unfinished_signs, fl_signs _ _, _, .inl ⟨_, SqL.of U2.sg, rfl⟩, ?_⟩
  cases ss' with
  | nil =>
    refine iteF ?_
    refine iteF ?_
    rw [← hf] at k
    exact k H2 U2 k2
  | cons s1 ss1 =>
    have hsg : H2 sl = some (.lst (ss1.reverse.map V.str ++ [.str s1])) := by rw [U2.sg]; simp
    rw [if_pos (by simp)]
    refine ⟨_, rfl, p, _, dx, _, _, rfl, U2.ob, T.cl_Unfinished, T.no_Unfinished_signs, fl_signs _ _, _, rfl, sl, _, -1, .str s1, rfl, rfl, SqL.of hsg, atI_last _ _, rfl, _, rfl, ?_⟩
    refine ite2 (fun e => ?_) (fun e => ?_)
    · have e : ¬ s1 = "(" := by intro z; subst z; simp at e
      have ho : s1 = "~" ∨ isOp s1 := (hok2 s1 (by simp)).resolve_left e
      obtain ⟨q1, q2⟩ := fold_count ho hc2
      refine ⟨fun σ' H' => σ' = [some (.ref p)] ∧ UAt t.c_Unfinished H' p dx tl sl (foldT s1 ts') ss1 ∧ Keep tl sl H2 H', ?_, ?_⟩
      · rintro σ' H' ⟨rfl, U3, k3⟩
        refine ⟨ss1.length, by simp, foldT s1 ts', ss1, rfl, rfl, U3, k2.trans k3, fun s hs => hok2 s (by simp [hs]), q2, ?_, ?_⟩
        · have h1 : nb ss1 ≤ nb (s1 :: ss1) := by unfold nb; rw [List.countP_cons]; omega
          omega
        · rw [← hf]; simp [foldW, notBr, e]
      · exact ⟨_, rfl, p, dx, _, rfl, U2.ob, fl_no _ _ (by decide +kernel) (by decide +kernel), p, dx, tl, sl, ts', s1, ss1, rfl, U2, q1, hl2, fun H' U3 k3 => ⟨rfl, U3, k3⟩⟩
    · have e : s1 = "(" := by
        apply Classical.byContradiction; intro z
        exact e (by simp [z])
      have : foldW notBr ts' (s1 :: ss1) = (ts', s1 :: ss1) := by simp [foldW, notBr, e]
      rw [← hf, this] at k
      exact k H2 U2 k2
end
end K09

namespace K09
open PySem L2 Mc
/-! ### close_bracket, whole -/
def spClose (t : Adr) : Sp := fun vs H Q E => ∃ p dx tl sl ts ss, vs = [.ref p] ∧ UAt t.c_Unfinished H p dx tl sl ts ss ∧ okS ss ∧ ts.length = nb ss + 1 ∧ ts.length ≤ 5000 ∧
  (∀ H', (foldW notBr ts ss).2 = [] → Keep tl sl H H' → E (.ref t.c_NoSentence) none H') ∧
  (∀ H' s2 ss2, (foldW notBr ts ss).2 = s2 :: ss2 → UAt t.c_Unfinished H' p dx tl sl (foldW notBr ts ss).1 ss2 → Keep tl sl H H' → Q .non H')
def spUWhole (t : Adr) : Sp := fun vs H Q E => ∃ p dx tl sl ts ss, vs = [.ref p] ∧ UAt t.c_Unfinished H p dx tl sl ts ss ∧ okS ss ∧ ts.length = nb ss + 1 ∧ ts.length ≤ 5000 ∧
  (∀ H', ¬ (foldW notBr ts ss).2 = [] → Keep tl sl H H' → E (.ref t.c_NoSentence) none H') ∧
  (∀ H' v r rest, (foldW notBr ts ss).2 = [] → (foldW notBr ts ss).1 = r :: rest → TrAt H' v r → Keep tl sl H H' → Q v H')
theorem foldW_count {ts : List Tr} {ss : List Str} (ho : okS ss) (h : ts.length = nb ss + 1) : (foldW notBr ts ss).1.length = nb (foldW notBr ts ss).2 + 1 := by
  induction ss generalizing ts with
  | nil => exact h
  | cons s ss ih =>
    unfold foldW
    by_cases e : s = "("
    · simp [notBr, e]; rw [e] at h; exact h
    · have ho' : s = "~" ∨ isOp s := (ho s (by simp)).resolve_left e
      have q := fold_count ho' h
      simp only [notBr, e, decide_false, Bool.not_false, if_true]
      exact ih (fun x hx => ho x (by simp [hx])) q.2
section
variable {P : Program} {w : World} {K : PySem.W.Frag} {mg : Str → Option Value} {base : Heap} {t : Adr}
theorem scClose : FnScope ["self"] ["self"] (defScope s_Unfinished_close_bracket) := ⟨rfl, rfl, rfl, by decide +kernel, rfl, by decide +kernel, by decide +kernel⟩
theorem ok_close (T : Txt P w K mg t) : FnOk P w K mg base (CX1 P w) 3 t.a_Unfinished_close_bracket t.fd_Unfinished_close_bracket ["self"] (spClose t) := by
  refine T.F_Unfinished_close_bracket.ok1 scClose (fun vs H Q E h => by obtain ⟨p, dx, tl, sl, ts, ss, rfl, _⟩ := h; rfl) (fun cdv A outer s H vs Q E hr h => ?_)
  obtain ⟨p, dx, tl, sl, ts, ss, rfl, U, hok, hc, hl, kE, kQ⟩ := h
  have nd := scClose.nd
  have G_Unfinished_fold_to_bracket : FnOk P w K mg base (CX1 P w) 2 t.a_Unfinished_fold_to_bracket t.fd_Unfinished_fold_to_bracket ["self"] (spFtb t.c_Unfinished) := ok_ftb T
  refine ⟨_, (pss_cons (ps_expr (pe_meth0 (pvl 0) T.cl_Unfinished T.me_Unfinished_fold_to_bracket G_Unfinished_fold_to_bracket (hr.mono (by first | decide | omega)) T.b_Unfinished_fold_to_bracket .nil never1))
      (pss_cons (ps_if (pt_not (pt_truth (pe_fld (pvl 0) rfl) (fun _ => rfl)))
        (pss_one (ps_raise raises1 rfl T.m_NoSentence T.e_NoSentence (pa_cons pe_str pa_nil)))
        pss_nil)
      (pss_one (ps_expr (pe_bm0 PySem.F.plainAttrs_list PySem.F.slot_list_pop PySem.F.type_list_pop mt_pop (pe_fld (pvl 0) rfl)))))), ?_⟩
  refine ⟨_, rfl, p, dx, _, rfl, U.ob, fl_no _ _ (by decide +kernel) (by decide +kernel), p, dx, tl, sl, ts, ss, rfl, U, hok, hc, hl, fun H2 U2 k2 => ?_⟩
  generalize foldW notBr ts ss = f at *
  obtain ⟨ts2, ss2⟩ := f
  refine ⟨_, rfl, p, _, dx, _, _, rfl, U2.ob, T.cl_Unfinished, T.no_Unfinished_signs, fl_signs _ _, _, .inl ⟨_, SqL.of U2.sg, rfl⟩, ?_⟩
  cases ss2 with
  | nil => exact iteT ⟨by show 1 ≤ sizeLine; decide, kE H2 rfl k2⟩
  | cons s2 ss3 =>
    rw [if_neg (by simp)]
    have hsg : H2 sl = some (.lst (ss3.reverse.map V.str ++ [.str s2])) := by rw [U2.sg]; simp
    have nps : p ≠ sl := ne_of U2.ob hsg (by intro z; cases z)
    refine ⟨_, rfl, p, _, dx, _, _, rfl, U2.ob, T.cl_Unfinished, T.no_Unfinished_signs, fl_signs _ _, .inl ⟨rfl, _, SqL.of hsg⟩, sl, _, .str s2, rfl, rfl, hsg, by simp, ?_⟩
    rw [List.dropLast_concat]
    obtain ⟨us, htl, hpu⟩ := U2.tr
    have up : ∀ b o, H2 b = some o → b ≠ sl → upd H2 sl (.lst (ss3.reverse.map V.str)) b = some o := fun b o z hb => by rw [upd_ne hb]; exact z
    have tup : Tups H2 (upd H2 sl (.lst (ss3.reverse.map V.str))) := fun b xs z => up b _ z (ne_of z hsg (by intro z; cases z))
    exact kQ _ s2 ss3 rfl ⟨up p _ U2.ob nps, U2.ne, ⟨us, up tl _ htl U2.ne, paired_mono tup hpu⟩, upd_same⟩ (k2.trans fun b o z h1 h2 => up b o z h2)
theorem scUWhole : FnScope ["self"] ["self"] (defScope s_Unfinished_whole) := ⟨rfl, rfl, rfl, by decide +kernel, rfl, by decide +kernel, by decide +kernel⟩
theorem ok_uwhole (T : Txt P w K mg t) : FnOk P w K mg base (CX1 P w) 3 t.a_Unfinished_whole t.fd_Unfinished_whole ["self"] (spUWhole t) := by
  refine T.F_Unfinished_whole.ok1 scUWhole (fun vs H Q E h => by obtain ⟨p, dx, tl, sl, ts, ss, rfl, _⟩ := h; rfl) (fun cdv A outer s H vs Q E hr h => ?_)
  obtain ⟨p, dx, tl, sl, ts, ss, rfl, U, hok, hc, hl, kE, kQ⟩ := h
  have nd := scUWhole.nd
  have G_Unfinished_fold_to_bracket : FnOk P w K mg base (CX1 P w) 2 t.a_Unfinished_fold_to_bracket t.fd_Unfinished_fold_to_bracket ["self"] (spFtb t.c_Unfinished) := ok_ftb T
  refine ⟨_, (pss_cons (ps_expr (pe_meth0 (pvl 0) T.cl_Unfinished T.me_Unfinished_fold_to_bracket G_Unfinished_fold_to_bracket (hr.mono (by first | decide | omega)) T.b_Unfinished_fold_to_bracket .nil never1))
      (pss_cons (ps_if (pt_truth (pe_fld (pvl 0) rfl) (fun _ => rfl))
        (pss_one (ps_raise raises1 rfl T.m_NoSentence T.e_NoSentence (pa_cons pe_str pa_nil)))
        pss_nil)
      (pss_one (ps_ret (pe_bm0 PySem.F.plainAttrs_list PySem.F.slot_list_pop PySem.F.type_list_pop mt_pop (pe_fld (pvl 0) rfl)))))), ?_⟩
  have hc2 := foldW_count hok hc
  refine ⟨_, rfl, p, dx, _, rfl, U.ob, fl_no _ _ (by decide +kernel) (by decide +kernel), p, dx, tl, sl, ts, ss, rfl, U, hok, hc, hl, fun H2 U2 k2 => ?_⟩
  generalize foldW notBr ts ss = f at *
  obtain ⟨ts2, ss2⟩ := f
  refine ⟨_, rfl, p, _, dx, _, _, rfl, U2.ob, T.cl_Unfinished, T.no_Unfinished_signs, fl_signs _ _, _, .inl ⟨_, SqL.of U2.sg, rfl⟩, ?_⟩
  cases ss2 with
  | cons s2 ss3 =>
    rw [if_pos (by simp)]
    exact ⟨by show 1 ≤ sizeLine; decide, kE H2 (by simp) k2⟩
  | nil =>
    refine iteF ?_
    obtain ⟨us, htl, hpu⟩ := U2.tr
    have hc3 : ts2.length = 1 := hc2
    obtain ⟨r, rest, rfl⟩ : ∃ r rest, ts2 = r :: rest := by
      cases ts2 with
      | nil => simp at hc3
      | cons r rest => exact ⟨r, rest, rfl⟩
    obtain ⟨ur, vr, rfl, hr1, _⟩ : ∃ (ur : V) (vr : List V), us = vr.reverse ++ [ur] ∧ TrAt H2 ur r ∧ Paired (TrAt H2) vr rest := by
      have hpu' : Paired (TrAt H2) us.reverse (r :: rest) := hpu
      generalize hq : us.reverse = q at hpu'
      cases hpu' with
      | cons h1 h2 => exact ⟨_, _, by rw [← List.reverse_reverse us, hq]; simp, h1, h2⟩
    refine ⟨_, rfl, p, _, dx, _, _, rfl, U2.ob, T.cl_Unfinished, T.no_Unfinished_trees, fl_trees _ _, .inl ⟨rfl, _, SqL.of htl⟩, tl, _, ur, rfl, rfl, htl, by simp, ?_⟩
    rw [List.dropLast_concat]
    have up : ∀ b o, H2 b = some o → b ≠ tl → upd H2 tl (.lst vr.reverse) b = some o := fun b o z hb => by rw [upd_ne hb]; exact z
    have tup : Tups H2 (upd H2 tl (.lst vr.reverse)) := fun b xs z => up b _ z (ne_of z htl (by intro z; cases z))
    exact kQ _ ur r rest rfl rfl (hr1.mono tup) (k2.trans fun b o z h1 h2 => up b o z h1)
end
end K09

namespace K09
open PySem L2 Mc
/-! ### begin_part, follow_part -/
def spBegin (t : Adr) : Sp := fun vs H Q E => ∃ p dx tl sl ts ss x, vs = [.ref p, .str x] ∧ UAt t.c_Unfinished H p dx tl sl ts ss ∧ Small x ∧ ts.length ≤ 5000 ∧ ss.length ≤ 5000 ∧
  (if x = "~" ∨ x = "(" then ∀ H', UAt t.c_Unfinished H' p dx tl sl ts (x :: ss) → Keep tl sl H H' → Q (.bl true) H'
   else if x = "1" then ∀ H', UAt t.c_Unfinished H' p dx tl sl (.yes :: ts) ss → Keep tl sl H H' → Q (.bl false) H'
   else if x = "0" then ∀ H', UAt t.c_Unfinished H' p dx tl sl (.no :: ts) ss → Keep tl sl H H' → Q (.bl false) H'
   else if isName x = true then ∀ H', UAt t.c_Unfinished H' p dx tl sl (.nm x :: ts) ss → Keep tl sl H H' → Q (.bl false) H'
   else ∀ H', Keep tl sl H H' → E (.ref t.c_NoSentence) none H')
/-- a sign is laid on -/
theorem UAt.sign {C : Addr} {H : Hp} {p dx tl sl : Addr} {ts : List Tr} {ss : List Str} (U : UAt C H p dx tl sl ts ss) (x : Str) : UAt C (upd H sl (.lst (ss.reverse.map V.str ++ [.str x]))) p dx tl sl ts (x :: ss) ∧ Keep tl sl H (upd H sl (.lst (ss.reverse.map V.str ++ [.str x]))) := by
  obtain ⟨us, htl, hpu⟩ := U.tr
  have nps : p ≠ sl := ne_of U.ob U.sg (by intro z; cases z)
  have up : ∀ b o, H b = some o → b ≠ sl → upd H sl (.lst (ss.reverse.map V.str ++ [.str x])) b = some o := fun b o z hb => by rw [upd_ne hb]; exact z
  have tup : Tups H (upd H sl (.lst (ss.reverse.map V.str ++ [.str x]))) := fun b xs z => up b _ z (ne_of z U.sg (by intro z; cases z))
  exact ⟨⟨up p _ U.ob nps, U.ne, ⟨us, up tl _ htl U.ne, paired_mono tup hpu⟩, by rw [upd_same]; simp⟩, fun b o z _ h2 => up b o z h2⟩
/-- a part is laid on: H1 is H with more things -/
theorem UAt.part {C : Addr} {H H1 : Hp} {p dx tl sl : Addr} {ts : List Tr} {ss : List Str} (U : UAt C H p dx tl sl ts ss) (s1 : ∀ b o, H b = some o → H1 b = some o) {v : V} {r : Tr} (hv : TrAt H1 v r) {us : List V} (hus : H tl = some (.lst us)) :
    UAt C (upd H1 tl (.lst (us ++ [v]))) p dx tl sl (r :: ts) ss ∧ Keep tl sl H (upd H1 tl (.lst (us ++ [v]))) := by
  obtain ⟨us', htl, hpu⟩ := U.tr
  rw [hus] at htl
  cases htl
  have npt : p ≠ tl := ne_of U.ob hus (by intro z; cases z)
  have up : ∀ b o, H1 b = some o → b ≠ tl → upd H1 tl (.lst (us ++ [v])) b = some o := fun b o z hb => by rw [upd_ne hb]; exact z
  have tup1 : Tups H1 (upd H1 tl (.lst (us ++ [v]))) := fun b xs z => up b _ z (ne_of z (s1 _ _ hus) (by intro z; cases z))
  have tup : Tups H (upd H1 tl (.lst (us ++ [v]))) := fun b xs z => tup1 b xs (s1 b _ z)
  refine ⟨⟨up p _ (s1 _ _ U.ob) npt, U.ne, ⟨_, upd_same, ?_⟩, up sl _ (s1 _ _ U.sg) (Ne.symm U.ne)⟩, fun b o z h1 _ => up b o (s1 b o z) h1⟩
  rw [List.reverse_append]
  exact .cons (hv.mono tup1) (paired_mono tup hpu)
section
variable {P : Program} {w : World} {K : PySem.W.Frag} {mg : Str → Option Value} {base : Heap} {t : Adr}
theorem scBegin : FnScope ["self", "word"] ["self", "word"] (defScope s_Unfinished_begin_part) := ⟨rfl, rfl, rfl, by decide +kernel, rfl, by decide +kernel, by decide +kernel⟩
theorem ok_begin (T : Txt P w K mg t) : FnOk P w K mg base (CX1 P w) 4 t.a_Unfinished_begin_part t.fd_Unfinished_begin_part ["self", "word"] (spBegin t) := by
  refine T.F_Unfinished_begin_part.ok1 scBegin (fun vs H Q E h => by obtain ⟨p, dx, tl, sl, ts, ss, x, rfl, _⟩ := h; rfl) (fun cdv A outer s H vs Q E hr h => ?_)
  obtain ⟨p, dx, tl, sl, ts, ss, x, rfl, U, hx, hl1, hl2, k⟩ := h
  have nd := scBegin.nd
  have G_leaf : FnOk P w K mg base (CX1 P w) 3 t.a_leaf t.fd_leaf ["word"] (spWLeaf t) := ok_wleaf T
  refine ⟨_, (pss_cons (ps_if (PW.pt (pw_or (pt_cmpR op_eq (pvl 1) pe_str (nomark _)) (pw_or1 (pt_cmpR op_eq (pvl 1) pe_str (nomark _)))))
        (pss_cons (ps_expr (pe_bm PySem.F.plainAttrs_list PySem.F.slot_list_append PySem.F.type_list_append mt_append (pe_fld (pvl 0) rfl) (pa_cons (pvl 1) pa_nil)))
        (pss_one (ps_ret pe_bl)))
        pss_nil)
      (pss_cons (ps_expr (pe_bm PySem.F.plainAttrs_list PySem.F.slot_list_append PySem.F.type_list_append mt_append (pe_fld (pvl 0) rfl) (pa_cons (pcall G_leaf (hr.mono (by first | decide | omega)) T.m_leaf T.k_leaf T.b_leaf passes1 (pa_cons (pvl 1) pa_nil)) pa_nil)))
      (pss_one (ps_ret pe_bl)))), ?_⟩
  obtain ⟨us, htl, hpu⟩ := U.tr
  have hlen : us.length = ts.length := by rw [← Paired.length hpu]; simp
  have lay : ∀ (H1 : Hp) (v : V) (r : Tr), (∀ b o, H b = some o → H1 b = some o) → TrAt H1 v r → (∀ H', UAt t.c_Unfinished H' p dx tl sl (r :: ts) ss → Keep tl sl H H' → Q (.bl false) H') → rAppend (.ref tl) [v] H1 (fun _ H2 => Q (.bl false) H2) := fun H1 v r s1 hv k' =>
    ⟨tl, us, v, rfl, rfl, s1 _ _ htl, by unfold sizeLine; omega, k' _ (U.part s1 hv htl).1 (U.part s1 hv htl).2⟩
  have sgn : (∀ H', UAt t.c_Unfinished H' p dx tl sl ts (x :: ss) → Keep tl sl H H' → Q (.bl true) H') → rAppend (.ref sl) [.str x] H (fun _ H2 => Q (.bl true) H2) := fun k' =>
    ⟨sl, _, _, rfl, rfl, U.sg, by simp; unfold sizeLine; omega, k' _ (U.sign x).1 (U.sign x).2⟩
  refine ⟨_, rfl, rfl, _, rfl, ?_⟩
  refine ite2 (fun e => ?_) (fun e => ?_)
  · have e : x = "~" := V.str.inj (of_decide_eq_true e)
    rw [if_pos (.inl e)] at k
    refine iteT ?_
    exact ⟨_, rfl, p, _, dx, _, _, rfl, U.ob, T.cl_Unfinished, T.no_Unfinished_signs, fl_signs _ _, .inl ⟨rfl, _, SqL.of U.sg⟩, _, rfl, sgn k⟩
  have e1 : ¬ x = "~" := fun z => e (decide_eq_true (congrArg V.str z))
  refine ⟨_, rfl, rfl, _, rfl, ?_⟩
  refine ite2 (fun e => ?_) (fun e => ?_)
  · have e : x = "(" := V.str.inj (of_decide_eq_true e)
    rw [if_pos (.inr e)] at k
    exact ⟨_, rfl, p, _, dx, _, _, rfl, U.ob, T.cl_Unfinished, T.no_Unfinished_signs, fl_signs _ _, .inl ⟨rfl, _, SqL.of U.sg⟩, _, rfl, sgn k⟩
  have e2 : ¬ x = "(" := fun z => e (decide_eq_true (congrArg V.str z))
  rw [if_neg (by rintro (z | z); exact e1 z; exact e2 z)] at k
  refine ⟨_, rfl, p, _, dx, _, _, rfl, U.ob, T.cl_Unfinished, T.no_Unfinished_trees, fl_trees _ _, .inl ⟨rfl, _, SqL.of htl⟩, _, rfl, x, rfl, hx, ?_⟩
  have fresh : ∀ (H1 : Hp) (q : Addr) (o : HO), H1 q = none → ∀ b u, H1 b = some u → upd H1 q o b = some u := fun H1 q o hq b u z => by rw [upd_ne (ne_of_none z hq)]; exact z
  by_cases h1 : x = "1"
  · rw [if_pos h1] at k
    exact .inl ⟨h1, fun q hq => lay _ _ _ (fresh H q _ hq) (.yes upd_same) k⟩
  rw [if_neg h1] at k
  by_cases h0 : x = "0"
  · rw [if_pos h0] at k
    exact .inr (.inl ⟨h0, fun q hq => lay _ _ _ (fresh H q _ hq) (.no upd_same) k⟩)
  rw [if_neg h0] at k
  refine .inr (.inr ⟨h1, h0, fun H1 s1 => ?_⟩)
  cases hn : isName x with
  | true =>
    rw [if_pos hn] at k
    exact iteT fun q hq => lay _ _ _ (fun b o z => fresh H1 q _ hq b o (s1 b o z)) (.nm upd_same) k
  | false =>
    rw [if_neg (by rw [hn]; decide)] at k
    exact iteF (k H1 fun b o z _ _ => s1 b o z)
end
end K09

namespace K09
open PySem L2 Mc
/-! ### follow_part -/
def tk (x : Str) (s : Str) : Bool := takesF s x
def spFollow (t : Adr) : Sp := fun vs H Q E => ∃ p dx tl sl ts ss x, vs = [.ref p, .str x] ∧ UAt t.c_Unfinished H p dx tl sl ts ss ∧ okS ss ∧ ts.length = nb ss + 1 ∧ ts.length ≤ 5000 ∧ ss.length ≤ 5000 ∧ Small x ∧
  (x = ")" → (∀ H', (foldW notBr ts ss).2 = [] → Keep tl sl H H' → E (.ref t.c_NoSentence) none H') ∧ (∀ H' s2 ss2, (foldW notBr ts ss).2 = s2 :: ss2 → UAt t.c_Unfinished H' p dx tl sl (foldW notBr ts ss).1 ss2 → Keep tl sl H H' → Q (.bl false) H')) ∧
  (¬ x = ")" → ¬ isOp x → ∀ H', Keep tl sl H H' → E (.ref t.c_NoSentence) none H') ∧
  (¬ x = ")" → isOp x → ∀ H', UAt t.c_Unfinished H' p dx tl sl (foldW (tk x) ts ss).1 (x :: (foldW (tk x) ts ss).2) → Keep tl sl H H' → Q (.bl true) H')
theorem tk_br (x : Str) : tk x "(" = false := by simp [tk, takesF]
section
variable {P : Program} {w : World} {K : PySem.W.Frag} {mg : Str → Option Value} {base : Heap} {t : Adr}
theorem scFollow : FnScope ["self", "word"] ["self", "word"] (defScope s_Unfinished_follow_part) := ⟨rfl, rfl, rfl, by decide +kernel, rfl, by decide +kernel, by decide +kernel⟩
theorem ok_follow (T : Txt P w K mg t) : FnOk P w K mg base (CX1 P w) 4 t.a_Unfinished_follow_part t.fd_Unfinished_follow_part ["self", "word"] (spFollow t) := by
  refine T.F_Unfinished_follow_part.ok1 scFollow (fun vs H Q E h => by obtain ⟨p, dx, tl, sl, ts, ss, x, rfl, _⟩ := h; rfl) (fun cdv A outer s H vs Q E hr h => ?_)
  obtain ⟨p, dx, tl, sl, ts, ss, x, rfl, U, hok, hc, hl, hl2, hx, kB, kN, kO⟩ := h
  have nd := scFollow.nd
  have G_Unfinished_fold : FnOk P w K mg base (CX1 P w) 1 t.a_Unfinished_fold t.fd_Unfinished_fold ["self"] (spFold t.c_Unfinished) := ok_fold T
  have G_Unfinished_close_bracket : FnOk P w K mg base (CX1 P w) 3 t.a_Unfinished_close_bracket t.fd_Unfinished_close_bracket ["self"] (spClose t) := ok_close T
  have G_takes_part : FnOk P w K mg base (CX1 P w) 1 t.a_takes_part t.fd_takes_part ["earlier", "later"] spTakes := ok_takes T
  refine ⟨_, (pss_cons (ps_if (pt_cmpR op_eq (pvl 1) pe_str (nomark _))
        (pss_cons (ps_expr (pe_meth0 (pvl 0) T.cl_Unfinished T.me_Unfinished_close_bracket G_Unfinished_close_bracket (hr.mono (by first | decide | omega)) T.b_Unfinished_close_bracket .nil passes1))
        (pss_one (ps_ret pe_bl)))
        pss_nil)
      (pss_cons (ps_if (pt_cmp (pc_mnotin T.d_BINDS (pvl 1) (pglob (v := .ref t.d_BINDS) T.m_BINDS rfl)))
        (pss_one (ps_raise raises1 rfl T.m_NoSentence T.e_NoSentence (pa_cons (pe_fstr2 (pe_fmtR (pvl 1)) pe_str) pa_nil)))
        pss_nil)
      (pss_cons (ps_while own1 (PW.pt (pw_and (pt_truth (pe_fld (pvl 0) rfl) (fun _ => rfl)) (pw_and1 (pt_val (pcall G_takes_part (hr.mono (by first | decide | omega)) T.m_takes_part T.k_takes_part T.b_takes_part never1 (pa_cons (pe_ix ix_list (pe_fld (pvl 0) rfl) (pe_un un_neg pe_int) (fun _ _ => rfl)) (pa_cons (pvl 1) pa_nil)))))))
        (pss_one (ps_expr (pe_meth0 (pvl 0) T.cl_Unfinished T.me_Unfinished_fold G_Unfinished_fold (hr.mono (by first | decide | omega)) T.b_Unfinished_fold .nil never1))))
      (pss_cons (ps_expr (pe_bm PySem.F.plainAttrs_list PySem.F.slot_list_append PySem.F.type_list_append mt_append (pe_fld (pvl 0) rfl) (pa_cons (pvl 1) pa_nil)))
      (pss_one (ps_ret pe_bl)))))), ?_⟩
  refine ⟨_, rfl, rfl, _, rfl, ?_⟩
  refine ite2 (fun e => ?_) (fun e => ?_)
  · have e : x = ")" := V.str.inj (of_decide_eq_true e)
    obtain ⟨k1, k2⟩ := kB e
    exact ⟨_, rfl, p, dx, _, rfl, U.ob, fl_no _ _ (by decide +kernel) (by decide +kernel), p, dx, tl, sl, ts, ss, rfl, U, hok, hc, hl, k1, fun H' s2 ss2 h1 U2 h2 => k2 H' s2 ss2 h1 U2 h2⟩
  have e1 : ¬ x = ")" := fun z => e (decide_eq_true (congrArg V.str z))
  refine ⟨_, rfl, .inr x, rfl, rfl, _, rfl, ?_⟩
  by_cases ho : isOp x
  case neg =>
    rw [bd_no ho]
    refine iteT ?_
    refine ⟨_, rfl, x, rfl, repr_fits hx.2 hx.1, _, rfl, repr_fits hx.2 hx.1, _, rfl, ?_, (by show 1 ≤ sizeLine; decide), kN e1 ho H fun _ _ z _ _ => z⟩
    have q1 := PySem.StrLaws.reprText_len x hx.2
    have q2 := hx.1
    rw [strLen_append]
    have q3 : (Str.ofString " can't follow a part of a sentence").length = 34 := by decide +kernel
    rw [q3]
    unfold sizeLine
    omega
  case pos =>
    rw [bd_at ho]
    refine iteF ?_
    have kO := kO e1 ho
    refine ⟨fun m σ H2 => ∃ ts' ss', m = ss'.length ∧ σ = [some (.ref p), some (.str x)] ∧ UAt t.c_Unfinished H2 p dx tl sl ts' ss' ∧ Keep tl sl H H2 ∧ okS ss' ∧ ts'.length = nb ss' + 1 ∧ ts'.length ≤ 5000 ∧ ss'.length ≤ 5000 ∧ foldW (tk x) ts' ss' = foldW (tk x) ts ss,
      ⟨_, ts, ss, rfl, rfl, U, fun _ _ z _ _ => z, hok, hc, hl, hl2, rfl⟩, ?_⟩
    rintro m σ H2 ⟨ts', ss', rfl, rfl, U2, k2, hok2, hc2, hl3, hl4, hf⟩
    have fin : foldW (tk x) ts' ss' = (ts', ss') → rAppend (.ref sl) [.str x] H2 (fun _ H3 => Q (.bl true) H3) := fun hq => by
      rw [← hf, hq] at kO
      exact ⟨sl, _, _, rfl, rfl, U2.sg, by simp; unfold sizeLine; omega, kO _ (U2.sign x).1 (k2.trans (U2.sign x).2)⟩
    refine ⟨_, rfl, p, _, dx, _, _, rfl, U2.ob, T.cl_Unfinished, T.no_Unfinished_signs, fl_signs _ _, _, .inl ⟨_, SqL.of U2.sg, rfl⟩, ?_⟩
    cases ss' with
    | nil =>
      refine iteF ?_
      refine iteF ?_
      exact ⟨_, rfl, p, _, dx, _, _, rfl, U2.ob, T.cl_Unfinished, T.no_Unfinished_signs, fl_signs _ _, .inl ⟨rfl, _, SqL.of U2.sg⟩, _, rfl, fin rfl⟩
    | cons s1 ss1 =>
      have hsg : H2 sl = some (.lst (ss1.reverse.map V.str ++ [.str s1])) := by rw [U2.sg]; simp
      rw [if_pos (by simp)]
      refine ⟨_, rfl, p, _, dx, _, _, rfl, U2.ob, T.cl_Unfinished, T.no_Unfinished_signs, fl_signs _ _, _, rfl, sl, _, -1, .str s1, rfl, rfl, SqL.of hsg, atI_last _ _, _, rfl, s1, x, rfl, hok2 s1 (by simp), ho, _, rfl, ?_⟩
      cases ht : takesF s1 x with
      | true =>
        refine iteT ?_
        have e : ¬ s1 = "(" := by intro z; subst z; have := tk_br x; unfold tk at this; rw [ht] at this; cases this
        have ho' : s1 = "~" ∨ isOp s1 := (hok2 s1 (by simp)).resolve_left e
        obtain ⟨q1, q2⟩ := fold_count ho' hc2
        refine ⟨fun σ' H' => σ' = [some (.ref p), some (.str x)] ∧ UAt t.c_Unfinished H' p dx tl sl (foldT s1 ts') ss1 ∧ Keep tl sl H2 H', ?_, ?_⟩
        · rintro σ' H' ⟨rfl, U3, k3⟩
          refine ⟨ss1.length, by simp, foldT s1 ts', ss1, rfl, rfl, U3, k2.trans k3, fun s hs => hok2 s (by simp [hs]), q2, ?_, ?_, ?_⟩
          · have h1 : nb ss1 ≤ nb (s1 :: ss1) := by unfold nb; rw [List.countP_cons]; omega
            omega
          · simp at hl4; omega
          · rw [← hf]; simp [foldW, tk, ht]
        · exact ⟨_, rfl, p, dx, _, rfl, U2.ob, fl_no _ _ (by decide +kernel) (by decide +kernel), p, dx, tl, sl, ts', s1, ss1, rfl, U2, q1, hl3, fun H' U3 k3 => ⟨rfl, U3, k3⟩⟩
      | false =>
        refine iteF ?_
        exact ⟨_, rfl, p, _, dx, _, _, rfl, U2.ob, T.cl_Unfinished, T.no_Unfinished_signs, fl_signs _ _, .inl ⟨rfl, _, SqL.of U2.sg⟩, _, rfl, fin (by simp [foldW, tk, ht])⟩
end
end K09

namespace K09
open PySem L2 Mc
/-! ### tree_of_words: the reading, word by word -/
def leafF (x : Str) : Option Tr := if x = "1" then some .yes else if x = "0" then some .no else if isName x = true then some (.nm x) else none
instance (x : Str) : Decidable (isOp x) := by unfold isOp; infer_instance
/-- the trees and the signs that are not yet put together, and whether a part is due -/
abbrev Rd := List Tr × List Str × Bool
def stepF (st : Rd) (x : Str) : Option Rd :=
  if st.2.2 = true then (if x = "~" ∨ x = "(" then some (st.1, x :: st.2.1, true) else (leafF x).map fun r => (r :: st.1, st.2.1, false))
  else if x = ")" then (match (foldW notBr st.1 st.2.1).2 with
    | [] => none
    | _ :: ss => some ((foldW notBr st.1 st.2.1).1, ss, false))
  else if isOp x then some ((foldW (tk x) st.1 st.2.1).1, x :: (foldW (tk x) st.1 st.2.1).2, true)
  else none
def runF : List Str → Rd → Option Rd
  | [], st => some st
  | x :: ws, st => (stepF st x).bind (runF ws)
def endF (st : Rd) : Option Tr := if st.2.2 = true then none else match (foldW notBr st.1 st.2.1).2, (foldW notBr st.1 st.2.1).1 with
  | [], r :: _ => some r
  | _, _ => none
def treeF (ws : List Str) : Option Tr := (runF ws ([], [], true)).bind endF
theorem runF_snoc (ws : List Str) (x : Str) (st : Rd) : runF (ws ++ [x]) st = (runF ws st).bind fun s => stepF s x := by
  induction ws generalizing st with
  | nil => simp [runF]
  | cons y ws ih =>
    simp only [List.cons_append, runF, Option.bind_assoc]
    congr 1
    funext s
    exact ih s
theorem runF_none {ws : List Str} {i : Nat} {x : Str} {st s1 : Rd} (h : runF (ws.take i) st = some s1) (hx : ws[i]? = some x) (hn : stepF s1 x = none) : runF ws st = none := by
  have e : ws = ws.take i ++ x :: ws.drop (i + 1) := by
    obtain ⟨hi, hv⟩ := List.getElem?_eq_some_iff.mp hx
    have e2 : ws.drop i = x :: ws.drop (i + 1) := by rw [List.drop_eq_getElem_cons hi, hv]
    rw [← e2, List.take_append_drop]
  rw [e]
  have gen : ∀ (u v : List Str) (s : Rd), runF (u ++ v) s = (runF u s).bind (runF v) := by
    intro u
    induction u with
    | nil => intro v s; rfl
    | cons y u ih => intro v s; simp only [List.cons_append, runF, Option.bind_assoc]; congr 1; funext z; exact ih v z
  rw [gen, h]
  simp [runF, hn]
theorem okS_tail {c : Str → Bool} {ts : List Tr} {ss : List Str} (h : okS ss) : okS (foldW c ts ss).2 := by
  induction ss generalizing ts with
  | nil => exact h
  | cons s ss ih =>
    unfold foldW
    split
    · exact ih fun x hx => h x (by simp [hx])
    · exact h
theorem foldW_len {c : Str → Bool} {ts : List Tr} {ss : List Str} : (foldW c ts ss).2.length ≤ ss.length := by
  induction ss generalizing ts with
  | nil => exact Nat.le_refl _
  | cons s ss ih =>
    unfold foldW
    split
    · exact Nat.le_trans ih (by simp)
    · exact Nat.le_refl _
theorem foldW_cnt {c : Str → Bool} (hb : c "(" = false) {ts : List Tr} {ss : List Str} (ho : okS ss) (h : ts.length = nb ss + 1) : (foldW c ts ss).1.length = nb (foldW c ts ss).2 + 1 := by
  induction ss generalizing ts with
  | nil => exact h
  | cons s ss ih =>
    unfold foldW
    split
    · rename_i hc
      have e : ¬ s = "(" := by intro z; rw [z, hb] at hc; cases hc
      exact ih (fun x hx => ho x (by simp [hx])) (fold_count ((ho s (by simp)).resolve_left e) h).2
    · exact h
theorem foldW_head {c : Str → Bool} {ts : List Tr} {ss r : List Str} {s : Str} (h : (foldW c ts ss).2 = s :: r) : c s = false := by
  induction ss generalizing ts with
  | nil => cases h
  | cons y ss ih =>
    unfold foldW at h
    split at h
    · exact ih h
    · rename_i hc
      cases h
      exact Bool.eq_false_iff.mpr hc
/-- the state as it can be -/
structure Fit (n : Nat) (st : Rd) : Prop where
  ok : okS st.2.1
  cnt : st.1.length = nb st.2.1 + (if st.2.2 = true then 0 else 1)
  ss : st.2.1.length ≤ n
theorem nb_le (ss : List Str) : nb ss ≤ ss.length := List.countP_le_length
theorem Fit.step {n : Nat} {st st' : Rd} {x : Str} (F : Fit n st) (h : stepF st x = some st') : Fit (n + 1) st' := by
  obtain ⟨ts, ss, due⟩ := st
  obtain ⟨ok, cnt, hs⟩ := F
  dsimp only at ok cnt hs
  unfold stepF at h
  dsimp only at h
  cases due with
  | true =>
    rw [if_pos rfl] at h cnt
    split at h
    · rename_i hx
      cases h
      refine ⟨fun s hs => ?_, ?_, by simp; omega⟩
      · rcases List.mem_cons.mp hs with rfl | hs
        · rcases hx with z | z; exact .inr (.inl z); exact .inl z
        · exact ok s hs
      · show ts.length = nb (x :: ss) + 0
        rcases hx with rfl | rfl
        · rw [nb_tilde]; exact cnt
        · rw [nb_br]; exact cnt
    · cases hl : leafF x with
      | none => rw [hl] at h; cases h
      | some r =>
        rw [hl] at h; cases h
        exact ⟨ok, by show (r :: ts).length = nb ss + 1; simp; omega, by show ss.length ≤ _; omega⟩
  | false =>
    rw [if_neg (by decide)] at h cnt
    split at h
    · split at h
      · cases h
      · rename_i s2 ss2 he
        cases h
        have o := okS_tail (c := notBr) (ts := ts) ok
        have l := foldW_len (c := notBr) (ts := ts) (ss := ss)
        have c := foldW_cnt (c := notBr) (by simp [notBr]) ok cnt
        rw [he] at o l c
        have hb : s2 = "(" := by
          have z := foldW_head he
          unfold notBr at z
          simpa using z
        subst hb
        rw [nb_br] at c
        exact ⟨fun s hs => o s (by simp [hs]), c, by show ss2.length ≤ _; simp at l; omega⟩
    · split at h
      · rename_i ho
        cases h
        have o := okS_tail (c := tk x) (ts := ts) ok
        have l := foldW_len (c := tk x) (ts := ts) (ss := ss)
        have c := foldW_cnt (c := tk x) (tk_br x) ok cnt
        refine ⟨fun s hs => ?_, ?_, ?_⟩
        · rcases List.mem_cons.mp hs with rfl | hs
          · exact .inr (.inr ho)
          · exact o s hs
        · show _ = nb (x :: _) + 0
          rw [nb_op ho]; exact c
        · show (x :: _ : List Str).length ≤ _
          simp; omega
      · cases h
end K09

namespace K09
open PySem L2 Mc
def spTree (t : Adr) : Sp := fun vs H Q E => ∃ (a : Addr) (ws : List Str), vs = [.ref a] ∧ H a = some (.lst (ws.map V.str)) ∧ ws.length ≤ 2500 ∧ (∀ x ∈ ws, Small x) ∧
  (treeF ws = none → ∀ H', Same H H' → E (.ref t.c_NoSentence) none H') ∧ (∀ r, treeF ws = some r → ∀ v H', Same H H' → TrAt H' v r → Q v H')
section
variable {P : Program} {w : World} {K : PySem.W.Frag} {mg : Str → Option Value} {base : Heap} {t : Adr}
theorem scTree : FnScope ["words", "unfinished", "part_due", "word"] ["words"] (defScope s_tree_of_words) := ⟨rfl, rfl, rfl, by decide +kernel, rfl, by decide +kernel, by decide +kernel⟩
theorem ok_tree (T : Txt P w K mg t) : FnOk P w K mg base (CX1 P w) 5 t.a_tree_of_words t.fd_tree_of_words ["words"] (spTree t) := by
  refine T.F_tree_of_words.ok1 scTree (fun vs H Q E h => by obtain ⟨a, ws, rfl, _⟩ := h; rfl) (fun cdv A outer s H vs Q E hr h => ?_)
  obtain ⟨a, ws, rfl, ha, hl, hsm, kE, kQ⟩ := h
  have nd := scTree.nd
  have G_Unfinished___init__ : FnOk P w K mg base (CX1 P w) 1 t.a_Unfinished___init__ t.fd_Unfinished___init__ ["self"] (spUInit t.c_Unfinished) := ok_uinit T
  have G_Unfinished_begin_part : FnOk P w K mg base (CX1 P w) 4 t.a_Unfinished_begin_part t.fd_Unfinished_begin_part ["self", "word"] (spBegin t) := ok_begin T
  have G_Unfinished_follow_part : FnOk P w K mg base (CX1 P w) 4 t.a_Unfinished_follow_part t.fd_Unfinished_follow_part ["self", "word"] (spFollow t) := ok_follow T
  have G_Unfinished_whole : FnOk P w K mg base (CX1 P w) 3 t.a_Unfinished_whole t.fd_Unfinished_whole ["self"] (spUWhole t) := ok_uwhole T
  refine ⟨_, (pss_cons (psl 1 nd (pmake0 T.mk_Unfinished G_Unfinished___init__ (hr.mono (by first | decide | omega)) T.m_Unfinished T.b_Unfinished___init__ never1))
      (pss_cons (psl 2 nd pe_bl)
      (pss_cons (ps_for own1 rfl (pi_list (pvl 0)) (pgl 3 nd)
        (pss_one (ps_if (pt_val (pvl 2))
          (pss_one (psl 2 nd (pe_meth (pvl 1) T.cl_Unfinished T.me_Unfinished_begin_part G_Unfinished_begin_part (hr.mono (by first | decide | omega)) T.b_Unfinished_begin_part .nil passes1 (pa_cons (pvl 3) pa_nil))))
          (pss_one (psl 2 nd (pe_meth (pvl 1) T.cl_Unfinished T.me_Unfinished_follow_part G_Unfinished_follow_part (hr.mono (by first | decide | omega)) T.b_Unfinished_follow_part .nil passes1 (pa_cons (pvl 3) pa_nil)))))))
      (pss_cons (ps_if (pt_val (pvl 2))
        (pss_one (ps_raise raises1 rfl T.m_NoSentence T.e_NoSentence (pa_cons pe_str pa_nil)))
        pss_nil)
      (pss_one (ps_ret (pe_meth0 (pvl 1) T.cl_Unfinished T.me_Unfinished_whole G_Unfinished_whole (hr.mono (by first | decide | omega)) T.b_Unfinished_whole .nil passes1))))))), ?_⟩
  intro p dx hp hdx hne
  refine ⟨p, dx, rfl, upd_same, fun tl sl H1 htl hsl U kp => ⟨rfl, ?_⟩⟩
  have s1 : Same H H1 := fun b o z => kp b o (by rw [upd_ne (ne_of_none z hp), upd_ne (ne_of_none z hdx)]; exact z) (ne_of_none z hp)
  have fr : ∀ b o, H b = some o → b ≠ tl ∧ b ≠ sl := fun b o z => by
    have z' : upd (upd H dx (.own p)) p (.ins t.c_Unfinished dx []) b = some o := by rw [upd_ne (ne_of_none z hp), upd_ne (ne_of_none z hdx)]; exact z
    exact ⟨ne_of_none z' htl, ne_of_none z' hsl⟩
  have kS : ∀ {H2 H3 : Hp}, Same H H2 → Keep tl sl H2 H3 → Same H H3 := fun s2 k3 b o z => k3 b o (s2 b o z) (fr b o z).1 (fr b o z).2
  refine ⟨_, rfl, a, rfl, ⟨_, SqL.of (s1 _ _ ha)⟩, for_list (K := K) (a := a) (xs := ws.map V.str)
    (fun i σ H2 => ∃ ts ss due v, runF (ws.take i) ([], [], true) = some (ts, ss, due) ∧ σ = [some (.ref a), some (.ref p), some (.bl due), v] ∧ UAt t.c_Unfinished H2 p dx tl sl ts ss ∧ Same H H2 ∧ Fit i (ts, ss, due))
    ⟨[], [], true, none, rfl, rfl, U, s1, ⟨(fun _ z => nomatch z), rfl, Nat.le_refl _⟩⟩ (fun i σ H2 _ ⟨_, _, _, _, _, _, _, s2, _⟩ => SqL.of (s2 _ _ ha)) ?_ ?_⟩
  · rintro i y σ H2 hi ⟨ts, ss, due, v, hrun, rfl, U2, s2, F⟩
    obtain ⟨x, hx, rfl⟩ : ∃ x, ws[i]? = some x ∧ V.str x = y := by
      rw [List.getElem?_map] at hi
      exact Option.map_eq_some_iff.mp hi
    have hil : i < ws.length := (List.getElem?_eq_some_iff.mp hx).1
    have hxs : Small x := hsm x (List.mem_of_getElem? hx)
    have fl1 : ts.length ≤ 5000 := by
      have c := F.cnt; have n := nb_le ss; have l := F.ss
      dsimp only at c l
      split at c <;> omega
    have fl2 : ss.length ≤ 5000 := by have l := F.ss; dsimp only at l; omega
    have go : ∀ st', stepF (ts, ss, due) x = some st' → runF (ws.take (i + 1)) ([], [], true) = some st' ∧ Fit (i + 1) st' := fun st' h => by
      refine ⟨?_, F.step h⟩
      rw [List.take_add_one, hx]
      show runF (ws.take i ++ [x]) _ = _
      rw [runF_snoc, hrun]; exact h
    have bad : stepF (ts, ss, due) x = none → ∀ H', Same H H' → E (.ref t.c_NoSentence) none H' := fun h => kE (by unfold treeF; rw [runF_none hrun hx h]; rfl)
    refine ⟨_, rfl, _, rfl, ?_⟩
    cases due with
    | true =>
      refine iteT ?_
      refine ⟨_, rfl, p, dx, _, rfl, U2.ob, fl_no _ _ (by decide +kernel) (by decide +kernel), _, rfl, p, dx, tl, sl, ts, ss, x, rfl, U2, hxs, fl1, fl2, ?_⟩
      have st1 : ∀ r, ¬ (x = "~" ∨ x = "(") → leafF x = r → stepF (ts, ss, true) x = r.map fun r => (r :: ts, ss, false) := fun r h1 h2 => by
        unfold stepF; dsimp only; rw [if_pos rfl, if_neg h1, h2]
      by_cases hx1 : x = "~" ∨ x = "("
      · rw [if_pos hx1]
        intro H3 U3 k3
        have g := go (ts, x :: ss, true) (by unfold stepF; dsimp only; rw [if_pos rfl, if_pos hx1])
        exact ⟨ts, x :: ss, true, _, g.1, rfl, U3, kS s2 k3, g.2⟩
      rw [if_neg hx1]
      by_cases h1 : x = "1"
      · rw [if_pos h1]
        intro H3 U3 k3
        have g := go (.yes :: ts, ss, false) (st1 (some .yes) hx1 (by unfold leafF; rw [if_pos h1]))
        exact ⟨_, ss, false, _, g.1, rfl, U3, kS s2 k3, g.2⟩
      rw [if_neg h1]
      by_cases h0 : x = "0"
      · rw [if_pos h0]
        intro H3 U3 k3
        have g := go (.no :: ts, ss, false) (st1 (some .no) hx1 (by unfold leafF; rw [if_neg h1, if_pos h0]))
        exact ⟨_, ss, false, _, g.1, rfl, U3, kS s2 k3, g.2⟩
      rw [if_neg h0]
      by_cases hn : isName x = true
      · rw [if_pos hn]
        intro H3 U3 k3
        have g := go (.nm x :: ts, ss, false) (st1 (some (.nm x)) hx1 (by unfold leafF; rw [if_neg h1, if_neg h0, if_pos hn]))
        exact ⟨_, ss, false, _, g.1, rfl, U3, kS s2 k3, g.2⟩
      · rw [if_neg hn]
        intro H3 k3
        exact bad (st1 none hx1 (by unfold leafF; rw [if_neg h1, if_neg h0, if_neg hn])) H3 (kS s2 k3)
    | false =>
      refine iteF ?_
      refine ⟨_, rfl, p, dx, _, rfl, U2.ob, fl_no _ _ (by decide +kernel) (by decide +kernel), _, rfl, p, dx, tl, sl, ts, ss, x, rfl, U2, F.ok, F.cnt, fl1, fl2, hxs, ?_⟩
      refine ⟨fun e => ⟨fun H3 he k3 => bad ?_ H3 (kS s2 k3), fun H3 s3 ss3 he U3 k3 => ?_⟩, fun e1 e2 H3 k3 => bad ?_ H3 (kS s2 k3), fun e1 e2 H3 U3 k3 => ?_⟩
      · unfold stepF; dsimp only; rw [if_neg (by decide), if_pos e, he]
      · have g := go ((foldW notBr ts ss).1, ss3, false) (by unfold stepF; dsimp only; rw [if_neg (by decide), if_pos e, he])
        exact ⟨_, ss3, false, _, g.1, rfl, U3, kS s2 k3, g.2⟩
      · unfold stepF; dsimp only; rw [if_neg (by decide), if_neg e1, if_neg e2]
      · have g := go ((foldW (tk x) ts ss).1, x :: (foldW (tk x) ts ss).2, true) (by unfold stepF; dsimp only; rw [if_neg (by decide), if_neg e1, if_pos e2])
        exact ⟨_, _, true, _, g.1, rfl, U3, kS s2 k3, g.2⟩
  · rintro σ H2 ⟨ts, ss, due, v, hrun, rfl, U2, s2, F⟩
    rw [List.length_map, List.take_length] at hrun
    have hlm : (ws.map V.str).length = ws.length := List.length_map _
    have tf : treeF ws = endF (ts, ss, due) := by unfold treeF; rw [hrun]; rfl
    refine ⟨_, rfl, _, rfl, ?_⟩
    cases due with
    | true => exact iteT ⟨by show 1 ≤ sizeLine; decide, kE (by rw [tf]; rfl) H2 s2⟩
    | false =>
      refine iteF ?_
      have fl1 : ts.length ≤ 5000 := by
        have c := F.cnt; have n := nb_le ss; have l := F.ss
        dsimp only at c l
        rw [hlm] at l
        split at c <;> omega
      refine ⟨_, rfl, p, dx, _, rfl, U2.ob, fl_no _ _ (by decide +kernel) (by decide +kernel), p, dx, tl, sl, ts, ss, rfl, U2, F.ok, F.cnt, fl1, fun H3 hn k3 => kE ?_ H3 (kS s2 k3), fun H3 v r rest h1 h2 hv k3 => kQ r ?_ v H3 (kS s2 k3) hv⟩
      · rw [tf]
        unfold endF
        dsimp only
        rw [if_neg (by decide)]
        split
        · rename_i h1 _; exact absurd h1 hn
        · rfl
      · rw [tf]
        unfold endF
        dsimp only
        rw [if_neg (by decide), h1, h2]
end
end K09

namespace K09
open PySem L2 Mc
/-! ### the promises -/
/-- the parts of a sentence, in a new list -/
def spParts : Sp := fun vs H Q _ => ∃ v t, vs = [v] ∧ TrAt H v t ∧ ∀ (l : Addr) (us : List V) (H' : Hp), H l = none → H' l = some (.lst us) → Same H H' → Paired (TrAt H') us t.kids → Q (.ref l) H'
def spBelow : Sp := fun vs H Q _ => ∃ (a : Addr) (us : List V) (ts : List Tr), vs = [.ref a] ∧ H a = some (.lst us) ∧ Paired (TrAt H) us ts ∧ fsize ts ≤ 100000 ∧
  ∀ (l : Addr) (ws : List V) (H' : Hp), H l = none → H' l = some (.lst ws) → Same H H' → Paired (TrAt H') ws (ts.flatMap Tr.kids) → Q (.ref l) H'
def spDepth : Sp := fun vs H Q _ => ∃ v t, vs = [v] ∧ TrAt H v t ∧ t.size ≤ 100000 ∧ ∀ H', Same H H' → Q (.int t.depth) H'
section
variable {P : Program} {w : World} {K : PySem.W.Frag} {mg : Str → Option Value} {base : Heap} {t : Adr}
theorem scParts : FnScope ["tree"] ["tree"] (defScope s_parts_of) := ⟨rfl, rfl, rfl, by decide +kernel, rfl, by decide +kernel, by decide +kernel⟩
theorem ok_parts (T : Txt P w K mg t) : FnOk P w K mg base (CX1 P w) 1 t.a_parts_of t.fd_parts_of ["tree"] spParts := by
  refine T.F_parts_of.ok1 scParts (fun vs H Q E h => by obtain ⟨v, t, rfl, _⟩ := h; rfl) (fun cdv A outer s H vs Q E hr h => ?_)
  obtain ⟨v, tr, rfl, ht, k⟩ := h
  obtain ⟨a, rest, rfl, ha, hnm, hkid⟩ := ht.open
  have nd := scParts.nd
  refine ⟨_, (pss_cons (ps_if (pt_cmpR op_eq (pe_ix ix_tup (pv 0) pe_int (fun _ _ => rfl)) pe_str (nomark _))
        (pss_one (ps_ret (pe_lst pa_nil)))
        pss_nil)
      (pss_one (ps_ret (pe_callTy call_list_of rfl T.n_list Bt.list (pa_cons (pe_slice sl_tup (pv 0) (po_some pe_int) po_none) pa_nil))))), ?_⟩
  refine ⟨_, rfl, a, _, 0, .str tr.tag, rfl, rfl, SqT.of ha, atI_nat (j := 0) rfl, rfl, _, rfl, ?_⟩
  refine ite2 (fun e => ?_) (fun e => ?_)
  · have e : V.str tr.tag = V.str "name" := of_decide_eq_true e
    have e := (tag_name tr).mp (V.str.inj e)
    obtain ⟨x, rfl, _⟩ := hnm e
    exact ⟨Nat.zero_le _, fun l hl => k l [] _ hl upd_same (same_upd hl) .nil⟩
  · have e : ¬ V.str tr.tag = V.str "name" := fun z => e (decide_eq_true z)
    have e : tr.isNm = false := by
      cases q : tr.isNm with
      | false => rfl
      | true => exact absurd (congrArg V.str ((tag_name tr).mpr q)) e
    have hk := hkid e
    refine ⟨_, rfl, _, rfl, a, _, rfl, SqT.of ha, cut_tail_not _ _, fun p hp => ⟨p, _, rfl, .inr (SqT.of upd_same), fun l hl => ?_⟩⟩
    rw [cut_tail] at hl ⊢
    exact k l rest _ (same_free (same_upd hp) hl) upd_same ((same_upd hp).trans (same_upd hl)) (paired_mono ((same_upd hp).trans (same_upd hl)).tups hk)
theorem scBelow : FnScope ["layer", "below", "tree"] ["layer"] (defScope s_layer_below) := ⟨rfl, rfl, rfl, by decide +kernel, rfl, by decide +kernel, by decide +kernel⟩
theorem ok_below (T : Txt P w K mg t) : FnOk P w K mg base (CX1 P w) 2 t.a_layer_below t.fd_layer_below ["layer"] spBelow := by
  refine T.F_layer_below.ok1 scBelow (fun vs H Q E h => by obtain ⟨a, us, ts, rfl, _⟩ := h; rfl) (fun cdv A outer s H vs Q E hr h => ?_)
  obtain ⟨a, us, ts, rfl, ha, hp, hsz, k⟩ := h
  have nd := scBelow.nd
  have G_parts_of : FnOk P w K mg base (CX1 P w) 1 t.a_parts_of t.fd_parts_of ["tree"] spParts := ok_parts T
  refine ⟨_, (pss_cons (ps_set (i := 1) nd rfl (by first | exact Or.inl rfl | exact Or.inr rfl) (pe_lst pa_nil))
      (pss_cons (ps_for own1 rfl (pi_list (pv 0)) (pg_name (i := 2) nd rfl (by first | exact Or.inl rfl | exact Or.inr rfl))
        (pss_one (ps_expr (pe_bm PySem.F.plainAttrs_list PySem.F.slot_list_extend PySem.F.type_list_extend mt_extend (pv 1) (pa_cons (pe_call G_parts_of (hr.mono (by first | decide | omega)) rfl T.m_parts_of T.k_parts_of T.b_parts_of .nil never1 (pa_cons (pv 2) pa_nil)) pa_nil)))))
      (pss_one (ps_ret (pv 1))))), ?_⟩
  refine ⟨Nat.zero_le _, fun b hb => ?_⟩
  have hab : a ≠ b := ne_of_none ha hb
  have s0 : Same H (upd H b (.lst [])) := same_upd hb
  refine ⟨_, rfl, a, rfl, ⟨_, SqL.of (s0 _ _ ha)⟩, for_list (K := K) (a := a) (xs := us)
    (fun i σ H2 => ∃ (ws : List V) (v : Option V), σ = [some (.ref a), some (.ref b), v] ∧ Same H H2 ∧ H2 b = some (.lst ws) ∧ Paired (TrAt H2) ws ((ts.take i).flatMap Tr.kids))
    ⟨[], none, rfl, s0, upd_same, .nil⟩ (fun i σ H2 _ ⟨_, _, _, s2, _⟩ => SqL.of (s2 _ _ ha)) ?_ ?_⟩
  · rintro i y σ H2 hi ⟨ws, v, rfl, s2, hb2, hw⟩
    obtain ⟨tr, htr, hy⟩ := paired_get hp i y hi
    refine ⟨_, rfl, .inl ⟨rfl, _, SqL.of hb2⟩, _, rfl, y, tr, rfl, hy.mono s2.tups, fun l us2 H3 hl hl3 s3 hk3 => ?_⟩
    have hlen : ws.length + us2.length ≤ 100000 := by
      have e1 := Paired.length hw
      have e2 := Paired.length hk3
      have hsplit : ts = ts.take i ++ tr :: ts.drop (i + 1) := by
        have h1 := List.take_append_drop i ts
        have h2 : ts.drop i = tr :: ts.drop (i + 1) := by
          obtain ⟨hlt, he⟩ := List.getElem?_eq_some_iff.mp htr
          rw [List.drop_eq_getElem_cons hlt, he]
        rw [← h2, h1]
      have e3 := fsize_below ts
      have e4 : (ts.flatMap Tr.kids).length ≤ fsize (ts.flatMap Tr.kids) := length_le_fsize _
      have e5 : (ts.flatMap Tr.kids).length = ((ts.take i).flatMap Tr.kids).length + (tr.kids.length + ((ts.drop (i + 1)).flatMap Tr.kids).length) := by
        conv => lhs; rw [hsplit]
        rw [List.flatMap_append, List.flatMap_cons, List.length_append, List.length_append]
      omega
    have hbl : b ≠ l := ne_of_none hb2 hl
    have hb3 : H3 b = some (.lst ws) := s3 _ _ hb2
    refine ⟨b, l, ws, us2, rfl, rfl, hb3, hl3, Nat.le_trans hlen (by decide), ?_⟩
    refine ⟨ws ++ us2, _, rfl, fun c o e => ?_, upd_same, ?_⟩
    · rw [upd_ne (fun z => by subst z; rw [hb] at e; cases e)]
      exact s3 _ _ (s2 _ _ e)
    · have e6 : ts.take (i + 1) = ts.take i ++ [tr] := by
        rw [List.take_add_one, htr]
        rfl
      rw [e6, List.flatMap_append, List.flatMap_cons, List.flatMap_nil, List.append_nil]
      exact paired_mono (tups_upd hb3) (paired_app (paired_mono s3.tups hw) hk3)
  · rintro σ H2 ⟨ws, v, rfl, s2, hb2, hw⟩
    refine ⟨_, rfl, ?_⟩
    have e := Paired.length hp
    rw [e, List.take_length] at hw
    exact k b ws H2 hb hb2 s2 hw
end
end K09

namespace K09
open PySem L2 Mc
section
variable {P : Program} {w : World} {K : PySem.W.Frag} {mg : Str → Option Value} {base : Heap} {t : Adr}
theorem scDepth : FnScope ["tree", "layers", "layer"] ["tree"] (defScope s_depth) := ⟨rfl, rfl, rfl, by decide +kernel, rfl, by decide +kernel, by decide +kernel⟩
theorem ok_depth (T : Txt P w K mg t) : FnOk P w K mg base (CX1 P w) 3 t.a_depth t.fd_depth ["tree"] spDepth := by
  refine T.F_depth.ok1 scDepth (fun vs H Q E h => by obtain ⟨v, t, rfl, _⟩ := h; rfl) (fun cdv A outer s H vs Q E hr h => ?_)
  obtain ⟨v, tr, rfl, ht, hsz, k⟩ := h
  have nd := scDepth.nd
  have G_layer_below : FnOk P w K mg base (CX1 P w) 2 t.a_layer_below t.fd_layer_below ["layer"] spBelow := ok_below T
  refine ⟨_, (pss_cons (ps_set (i := 1) nd rfl (by first | exact Or.inl rfl | exact Or.inr rfl) pe_int)
      (pss_cons (ps_set (i := 2) nd rfl (by first | exact Or.inl rfl | exact Or.inr rfl) (pe_lst (pa_cons (pv 0) pa_nil)))
      (pss_cons (ps_while own1 (pt_truth (pv 2) (fun _ => rfl))
        (pss_cons (ps_aug (i := 1) nd rfl (by first | exact Or.inl rfl | exact Or.inr rfl) pe_int ip_add)
        (pss_one (ps_set (i := 2) nd rfl (by first | exact Or.inl rfl | exact Or.inr rfl) (pe_call G_layer_below (hr.mono (by first | decide | omega)) rfl T.m_layer_below T.k_layer_below T.b_layer_below .nil never1 (pa_cons (pv 2) pa_nil))))))
      (pss_one (ps_ret (pv 1)))))), ?_⟩
  refine ⟨_, rfl, (lk (by first | exact Nat.le_of_ble_eq_true rfl | simp)), fun l hl => ?_⟩
  refine ⟨fun m σ H2 => ∃ (n : Nat) (l : Addr) (us : List V) (ts : List Tr), σ = [some v, some (.int n), some (.ref l)] ∧ Same H H2 ∧ H2 l = some (.lst us) ∧ Paired (TrAt H2) us ts ∧ fsize ts ≤ 100000 ∧ n + fdep ts = tr.depth ∧ m = fsize ts,
    ⟨_, 0, l, [v], [tr], rfl, same_upd hl, upd_same, .cons (ht.mono (same_upd hl).tups) .nil, ?_, ?_, rfl⟩, ?_⟩
  · show tr.size + 0 ≤ 100000
    omega
  · show 0 + max tr.depth 0 = tr.depth
    omega
  rintro m σ H2 ⟨n, l, us, ts, rfl, s2, hl2, hp, hz, hd, rfl⟩
  refine ⟨_, rfl, _, .inl ⟨us, SqL.of hl2, rfl⟩, ?_⟩
  cases us with
  | nil =>
    cases hp
    refine iteF ?_
    refine ⟨_, rfl, ?_⟩
    have hd : n + 0 = tr.depth := hd
    have e : n = tr.depth := by omega
    subst e
    exact k H2 s2
  | cons u us =>
    refine iteT ?_
    refine ⟨fun σ' H' => ∃ m', m' < fsize ts ∧ ∃ (n : Nat) (l : Addr) (us : List V) (ts : List Tr), σ' = [some v, some (.int n), some (.ref l)] ∧ Same H H' ∧ H' l = some (.lst us) ∧ Paired (TrAt H') us ts ∧ fsize ts ≤ 100000 ∧ n + fdep ts = tr.depth ∧ m' = fsize ts, fun _ _ h => h, ?_⟩
    refine ⟨_, rfl, _, _, rfl, rfl, _, rfl, l, u :: us, ts, rfl, hl2, hp, hz, fun l' ws H' hn hl' s' hp' => ?_⟩
    have hne : ts ≠ [] := by
      intro z
      subst z
      cases hp
    have e1 := fdep_below ts hne
    have e2 := fsize_below ts
    have e3 : 0 < ts.length := List.length_pos_iff.mpr hne
    exact ⟨_, by omega, n + 1, l', ws, ts.flatMap Tr.kids, rfl, s2.trans s', hl', hp', by omega, by omega, rfl⟩
end
end K09

namespace K09
open PySem L2 Mc
/-! ### read -/
/-- what a text is read to: a sentence, or a refusal's class -/
inductive Out where
  | tree (r : Tr) | sentence | deep
def readF (x : Str) : Out := if 200 < x.length then .sentence else match treeF (wordsF x) with
  | none => .sentence
  | some r => if 40 < r.depth then .deep else .tree r
def spRead (t : Adr) : Sp := fun vs H Q E => ∃ x, vs = [.str x] ∧ x.length ≤ sizeLine ∧ (∀ c ∈ x.cps.toList, c < 16 ^ 8) ∧ ∀ H', Same H H' → (match readF x with
  | .tree r => ∀ v, TrAt H' v r → Q v H'
  | .sentence => E (.ref t.c_NoSentence) none H'
  | .deep => E (.ref t.c_TooDeep) none H')
section
variable {P : Program} {w : World} {K : PySem.W.Frag} {mg : Str → Option Value} {base : Heap} {t : Adr}
theorem str_app (x y : Str) : (x ++ y).cps.toList = x.cps.toList ++ y.cps.toList := by
  show (x.cps ++ y.cps).toList = _
  simp
theorem wfold_small : ∀ (k : Nat) (l : List Nat), l.length = k → (∀ c ∈ l, c < 16 ^ 8) →
    (∀ y, y ∈ (wfold l).1 ∨ y = (wfold l).2 → y.length ≤ l.length + 1 ∧ ∀ c ∈ y.cps.toList, c < 16 ^ 8)
  | 0, l, h, _ => by
    have : l = [] := List.length_eq_zero_iff.mp h
    subst this
    intro y hy
    rcases hy with hy | rfl
    · exact nomatch hy
    · exact ⟨Nat.zero_le _, fun c hc => nomatch hc⟩
  | k + 1, l, h, hc => by
    have hne : l ≠ [] := fun z => by rw [z] at h; cases h
    obtain ⟨l', c, rfl⟩ : ∃ l' c, l = l' ++ [c] := ⟨l.dropLast, l.getLast hne, (List.dropLast_concat_getLast hne).symm⟩
    have hk : l'.length = k := by simpa using h
    have ih := wfold_small k l' hk (fun d hd => hc d (by simp [hd]))
    have lb := (wfold_len _ l' rfl).2
    have hcc : c < 16 ^ 8 := hc c (by simp)
    have one : (⟨#[c]⟩ : Str).length ≤ (l' ++ [c]).length + 1 ∧ ∀ d ∈ (⟨#[c]⟩ : Str).cps.toList, d < 16 ^ 8 := by
      refine ⟨by show 1 ≤ _; simp, fun d hd => ?_⟩
      have : d = c := by simpa using hd
      rw [this]; exact hcc
    have nil : (Str.ofString "").length ≤ (l' ++ [c]).length + 1 ∧ ∀ d ∈ (Str.ofString "").cps.toList, d < 16 ^ 8 := ⟨Nat.zero_le _, fun d hd => nomatch hd⟩
    have up : ∀ y, (y ∈ (wfold l').1 ∨ y = (wfold l').2) → y.length ≤ (l' ++ [c]).length + 1 ∧ ∀ d ∈ y.cps.toList, d < 16 ^ 8 := fun y hy => ⟨by have := (ih y hy).1; simp; omega, (ih y hy).2⟩
    rw [wfold_snoc]
    generalize wfold l' = st at ih lb up
    obtain ⟨ws, nm⟩ := st
    intro y hy
    unfold wstep at hy
    split at hy
    · rcases hy with hy | rfl
      · exact up y (.inl hy)
      · have q := up nm (.inr rfl)
        refine ⟨?_, fun d hd => ?_⟩
        · show (nm ++ ⟨#[c]⟩ : Str).length ≤ _
          rw [strLen_append]
          have : (⟨#[c]⟩ : Str).length = 1 := rfl
          dsimp only at lb
          simp; omega
        · have hd : d ∈ (nm ++ ⟨#[c]⟩ : Str).cps.toList := hd
          rw [str_app] at hd
          rcases List.mem_append.mp hd with hd | hd
          · exact q.2 d hd
          · exact one.2 d hd
    · rcases hy with hy | rfl
      · have hy : y ∈ (if c = 32 then _ else _ : List Str) := hy
        split at hy <;> split at hy
        · exact up y (.inl hy)
        · rcases List.mem_append.mp hy with hy | hy
          · exact up y (.inl hy)
          · exact up y (.inr (by simpa using hy))
        · rcases List.mem_append.mp hy with hy | hy
          · exact up y (.inl hy)
          · have : y = ⟨#[c]⟩ := by simpa using hy
            rw [this]; exact one
        · rcases List.mem_append.mp hy with hy | hy
          · rcases List.mem_append.mp hy with hy | hy
            · exact up y (.inl hy)
            · exact up y (.inr (by simpa using hy))
          · have : y = ⟨#[c]⟩ := by simpa using hy
            rw [this]; exact one
      · exact nil
theorem words_small {x : Str} (hl : x.length ≤ 200) (hc : ∀ c ∈ x.cps.toList, c < 16 ^ 8) : (wordsF x).length ≤ 2500 ∧ ∀ y ∈ wordsF x, Small y := by
  have hlen : (x.cps.toList ++ [32]).length = x.length + 1 := by simp [Str.length]
  unfold wordsF
  refine ⟨?_, fun y hy => ?_⟩
  · have := (wfold_len _ (x.cps.toList ++ [32]) rfl).1
    omega
  · have := wfold_small _ (x.cps.toList ++ [32]) rfl (fun c h => by
      rcases List.mem_append.mp h with h | h
      · exact hc c h
      · have : c = 32 := by simpa using h
        rw [this]; decide) y (.inl hy)
    exact ⟨by omega, this.2⟩
def tot (ts : List Tr) (ss : List Str) : Nat := (ts.map Tr.size).sum + ss.length
theorem foldT_tot (s : Str) (ts : List Tr) : ((foldT s ts).map Tr.size).sum ≤ (ts.map Tr.size).sum + 1 := by
  match ts with
  | [] => simp [foldT]
  | [r] =>
    show ((if s = "~" then [Tr.not r] else [r]).map Tr.size).sum ≤ _
    split <;> simp [Tr.size]
  | r :: l :: rest =>
    show ((if s = "~" then Tr.not r :: l :: rest else .bin (opOf s) l r :: rest).map Tr.size).sum ≤ _
    split <;> simp [Tr.size] <;> omega
theorem foldW_tot {c : Str → Bool} {ts : List Tr} {ss : List Str} : tot (foldW c ts ss).1 (foldW c ts ss).2 ≤ tot ts ss := by
  induction ss generalizing ts with
  | nil => exact Nat.le_refl _
  | cons s ss ih =>
    unfold foldW
    split
    · refine Nat.le_trans ih ?_
      have := foldT_tot s ts
      unfold tot
      simp
      omega
    · exact Nat.le_refl _
theorem step_tot {st st' : Rd} {x : Str} (h : stepF st x = some st') : tot st'.1 st'.2.1 ≤ tot st.1 st.2.1 + 1 := by
  obtain ⟨ts, ss, due⟩ := st
  unfold stepF at h
  dsimp only at h
  split at h
  · split at h
    · cases h; unfold tot; simp; omega
    · unfold leafF at h
      split at h
      · cases h; unfold tot; simp [Tr.size]; omega
      · split at h
        · cases h; unfold tot; simp [Tr.size]; omega
        · split at h
          · cases h; unfold tot; simp [Tr.size]; omega
          · cases h
  · split at h
    · split at h
      · cases h
      · rename_i s2 ss2 he
        cases h
        have q := foldW_tot (c := notBr) (ts := ts) (ss := ss)
        rw [he] at q
        unfold tot at q ⊢
        simp at q ⊢
        omega
    · split at h
      · cases h
        have q := foldW_tot (c := tk x) (ts := ts) (ss := ss)
        unfold tot at q ⊢
        simp
        omega
      · cases h
theorem run_tot {ws : List Str} {st st' : Rd} (h : runF ws st = some st') : tot st'.1 st'.2.1 ≤ tot st.1 st.2.1 + ws.length := by
  induction ws generalizing st with
  | nil => cases h; exact Nat.le_refl _
  | cons x ws ih =>
    unfold runF at h
    obtain ⟨s1, h1, h2⟩ := Option.bind_eq_some_iff.mp h
    have := step_tot h1
    have := ih h2
    simp; omega
theorem tree_size {ws : List Str} {r : Tr} (h : treeF ws = some r) (hl : ws.length ≤ 2500) : r.size ≤ 100000 := by
  unfold treeF at h
  obtain ⟨st, h1, h2⟩ := Option.bind_eq_some_iff.mp h
  have q := run_tot h1
  unfold endF at h2
  split at h2
  · cases h2
  · split at h2
    · rename_i e1 e2
      cases h2
      have z := foldW_tot (c := notBr) (ts := st.1) (ss := st.2.1)
      rw [e2] at z
      unfold tot at z q
      simp at z q
      omega
    · cases h2
theorem scRead : FnScope ["text", "tree"] ["text"] (defScope s_read) := ⟨rfl, rfl, rfl, by decide +kernel, rfl, by decide +kernel, by decide +kernel⟩
theorem ok_read (T : Txt P w K mg t) : FnOk P w K mg base (CX1 P w) 6 t.a_read t.fd_read ["text"] (spRead t) := by
  refine T.F_read.ok1 scRead (fun vs H Q E h => by obtain ⟨x, rfl, _⟩ := h; rfl) (fun cdv A outer s H vs Q E hr h => ?_)
  obtain ⟨x, rfl, hl, hc, k⟩ := h
  have nd := scRead.nd
  have G_words_of : FnOk P w K mg base (CX1 P w) 2 t.a_words_of t.fd_words_of ["text"] spWords := ok_words T
  have G_tree_of_words : FnOk P w K mg base (CX1 P w) 5 t.a_tree_of_words t.fd_tree_of_words ["words"] (spTree t) := ok_tree T
  have G_depth : FnOk P w K mg base (CX1 P w) 3 t.a_depth t.fd_depth ["tree"] spDepth := ok_depth T
  refine ⟨_, (pss_cons (ps_if (pt_cmpR op_gt (pcallB call_len_str T.n_len Bt.len (pa_cons (pvl 0) pa_nil)) (pglob (v := .int 200) T.m_LONGEST_TEXT ⟨_, rfl⟩) (nomark _))
        (pss_one (ps_raise raises1 rfl T.m_NoSentence T.e_NoSentence (pa_cons pe_str pa_nil)))
        pss_nil)
      (pss_cons (psl 1 nd (pcall G_tree_of_words (hr.mono (by first | decide | omega)) T.m_tree_of_words T.k_tree_of_words T.b_tree_of_words passes1 (pa_cons (pcall G_words_of (hr.mono (by first | decide | omega)) T.m_words_of T.k_words_of T.b_words_of never1 (pa_cons (pvl 0) pa_nil)) pa_nil)))
      (pss_cons (ps_if (pt_cmpR op_gt (pcall G_depth (hr.mono (by first | decide | omega)) T.m_depth T.k_depth T.b_depth never1 (pa_cons (pvl 1) pa_nil)) (pglob (v := .int 40) T.m_GREATEST_DEPTH ⟨_, rfl⟩) (nomark _))
        (pss_one (ps_raise raises1 rfl T.m_TooDeep T.e_TooDeep (pa_cons pe_str pa_nil)))
        pss_nil)
      (pss_one (ps_ret (pvl 1)))))), ?_⟩
  refine ⟨_, rfl, _, rfl, hl, _, _, rfl, rfl, _, rfl, ?_⟩
  unfold readF at k
  refine ite2 (fun e => ?_) (fun e => ?_)
  · have e : (200 : Int) < x.length := of_decide_eq_true e
    rw [if_pos (by omega)] at k
    exact ⟨by show 1 ≤ sizeLine; decide, k H fun _ _ z => z⟩
  have e : ¬ (200 : Int) < x.length := fun z => e (decide_eq_true z)
  rw [if_neg (by omega)] at k
  obtain ⟨w1, w2⟩ := words_small (by omega) hc
  refine ⟨_, rfl, x, rfl, by omega, fun p hp => ⟨p, wordsF x, rfl, upd_same, w1, w2, fun hn H1 s1 => ?_, fun r hr1 v H1 s1 hv => ?_⟩⟩
  · rw [hn] at k
    exact k H1 ((same_upd hp).trans s1)
  · rw [hr1] at k
    refine ⟨_, rfl, v, r, rfl, hv, tree_size hr1 w1, fun H2 s2 => ?_⟩
    have k := k H2 ((same_upd hp).trans (s1.trans s2))
    refine ⟨_, _, rfl, rfl, _, rfl, ?_⟩
    refine ite2 (fun e => ?_) (fun e => ?_)
    · have e : (40 : Int) < r.depth := of_decide_eq_true e
      dsimp only at k
      rw [if_pos (by omega)] at k
      exact ⟨by show 1 ≤ sizeLine; decide, k⟩
    · have e : ¬ (40 : Int) < r.depth := fun z => e (decide_eq_true z)
      dsimp only at k
      rw [if_neg (by omega)] at k
      exact ⟨_, rfl, k v (hv.mono s2.tups)⟩
end
end K09

namespace K09
open PySem L2 Mc
/-! ### what words write: the reading back -/
/-- how much a part binds; n is the least that is asked for -/
inductive Wr : Int → Tr → List Str → Prop
  | leaf {n : Int} {x : Str} {t : Tr} (h : leafF x = some t) (h1 : ¬ x = "~") (h2 : ¬ x = "(") : Wr n t [x]
  | not {n : Int} {t : Tr} {ws : List Str} (h : Wr 5 t ws) : Wr n (.not t) ("~" :: ws)
  | bra {n : Int} {t : Tr} {ws : List Str} (h : Wr 0 t ws) : Wr n t ("(" :: (ws ++ [(")" : Str)]))
  | bin {n nl nr : Int} {o : Str} {l r : Tr} {wl wr : List Str} (ho : isOp o) (hn : n ≤ bindI o) (hl : bindI o ≤ nl ∧ (o = ">" → bindI o < nl)) (hr : bindI o ≤ nr ∧ (¬ o = ">" → bindI o < nr)) (h1 : Wr nl l wl) (h2 : Wr nr r wr) : Wr n (.bin (opOf o) l r) (wl ++ o :: wr)
/-- no sign of the last one's takes a part from one that binds at least n -/
def Free (n : Int) : List Str → Prop
  | [] => True
  | s :: _ => ∀ o, isOp o → n ≤ bindI o → takesF s o = false
theorem Free.more {n m : Int} (h : n ≤ m) : ∀ {ss : List Str}, Free n ss → Free m ss
  | [], _ => trivial
  | _ :: _, f => fun o ho hn => f o ho (Int.le_trans h hn)
def Pend (n : Int) (s : Str) : Prop := s = "~" ∨ (isOp s ∧ n ≤ bindI s)
theorem op_le {o : Str} (h : isOp o) : bindI o ≤ 4 := by
  rcases h with rfl | rfl | rfl | rfl <;> decide +kernel
theorem op_ge {o : Str} (h : isOp o) : 1 ≤ bindI o := by
  rcases h with rfl | rfl | rfl | rfl <;> decide +kernel
theorem bind_inj {o p : Str} (h : isOp o) (h' : isOp p) (e : bindI o = bindI p) : o = p := by
  rcases h with rfl | rfl | rfl | rfl <;> rcases h' with rfl | rfl | rfl | rfl <;> first | rfl | exact absurd e (by decide +kernel)
theorem takes_op {s o : Str} (hs : isOp s) (ho : isOp o) : takesF s o = if s = o then !decide (o = ">") else decide (bindI o < bindI s) := by
  unfold takesF
  rw [if_neg (op_nb hs).1, if_neg (op_nb hs).2]
theorem takes_wave (o : Str) : takesF "~" o = true := by
  unfold takesF
  rw [if_neg (by decide +kernel), if_pos rfl]
theorem takes_bra (o : Str) : takesF "(" o = false := by
  unfold takesF
  rw [if_pos rfl]
theorem foldW_no {c : Str → Bool} {ts : List Tr} {s : Str} {ss : List Str} (h : ¬ c s = true) : foldW c ts (s :: ss) = (ts, s :: ss) := by
  show (if c s = true then _ else _) = _
  rw [if_neg h]
theorem foldW_yes {c : Str → Bool} {ts : List Tr} {s : Str} {ss : List Str} (h : c s = true) : foldW c ts (s :: ss) = foldW c (foldT s ts) ss := by
  show (if c s = true then _ else _) = _
  rw [if_pos h]
theorem foldW_free {o : Str} (ho : isOp o) {n : Int} (hn : n ≤ bindI o) {ts : List Tr} : ∀ {ss : List Str}, Free n ss → foldW (tk o) ts ss = (ts, ss)
  | [], _ => rfl
  | s :: ss, f => foldW_no (by
    have : tk o s = false := f o ho hn
    rw [this]
    decide)
theorem foldT_wave (r : Tr) (rest : List Tr) : foldT "~" (r :: rest) = .not r :: rest := by
  simp [foldT]
theorem foldT_op {o : Str} (ho : isOp o) (r l : Tr) (rest : List Tr) : foldT o (r :: l :: rest) = .bin (opOf o) l r :: rest := by
  simp [foldT, (op_nb ho).2]
theorem runF_app (u v : List Str) (s : Rd) : runF (u ++ v) s = (runF u s).bind (runF v) := by
  induction u generalizing s with
  | nil => rfl
  | cons y u ih =>
    simp only [List.cons_append, runF, Option.bind_assoc]
    congr 1
    funext z
    exact ih z
theorem step_begin {x : Str} (h : x = "~" ∨ x = "(") (ts : List Tr) (ss : List Str) : stepF (ts, ss, true) x = some (ts, x :: ss, true) := by
  unfold stepF
  rw [if_pos rfl, if_pos h]
theorem step_leaf {x : Str} {r : Tr} (h1 : ¬ x = "~") (h2 : ¬ x = "(") (h : leafF x = some r) (ts : List Tr) (ss : List Str) : stepF (ts, ss, true) x = some (r :: ts, ss, false) := by
  unfold stepF
  rw [if_pos rfl, if_neg (fun z => z.elim h1 h2), h]
  rfl
theorem step_op {o : Str} (ho : isOp o) (ts : List Tr) (ss : List Str) : stepF (ts, ss, false) o = some ((foldW (tk o) ts ss).1, o :: (foldW (tk o) ts ss).2, true) := by
  unfold stepF
  have hne : ¬ o = ")" := by rcases ho with rfl | rfl | rfl | rfl <;> decide +kernel
  rw [if_neg Bool.false_ne_true, if_neg hne, if_pos ho]
theorem step_close {ts ts' : List Tr} {ss ss' : List Str} {x : Str} (h : foldW notBr ts ss = (ts', x :: ss')) : stepF (ts, ss, false) ")" = some (ts', ss', false) := by
  unfold stepF
  rw [if_neg Bool.false_ne_true, if_pos rfl]
  dsimp only
  rw [h]
/-- what is read of a part -/
theorem wr_run {n : Int} {t : Tr} {ws : List Str} (h : Wr n t ws) : ∀ (ts : List Tr) (ss : List Str), Free n ss →
    ∃ (ts' : List Tr) (ps : List Str), runF ws (ts, ss, true) = some (ts', ps ++ ss, false) ∧ (∀ s ∈ ps, Pend n s) ∧ ∀ c : Str → Bool, (∀ s ∈ ps, c s = true) → foldW c ts' (ps ++ ss) = foldW c (t :: ts) ss := by
  induction h with
  | leaf h h1 h2 =>
    intro ts ss _
    refine ⟨_, [], ?_, (fun s hs => nomatch hs), fun c _ => rfl⟩
    show (stepF _ _).bind _ = _
    rw [step_leaf h1 h2 h]
    rfl
  | @not n t ws h ih =>
    intro ts ss _
    obtain ⟨ts', ps, e, hp, hc⟩ := ih ts ("~" :: ss) (fun o ho hn => by have := op_le ho; omega)
    refine ⟨ts', ps ++ [("~" : Str)], ?_, fun s hs => ?_, fun c hcs => ?_⟩
    · show (stepF _ _).bind _ = _
      rw [step_begin (.inl rfl)]
      show runF ws _ = _
      rw [e, List.append_assoc]
      rfl
    · rcases List.mem_append.mp hs with hs | hs
      · rcases hp s hs with h | ⟨ho, h⟩
        · exact .inl h
        · have := op_le ho
          omega
      · exact .inl (List.mem_singleton.mp hs)
    · rw [List.append_assoc]
      show foldW c ts' (ps ++ ("~" : Str) :: ss) = _
      rw [hc c fun s hs => hcs s (List.mem_append_left _ hs), foldW_yes (hcs "~" (by simp)), foldT_wave]
  | @bra n t ws h ih =>
    intro ts ss _
    obtain ⟨ts', ps, e, hp, hc⟩ := ih ts ("(" :: ss) (fun o _ _ => takes_bra o)
    refine ⟨t :: ts, [], ?_, fun s hs => (nomatch hs), fun c _ => rfl⟩
    show (stepF _ _).bind _ = _
    rw [step_begin (.inr rfl)]
    show runF (ws ++ [(")" : Str)]) _ = _
    rw [runF_app, e]
    show (stepF _ _).bind _ = _
    have hf : foldW notBr ts' (ps ++ ("(" : Str) :: ss) = (t :: ts, ("(" : Str) :: ss) := by
      rw [hc notBr fun s hs => ?_]
      · exact foldW_no (by decide +kernel)
      · rcases hp s hs with rfl | ⟨ho, _⟩
        · decide +kernel
        · unfold notBr
          rw [decide_eq_false (op_nb ho).1]
          rfl
    rw [step_close hf]
    rfl
  | @bin n nl nr o l r wl wr ho hn hl hr h1 h2 ih1 ih2 =>
    intro ts ss hf
    obtain ⟨tsl, psl, el, hpl, hcl⟩ := ih1 ts ss (hf.more (Int.le_trans hn hl.1))
    have tkl : ∀ s ∈ psl, tk o s = true := fun s hs => by
      rcases hpl s hs with rfl | ⟨hs', hb⟩
      · exact takes_wave o
      · show takesF s o = true
        rw [takes_op hs' ho]
        by_cases e : s = o
        · rw [if_pos e, decide_eq_false fun z => ?_]
          · rfl
          · have := hl.2 z
            rw [e] at hb
            omega
        · rw [if_neg e]
          refine decide_eq_true ?_
          have h1 := hl.1
          have h2 : bindI s ≠ bindI o := fun z => e (bind_inj hs' ho z)
          omega
    have fl : foldW (tk o) tsl (psl ++ ss) = (l :: ts, ss) := by rw [hcl _ tkl, foldW_free ho hn hf]
    obtain ⟨tsr, psr, er, hpr, hcr⟩ := ih2 (l :: ts) (o :: ss) (fun p hp hb => by
      rw [takes_op ho hp]
      by_cases e : o = p
      · rw [if_pos e]
        by_cases e2 : p = ">"
        · rw [decide_eq_true e2]; rfl
        · have := hr.2 (by rw [e]; exact e2)
          rw [e] at this
          omega
      · rw [if_neg e]
        refine decide_eq_false ?_
        have h1 := hr.1
        omega)
    refine ⟨tsr, psr ++ [o], ?_, fun s hs => ?_, fun c hcs => ?_⟩
    · rw [runF_app, el]
      show (stepF _ _).bind _ = _
      rw [step_op ho, fl]
      show runF wr _ = _
      rw [er, List.append_assoc]
      rfl
    · rcases List.mem_append.mp hs with hs | hs
      · rcases hpr s hs with h | ⟨h, hb⟩
        · exact .inl h
        · exact .inr ⟨h, by have := hr.1; omega⟩
      · rw [List.mem_singleton.mp hs]
        exact .inr ⟨ho, hn⟩
    · rw [List.append_assoc]
      show foldW c tsr (psr ++ o :: ss) = _
      rw [hcr c fun s hs => hcs s (List.mem_append_left _ hs), foldW_yes (hcs o (by simp)), foldT_op ho]
/-- what is written is read -/
theorem wr_tree {n : Int} {t : Tr} {ws : List Str} (h : Wr n t ws) : treeF ws = some t := by
  obtain ⟨ts', ps, e, hp, hc⟩ := wr_run h [] [] trivial
  unfold treeF
  rw [e]
  show endF (ts', ps ++ [], false) = some t
  have hf := hc notBr fun s hs => by
    rcases hp s hs with rfl | ⟨ho, _⟩
    · decide +kernel
    · unfold notBr
      rw [decide_eq_false (op_nb ho).1]
      rfl
  unfold endF
  rw [if_neg Bool.false_ne_true]
  dsimp only
  rw [hf]
  rfl
end K09

namespace K09
open PySem L2 Mc
/-! ### the words of a shown text -/
def flush (st : List Str × Str) : List Str := if st.2 = "" then st.1 else st.1 ++ [st.2]
/-- these signs tell these words -/
def Spells (cs : List Nat) (ws : List Str) : Prop := ∀ acc : List Str, flush (cs.foldl wstep (acc, "")) = acc ++ ws
theorem spells_words {x : Str} {ws : List Str} (h : Spells x.cps.toList ws) : wordsF x = ws := by
  unfold wordsF
  rw [wfold_snoc]
  have h := h []
  show (wstep (List.foldl wstep ([], "") x.cps.toList) 32).1 = ws
  generalize List.foldl wstep ([], "") x.cps.toList = st at h
  unfold wstep
  rw [if_neg (by decide), if_pos rfl]
  exact h
def isSign (c : Nat) : Prop := isLet c = false ∧ ¬ c = 32
theorem wstep_sign {c : Nat} (h : isSign c) (st : List Str × Str) : wstep st c = (flush st ++ [⟨#[c]⟩], ("" : Str)) := by
  unfold wstep flush
  rw [if_neg (by rw [h.1]; decide), if_neg h.2]
theorem wstep_blank (st : List Str × Str) : wstep st 32 = (flush st, ("" : Str)) := by
  unfold wstep flush
  rw [if_neg (by decide), if_pos rfl]
theorem flush_clean (l : List Str) : flush (l, "") = l := if_pos rfl
theorem sp_pre {c : Nat} {cs : List Nat} {ws : List Str} (h : isSign c) (hs : Spells cs ws) : Spells (c :: cs) (⟨#[c]⟩ :: ws) := fun acc => by
  rw [List.foldl_cons, wstep_sign h, flush_clean, hs]
  simp
theorem sp_post {c : Nat} {cs : List Nat} {ws : List Str} (h : isSign c) (hs : Spells cs ws) : Spells (cs ++ [c]) (ws ++ [⟨#[c]⟩]) := fun acc => by
  rw [List.foldl_append, List.foldl_cons, List.foldl_nil, wstep_sign h, flush_clean, hs]
  simp
theorem sp_sign {c : Nat} (h : isSign c) : Spells [c] [⟨#[c]⟩] := fun acc => by
  rw [List.foldl_cons, List.foldl_nil, wstep_sign h, flush_clean, flush_clean]
theorem sp_blank {cs ds : List Nat} {ws vs : List Str} (h : Spells cs ws) (hd : Spells ds vs) : Spells (cs ++ 32 :: ds) (ws ++ vs) := fun acc => by
  rw [List.foldl_append, List.foldl_cons, wstep_blank, h, hd]
  simp
/-- a sign between, no blanks -/
theorem sp_mid {c : Nat} {cs ds : List Nat} {ws vs : List Str} (hc : isSign c) (h : Spells cs ws) (hd : Spells ds vs) : Spells (cs ++ c :: ds) (ws ++ ⟨#[c]⟩ :: vs) := fun acc => by
  rw [List.foldl_append, List.foldl_cons, wstep_sign hc, h, hd]
  simp
theorem letters_fold (acc : List Str) : ∀ (cs : List Nat) (y : Str), (∀ c ∈ cs, isLet c = true) → cs.foldl wstep (acc, y) = (acc, ⟨(y.cps.toList ++ cs).toArray⟩)
  | [], y, _ => by
    show (acc, y) = _
    rw [List.append_nil]
  | c :: cs, y, h => by
    rw [List.foldl_cons]
    have e : wstep (acc, y) c = (acc, y ++ ⟨#[c]⟩) := by
      unfold wstep
      rw [if_pos (h c List.mem_cons_self)]
    rw [e, letters_fold acc cs _ fun d hd => h d (List.mem_cons_of_mem _ hd), str_app]
    simp
theorem sp_name {x : Str} (h : isName x = true) : Spells x.cps.toList [x] := fun acc => by
  unfold isName at h
  obtain ⟨h1, h2⟩ := Bool.and_eq_true_iff.mp h
  obtain ⟨h1, _⟩ := Bool.and_eq_true_iff.mp h1
  have h1 := of_decide_eq_true h1
  rw [letters_fold acc x.cps.toList "" fun c hc => List.all_eq_true.mp h2 c hc]
  have e0 : ("" : Str).cps.toList = [] := by decide +kernel
  have e : (⟨(("" : Str).cps.toList ++ x.cps.toList).toArray⟩ : Str) = x := by
    rw [e0]
    simp
  rw [e]
  unfold flush
  rw [if_neg fun z => ?_]
  have z : x = "" := z
  rw [z] at h1
  exact absurd h1 (by decide +kernel)
theorem sign_of {y : Str} {c : Nat} (h : y = ⟨#[c]⟩) : y.cps.toList = [c] := by rw [h]
theorem e_open : ("(" : Str) = ⟨#[40]⟩ := by decide +kernel
theorem e_close : (")" : Str) = ⟨#[41]⟩ := by decide +kernel
theorem e_wave : ("~" : Str) = ⟨#[126]⟩ := by decide +kernel
theorem e_one : ("1" : Str) = ⟨#[49]⟩ := by decide +kernel
theorem e_zero : ("0" : Str) = ⟨#[48]⟩ := by decide +kernel
theorem e_blank : (" " : Str) = ⟨#[32]⟩ := by decide +kernel
theorem name_ne {x : Str} (h : isName x = true) {c : Nat} (hc : isLet c = false) : ¬ x = ⟨#[c]⟩ := fun z => by
  rw [z] at h
  unfold isName at h
  have h2 := (Bool.and_eq_true_iff.mp h).2
  have : isLet c = true := List.all_eq_true.mp h2 c (by simp)
  rw [hc] at this
  cases this
theorem leaf_name {x : Str} (h : isName x = true) : leafF x = some (.nm x) := by
  unfold leafF
  rw [if_neg (by rw [e_one]; exact name_ne h (by decide)), if_neg (by rw [e_zero]; exact name_ne h (by decide)), if_pos h]
theorem isname_of {x : Str} (h : IsName x) : isName x = true := by
  have e : x.length = x.cps.toList.length := Array.length_toList.symm
  unfold isName
  rw [decide_eq_true (show (1 : Int) ≤ (x.length : Int) by have := h.pos; omega), decide_eq_true (show (x.length : Int) ≤ 8 by have := h.le; omega)]
  refine List.all_eq_true.mpr fun c hc => ?_
  have := h.ok c hc
  unfold isLet
  rw [decide_eq_true this.1, decide_eq_true this.2]
  rfl
theorem name_codes {x : Str} (h : isName x = true) : ∀ c ∈ x.cps.toList, c < 16 ^ 8 := fun c hc => by
  unfold isName at h
  have h2 := List.all_eq_true.mp (Bool.and_eq_true_iff.mp h).2 c hc
  unfold isLet at h2
  have := of_decide_eq_true (Bool.and_eq_true_iff.mp h2).2
  have e : 16 ^ 8 = 4294967296 := by decide
  omega
theorem codes_app {x y : Str} (h1 : ∀ c ∈ x.cps.toList, c < 16 ^ 8) (h2 : ∀ c ∈ y.cps.toList, c < 16 ^ 8) : ∀ c ∈ (x ++ y).cps.toList, c < 16 ^ 8 := fun c hc => by
  rw [str_app] at hc
  rcases List.mem_append.mp hc with h | h
  · exact h1 c h
  · exact h2 c h
theorem codes_one {y : Str} {c : Nat} (h : y = ⟨#[c]⟩) (hc : c < 16 ^ 8) : ∀ d ∈ y.cps.toList, d < 16 ^ 8 := fun d hd => by
  rw [sign_of h] at hd
  rw [List.mem_singleton.mp hd]
  exact hc
theorem Wr.less {n m : Int} {t : Tr} {ws : List Str} (h : Wr n t ws) (hm : m ≤ n) : Wr m t ws := by
  cases h with
  | leaf h h1 h2 => exact .leaf h h1 h2
  | not h => exact .not h
  | bra h => exact .bra h
  | bin ho hn hl hr h1 h2 => exact .bin ho (Int.le_trans hm hn) hl hr h1 h2
end K09

namespace K09
open PySem L2 Mc
/-! ### what is read is written -/
/-- the least that a part behind these signs must bind -/
def minR (s : Str) : Int := if s = ">" then bindI s else bindI s + 1
def minL (o : Str) : Int := if o = ">" then bindI o + 1 else bindI o
def lev : List Str → Int
  | [] => 0
  | s :: _ => if s = "(" then 0 else if s = "~" then 5 else minR s
/-- the trees and signs that stand ahead of a part, and the words that were read so far -/
inductive Rep : List Tr → List Str → List Str → Prop
  | nil : Rep [] [] []
  | wave {ts : List Tr} {ss u : List Str} (h : Rep ts ss u) : Rep ts ("~" :: ss) (u ++ [("~" : Str)])
  | bra {ts : List Tr} {ss u : List Str} (h : Rep ts ss u) : Rep ts ("(" :: ss) (u ++ [("(" : Str)])
  | op {ts : List Tr} {ss u w : List Str} {o : Str} {l : Tr} (ho : isOp o) (h : Rep ts ss u) (hl : lev ss ≤ bindI o) (hw : Wr (minL o) l w) : Rep (l :: ts) (o :: ss) (u ++ (w ++ [o]))
theorem minR_le {o : Str} : bindI o ≤ minR o ∧ (¬ o = ">" → bindI o < minR o) := by
  unfold minR
  by_cases h : o = ">"
  · rw [if_pos h]; exact ⟨Int.le_refl _, fun z => absurd h z⟩
  · rw [if_neg h]; exact ⟨by omega, fun _ => by omega⟩
theorem minL_le {o : Str} : bindI o ≤ minL o ∧ (o = ">" → bindI o < minL o) := by
  unfold minL
  by_cases h : o = ">"
  · rw [if_pos h]; exact ⟨by omega, fun _ => by omega⟩
  · rw [if_neg h]; exact ⟨Int.le_refl _, fun z => absurd z h⟩
theorem lev_op {o : Str} (ho : isOp o) (ss : List Str) : lev (o :: ss) = minR o := by
  unfold lev
  dsimp only
  rw [if_neg (op_nb ho).1, if_neg (op_nb ho).2]
theorem lev_wave (ss : List Str) : lev ("~" :: ss) = 5 := by
  unfold lev
  dsimp only
  rw [if_neg (by decide +kernel), if_pos rfl]
theorem lev_bra (ss : List Str) : lev ("(" :: ss) = 0 := by
  unfold lev
  dsimp only
  rw [if_pos rfl]
theorem lev_le (ss : List Str) : lev ss ≤ 5 := by
  cases ss with
  | nil => decide
  | cons s ss =>
    unfold lev
    dsimp only
    split
    · decide
    · split
      · decide
      · unfold minR bindI
        split <;> (repeat' split) <;> decide
/-- signs put together as far as c tells; n: what binds no less than each of them -/
theorem fold_rep {c : Str → Bool} {n : Int} (hn : n ≤ 5) (hc : ∀ o, isOp o → c o = true → n ≤ bindI o) (hb : c "(" = false) : ∀ {ss : List Str} {ts : List Tr} {u w : List Str} {r : Tr}, Rep ts ss u → Wr n r w → Wr (lev ss) r w →
    ∃ (r' : Tr) (ts' : List Tr) (ss' u' w' : List Str), foldW c (r :: ts) ss = (r' :: ts', ss') ∧ Rep ts' ss' u' ∧ Wr n r' w' ∧ Wr (lev ss') r' w' ∧ u ++ w = u' ++ w' ∧ (∀ s ss2, ss' = s :: ss2 → c s = false) := by
  intro ss
  induction ss with
  | nil =>
    intro ts u w r hR h1 h2
    exact ⟨r, ts, [], u, w, rfl, hR, h1, h2, rfl, fun s ss2 e => nomatch e⟩
  | cons s ss ih =>
    intro ts u w r hR h1 h2
    by_cases hcs : c s = true
    · cases hR with
      | @wave _ _ u0 h =>
        rw [lev_wave] at h2
        obtain ⟨r', ts', ss', u', w', e, g1, g2, g3, g4, g5⟩ := ih (w := ("~" : Str) :: w) (r := .not r) h (.not h2) (.not h2)
        refine ⟨r', ts', ss', u', w', ?_, g1, g2, g3, ?_, g5⟩
        · rw [foldW_yes hcs, foldT_wave, e]
        · rw [← g4]
          simp
      | bra h => rw [hb] at hcs; cases hcs
      | @op ts0 _ u0 wl _ l ho h hl hw =>
        rw [lev_op ho] at h2
        have hn' := hc s ho hcs
        have bin : ∀ m, m ≤ bindI s → Wr m (.bin (opOf s) l r) (wl ++ s :: w) := fun m hm => .bin ho hm minL_le minR_le hw h2
        obtain ⟨r', ts', ss', u', w', e, g1, g2, g3, g4, g5⟩ := ih (w := wl ++ s :: w) (r := .bin (opOf s) l r) h (bin _ hn') (bin _ hl)
        refine ⟨r', ts', ss', u', w', ?_, g1, g2, g3, ?_, g5⟩
        · rw [foldW_yes hcs, foldT_op ho, e]
        · rw [← g4]
          simp
    · refine ⟨r, ts, s :: ss, u, w, foldW_no hcs, hR, h1, h2, rfl, fun s' ss2 e => ?_⟩
      cases e
      exact Bool.eq_false_iff.mpr hcs
theorem takes_min {s o : Str} (hs : isOp s) (ho : isOp o) (h : takesF s o = true) : minL o ≤ bindI s := by
  rw [takes_op hs ho] at h
  unfold minL
  by_cases e : s = o
  · rw [if_pos e] at h
    by_cases z : o = ">"
    · rw [decide_eq_true z] at h
      cases h
    · rw [if_neg z, e]
      exact Int.le_refl _
  · rw [if_neg e] at h
    have := of_decide_eq_true h
    split <;> omega
theorem free_lev {ss : List Str} {ts : List Tr} {u : List Str} {o : Str} (hR : Rep ts ss u) (ho : isOp o) (h : ∀ s ss2, ss = s :: ss2 → tk o s = false) : lev ss ≤ bindI o := by
  have h1 := op_ge ho
  cases hR with
  | nil => show (0 : Int) ≤ _; omega
  | wave _ =>
    have := h _ _ rfl
    rw [show tk o "~" = true from takes_wave o] at this
    cases this
  | bra _ => rw [lev_bra]; omega
  | @op _ _ _ _ s _ hs _ _ _ =>
    have h2 : takesF s o = false := h _ _ rfl
    rw [lev_op hs]
    rw [takes_op hs ho] at h2
    unfold minR
    by_cases e : s = o
    · rw [if_pos e] at h2
      have z : o = ">" := by
        by_cases z : o = ">"
        · exact z
        · rw [decide_eq_false z] at h2
          cases h2
      rw [if_pos (e.trans z), e]
      exact Int.le_refl _
    · rw [if_neg e] at h2
      have h3 : ¬ bindI o < bindI s := of_decide_eq_false h2
      have h4 : bindI s ≠ bindI o := fun q => e (bind_inj hs ho q)
      split <;> omega
/-- the state of the reader behind the words u -/
def RepS (st : Rd) (u : List Str) : Prop := (st.2.2 = true ∧ Rep st.1 st.2.1 u) ∨ (st.2.2 = false ∧ ∃ (r : Tr) (ts : List Tr) (u0 w : List Str), st.1 = r :: ts ∧ Rep ts st.2.1 u0 ∧ Wr 5 r w ∧ u = u0 ++ w)
theorem step_rep {st st' : Rd} {u : List Str} {x : Str} (h : RepS st u) (e : stepF st x = some st') : RepS st' (u ++ [x]) := by
  obtain ⟨ts, ss, d⟩ := st
  rcases h with ⟨hd, hR⟩ | ⟨hd, r, ts0, u0, w, h1, hR, hw, rfl⟩
  · have hd : d = true := hd
    subst hd
    unfold stepF at e
    rw [if_pos rfl] at e
    by_cases hx : x = "~" ∨ x = "("
    · rw [if_pos hx] at e
      cases e
      refine .inl ⟨rfl, ?_⟩
      rcases hx with rfl | rfl
      · exact .wave hR
      · exact .bra hR
    · rw [if_neg hx] at e
      cases hl : leafF x with
      | none => rw [hl] at e; cases e
      | some r =>
        rw [hl] at e
        cases e
        exact .inr ⟨rfl, r, ts, u, [x], rfl, hR, .leaf hl (fun z => hx (.inl z)) (fun z => hx (.inr z)), rfl⟩
  · have hd : d = false := hd
    have h1 : ts = r :: ts0 := h1
    subst hd h1
    unfold stepF at e
    rw [if_neg Bool.false_ne_true] at e
    by_cases hx : x = ")"
    · subst hx
      rw [if_pos rfl] at e
      obtain ⟨r', ts', ss', u', w', ef, g1, g2, g3, g4, g5⟩ := fold_rep (c := notBr) (n := 0) (by decide) (fun o ho _ => by have := op_ge ho; omega) (by decide +kernel) hR (hw.less (by decide)) (hw.less (lev_le ss))
      dsimp only at e
      rw [ef] at e
      cases ss' with
      | nil => cases e
      | cons s ss2 =>
        cases e
        have hs := g5 s ss2 rfl
        have hs : s = "(" := by
          unfold notBr at hs
          by_cases z : s = "("
          · exact z
          · rw [decide_eq_false z] at hs
            cases hs
        subst hs
        cases g1 with
        | @bra _ _ u2 g1 =>
          refine .inr ⟨rfl, r', ts', u2, ("(" : Str) :: (w' ++ [(")" : Str)]), rfl, g1, .bra g2, ?_⟩
          rw [g4]
          simp
        | op ho _ _ _ => exact absurd rfl (op_nb ho).1
    · rw [if_neg hx] at e
      by_cases ho : isOp x
      · rw [if_pos ho] at e
        cases e
        have hm : minL x ≤ 5 := by
          have := op_le ho
          unfold minL
          split <;> omega
        obtain ⟨r', ts', ss', u', w', ef, g1, g2, g3, g4, g5⟩ := fold_rep (c := tk x) (n := minL x) hm (fun o ho' hc => takes_min ho' ho hc) (by show takesF "(" x = false; exact takes_bra x) hR (hw.less hm) (hw.less (lev_le ss))
        refine .inl ⟨rfl, ?_⟩
        show Rep (foldW (tk x) (r :: ts0) ss).1 (x :: (foldW (tk x) (r :: ts0) ss).2) _
        rw [ef, g4]
        have := Rep.op ho g1 (free_lev g1 ho g5) g2
        rw [List.append_assoc]
        exact this
      · rw [if_neg ho] at e
        cases e
theorem run_rep : ∀ (ws : List Str) {st st' : Rd} {u : List Str}, RepS st u → runF ws st = some st' → RepS st' (u ++ ws)
  | [], st, st', u, h, e => by
    cases e
    rw [List.append_nil]
    exact h
  | x :: ws, st, st', u, h, e => by
    have e : (stepF st x).bind (runF ws) = some st' := e
    cases hs : stepF st x with
    | none => rw [hs] at e; cases e
    | some s2 =>
      rw [hs] at e
      have := run_rep ws (step_rep h hs) e
      rw [List.append_assoc] at this
      exact this
/-- what is read is written -/
theorem tree_wr {ws : List Str} {t : Tr} (h : treeF ws = some t) : Wr 0 t ws := by
  unfold treeF at h
  cases hr : runF ws ([], [], true) with
  | none => rw [hr] at h; cases h
  | some st =>
    rw [hr] at h
    have h : endF st = some t := h
    have hS := run_rep ws (st := ([], [], true)) (u := []) (.inl ⟨rfl, .nil⟩) hr
    rw [List.nil_append] at hS
    obtain ⟨ts, ss, d⟩ := st
    unfold endF at h
    rcases hS with ⟨hd, _⟩ | ⟨hd, r, ts0, u0, w, h1, hR, hw, rfl⟩
    · have hd : d = true := hd
      subst hd
      rw [if_pos rfl] at h
      cases h
    · have hd : d = false := hd
      have h1 : ts = r :: ts0 := h1
      subst hd h1
      rw [if_neg Bool.false_ne_true] at h
      obtain ⟨r', ts', ss', u', w', ef, g1, g2, g3, g4, g5⟩ := fold_rep (c := notBr) (n := 0) (by decide) (fun o ho _ => by have := op_ge ho; omega) (by decide +kernel) hR (hw.less (by decide)) (hw.less (lev_le ss))
      dsimp only at h
      rw [ef] at h
      cases ss' with
      | cons s ss2 => cases h
      | nil =>
        cases h
        cases g1
        rw [g4, List.nil_append]
        exact g2
end K09

namespace K09
open PySem L2 Mc
/-! ### the class of a refusal -/
abbrev clsWords : List Str := ["sentence", "deep", "name", "always", "never", "minds", "unlike", "back", "again", "refused"]
/-- which of the ten classes it is of -/
structure ClsAt (K : PySem.W.Frag) (t : Adr) (C : Addr) (b0 b1 b2 b3 b4 b5 b6 b7 b8 b9 : Bool) : Prop where
  x : ExC K C
  h0 : PySem.W.kitOne K (.ref C) (.ref t.c_NoSentence) = some b0
  h1 : PySem.W.kitOne K (.ref C) (.ref t.c_TooDeep) = some b1
  h2 : PySem.W.kitOne K (.ref C) (.ref t.c_NoName) = some b2
  h3 : PySem.W.kitOne K (.ref C) (.ref t.c_Always) = some b3
  h4 : PySem.W.kitOne K (.ref C) (.ref t.c_Never) = some b4
  h5 : PySem.W.kitOne K (.ref C) (.ref t.c_NoMinds) = some b5
  h6 : PySem.W.kitOne K (.ref C) (.ref t.c_Unlike) = some b6
  h7 : PySem.W.kitOne K (.ref C) (.ref t.c_NoBack) = some b7
  h8 : PySem.W.kitOne K (.ref C) (.ref t.c_NoAgain) = some b8
  h9 : PySem.W.kitOne K (.ref C) (.ref t.c_Refused) = some b9
  hv : PySem.W.kitOne K (.ref C) (.type "ValueError") = some true
/-- the word of the class C of the object at a -/
def spClass (K : PySem.W.Frag) (t : Adr) : Sp := fun vs H Q _ => ∃ a C b0 b1 b2 b3 b4 b5 b6 b7 b8 b9 j, vs = [.ref a] ∧ H a = some (excO a C) ∧ ClsAt K t C b0 b1 b2 b3 b4 b5 b6 b7 b8 b9 ∧ j < 10 ∧
  (([b0, b1, b2, b3, b4, b5, b6, b7, b8, b9].map fun b => if b = true then (1 : Int) else 0).sum = 1) ∧ [b0, b1, b2, b3, b4, b5, b6, b7, b8, b9].getD j false = true ∧ (∀ m, m < j → [b0, b1, b2, b3, b4, b5, b6, b7, b8, b9].getD m false = false) ∧
  ∀ H', Same H H' → Q (.str (clsWords.getD j "")) H'
theorem getD_bls (bs : List Bool) {j : Nat} (h : j < bs.length) : (bs.map V.bl).getD j .non = .bl (bs.getD j false) := by
  rw [List.getD, List.getElem?_map, List.getD, List.getElem?_eq_getElem h]
  rfl
section
variable {P : Program} {w : World} {K : PySem.W.Frag} {mg : Str → Option Value} {base : Heap} {t : Adr}
theorem scClass : FnScope ["_law_caught", "_law_fits", "_law_words"] ["_law_caught"] (defScope s__law_class) := ⟨rfl, rfl, rfl, by decide +kernel, rfl, by decide +kernel, by decide +kernel⟩
theorem ok_class (T : Txt P w K mg t) : FnOk P w K mg base (CX1 P w) 1 t.a__law_class t.fd__law_class ["_law_caught"] (spClass K t) := by
  refine T.F__law_class.ok1 scClass (fun vs H Q E h => by obtain ⟨a, C, b0, b1, b2, b3, b4, b5, b6, b7, b8, b9, j, rfl, _⟩ := h; rfl) (fun cdv A outer s H vs Q E hr h => ?_)
  obtain ⟨a, C, b0, b1, b2, b3, b4, b5, b6, b7, b8, b9, j, rfl, ha, c, hj, hsum, hat, hbe, k⟩ := h
  have nd := scClass.nd
  refine ⟨_, (pss_cons (psl 1 nd (pe_lst (pa_cons (pcallB call_isX T.n_isinstance Bt.isinstance (pa_cons (pvl 0) (pa_cons (pglob (v := .ref t.c_NoSentence) T.m_NoSentence rfl) pa_nil))) (pa_cons (pcallB call_isX T.n_isinstance Bt.isinstance (pa_cons (pvl 0) (pa_cons (pglob (v := .ref t.c_TooDeep) T.m_TooDeep rfl) pa_nil))) (pa_cons (pcallB call_isX T.n_isinstance Bt.isinstance (pa_cons (pvl 0) (pa_cons (pglob (v := .ref t.c_NoName) T.m_NoName rfl) pa_nil))) pa_nil)))))
      (pss_cons (psl 1 nd (pe_op op_cat (pvl 1) (pe_lst (pa_cons (pcallB call_isX T.n_isinstance Bt.isinstance (pa_cons (pvl 0) (pa_cons (pglob (v := .ref t.c_Always) T.m_Always rfl) pa_nil))) (pa_cons (pcallB call_isX T.n_isinstance Bt.isinstance (pa_cons (pvl 0) (pa_cons (pglob (v := .ref t.c_Never) T.m_Never rfl) pa_nil))) (pa_cons (pcallB call_isX T.n_isinstance Bt.isinstance (pa_cons (pvl 0) (pa_cons (pglob (v := .ref t.c_NoMinds) T.m_NoMinds rfl) pa_nil))) pa_nil))))))
      (pss_cons (psl 1 nd (pe_op op_cat (pvl 1) (pe_lst (pa_cons (pcallB call_isX T.n_isinstance Bt.isinstance (pa_cons (pvl 0) (pa_cons (pglob (v := .ref t.c_Unlike) T.m_Unlike rfl) pa_nil))) (pa_cons (pcallB call_isX T.n_isinstance Bt.isinstance (pa_cons (pvl 0) (pa_cons (pglob (v := .ref t.c_NoBack) T.m_NoBack rfl) pa_nil))) (pa_cons (pcallB call_isX T.n_isinstance Bt.isinstance (pa_cons (pvl 0) (pa_cons (pglob (v := .ref t.c_NoAgain) T.m_NoAgain rfl) pa_nil))) pa_nil))))))
      (pss_cons (psl 1 nd (pe_op op_cat (pvl 1) (pe_lst (pa_cons (pcallB call_isX T.n_isinstance Bt.isinstance (pa_cons (pvl 0) (pa_cons (pglob (v := .ref t.c_Refused) T.m_Refused rfl) pa_nil))) pa_nil))))
      (pss_cons (ps_if (PW.pt (pw_or (pt_cmpR op_ne (pcallB (call_sumG rfl) T.n_sum Bt.sum (pa_cons (pe_comp rfl ["_law_fit"] [none] (pi_list (pvl 1)) (by kernel_rfl) (fun _ _ _ _ _ _ => (pgl 0 (show List.Nodup (α := PySem.Str) ["_law_fit"] by decide +kernel))) (fun _ _ _ _ _ _ => pts_nil) (fun _ _ _ _ _ _ => (pcallT call_int1 T.n_int Bt.int (pa_cons (pvl 0) pa_nil)))) pa_nil)) pe_int (nomark _)) (pw_or1 (pt_not (pt_val (pcallB call_isX T.n_isinstance Bt.isinstance (pa_cons (pvl 0) (pa_cons (pbltn (v := .ty "ValueError") T.n_ValueError Bt.ValueError rfl) pa_nil))))))))
        (pss_one (ps_ret pe_str))
        pss_nil)
      (pss_cons (psl 2 nd (pe_lst (pa_cons pe_str (pa_cons pe_str (pa_cons pe_str (pa_cons pe_str (pa_cons pe_str (pa_cons pe_str (pa_cons pe_str (pa_cons pe_str (pa_cons pe_str (pa_cons pe_str pa_nil))))))))))))
      (pss_one (ps_ret (pe_ix ix_list (pvl 2) (pe_bm PySem.F.plainAttrs_list PySem.F.slot_list_index PySem.F.type_list_index mt_index (pvl 1) (pa_cons pe_bl pa_nil)) (fun _ _ => rfl)))))))))), ?_⟩
  have ty : ∀ {H'}, Same H H' → TyX K H' (.ref a) (.ref C) := fun {H'} s' => .inr ⟨a, _, rfl, rfl, s' _ _ ha, c.x⟩
  have r0 : Same H H := Same.refl H
  refine ⟨_, rfl, _, _, _, _, b0, rfl, rfl, ty r0, c.h0, _, rfl, _, _, _, _, b1, rfl, rfl, ty r0, c.h1, _, rfl, _, _, _, _, b2, rfl, rfl, ty r0, c.h2, lk (by first | exact Nat.le_of_ble_eq_true rfl | simp), fun l1 hl1 => ?_⟩
  have r1 : Same H (upd H l1 (.lst [.bl b0, .bl b1, .bl b2])) := same_upd hl1
  have e1 : (upd H l1 (.lst [.bl b0, .bl b1, .bl b2])) l1 = some (.lst [.bl b0, .bl b1, .bl b2]) := upd_same
  generalize upd H l1 (.lst [.bl b0, .bl b1, .bl b2]) = H1 at r1 e1 ⊢
  refine ⟨_, rfl, _, rfl, _, _, _, _, b3, rfl, rfl, ty r1, c.h3, _, rfl, _, _, _, _, b4, rfl, rfl, ty r1, c.h4, _, rfl, _, _, _, _, b5, rfl, rfl, ty r1, c.h5, lk (by first | exact Nat.le_of_ble_eq_true rfl | simp), fun l2 hl2 => ⟨l1, l2, _, _, rfl, rfl, (same_upd hl2) _ _ e1, upd_same, lk (by first | exact Nat.le_of_ble_eq_true rfl | simp), fun l3 hl3 => ?_⟩⟩
  have r3 := (r1.trans (same_upd (o := .lst [.bl b3, .bl b4, .bl b5]) hl2)).trans (same_upd (o := .lst ([.bl b0, .bl b1, .bl b2] ++ [.bl b3, .bl b4, .bl b5])) hl3)
  have e3 : (upd (upd H1 l2 (.lst [.bl b3, .bl b4, .bl b5])) l3 (.lst ([.bl b0, .bl b1, .bl b2] ++ [.bl b3, .bl b4, .bl b5]))) l3 = some (.lst ([.bl b0, .bl b1, .bl b2] ++ [.bl b3, .bl b4, .bl b5])) := upd_same
  generalize upd (upd H1 l2 (.lst [.bl b3, .bl b4, .bl b5])) l3 (.lst ([.bl b0, .bl b1, .bl b2] ++ [.bl b3, .bl b4, .bl b5])) = H3 at r3 e3 ⊢
  refine ⟨_, rfl, _, rfl, _, _, _, _, b6, rfl, rfl, ty r3, c.h6, _, rfl, _, _, _, _, b7, rfl, rfl, ty r3, c.h7, _, rfl, _, _, _, _, b8, rfl, rfl, ty r3, c.h8, lk (by first | exact Nat.le_of_ble_eq_true rfl | simp), fun l4 hl4 => ⟨l3, l4, _, _, rfl, rfl, (same_upd hl4) _ _ e3, upd_same, lk (by first | exact Nat.le_of_ble_eq_true rfl | simp), fun l5 hl5 => ?_⟩⟩
  have r5 := (r3.trans (same_upd (o := .lst [.bl b6, .bl b7, .bl b8]) hl4)).trans (same_upd (o := .lst (([.bl b0, .bl b1, .bl b2] ++ [.bl b3, .bl b4, .bl b5]) ++ [.bl b6, .bl b7, .bl b8])) hl5)
  have e5 : (upd (upd H3 l4 (.lst [.bl b6, .bl b7, .bl b8])) l5 (.lst (([.bl b0, .bl b1, .bl b2] ++ [.bl b3, .bl b4, .bl b5]) ++ [.bl b6, .bl b7, .bl b8]))) l5 = some (.lst (([.bl b0, .bl b1, .bl b2] ++ [.bl b3, .bl b4, .bl b5]) ++ [.bl b6, .bl b7, .bl b8])) := upd_same
  generalize upd (upd H3 l4 (.lst [.bl b6, .bl b7, .bl b8])) l5 (.lst (([.bl b0, .bl b1, .bl b2] ++ [.bl b3, .bl b4, .bl b5]) ++ [.bl b6, .bl b7, .bl b8])) = H5 at r5 e5 ⊢
  refine ⟨_, rfl, _, rfl, _, _, _, _, b9, rfl, rfl, ty r5, c.h9, lk (by first | exact Nat.le_of_ble_eq_true rfl | simp), fun l6 hl6 => ⟨l5, l6, _, _, rfl, rfl, (same_upd hl6) _ _ e5, upd_same, lk (by first | exact Nat.le_of_ble_eq_true rfl | simp), fun l7 hl7 => ?_⟩⟩
  have r7 := (r5.trans (same_upd (o := .lst [.bl b9]) hl6)).trans (same_upd (o := .lst ((([.bl b0, .bl b1, .bl b2] ++ [.bl b3, .bl b4, .bl b5]) ++ [.bl b6, .bl b7, .bl b8]) ++ [.bl b9])) hl7)
  have e7 : (upd (upd H5 l6 (.lst [.bl b9])) l7 (.lst ((([.bl b0, .bl b1, .bl b2] ++ [.bl b3, .bl b4, .bl b5]) ++ [.bl b6, .bl b7, .bl b8]) ++ [.bl b9]))) l7 = some (.lst ([b0, b1, b2, b3, b4, b5, b6, b7, b8, b9].map V.bl)) := upd_same
  generalize upd (upd H5 l6 (.lst [.bl b9])) l7 (.lst ((([.bl b0, .bl b1, .bl b2] ++ [.bl b3, .bl b4, .bl b5]) ++ [.bl b6, .bl b7, .bl b8]) ++ [.bl b9])) = H7 at r7 e7 ⊢
  have hbl : [b0, b1, b2, b3, b4, b5, b6, b7, b8, b9].length = 10 := rfl
  generalize [b0, b1, b2, b3, b4, b5, b6, b7, b8, b9] = bs at e7 hsum hat hbe hbl
  refine ⟨_, rfl, l7, rfl, ⟨_, SqL.of e7⟩, ?_⟩
  refine comp_list_map (a := l7) (xs := bs.map V.bl) (fun x => match x with | .bl b => .int (if b = true then 1 else 0) | x => x) (lk (by rw [List.length_map]; omega)) (SqL.of e7) (fun x R hx r => ?_) (fun l8 hl8 => ?_)
  · obtain ⟨b, _, rfl⟩ := List.mem_map.mp hx
    exact ⟨trivial, ⟨_, rfl, .inr ⟨_, rfl, r⟩⟩⟩
  have r8 := r7.trans (same_upd (o := .lst ((bs.map V.bl).map fun x => match x with | .bl b => .int (if b = true then 1 else 0) | x => x)) hl8)
  have e8 := (same_upd (o := .lst ((bs.map V.bl).map fun x => match x with | .bl b => .int (if b = true then 1 else 0) | x => x)) hl8) _ _ e7
  refine ⟨l8, bs.map fun b => if b = true then (1 : Int) else 0, rfl, SqL.of (by rw [upd_same, List.map_map, List.map_map]; rfl), ?_⟩
  rw [hsum]
  refine ⟨rfl, _, rfl, ?_⟩
  refine ⟨_, rfl, _, _, _, _, true, rfl, rfl, ty r8, c.hv, _, rfl, ?_⟩
  refine ⟨lk (by first | exact Nat.le_of_ble_eq_true rfl | simp), fun l9 hl9 => ?_⟩
  have r9 := same_upd (o := .lst (clsWords.map V.str)) hl9
  refine ⟨_, rfl, _, rfl, .inl ⟨rfl, _, SqL.of (r9 _ _ e8)⟩, l7, _, .bl true, j, rfl, rfl, SqL.of (r9 _ _ e8), rfl, ?_, by rw [List.length_map]; omega, ?_, fun m hm => ?_, ?_⟩
  · rw [List.all_map]
    exact List.all_eq_true.mpr fun _ _ => rfl
  · rw [getD_bls bs (by omega), hat]; rfl
  · rw [getD_bls bs (by omega), hbe m hm]; rfl
  · refine ⟨l9, clsWords.map V.str, _, .str (clsWords.getD j ""), rfl, rfl, SqL.of upd_same, atI_nat ?_, k _ (r8.trans r9)⟩
    rw [List.getElem?_map, List.getD]
    have : j < clsWords.length := hj
    rw [List.getElem?_eq_getElem this]
    rfl
end
end K09

namespace K09
open PySem L2 Mc
/-! ### what a text is told to be; sentences alike -/
def spTold (t : Adr) : Sp := fun vs H Q _ => ∃ x, vs = [.str x] ∧ x.length ≤ sizeLine ∧ (∀ c ∈ x.cps.toList, c < 16 ^ 8) ∧ ∀ H' p, Same H H' → (match readF x with
  | .tree r => ∀ v, TrAt H' v r → H' p = some (.tup [.str "tree", v]) → Q (.ref p) H'
  | .sentence => H' p = some (.tup [.str "sentence", .non]) → Q (.ref p) H'
  | .deep => H' p = some (.tup [.str "deep", .non]) → Q (.ref p) H')
section
variable {P : Program} {w : World} {K : PySem.W.Frag} {mg : Str → Option Value} {base : Heap} {t : Adr}
theorem scTold : FnScope ["_law_text", "_law_found", "_law_caught", "e"] ["_law_text"] (defScope s__law_told) := ⟨rfl, rfl, rfl, by decide +kernel, rfl, by decide +kernel, by decide +kernel⟩
theorem ok_told (T : Txt P w K mg t) : FnOk P w K mg base (CX1 P w) 7 t.a__law_told t.fd__law_told ["_law_text"] (spTold t) := by
  have G_read : FnOk P w K mg base (CX1 P w) 6 t.a_read t.fd_read ["text"] (spRead t) := ok_read T
  have G__law_class : FnOk P w K mg base (CX1 P w) 1 t.a__law_class t.fd__law_class ["_law_caught"] (spClass K t) := ok_class T
  refine T.F__law_told.ok1 scTold (fun vs H Q E h => by obtain ⟨x, rfl, _⟩ := h; rfl) (fun cdv A outer s H vs Q E hr h => ?_)
  obtain ⟨x, rfl, hl, hc, k⟩ := h
  have nd := scTold.nd
  refine ⟨_, (pss_cons (psl 1 nd pe_non)
      (pss_cons (psl 2 nd pe_non)
      (pss_cons (ps_try (i := 3) (psxs_one (psx_set (i := 1) nd rfl (Or.inl rfl) (pcallX G_read (hr.mono (by first | decide | omega)) T.m_read T.k_read T.b_read (pa_cons (pvl 0) pa_nil))))
        (fun e => (pss_one (psl 2 nd (pvl 3)))) T.m_MindError T.h_MindError nd rfl)
      (pss_cons (ps_if (pt_cmpR op_isN (pvl 2) pe_non (nomark _))
        (pss_one (ps_ret (pe_tup (pa_cons pe_str (pa_cons (pvl 1) pa_nil)))))
        pss_nil)
      (pss_one (ps_ret (pe_tup (pa_cons (pcall G__law_class (hr.mono (by first | decide | omega)) T.m__law_class T.k__law_class T.b__law_class never1 (pa_cons (pvl 2) pa_nil)) (pa_cons pe_non pa_nil))))))))), ?_⟩
  refine ⟨_, rfl, x, rfl, hl, hc, fun H1 s1 => ?_⟩
  cases hr : readF x with
  | tree r =>
    intro v hv
    refine ⟨_, rfl, rfl, _, rfl, ?_⟩
    refine iteT ?_
    refine ⟨_, rfl, (by show 2 ≤ sizeLine; decide), fun p hp => ?_⟩
    have := k (upd H1 p (.tup [.str "tree", v])) p (s1.trans (same_upd hp))
    rw [hr] at this
    exact this v (hv.mono (same_upd hp).tups) upd_same
  | sentence =>
    refine ⟨t.c_NoSentence, rfl, T.u_NoSentence, fun a ha => ⟨_, rfl, _, rfl, rfl, _, rfl, ?_⟩⟩
    refine ite2 (fun e => absurd (of_decide_eq_true e) (by intro z; cases z)) (fun _ => ?_)
    refine ⟨_, rfl, a, t.c_NoSentence, true, false, false, false, false, false, false, false, false, false, 0, rfl, upd_same, ⟨T.x_NoSentence, T.o_NoSentence_NoSentence, T.o_NoSentence_TooDeep, T.o_NoSentence_NoName, T.o_NoSentence_Always, T.o_NoSentence_Never, T.o_NoSentence_NoMinds, T.o_NoSentence_Unlike, T.o_NoSentence_NoBack, T.o_NoSentence_NoAgain, T.o_NoSentence_Refused, T.o_NoSentence_ValueError⟩, by decide, by decide, rfl, by decide, fun H2 s2 => ⟨lk (by first | exact Nat.le_of_ble_eq_true rfl | simp), fun p hp => ?_⟩⟩
    have := k (upd H2 p (.tup [.str "sentence", .non])) p (s1.trans ((same_upd ha).trans (s2.trans (same_upd hp))))
    rw [hr] at this
    exact this upd_same
  | deep =>
    refine ⟨t.c_TooDeep, rfl, T.u_TooDeep, fun a ha => ⟨_, rfl, _, rfl, rfl, _, rfl, ?_⟩⟩
    refine ite2 (fun e => absurd (of_decide_eq_true e) (by intro z; cases z)) (fun _ => ?_)
    refine ⟨_, rfl, a, t.c_TooDeep, false, true, false, false, false, false, false, false, false, false, 1, rfl, upd_same, ⟨T.x_TooDeep, T.o_TooDeep_NoSentence, T.o_TooDeep_TooDeep, T.o_TooDeep_NoName, T.o_TooDeep_Always, T.o_TooDeep_Never, T.o_TooDeep_NoMinds, T.o_TooDeep_Unlike, T.o_TooDeep_NoBack, T.o_TooDeep_NoAgain, T.o_TooDeep_Refused, T.o_TooDeep_ValueError⟩, by decide, by decide, rfl, by decide, fun H2 s2 => ⟨lk (by first | exact Nat.le_of_ble_eq_true rfl | simp), fun p hp => ?_⟩⟩
    have := k (upd H2 p (.tup [.str "deep", .non])) p (s1.trans ((same_upd ha).trans (s2.trans (same_upd hp))))
    rw [hr] at this
    exact this upd_same
end
end K09

namespace K09
open PySem L2 Mc
/-! ### the words of a shown text -/
def brkW (b : Bool) (ws : List Str) : List Str := if b = true then ("(" : Str) :: (ws ++ [(")" : Str)]) else ws
def wordsT : Tr → List Str
  | .nm x => [x]
  | .yes => [("1" : Str)]
  | .no => [("0" : Str)]
  | .not t => ("~" : Str) :: brkW (behindB "~" t) (wordsT t)
  | .bin o a b => brkW (aheadB a o) (wordsT a) ++ opSign o :: brkW (behindB (opSign o) b) (wordsT b)
def NamesOk (t : Tr) : Prop := ∀ x ∈ t.names, isName x = true
def opCode : Op → Nat
  | .and => 38
  | .or => 124
  | .thn => 62
  | .same => 61
theorem e_op (o : Op) : opSign o = ⟨#[opCode o]⟩ := by cases o <;> decide +kernel
theorem op_sign (o : Op) : isSign (opCode o) := by cases o <;> exact ⟨by decide, by decide⟩
theorem sp_brk {b : Bool} {x : Str} {ws : List Str} (h : Spells x.cps.toList ws) : Spells (brk b x).cps.toList (brkW b ws) := by
  unfold brk brkW
  cases b with
  | false => exact h
  | true =>
    rw [if_pos rfl, if_pos rfl, str_app, str_app, e_open, e_close]
    have h1 := sp_pre (c := 40) ⟨by decide, by decide⟩ (sp_post (c := 41) ⟨by decide, by decide⟩ h)
    exact h1
theorem sp_shown : ∀ (t : Tr), NamesOk t → Spells (shownF t).cps.toList (wordsT t)
  | .nm x, h => sp_name (h x List.mem_cons_self)
  | .yes, _ => by
    show Spells ("1" : Str).cps.toList [("1" : Str)]
    rw [e_one]
    exact sp_sign ⟨by decide, by decide⟩
  | .no, _ => by
    show Spells ("0" : Str).cps.toList [("0" : Str)]
    rw [e_zero]
    exact sp_sign ⟨by decide, by decide⟩
  | .not t, h => by
    show Spells (("~" : Str) ++ brk (behindB "~" t) (shownF t)).cps.toList (("~" : Str) :: brkW (behindB "~" t) (wordsT t))
    rw [str_app]
    have h1 := sp_pre (c := 126) ⟨by decide, by decide⟩ (sp_brk (b := behindB "~" t) (sp_shown t h))
    rw [← e_wave] at h1
    exact h1
  | .bin o a b, h => by
    have ha := sp_brk (b := aheadB a o) (sp_shown a fun x hx => h x (List.mem_append_left _ hx))
    have hb := sp_brk (b := behindB (opSign o) b) (sp_shown b fun x hx => h x (List.mem_append_right _ hx))
    show Spells (brk (aheadB a o) (shownF a) ++ (" " : Str) ++ opSign o ++ (" " : Str) ++ brk (behindB (opSign o) b) (shownF b)).cps.toList (brkW (aheadB a o) (wordsT a) ++ opSign o :: brkW (behindB (opSign o) b) (wordsT b))
    rw [str_app, str_app, str_app, str_app]
    have h1 := sp_blank ha (sp_blank (sp_sign (op_sign o)) hb)
    rw [← e_op] at h1
    have e1 : (opSign o).cps.toList = [opCode o] := sign_of (e_op o)
    have e2 : (" " : Str).cps.toList = [32] := sign_of e_blank
    rw [e1, e2]
    simpa using h1
theorem op_of (o : Op) : opOf (opSign o) = o := by cases o <;> decide +kernel
theorem wr_shown : ∀ (t : Tr), NamesOk t → ∀ n : Int, (∀ o a b, t = .bin o a b → n ≤ bindI (opSign o)) → Wr n t (wordsT t)
  | .nm x, h, n, _ => .leaf (leaf_name (h x List.mem_cons_self)) (by rw [e_wave]; exact name_ne (h x List.mem_cons_self) (by decide)) (by rw [e_open]; exact name_ne (h x List.mem_cons_self) (by decide))
  | .yes, _, n, _ => .leaf (by unfold leafF; rw [if_pos rfl]) (by decide +kernel) (by decide +kernel)
  | .no, _, n, _ => .leaf (by unfold leafF; rw [if_neg (by decide +kernel), if_pos rfl]) (by decide +kernel) (by decide +kernel)
  | .not t, h, n, _ => by
    refine .not ?_
    unfold brkW
    cases t with
    | bin o a b =>
      have e : behindB "~" (.bin o a b) = true := takes_wave _
      rw [if_pos e]
      exact .bra (wr_shown (.bin o a b) h 0 fun o' _ _ e => by have := op_ge (opSign_op o'); omega)
    | nm x => exact wr_shown (.nm x) h 5 fun _ _ _ e => (by cases e)
    | yes => exact wr_shown .yes h 5 fun _ _ _ e => (by cases e)
    | no => exact wr_shown .no h 5 fun _ _ _ e => (by cases e)
    | not u => exact wr_shown (.not u) h 5 fun _ _ _ e => (by cases e)
  | .bin o a b, h, n, hn => by
    have ha : NamesOk a := fun x hx => h x (List.mem_append_left _ hx)
    have hb : NamesOk b := fun x hx => h x (List.mem_append_right _ hx)
    have wa := wr_shown a ha
    have wb := wr_shown b hb
    have ho := opSign_op o
    have h4 := op_le ho
    have ha' : ∃ nl, (bindI (opSign o) ≤ nl ∧ (opSign o = ">" → bindI (opSign o) < nl)) ∧ Wr nl a (brkW (aheadB a o) (wordsT a)) := by
      by_cases hbr : aheadB a o = true
      · refine ⟨5, ⟨by omega, fun _ => by omega⟩, ?_⟩
        unfold brkW
        rw [if_pos hbr]
        exact .bra (wa 0 fun o' _ _ _ => by have := op_ge (opSign_op o'); omega)
      · have ebr : brkW (aheadB a o) (wordsT a) = wordsT a := if_neg hbr
        rw [ebr]
        cases a with
        | bin o' a1 a2 =>
          have ht : takesF (opSign o') (opSign o) = true := by
            have : aheadB (.bin o' a1 a2) o = !takesF (opSign o') (opSign o) := rfl
            rw [this] at hbr
            simpa using hbr
          rw [takes_op (opSign_op o') ho] at ht
          refine ⟨bindI (opSign o'), ?_, wa _ fun o2 _ _ e => by cases e; exact Int.le_refl _⟩
          by_cases e : opSign o' = opSign o
          · rw [if_pos e] at ht
            rw [e]
            exact ⟨Int.le_refl _, fun z => by rw [decide_eq_true z] at ht; cases ht⟩
          · rw [if_neg e] at ht
            have := of_decide_eq_true ht
            exact ⟨by omega, fun _ => this⟩
        | nm x => exact ⟨5, ⟨by omega, fun _ => by omega⟩, wa 5 fun _ _ _ e => by cases e⟩
        | yes => exact ⟨5, ⟨by omega, fun _ => by omega⟩, wa 5 fun _ _ _ e => by cases e⟩
        | no => exact ⟨5, ⟨by omega, fun _ => by omega⟩, wa 5 fun _ _ _ e => by cases e⟩
        | not u => exact ⟨5, ⟨by omega, fun _ => by omega⟩, wa 5 fun _ _ _ e => by cases e⟩
    have hb' : ∃ nr, (bindI (opSign o) ≤ nr ∧ (¬ opSign o = ">" → bindI (opSign o) < nr)) ∧ Wr nr b (brkW (behindB (opSign o) b) (wordsT b)) := by
      by_cases hbr : behindB (opSign o) b = true
      · refine ⟨5, ⟨by omega, fun _ => by omega⟩, ?_⟩
        unfold brkW
        rw [if_pos hbr]
        exact .bra (wb 0 fun o' _ _ _ => by have := op_ge (opSign_op o'); omega)
      · have ebr : brkW (behindB (opSign o) b) (wordsT b) = wordsT b := if_neg hbr
        rw [ebr]
        cases b with
        | bin o' b1 b2 =>
          have ht : takesF (opSign o) (opSign o') = false := by
            have : behindB (opSign o) (.bin o' b1 b2) = takesF (opSign o) (opSign o') := rfl
            rw [this] at hbr
            simpa using hbr
          rw [takes_op ho (opSign_op o')] at ht
          refine ⟨bindI (opSign o'), ?_, wb _ fun o2 _ _ e => by cases e; exact Int.le_refl _⟩
          by_cases e : opSign o = opSign o'
          · rw [if_pos e] at ht
            rw [← e] at ht ⊢
            refine ⟨Int.le_refl _, fun z => ?_⟩
            rw [decide_eq_false z] at ht
            cases ht
          · rw [if_neg e] at ht
            have h1 := of_decide_eq_false ht
            have h2 : bindI (opSign o) ≠ bindI (opSign o') := fun z => e (bind_inj ho (opSign_op o') z)
            exact ⟨by omega, fun _ => by omega⟩
        | nm x => exact ⟨5, ⟨by omega, fun _ => by omega⟩, wb 5 fun _ _ _ e => by cases e⟩
        | yes => exact ⟨5, ⟨by omega, fun _ => by omega⟩, wb 5 fun _ _ _ e => by cases e⟩
        | no => exact ⟨5, ⟨by omega, fun _ => by omega⟩, wb 5 fun _ _ _ e => by cases e⟩
        | not u => exact ⟨5, ⟨by omega, fun _ => by omega⟩, wb 5 fun _ _ _ e => by cases e⟩
    obtain ⟨nl, hl, wl⟩ := ha'
    obtain ⟨nr, hr, wr⟩ := hb'
    have := Wr.bin ho (hn o a b rfl) hl hr wl wr
    rw [op_of] at this
    exact this
theorem codes_brk {b : Bool} {x : Str} (h : ∀ c ∈ x.cps.toList, c < 16 ^ 8) : ∀ c ∈ (brk b x).cps.toList, c < 16 ^ 8 := by
  unfold brk
  split
  · exact codes_app (codes_app (codes_one e_open (by decide)) h) (codes_one e_close (by decide))
  · exact h
theorem codes_shown : ∀ (t : Tr), NamesOk t → ∀ c ∈ (shownF t).cps.toList, c < 16 ^ 8
  | .nm x, h => name_codes (h x List.mem_cons_self)
  | .yes, _ => codes_one e_one (by decide)
  | .no, _ => codes_one e_zero (by decide)
  | .not t, h => codes_app (codes_one e_wave (by decide)) (codes_brk (codes_shown t h))
  | .bin o a b, h => codes_app (codes_app (codes_app (codes_app (codes_brk (codes_shown a fun x hx => h x (List.mem_append_left _ hx))) (codes_one e_blank (by decide))) (codes_one (e_op o) (by cases o <;> decide))) (codes_one e_blank (by decide))) (codes_brk (codes_shown b fun x hx => h x (List.mem_append_right _ hx)))
end K09

namespace K09
open PySem L2 Mc
/-! ### words weighed: brackets, and what is none -/
def wsum (wt : Str → Nat) : List Str → Nat
  | [] => 0
  | x :: r => wt x + wsum wt r
theorem wsum_app (wt : Str → Nat) : ∀ u v : List Str, wsum wt (u ++ v) = wsum wt u + wsum wt v
  | [], v => (Nat.zero_add _).symm
  | x :: r, v => by
    show wt x + wsum wt (r ++ v) = wt x + wsum wt r + wsum wt v
    rw [wsum_app wt r v, Nat.add_assoc]
def gw (k : Nat) (g : Nat → Nat) : Bool → List Nat → Nat
  | _, [] => 0
  | b, c :: r => if isLet c = true then (if b = true then 0 else k) + gw k g true r else (if c = 32 then 0 else g c) + gw k g false r
structure Weighs (wt : Str → Nat) (k : Nat) (g : Nat → Nat) : Prop where
  let_ : ∀ pc : Str, (∀ c ∈ pc.cps.toList, isLet c = true) → ¬ pc = "" → wt pc = k
  sgn : ∀ c : Nat, ¬ isLet c = true → ¬ c = 32 → wt ⟨#[c]⟩ = g c
theorem wsum_flush {wt : Str → Nat} {k : Nat} {g : Nat → Nat} (W : Weighs wt k g) (acc : List Str) {pc : Str} (h : ∀ c ∈ pc.cps.toList, isLet c = true) : wsum wt (if pc = "" then acc else acc ++ [pc]) = wsum wt acc + (if pc = "" then 0 else k) := by
  split
  · rfl
  · rename_i z
    rw [wsum_app]
    show wsum wt acc + (wt pc + 0) = _
    rw [W.let_ pc h z]
    rfl
theorem nil_lets : ∀ d ∈ ("" : Str).cps.toList, isLet d = true := fun d hd => absurd hd (by rw [show ("" : Str).cps.toList = [] by decide +kernel]; exact List.not_mem_nil)
theorem gw_fold {wt : Str → Nat} {k : Nat} {g : Nat → Nat} (W : Weighs wt k g) : ∀ (cs : List Nat) (acc : List Str) (pc : Str), (∀ c ∈ pc.cps.toList, isLet c = true) → wsum wt ((cs ++ [32]).foldl wstep (acc, pc)).1 = wsum wt acc + (if pc = "" then 0 else k) + gw k g (decide (¬ pc = "")) cs
  | [], acc, pc, hp => by
    show wsum wt (wstep (acc, pc) 32).1 = _
    unfold wstep
    rw [if_neg (by decide), if_pos rfl]
    show wsum wt (if pc = "" then acc else acc ++ [pc]) = _ + 0
    exact wsum_flush W acc hp
  | c :: r, acc, pc, hp => by
    show wsum wt ((r ++ [32]).foldl wstep (wstep (acc, pc) c)).1 = _
    by_cases hl : isLet c = true
    · have e : wstep (acc, pc) c = (acc, pc ++ ⟨#[c]⟩) := by
        unfold wstep
        rw [if_pos hl]
      have hne : ¬ (pc ++ ⟨#[c]⟩ : Str) = "" := fun e => by
        have := congrArg Str.length e
        rw [strLen_append] at this
        have h0 : ("" : Str).length = 0 := rfl
        have h1 : (⟨#[c]⟩ : Str).length = 1 := rfl
        omega
      rw [e, gw_fold W r acc _ (fun d hd => by
        rw [str_app] at hd
        rcases List.mem_append.mp hd with hd | hd
        · exact hp d hd
        · have : d = c := by simpa using hd
          rw [this]
          exact hl), if_neg hne, decide_eq_true hne]
      show _ = _ + _ + (if isLet c = true then (if decide (¬ pc = "") = true then 0 else k) + gw k g true r else _)
      rw [if_pos hl]
      by_cases h : pc = ""
      · rw [if_pos h, decide_eq_false (fun z => z h), if_neg Bool.false_ne_true]
        omega
      · rw [if_neg h, decide_eq_true h, if_pos rfl]
        omega
    · have e : wstep (acc, pc) c = ((if c = 32 then (if pc = "" then acc else acc ++ [pc]) else (if pc = "" then acc else acc ++ [pc]) ++ [⟨#[c]⟩]), ("" : Str)) := by
        unfold wstep
        rw [if_neg hl]
      have e0 : decide (¬ ("" : Str) = "") = false := decide_eq_false (fun z => z rfl)
      rw [e, gw_fold W r _ "" nil_lets, e0, if_pos rfl]
      show _ = _ + _ + (if isLet c = true then _ else (if c = 32 then 0 else g c) + gw k g false r)
      rw [if_neg hl]
      have hf := wsum_flush W acc hp
      by_cases h2 : c = 32
      · rw [if_pos h2, if_pos h2, hf]
        omega
      · rw [if_neg h2, if_neg h2, wsum_app, hf]
        show _ + (wt ⟨#[c]⟩ + 0) + 0 + _ = _
        rw [W.sgn c hl h2]
        omega
theorem words_gw {wt : Str → Nat} {k : Nat} {g : Nat → Nat} (W : Weighs wt k g) (x : Str) : wsum wt (wordsF x) = gw k g false x.cps.toList := by
  unfold wordsF wfold
  rw [gw_fold W _ _ _ nil_lets]
  show 0 + (if ("" : Str) = "" then 0 else k) + gw k g (decide (¬ ("" : Str) = "")) _ = _
  rw [if_pos rfl, decide_eq_false (fun z => z rfl)]
  omega
def flg : Bool → List Nat → Bool
  | b, [] => b
  | _, c :: r => flg (isLet c) r
theorem gw_app (k : Nat) (g : Nat → Nat) : ∀ (u v : List Nat) (b : Bool), gw k g b (u ++ v) = gw k g b u + gw k g (flg b u) v
  | [], v, b => (Nat.zero_add _).symm
  | c :: r, v, b => by
    show (if isLet c = true then (if b = true then 0 else k) + gw k g true (r ++ v) else (if c = 32 then 0 else g c) + gw k g false (r ++ v)) = (if isLet c = true then (if b = true then 0 else k) + gw k g true r else (if c = 32 then 0 else g c) + gw k g false r) + gw k g (flg (isLet c) r) v
    rw [gw_app k g r v true, gw_app k g r v false]
    cases h : isLet c with
    | true => rw [if_pos rfl, if_pos rfl]; omega
    | false => rw [if_neg Bool.false_ne_true, if_neg Bool.false_ne_true]; omega
theorem gw_flag (k : Nat) (g : Nat → Nat) (b : Bool) : ∀ v : List Nat, gw k g b v ≤ gw k g false v
  | [] => Nat.le_refl 0
  | c :: r => by
    show (if isLet c = true then (if b = true then 0 else k) + gw k g true r else _) ≤ (if isLet c = true then (if false = true then 0 else k) + gw k g true r else _)
    split
    · cases b <;> simp
    · exact Nat.le_refl _
/-- a sign left out -/
theorem gw_out (k : Nat) (g : Nat → Nat) {c : Nat} (h1 : ¬ isLet c = true) (h2 : ¬ c = 32) (u v : List Nat) : gw k g false (u ++ v) + g c ≤ gw k g false (u ++ c :: v) := by
  rw [gw_app, gw_app]
  have h := gw_flag k g (flg false u) v
  have e : gw k g (flg false u) (c :: v) = g c + gw k g false v := by
    show (if isLet c = true then _ else (if c = 32 then 0 else g c) + gw k g false v) = _
    rw [if_neg h1, if_neg h2]
  omega
/-! ### brackets are needed -/
def wo (x : Str) : Nat := if x = "(" then 1 else 0
def wb (x : Str) : Nat := if x = "(" ∨ x = ")" then 0 else 1
def go (c : Nat) : Nat := if c = 40 then 1 else 0
def gb (c : Nat) : Nat := if c = 40 ∨ c = 41 then 0 else 1
theorem one_inj {c d : Nat} (h : (⟨#[c]⟩ : Str) = ⟨#[d]⟩) : c = d := (List.cons.inj (sign_of (y := (⟨#[c]⟩ : Str)) h)).1
theorem lets_ne {pc : Str} (h : ∀ c ∈ pc.cps.toList, isLet c = true) {d : Nat} (hd : ¬ isLet d = true) : ¬ pc = ⟨#[d]⟩ := fun e => hd (h d (by rw [e]; simp))
theorem wo_weighs : Weighs wo 0 go := ⟨fun pc h _ => by
    unfold wo
    rw [e_open, if_neg (lets_ne h (by decide))], fun c _ _ => by
    unfold wo go
    rw [e_open]
    by_cases e : c = 40
    · rw [if_pos (by rw [e]), if_pos e]
    · rw [if_neg (fun z => e (one_inj z)), if_neg e]⟩
theorem wb_weighs : Weighs wb 1 gb := ⟨fun pc h _ => by
    unfold wb
    rw [e_open, e_close, if_neg (fun z => z.elim (lets_ne h (by decide)) (lets_ne h (by decide)))], fun c _ _ => by
    unfold wb gb
    rw [e_open, e_close]
    by_cases e : c = 40 ∨ c = 41
    · rw [if_pos (by rcases e with e | e <;> simp [e]), if_pos e]
    · rw [if_neg (fun z => e (z.elim (fun z => .inl (one_inj z)) fun z => .inr (one_inj z))), if_neg e]⟩
theorem op_wo {o : Str} (h : isOp o) : wo o = 0 ∧ wb o = 1 := by
  rcases h with rfl | rfl | rfl | rfl <;> exact ⟨by decide +kernel, by decide +kernel⟩
theorem leaf_wt {x : Str} {t : Tr} (h : leafF x = some t) : wo x = 0 ∧ wb x = 1 ∧ wordsT t = [x] ∧ t.size = 1 ∧ ∀ o a b, ¬ t = .bin o a b := by
  unfold leafF at h
  split at h
  · rename_i e
    cases h
    rw [e]
    exact ⟨by decide +kernel, by decide +kernel, rfl, rfl, fun _ _ _ z => nomatch z⟩
  · split at h
    · rename_i e
      cases h
      rw [e]
      exact ⟨by decide +kernel, by decide +kernel, rfl, rfl, fun _ _ _ z => nomatch z⟩
    · split at h
      · rename_i e
        cases h
        have h1 : ¬ x = "(" := by rw [e_open]; exact name_ne e (by decide)
        have h2 : ¬ x = ")" := by rw [e_close]; exact name_ne e (by decide)
        exact ⟨if_neg h1, if_neg (fun z => z.elim h1 h2), rfl, rfl, fun _ _ _ z => nomatch z⟩
      · cases h
/-- what is no bracket: a word a part -/
theorem wr_wb {n : Int} {t : Tr} {ws : List Str} (h : Wr n t ws) : wsum wb ws = t.size := by
  induction h with
  | @leaf n x t h h1 h2 =>
    obtain ⟨_, e, _, z, _⟩ := leaf_wt h
    rw [z]
    show wb x + 0 = 1
    rw [e]
  | @not n t ws h ih =>
    show wb "~" + wsum wb ws = t.size + 1
    rw [ih, show wb "~" = 1 by decide +kernel]
    omega
  | @bra n t ws h ih =>
    show wb "(" + wsum wb (ws ++ [(")" : Str)]) = t.size
    rw [wsum_app, ih]
    show wb "(" + (t.size + (wb ")" + 0)) = _
    rw [show wb "(" = 0 by decide +kernel, show wb ")" = 0 by decide +kernel]
    omega
  | @bin n nl nr o l r wl wr ho hn hl hr h1 h2 ih1 ih2 =>
    rw [wsum_app]
    show wsum wb wl + (wb o + wsum wb wr) = l.size + r.size + 1
    rw [ih1, ih2, (op_wo ho).2]
    omega
def need (n : Int) : Tr → Nat
  | .bin o _ _ => if bindI (opSign o) < n then 1 else 0
  | _ => 0
theorem need_le (n : Int) (t : Tr) : need n t ≤ 1 := by
  unfold need
  split
  · split <;> omega
  · omega
theorem wo_brk (b : Bool) (ws : List Str) : wsum wo (brkW b ws) = wsum wo ws + (if b = true then 1 else 0) := by
  unfold brkW
  cases b with
  | false => rfl
  | true =>
    rw [if_pos rfl, if_pos rfl]
    show wo "(" + wsum wo (ws ++ [(")" : Str)]) = _
    rw [wsum_app]
    show wo "(" + (wsum wo ws + (wo ")" + 0)) = _
    rw [show wo "(" = 1 by decide +kernel, show wo ")" = 0 by decide +kernel]
    omega
theorem sign_of_op {o : Str} (h : isOp o) : opSign (opOf o) = o := by
  rcases h with rfl | rfl | rfl | rfl <;> decide +kernel
theorem ahead_need {o : Str} (ho : isOp o) {n : Int} (hl : bindI o ≤ n ∧ (o = ">" → bindI o < n)) (l : Tr) : (if aheadB l (opOf o) = true then 1 else 0) ≤ need n l := by
  cases l with
  | bin o' a b =>
    show (if (!takesF (opSign o') (opSign (opOf o))) = true then 1 else 0) ≤ (if bindI (opSign o') < n then 1 else 0)
    rw [sign_of_op ho, takes_op (opSign_op o') ho]
    by_cases e : opSign o' = o
    · rw [if_pos e, e]
      by_cases g : o = ">"
      · rw [if_pos (hl.2 g)]
        split <;> omega
      · rw [decide_eq_false g]
        exact Nat.zero_le _
    · rw [if_neg e]
      by_cases g : bindI o < bindI (opSign o')
      · rw [decide_eq_true g]
        exact Nat.zero_le _
      · have : bindI (opSign o') < n := by
          have := hl.1
          have h3 : ¬ bindI (opSign o') = bindI o := fun z => e (bind_inj (opSign_op o') ho z)
          omega
        rw [if_pos this]
        split <;> omega
  | nm x => exact Nat.zero_le _
  | yes => exact Nat.zero_le _
  | no => exact Nat.zero_le _
  | not u => exact Nat.zero_le _
theorem behind_need {o : Str} (ho : isOp o) {n : Int} (hr : bindI o ≤ n ∧ (¬ o = ">" → bindI o < n)) (r : Tr) : (if behindB o r = true then 1 else 0) ≤ need n r := by
  cases r with
  | bin o' a b =>
    show (if takesF o (opSign o') = true then 1 else 0) ≤ (if bindI (opSign o') < n then 1 else 0)
    rw [takes_op ho (opSign_op o')]
    by_cases e : o = opSign o'
    · rw [if_pos e]
      by_cases g : opSign o' = ">"
      · rw [decide_eq_true g]
        exact Nat.zero_le _
      · have : bindI (opSign o') < n := by rw [← e]; exact hr.2 (by rw [e]; exact g)
        rw [if_pos this]
        split <;> omega
    · rw [if_neg e]
      by_cases g : bindI (opSign o') < bindI o
      · have : bindI (opSign o') < n := by have := hr.1; omega
        rw [if_pos this]
        split <;> omega
      · rw [decide_eq_false g]
        exact Nat.zero_le _
  | nm x => exact Nat.zero_le _
  | yes => exact Nat.zero_le _
  | no => exact Nat.zero_le _
  | not u => exact Nat.zero_le _
theorem wave_need (r : Tr) : (if behindB "~" r = true then 1 else 0) ≤ need 5 r := by
  cases r with
  | bin o' a b =>
    show (if takesF "~" (opSign o') = true then 1 else 0) ≤ (if bindI (opSign o') < 5 then 1 else 0)
    have := op_le (opSign_op o')
    rw [if_pos (show bindI (opSign o') < 5 by omega)]
    split <;> omega
  | nm x => exact Nat.zero_le _
  | yes => exact Nat.zero_le _
  | no => exact Nat.zero_le _
  | not u => exact Nat.zero_le _
/-- the shown text has the fewest brackets -/
theorem wr_few {n : Int} {t : Tr} {ws : List Str} (h : Wr n t ws) : wsum wo (wordsT t) + need n t ≤ wsum wo ws := by
  induction h with
  | @leaf n x t h h1 h2 =>
    obtain ⟨_, _, e, _, z⟩ := leaf_wt h
    rw [e]
    have : need n t = 0 := by
      unfold need
      split
      · exact absurd rfl (z _ _ _)
      · rfl
    omega
  | @not n t ws h ih =>
    show wo "~" + wsum wo (brkW (behindB "~" t) (wordsT t)) + 0 ≤ wo "~" + wsum wo ws
    rw [wo_brk]
    have := wave_need t
    omega
  | @bra n t ws h ih =>
    have h1 := need_le n t
    show _ ≤ wo "(" + wsum wo (ws ++ [(")" : Str)])
    rw [wsum_app]
    show _ ≤ wo "(" + (wsum wo ws + (wo ")" + 0))
    rw [show wo "(" = 1 by decide +kernel]
    omega
  | @bin n nl nr o l r wl wr ho hn hl hr h1 h2 ih1 ih2 =>
    have e0 : need n (.bin (opOf o) l r) = 0 := by
      show (if bindI (opSign (opOf o)) < n then 1 else 0) = 0
      rw [sign_of_op ho, if_neg (by omega)]
    rw [e0]
    show wsum wo (brkW (aheadB l (opOf o)) (wordsT l) ++ opSign (opOf o) :: brkW (behindB (opSign (opOf o)) r) (wordsT r)) + 0 ≤ _
    rw [wsum_app, wsum_app, sign_of_op ho, wo_brk]
    show _ + (wo o + wsum wo (brkW (behindB o r) (wordsT r))) + 0 ≤ _ + (wo o + wsum wo wr)
    rw [wo_brk]
    have z1 := ahead_need ho hl l
    have z2 := behind_need ho hr r
    omega
/-- a shown text without a pair of brackets is read otherwise -/
theorem less_read {t : Tr} (h : NamesOk t) {u v w : List Nat} (e : (shownF t).cps.toList = u ++ 40 :: (v ++ 41 :: w)) {x : Str} (ex : x.cps.toList = u ++ (v ++ w)) {r : Tr} (hr : treeF (wordsF x) = some r) : ¬ r = t ∧ r.size ≤ t.size := by
  have hw := tree_wr hr
  have e1 : wordsF (shownF t) = wordsT t := spells_words (sp_shown t h)
  have a1 := words_gw wo_weighs x
  have a2 := words_gw wo_weighs (shownF t)
  have b1 := words_gw wb_weighs x
  have b2 := words_gw wb_weighs (shownF t)
  rw [ex] at a1 b1
  rw [e] at a2 b2
  rw [e1] at a2 b2
  have o1 := gw_out 0 go (c := 40) (by decide) (by decide) u (v ++ 41 :: w)
  have o2 := gw_out 0 go (c := 41) (by decide) (by decide) (u ++ v) w
  have p1 := gw_out 1 gb (c := 40) (by decide) (by decide) u (v ++ 41 :: w)
  have p2 := gw_out 1 gb (c := 41) (by decide) (by decide) (u ++ v) w
  rw [List.append_assoc, List.append_assoc] at o2 p2
  have g1 : go 40 = 1 := rfl
  refine ⟨fun z => ?_, ?_⟩
  · subst z
    have := wr_few hw
    omega
  · have c1 := wr_wb hw
    have c2 := wr_wb (wr_shown t h 0 fun o a b _ => by have := op_ge (opSign_op o); omega)
    omega
theorem depth_size : ∀ t : Tr, t.depth ≤ t.size
  | .nm _ => Nat.le_refl 1
  | .yes => Nat.le_refl 1
  | .no => Nat.le_refl 1
  | .not t => by
    have := depth_size t
    show t.depth + 1 ≤ t.size + 1
    omega
  | .bin o a b => by
    have h1 := depth_size a
    have h2 := depth_size b
    show max a.depth b.depth + 1 ≤ a.size + b.size + 1
    omega
/-! ### without its blanks -/
theorem filt_app (u v : List Nat) : (u ++ v).filter (· != 32) = u.filter (· != 32) ++ v.filter (· != 32) := List.filter_append ..
theorem filt_name {x : Str} (h : isName x = true) : x.cps.toList.filter (· != 32) = x.cps.toList := by
  refine List.filter_eq_self.mpr fun c hc => ?_
  have hx := (Bool.and_eq_true_iff.mp h).2
  have := List.all_eq_true.mp hx c hc
  have ne : ¬ c = 32 := fun z => by rw [z] at this; exact absurd this (by decide)
  simpa using ne
theorem sp_brkN {b : Bool} {x : Str} {ws : List Str} (h : Spells (x.cps.toList.filter (· != 32)) ws) : Spells ((brk b x).cps.toList.filter (· != 32)) (brkW b ws) := by
  unfold brk brkW
  cases b with
  | false => exact h
  | true =>
    rw [if_pos rfl, if_pos rfl, str_app, str_app, e_open, e_close, filt_app, filt_app]
    have h1 := sp_pre (c := 40) ⟨by decide, by decide⟩ (sp_post (c := 41) ⟨by decide, by decide⟩ h)
    exact h1
theorem sp_shownN : ∀ (t : Tr), NamesOk t → Spells ((shownF t).cps.toList.filter (· != 32)) (wordsT t)
  | .nm x, h => by
    show Spells (x.cps.toList.filter (· != 32)) [x]
    rw [filt_name (h x List.mem_cons_self)]
    exact sp_name (h x List.mem_cons_self)
  | .yes, _ => by
    show Spells (("1" : Str).cps.toList.filter (· != 32)) [("1" : Str)]
    rw [e_one]
    exact sp_sign ⟨by decide, by decide⟩
  | .no, _ => by
    show Spells (("0" : Str).cps.toList.filter (· != 32)) [("0" : Str)]
    rw [e_zero]
    exact sp_sign ⟨by decide, by decide⟩
  | .not t, h => by
    show Spells ((("~" : Str) ++ brk (behindB "~" t) (shownF t)).cps.toList.filter (· != 32)) (("~" : Str) :: brkW (behindB "~" t) (wordsT t))
    rw [str_app, filt_app]
    have h1 := sp_pre (c := 126) ⟨by decide, by decide⟩ (sp_brkN (b := behindB "~" t) (sp_shownN t h))
    rw [← e_wave] at h1
    exact h1
  | .bin o a b, h => by
    have ha := sp_brkN (b := aheadB a o) (sp_shownN a fun x hx => h x (List.mem_append_left _ hx))
    have hb := sp_brkN (b := behindB (opSign o) b) (sp_shownN b fun x hx => h x (List.mem_append_right _ hx))
    show Spells ((brk (aheadB a o) (shownF a) ++ (" " : Str) ++ opSign o ++ (" " : Str) ++ brk (behindB (opSign o) b) (shownF b)).cps.toList.filter (· != 32)) (brkW (aheadB a o) (wordsT a) ++ opSign o :: brkW (behindB (opSign o) b) (wordsT b))
    rw [str_app, str_app, str_app, str_app, filt_app, filt_app, filt_app, filt_app]
    have h1 := sp_mid (op_sign o) ha hb
    rw [← e_op] at h1
    have e1 : (opSign o).cps.toList.filter (· != 32) = [opCode o] := by
      rw [sign_of (e_op o)]
      cases o <;> rfl
    have e2 : (" " : Str).cps.toList.filter (· != 32) = [] := by rw [sign_of e_blank]; rfl
    rw [e1, e2]
    simpa using h1
/-! ### brackets close -/
def bal : List Nat → Nat → Option Nat
  | [], d => some d
  | c :: r, d => if c = 40 then bal r (d + 1) else if c = 41 then (if d = 0 then none else bal r (d - 1)) else bal r d
theorem bal_app : ∀ (u v : List Nat) (d : Nat), bal (u ++ v) d = (bal u d).bind (bal v)
  | [], v, d => rfl
  | c :: r, v, d => by
    show (if c = 40 then bal (r ++ v) (d + 1) else if c = 41 then (if d = 0 then none else bal (r ++ v) (d - 1)) else bal (r ++ v) d) = (if c = 40 then bal r (d + 1) else if c = 41 then (if d = 0 then none else bal r (d - 1)) else bal r d).bind (bal v)
    rw [bal_app r v (d + 1), bal_app r v (d - 1), bal_app r v d]
    split
    · rfl
    · split
      · split <;> rfl
      · rfl
theorem bal_plain : ∀ (u : List Nat), (∀ c ∈ u, ¬ c = 40 ∧ ¬ c = 41) → ∀ d, bal u d = some d
  | [], _, d => rfl
  | c :: r, h, d => by
    have h1 := h c List.mem_cons_self
    show (if c = 40 then _ else if c = 41 then _ else bal r d) = _
    rw [if_neg h1.1, if_neg h1.2]
    exact bal_plain r (fun c hc => h c (List.mem_cons_of_mem _ hc)) d
theorem bal_brk {b : Bool} {x : Str} (h : ∀ d, bal x.cps.toList d = some d) (d : Nat) : bal (brk b x).cps.toList d = some d := by
  unfold brk
  cases b with
  | false => exact h d
  | true =>
    rw [if_pos rfl, str_app, str_app, e_open, e_close, List.append_assoc]
    show bal (40 :: (x.cps.toList ++ [41])) d = _
    show bal (x.cps.toList ++ [41]) (d + 1) = _
    rw [bal_app, h (d + 1)]
    rfl
theorem bal_shown : ∀ (t : Tr), NamesOk t → ∀ d, bal (shownF t).cps.toList d = some d
  | .nm x, h, d => by
    refine bal_plain _ (fun c hc => ?_) d
    have hx := (Bool.and_eq_true_iff.mp (h x List.mem_cons_self)).2
    have := List.all_eq_true.mp hx c hc
    exact ⟨fun z => by rw [z] at this; exact absurd this (by decide), fun z => by rw [z] at this; exact absurd this (by decide)⟩
  | .yes, _, d => by
    show bal ("1" : Str).cps.toList d = _
    rw [e_one]
    rfl
  | .no, _, d => by
    show bal ("0" : Str).cps.toList d = _
    rw [e_zero]
    rfl
  | .not t, h, d => by
    show bal (("~" : Str) ++ brk (behindB "~" t) (shownF t)).cps.toList d = _
    rw [str_app, e_wave]
    show bal (brk (behindB "~" t) (shownF t)).cps.toList d = _
    exact bal_brk (bal_shown t h) d
  | .bin o a b, h, d => by
    show bal (brk (aheadB a o) (shownF a) ++ (" " : Str) ++ opSign o ++ (" " : Str) ++ brk (behindB (opSign o) b) (shownF b)).cps.toList d = _
    rw [str_app, str_app, str_app, str_app, bal_app, bal_app, bal_app, bal_app, bal_brk (bal_shown a fun x hx => h x (List.mem_append_left _ hx)) d]
    rw [sign_of (e_op o), sign_of e_blank]
    show ((bal [opCode o] d).bind (bal [32])).bind _ = _
    rw [bal_plain [opCode o] (fun c hc => by
      rw [List.mem_singleton.mp hc]
      cases o <;> exact ⟨by decide, by decide⟩) d]
    show bal (brk (behindB (opSign o) b) (shownF b)).cps.toList d = _
    exact bal_brk (bal_shown b fun x hx => h x (List.mem_append_right _ hx)) d
end K09

namespace K09
open PySem L2 Mc
/-! ### the law's own pairs of brackets -/
def PrAt (H : Hp) (v : V) (x : Nat × Nat) : Prop := ∃ p, v = .ref p ∧ H p = some (.tup [.int (x.1 : Int), .int (x.2 : Int)])
theorem PrAt.mono {H H' : Hp} (s : Tups H H') {v : V} {x : Nat × Nat} : PrAt H v x → PrAt H' v x := fun ⟨p, h1, h2⟩ => ⟨p, h1, s _ _ h2⟩
def IsPr (x : Str) (pr : Nat × Nat) : Prop := pr.1 < pr.2 ∧ x.cps.toList[pr.1]? = some 40 ∧ x.cps.toList[pr.2]? = some 41
def spPairs : Sp := fun vs H Q _ => ∃ x : Str, vs = [.str x] ∧ x.length ≤ 100000 ∧ bal x.cps.toList 0 = some 0 ∧
  ∀ (q : Addr) (us : List V) (prs : List (Nat × Nat)) (H' : Hp), Same H H' → H' q = some (.lst us) → Paired (PrAt H') us prs → (∀ pr ∈ prs, IsPr x pr) → us.length ≤ x.length → Q (.ref q) H'
theorem eq_sign {c d : Nat} {y : Str} (hy : y = ⟨#[d]⟩) : decide (V.str ⟨#[c]⟩ = V.str y) = decide (c = d) := by
  by_cases e : c = d
  · rw [decide_eq_true e, decide_eq_true (by rw [hy, e])]
  · rw [decide_eq_false e, decide_eq_false (fun z => e (one_inj ((V.str.inj z).trans hy)))]
def intsN (ws : List Nat) : List V := ws.map fun (n : Nat) => V.int (n : Int)
section
variable {P : Program} {w : World} {K : PySem.W.Frag} {mg : Str → Option Value} {base : Heap} {t : Adr}
theorem scPairs : FnScope ["_law_text", "_law_waiting", "_law_pairs_here", "_law_at", "_law_sign"] ["_law_text"] (defScope s__law_pairs) := ⟨rfl, rfl, rfl, by decide +kernel, rfl, by decide +kernel, by decide +kernel⟩
theorem ok_pairs (T : Txt P w K mg t) : FnOk P w K mg base (CX1 P w) 1 t.a__law_pairs t.fd__law_pairs ["_law_text"] spPairs := by
  refine T.F__law_pairs.ok1 scPairs (fun vs H Q E h => by obtain ⟨x, rfl, _⟩ := h; rfl) (fun cdv A outer s H vs Q E hr h => ?_)
  obtain ⟨x, rfl, hlen, hbal, k⟩ := h
  have nd := scPairs.nd
  refine ⟨_, (pss_cons (psl 1 nd (pe_lst pa_nil))
      (pss_cons (psl 2 nd (pe_lst pa_nil))
      (pss_cons (ps_for own1 rfl (penumS (pvl 0) T.n_enumerate) (pg_tup (n := 2) rfl (pgs_cons (pgl 3 nd) (pgs_cons (pgl 4 nd) pgs_nil)))
        (pss_cons (ps_if (pt_cmpR op_eq (pvl 4) pe_str (nomark _))
          (pss_one (ps_expr (pe_bm PySem.F.plainAttrs_list PySem.F.slot_list_append PySem.F.type_list_append mt_append (pvl 1) (pa_cons (pvl 3) pa_nil))))
          pss_nil)
        (pss_cons (ps_if (PW.pt (pw_and (pt_cmpR op_eq (pvl 4) pe_str (nomark _)) (pw_and1 (pt_cmpR op_eq (pcallB call_len_seq T.n_len Bt.len (pa_cons (pvl 1) pa_nil)) pe_int (nomark _)))))
          (pss_one (ps_ret pe_non))
          pss_nil)
        (pss_one (ps_if (pt_cmpR op_eq (pvl 4) pe_str (nomark _))
          (pss_one (ps_expr (pe_bm PySem.F.plainAttrs_list PySem.F.slot_list_append PySem.F.type_list_append mt_append (pvl 2) (pa_cons (pe_tup (pa_cons (pe_bm0 PySem.F.plainAttrs_list PySem.F.slot_list_pop PySem.F.type_list_pop mt_pop (pvl 1)) (pa_cons (pvl 3) pa_nil))) pa_nil))))
          pss_nil)))))
      (pss_one (ps_ret (pe_ix ix_list (pe_lst (pa_cons pe_non (pa_cons (pvl 2) pa_nil))) (pcallT call_int1 T.n_int Bt.int (pa_cons (pe_cmpR op_eq (pcallB call_len_seq T.n_len Bt.len (pa_cons (pvl 1) pa_nil)) pe_int (nomark _)) pa_nil)) (fun _ _ => rfl))))))), ?_⟩
  have hsl : (100000 : Nat) < sizeLine := by decide
  refine ⟨lk (by first | exact Nat.le_of_ble_eq_true rfl | simp), fun lw hlw => ⟨lk (by first | exact Nat.le_of_ble_eq_true rfl | simp), fun lp hlp => ?_⟩⟩
  have v1 := same_upd (o := .lst []) hlw
  have v2 := same_upd (o := .lst []) hlp
  have hw2 := v2 _ _ (upd_same (H := H) (a := lw) (o := .lst []))
  have hp2 : (upd (upd H lw (.lst [])) lp (.lst [])) lp = some (.lst []) := upd_same
  have hlp0 : H lp = none := by
    by_cases e : lp = lw
    · rw [e]; exact hlw
    · rw [upd_ne e] at hlp; exact hlp
  have hne : lw ≠ lp := fun e => by
    rw [← e, upd_same] at hlp
    cases hlp
  have v12 := v1.trans v2
  generalize upd (upd H lw (.lst [])) lp (.lst []) = H2 at v12 hw2 hp2 ⊢
  have hsz : x.cps.size = x.cps.toList.length := Array.length_toList.symm
  have hxl : x.length = x.cps.toList.length := Array.length_toList.symm
  refine ⟨_, rfl, x, rfl, for_enumS (x := x) (fun i σ H' => ∃ (o3 o4 : Option V) (ws : List Nat) (us : List V) (prs : List (Nat × Nat)), σ = [some (.str x), some (.ref lw), some (.ref lp), o3, o4] ∧ Same H H' ∧ H' lw = some (.lst (intsN ws)) ∧ H' lp = some (.lst us) ∧ Paired (PrAt H') us prs ∧
      bal (x.cps.toList.take i) 0 = some ws.length ∧ (∀ p ∈ ws, p < i ∧ x.cps.toList[p]? = some 40) ∧ (∀ pr ∈ prs, IsPr x pr) ∧ us.length ≤ i ∧ ws.length ≤ i)
    ⟨none, none, [], [], [], rfl, v12, hw2, hp2, .nil, rfl, (fun p hp => nomatch hp), (fun p hp => nomatch hp), Nat.le_refl _, Nat.le_refl _⟩ ?_ ?_⟩
  · rintro i c σ H3 hi ⟨o3, o4, ws, us, prs, rfl, s3, hw3, hp3, hpr, hb, hws, hprs, hul, hwl⟩ e he
    have hi' : x.cps.toList[i]? = some c := by rw [Array.getElem?_toList]; exact hi
    have hil : i < x.cps.toList.length := (List.getElem?_eq_some_iff.mp hi').1
    have et : x.cps.toList.take (i + 1) = x.cps.toList.take i ++ [c] := by rw [List.take_add_one, hi']; rfl
    have hb1 : bal (x.cps.toList.take (i + 1)) 0 = bal [c] ws.length := by
      rw [et, bal_app, hb]
      rfl
    have u4 := same_upd (o := .tup [.int (i : Int), .str ⟨#[c]⟩]) he
    have hw4 := u4 _ _ hw3
    have hp4 := u4 _ _ hp3
    have hpr4 := Paired.mapP hpr fun _ _ z => PrAt.mono u4.tups z
    have s4 := s3.trans u4
    refine ⟨e, _, rfl, SqT.of upd_same, rfl, _, _, rfl, _, _, rfl, rfl, ?_⟩
    generalize upd H3 e (.tup [.int (i : Int), .str ⟨#[c]⟩]) = H4 at u4 hw4 hp4 hpr4 s4 ⊢
    by_cases c1 : c = 40
    · -- an opening one
      have n2 : ¬ decide (V.str ⟨#[c]⟩ = V.str (")" : Str)) = true := by rw [eq_sign e_close, decide_eq_true_iff]; omega
      refine ⟨_, rfl, rfl, _, rfl, ite2 (fun _ => ?_) (fun z => absurd (by rw [eq_sign e_open]; exact decide_eq_true c1) z)⟩
      refine ⟨_, rfl, .inl ⟨rfl, _, SqL.of hw4⟩, _, rfl, lw, _, _, rfl, rfl, hw4, by unfold intsN; rw [List.length_map]; omega, ?_⟩
      refine ⟨_, rfl, rfl, _, rfl, ite2 (fun z => absurd z n2) (fun _ => iteF ?_)⟩
      refine ⟨_, rfl, rfl, _, rfl, ite2 (fun z => absurd z n2) (fun _ => ?_)⟩
      refine ⟨_, _, ws ++ [i], us, prs, rfl, fun b o q => ?_, ?_, ?_, Paired.mapP hpr4 fun _ _ z => PrAt.mono (tups_upd hw4) z, ?_, ?_, hprs, by omega, ?_⟩
      · rw [upd_ne (ne_of_none q hlw)]
        exact s4 _ _ q
      · rw [upd_same]
        unfold intsN
        rw [List.map_append]
        rfl
      · rw [upd_ne (Ne.symm hne)]
        exact hp4
      · rw [hb1, c1, List.length_append]
        rfl
      · intro p hp
        rcases List.mem_append.mp hp with hp | hp
        · obtain ⟨h1, h2⟩ := hws p hp
          exact ⟨by omega, h2⟩
        · rw [List.mem_singleton.mp hp]
          exact ⟨by omega, by rw [hi', c1]⟩
      · rw [List.length_append]
        show ws.length + 1 ≤ i + 1
        omega
    · have n1 : ¬ decide (V.str ⟨#[c]⟩ = V.str ("(" : Str)) = true := by rw [eq_sign e_open, decide_eq_true_iff]; exact c1
      refine ⟨_, rfl, rfl, _, rfl, ite2 (fun z => absurd z n1) (fun _ => ?_)⟩
      by_cases c2 : c = 41
      · -- a closing one
        have y2 : decide (V.str ⟨#[c]⟩ = V.str (")" : Str)) = true := by rw [eq_sign e_close]; exact decide_eq_true c2
        have hne0 : ¬ ws.length = 0 := fun z => by
          have h1 : bal (x.cps.toList.take (i + 1)) 0 = none := by rw [hb1, c2, z]; rfl
          have h2 : x.cps.toList = x.cps.toList.take (i + 1) ++ x.cps.toList.drop (i + 1) := (List.take_append_drop ..).symm
          rw [h2, bal_app, h1] at hbal
          cases hbal
        refine ⟨_, rfl, rfl, _, rfl, ite2 (fun _ => ?_) (fun z => absurd y2 z)⟩
        refine ⟨_, rfl, lw, _, rfl, .inl (SqL.of hw4), rfl, _, rfl, ite2 (fun z => ?_) (fun _ => ?_)⟩
        · exfalso
          have z := V.int.inj (of_decide_eq_true z)
          unfold intsN at z
          rw [List.length_map] at z
          omega
        refine ⟨_, rfl, rfl, _, rfl, ite2 (fun _ => ?_) (fun z => absurd y2 z)⟩
        obtain ⟨ws0, p0, rfl⟩ : ∃ ws0 p0, ws = ws0 ++ [p0] := ⟨ws.dropLast, ws.getLast (fun z => hne0 (by rw [z]; rfl)), (List.dropLast_concat_getLast _).symm⟩
        have ei : intsN (ws0 ++ [p0]) = intsN ws0 ++ [V.int (p0 : Int)] := by unfold intsN; rw [List.map_append]; rfl
        rw [ei] at hw4
        refine ⟨_, rfl, .inl ⟨rfl, _, SqL.of hp4⟩, _, rfl, .inl ⟨rfl, _, SqL.of hw4⟩, lw, _, .int (p0 : Int), rfl, rfl, hw4, (by simp), ?_⟩
        have k5 : Tups H4 (upd H4 lw (.lst (intsN ws0 ++ [V.int (p0 : Int)]).dropLast)) := tups_upd hw4
        rw [List.dropLast_concat] at k5 ⊢
        have hw5 : (upd H4 lw (.lst (intsN ws0))) lw = some (.lst (intsN ws0)) := upd_same
        have hp5 : (upd H4 lw (.lst (intsN ws0))) lp = some (.lst us) := by rw [upd_ne (Ne.symm hne)]; exact hp4
        have s5 : Same H (upd H4 lw (.lst (intsN ws0))) := fun b o q => by
          rw [upd_ne (ne_of_none q hlw)]
          exact s4 _ _ q
        have hpr5 := Paired.mapP hpr4 fun _ _ z => PrAt.mono k5 z
        generalize upd H4 lw (.lst (intsN ws0)) = H5 at k5 hw5 hp5 s5 hpr5 ⊢
        refine ⟨_, rfl, lk (by first | exact Nat.le_of_ble_eq_true rfl | simp), fun m hm => ?_⟩
        have u6 := same_upd (o := .tup [.int (p0 : Int), .int (i : Int)]) hm
        have hw6 := u6 _ _ hw5
        have hp6 := u6 _ _ hp5
        have hm6 : (upd H5 m (.tup [.int (p0 : Int), .int (i : Int)])) m = some (.tup [.int (p0 : Int), .int (i : Int)]) := upd_same
        have hpr6 := Paired.mapP hpr5 fun _ _ z => PrAt.mono u6.tups z
        have s6 := s5.trans u6
        generalize upd H5 m (.tup [.int (p0 : Int), .int (i : Int)]) = H6 at u6 hw6 hp6 hm6 hpr6 s6 ⊢
        refine ⟨lp, _, _, rfl, rfl, hp6, by omega, ?_⟩
        have k7 : Tups H6 (upd H6 lp (.lst (us ++ [V.ref m]))) := tups_upd hp6
        obtain ⟨hp0, hp0'⟩ := hws p0 (List.mem_append_right _ List.mem_cons_self)
        refine ⟨_, _, ws0, us ++ [.ref m], prs ++ [(p0, i)], rfl, fun b o q => ?_, ?_, upd_same, paired_app (Paired.mapP hpr6 fun _ _ z => PrAt.mono k7 z) (.cons ⟨m, rfl, k7 _ _ hm6⟩ .nil), ?_, fun p hp => ?_, fun pr hpr => ?_, ?_, ?_⟩
        · rw [upd_ne (ne_of_none q hlp0)]
          exact s6 _ _ q
        · rw [upd_ne hne]
          exact hw6
        · rw [hb1, c2, List.length_append]
          show (if ws0.length + 1 = 0 then none else some (ws0.length + 1 - 1)) = _
          rw [if_neg (by omega)]
          rfl
        · obtain ⟨h1, h2⟩ := hws p (List.mem_append_left _ hp)
          exact ⟨by omega, h2⟩
        · rcases List.mem_append.mp hpr with hpr | hpr
          · exact hprs pr hpr
          · rw [List.mem_singleton.mp hpr]
            exact ⟨hp0, hp0', by rw [hi', c2]⟩
        · rw [List.length_append]
          show us.length + 1 ≤ i + 1
          omega
        · rw [List.length_append] at hwl
          omega
      · have n2 : ¬ decide (V.str ⟨#[c]⟩ = V.str (")" : Str)) = true := by rw [eq_sign e_close, decide_eq_true_iff]; exact c2
        refine ⟨_, rfl, rfl, _, rfl, ite2 (fun z => absurd z n2) (fun _ => iteF ?_)⟩
        refine ⟨_, rfl, rfl, _, rfl, ite2 (fun z => absurd z n2) (fun _ => ?_)⟩
        refine ⟨_, _, ws, us, prs, rfl, s4, hw4, hp4, hpr4, ?_, fun p hp => ?_, hprs, by omega, by omega⟩
        · rw [hb1]
          show (if c = 40 then _ else if c = 41 then _ else some ws.length) = _
          rw [if_neg c1, if_neg c2]
        · obtain ⟨h1, h2⟩ := hws p hp
          exact ⟨by omega, h2⟩
  · rintro σ H3 ⟨o3, o4, ws, us, prs, rfl, s3, hw3, hp3, hpr, hb, hws, hprs, hul, hwl⟩
    rw [hsz, List.take_length, hbal] at hb
    obtain rfl : ws = [] := List.eq_nil_of_length_eq_zero (Option.some.inj hb).symm
    refine ⟨_, rfl, lk (by first | exact Nat.le_of_ble_eq_true rfl | simp), fun l hl => ?_⟩
    have u4 := same_upd (o := .lst [V.non, V.ref lp]) hl
    refine ⟨_, rfl, lw, _, rfl, .inl (SqL.of (u4 _ _ hw3)), rfl, .inr ⟨_, rfl, l, _, 1, .ref lp, rfl, rfl, SqL.of upd_same, rfl, ?_⟩⟩
    exact k lp us prs _ (s3.trans u4) (u4 _ _ hp3) (Paired.mapP hpr fun _ _ z => PrAt.mono u4.tups z) hprs (by rw [hxl]; rw [hsz] at hul; exact hul)
end
end K09

namespace K09
open PySem L2 Mc
/-! ### sentences alike or not -/
def Alk (H : Hp) (d : Nat) (v u : V) (b : Bool) : Prop :=
  (∃ x y : Str, v = .str x ∧ u = .str y ∧ (b = true ↔ x = y)) ∨ (∃ (x : Str) (r : Tr), v = .str x ∧ TrAt H u r ∧ b = false) ∨ (∃ (r : Tr) (y : Str), TrAt H v r ∧ u = .str y ∧ b = false) ∨
  (∃ r1 r2 : Tr, TrAt H v r1 ∧ TrAt H u r2 ∧ r2.depth ≤ d ∧ (b = true ↔ r1 = r2))
theorem Alk.mono {H H' : Hp} (s : Tups H H') {d : Nat} {v u : V} {b : Bool} (h : Alk H d v u b) : Alk H' d v u b := by
  rcases h with h | ⟨x, r, h1, h2, h3⟩ | ⟨r, y, h1, h2, h3⟩ | ⟨r1, r2, h1, h2, h3⟩
  · exact .inl h
  · exact .inr (.inl ⟨x, r, h1, h2.mono s, h3⟩)
  · exact .inr (.inr (.inl ⟨r, y, h1.mono s, h2, h3⟩))
  · exact .inr (.inr (.inr ⟨r1, r2, h1.mono s, h2.mono s, h3⟩))
def spAlike (d : Nat) : Sp := fun vs H Q _ => ∃ (v u : V) (b : Bool), vs = [v, u] ∧ Alk H d v u b ∧ ∀ H', Same H H' → Q (.bl b) H'
inductive Al3 (H : Hp) (d : Nat) : List V → List V → List Bool → Prop
  | nil : Al3 H d [] [] []
  | cons {x y : V} {c : Bool} {xs ys : List V} {bs : List Bool} : Alk H d x y c → Al3 H d xs ys bs → Al3 H d (x :: xs) (y :: ys) (c :: bs)
theorem Al3.len {H : Hp} {d : Nat} : ∀ {xs ys : List V} {bs : List Bool}, Al3 H d xs ys bs → xs.length = ys.length ∧ bs.length = xs.length
  | _, _, _, .nil => ⟨rfl, rfl⟩
  | _, _, _, .cons _ t => by
    obtain ⟨h1, h2⟩ := t.len
    exact ⟨congrArg (· + 1) h1, congrArg (· + 1) h2⟩
theorem Al3.get {H : Hp} {d : Nat} : ∀ {xs ys : List V} {bs : List Bool}, Al3 H d xs ys bs → ∀ (i : Nat) (x y : V), xs[i]? = some x → ys[i]? = some y → ∃ c, bs[i]? = some c ∧ Alk H d x y c
  | _, _, _, .nil, i, x, y, h, _ => by simp at h
  | _, _, _, .cons h t, 0, x, y, h1, h2 => by
    cases h1
    cases h2
    exact ⟨_, rfl, h⟩
  | _, _, _, .cons h t, i + 1, x, y, h1, h2 => t.get i x y h1 h2
def Shape (H : Hp) (r : Tr) (xs : List V) : Prop :=
  match r with
  | .nm x => xs = [.str "name", .str x]
  | .yes => xs = [.str "yes"]
  | .no => xs = [.str "no"]
  | .not q => ∃ v1, xs = [.str "not", v1] ∧ TrAt H v1 q
  | .bin o p q => ∃ v1 v2, xs = [.str o.str, v1, v2] ∧ TrAt H v1 p ∧ TrAt H v2 q
theorem shape {H : Hp} {v : V} {r : Tr} (h : TrAt H v r) : ∃ a xs, v = .ref a ∧ H a = some (.tup xs) ∧ Shape H r xs := by
  obtain ⟨a, rest, rfl, ha, hn, hk⟩ := h.open
  cases r with
  | nm x => exact ⟨a, _, rfl, trNm h, rfl⟩
  | yes => cases hk rfl; exact ⟨a, _, rfl, ha, rfl⟩
  | no => cases hk rfl; exact ⟨a, _, rfl, ha, rfl⟩
  | not q =>
    obtain ⟨v1, h1, h2⟩ := trNot h
    exact ⟨a, _, rfl, h1, v1, rfl, h2⟩
  | bin o p q =>
    obtain ⟨v1, v2, h1, h2, h3⟩ := trBin h
    exact ⟨a, _, rfl, h1, v1, v2, rfl, h2, h3⟩
theorem alk_str {H : Hp} {d : Nat} {x y : Str} {b : Bool} (h : b = decide (x = y)) : Alk H d (.str x) (.str y) b := .inl ⟨x, y, rfl, rfl, by rw [h, decide_eq_true_iff]⟩
theorem ostr_inj : ∀ o p : Op, (o.str = p.str) ↔ o = p := by
  intro o p
  constructor
  · intro h
    cases o <;> cases p <;> first | rfl | exact absurd h (by decide +kernel)
  · intro h
    rw [h]
open Classical in
theorem alk_open {H : Hp} {d : Nat} {r1 r2 : Tr} {xs ys : List V} (h1 : Shape H r1 xs) (h2 : Shape H r2 ys) (hd : r2.depth ≤ d + 1) :
    xs.length ≤ 3 ∧ ((xs.length ≠ ys.length ∧ ¬ r1 = r2) ∨ ∃ bs : List Bool, Al3 H d xs ys bs ∧ (bs.all id = true ↔ r1 = r2)) := by
  cases r1 with
  | nm x =>
    have h1 : xs = [.str "name", .str x] := h1
    subst h1
    refine ⟨(by decide : 2 ≤ 3), ?_⟩
    cases r2 with
    | nm y =>
      have h2 : ys = [.str "name", .str y] := h2
      subst h2
      refine .inr ⟨[true, decide (x = y)], .cons (alk_str (by simp)) (.cons (alk_str (by simp)) .nil), ?_⟩
      simp
    | yes => have h2 : ys = [.str "yes"] := h2; subst h2; exact .inl ⟨by simp, fun z => nomatch z⟩
    | no => have h2 : ys = [.str "no"] := h2; subst h2; exact .inl ⟨by simp, fun z => nomatch z⟩
    | not q =>
      obtain ⟨v1, rfl, hq⟩ := h2
      exact .inr ⟨[false, false], .cons (alk_str (by decide +kernel)) (.cons (.inr (.inl ⟨x, q, rfl, hq, rfl⟩)) .nil), by simp⟩
    | bin o p q => obtain ⟨v1, v2, rfl, _⟩ := h2; exact .inl ⟨by simp, fun z => nomatch z⟩
  | yes =>
    have h1 : xs = [.str "yes"] := h1
    subst h1
    refine ⟨(by decide : 1 ≤ 3), ?_⟩
    cases r2 with
    | nm y => have h2 : ys = [.str "name", .str y] := h2; subst h2; exact .inl ⟨by simp, fun z => nomatch z⟩
    | yes => have h2 : ys = [.str "yes"] := h2; subst h2; exact .inr ⟨[true], .cons (alk_str (by simp)) .nil, by simp⟩
    | no => have h2 : ys = [.str "no"] := h2; subst h2; exact .inr ⟨[false], .cons (alk_str (by decide +kernel)) .nil, by simp⟩
    | not q => obtain ⟨v1, rfl, hq⟩ := h2; exact .inl ⟨by simp, fun z => nomatch z⟩
    | bin o p q => obtain ⟨v1, v2, rfl, _⟩ := h2; exact .inl ⟨by simp, fun z => nomatch z⟩
  | no =>
    have h1 : xs = [.str "no"] := h1
    subst h1
    refine ⟨(by decide : 1 ≤ 3), ?_⟩
    cases r2 with
    | nm y => have h2 : ys = [.str "name", .str y] := h2; subst h2; exact .inl ⟨by simp, fun z => nomatch z⟩
    | yes => have h2 : ys = [.str "yes"] := h2; subst h2; exact .inr ⟨[false], .cons (alk_str (by decide +kernel)) .nil, by simp⟩
    | no => have h2 : ys = [.str "no"] := h2; subst h2; exact .inr ⟨[true], .cons (alk_str (by simp)) .nil, by simp⟩
    | not q => obtain ⟨v1, rfl, hq⟩ := h2; exact .inl ⟨by simp, fun z => nomatch z⟩
    | bin o p q => obtain ⟨v1, v2, rfl, _⟩ := h2; exact .inl ⟨by simp, fun z => nomatch z⟩
  | not u =>
    obtain ⟨w1, rfl, hu⟩ := h1
    refine ⟨(by decide : 2 ≤ 3), ?_⟩
    cases r2 with
    | nm y =>
      have h2 : ys = [.str "name", .str y] := h2
      subst h2
      exact .inr ⟨[false, false], .cons (alk_str (by decide +kernel)) (.cons (.inr (.inr (.inl ⟨u, y, hu, rfl, rfl⟩))) .nil), by simp⟩
    | yes => have h2 : ys = [.str "yes"] := h2; subst h2; exact .inl ⟨by simp, fun z => nomatch z⟩
    | no => have h2 : ys = [.str "no"] := h2; subst h2; exact .inl ⟨by simp, fun z => nomatch z⟩
    | not q =>
      obtain ⟨v1, rfl, hq⟩ := h2
      have hd : q.depth + 1 ≤ d + 1 := hd
      exact .inr ⟨[true, decide (u = q)], .cons (alk_str (by simp)) (.cons (.inr (.inr (.inr ⟨u, q, hu, hq, by omega, by rw [decide_eq_true_iff]⟩))) .nil), by simp⟩
    | bin o p q => obtain ⟨v1, v2, rfl, _⟩ := h2; exact .inl ⟨by simp, fun z => nomatch z⟩
  | bin o a b =>
    obtain ⟨w1, w2, rfl, ha, hb⟩ := h1
    refine ⟨(by decide : 3 ≤ 3), ?_⟩
    cases r2 with
    | nm y => have h2 : ys = [.str "name", .str y] := h2; subst h2; exact .inl ⟨by simp, fun z => nomatch z⟩
    | yes => have h2 : ys = [.str "yes"] := h2; subst h2; exact .inl ⟨by simp, fun z => nomatch z⟩
    | no => have h2 : ys = [.str "no"] := h2; subst h2; exact .inl ⟨by simp, fun z => nomatch z⟩
    | not q => obtain ⟨v1, rfl, hq⟩ := h2; exact .inl ⟨by simp, fun z => nomatch z⟩
    | bin o' p q =>
      obtain ⟨v1, v2, rfl, hp, hq⟩ := h2
      have hd : max p.depth q.depth + 1 ≤ d + 1 := hd
      refine .inr ⟨[decide (o.str = o'.str), decide (a = p), decide (b = q)], .cons (alk_str rfl) (.cons (.inr (.inr (.inr ⟨a, p, ha, hp, by omega, by rw [decide_eq_true_iff]⟩))) (.cons (.inr (.inr (.inr ⟨b, q, hb, hq, by omega, by rw [decide_eq_true_iff]⟩))) .nil)), ?_⟩
      have e := ostr_inj o o'
      simp [e]
section
variable {P : Program} {w : World} {K : PySem.W.Frag} {mg : Str → Option Value} {base : Heap} {t : Adr}
theorem scAlike : FnScope ["_law_found", "_law_due"] ["_law_found", "_law_due"] (defScope s__law_alike) := ⟨rfl, rfl, rfl, by decide +kernel, rfl, by decide +kernel, by decide +kernel⟩
theorem alike_of (T : Txt P w K mg t) (d : Nat) {sp : Sp} (G__law_alike : FnOk P w K mg base (CX1 P w) d t.a__law_alike t.fd__law_alike ["_law_found", "_law_due"] sp) (hsp : d = 0 ∨ ∃ e, d = e + 1 ∧ sp = spAlike e) : FnOk P w K mg base (CX1 P w) (d + 1) t.a__law_alike t.fd__law_alike ["_law_found", "_law_due"] (spAlike d) := by
  refine T.F__law_alike.ok1 scAlike (fun vs H Q E h => by obtain ⟨v, u, b, rfl, _⟩ := h; rfl) (fun cdv A outer s H vs Q E hr h => ?_)
  obtain ⟨v, u, b, rfl, hvu, k⟩ := h
  have nd := scAlike.nd
  refine ⟨_, (pss_cons (ps_if (pt_val (pcallB call_isI T.n_isinstance Bt.isinstance (pa_cons (pvl 1) (pa_cons (pbltn (v := .ty "str") T.n_str Bt.str rfl) pa_nil))))
        (pss_one (ps_ret (pe_and (pcallB call_isI T.n_isinstance Bt.isinstance (pa_cons (pvl 0) (pa_cons (pbltn (v := .ty "str") T.n_str Bt.str rfl) pa_nil))) (pe_one (pe_cmpR op_eq (pvl 0) (pvl 1) (nomark _))))))
        pss_nil)
      (pss_cons (ps_if (PW.pt (pw_or (pt_not (pt_val (pcallB call_isI T.n_isinstance Bt.isinstance (pa_cons (pvl 0) (pa_cons (pbltn (v := .ty "tuple") T.n_tuple Bt.tuple rfl) pa_nil))))) (pw_or1 (pt_cmpR op_ne (pcallB call_len_seq T.n_len Bt.len (pa_cons (pvl 0) pa_nil)) (pcallB call_len_seq T.n_len Bt.len (pa_cons (pvl 1) pa_nil)) (nomark _)))))
        (pss_one (ps_ret pe_bl))
        pss_nil)
      (pss_one (ps_ret (pcallB (call_allB rfl) T.n_all Bt.all (pa_cons (pe_comp rfl ["_law_one", "_law_other"] [none, none] (pzipT (pa_cons (pvl 0) (pa_cons (pvl 1) pa_nil)) T.n_zip) (by kernel_rfl) (fun _ _ _ _ _ _ => (pg_tupK (K := K) (n := 2) rfl rfl (pgs_cons (pgl 0 (show List.Nodup (α := PySem.Str) ["_law_one", "_law_other"] by decide +kernel)) (pgs_cons (pgl 1 (show List.Nodup (α := PySem.Str) ["_law_one", "_law_other"] by decide +kernel)) pgs_nil)))) (fun _ _ _ _ _ _ => pts_nil) (fun _ _ _ _ _ _ => (pcall G__law_alike (hr.mono (by first | decide | omega)) T.m__law_alike T.k__law_alike T.b__law_alike never1 (pa_cons (pvl 0) (pa_cons (pvl 1) pa_nil))))) pa_nil)))))), ?_⟩
  rcases hvu with ⟨x, y, rfl, rfl, hb⟩ | ⟨x, r, rfl, h2, rfl⟩ | ⟨r, y, h1, rfl, rfl⟩ | ⟨r1, r2, h1, h2, hd, hb⟩
  · refine ⟨_, rfl, _, _, _, _, true, rfl, rfl, .str _, rfl, _, rfl, iteT ?_⟩
    refine ⟨_, rfl, _, _, _, _, true, rfl, rfl, .str _, rfl, _, rfl, iteT ?_⟩
    refine ⟨_, rfl, _, rfl, rfl, ?_⟩
    have e : decide (V.str x = V.str y) = b := by
      cases b with
      | true => exact decide_eq_true (by rw [hb.mp rfl])
      | false => exact decide_eq_false (fun z => by have := hb.mpr (V.str.inj z); cases this)
    have kk := k H (Same.refl H)
    rw [← e] at kk
    exact kk
  · obtain ⟨a2, ys, rfl, ha2, _⟩ := shape h2
    refine ⟨_, rfl, _, _, _, _, false, rfl, rfl, .tup ha2, rfl, _, rfl, iteF ?_⟩
    refine ⟨_, rfl, _, _, _, _, false, rfl, rfl, .str _, rfl, _, rfl, iteT ?_⟩
    exact k H (Same.refl H)
  · obtain ⟨a1, xs, rfl, ha1, _⟩ := shape h1
    refine ⟨_, rfl, _, _, _, _, true, rfl, rfl, .str _, rfl, _, rfl, iteT ?_⟩
    refine ⟨_, rfl, _, _, _, _, false, rfl, rfl, .tup ha1, rfl, _, rfl, iteF ?_⟩
    exact k H (Same.refl H)
  · obtain ⟨a, xs, rfl, ha, s1⟩ := shape h1
    obtain ⟨b', ys, rfl, hb', s2⟩ := shape h2
    rcases hsp with rfl | ⟨e, rfl, rfl⟩
    · have := r2.depth_pos
      omega
    obtain ⟨h3, hcase⟩ := alk_open s1 s2 hd
    refine ⟨_, rfl, _, _, _, _, false, rfl, rfl, .tup hb', rfl, _, rfl, iteF ?_⟩
    refine ⟨_, rfl, _, _, _, _, true, rfl, rfl, .tup ha, rfl, _, rfl, iteF ?_⟩
    rcases hcase with ⟨hne, hn⟩ | ⟨bs, h3', hall⟩
    · have eb : b = false := by
        cases b with
        | false => rfl
        | true => exact absurd (hb.mp rfl) hn
      subst eb
      refine ⟨_, rfl, a, _, rfl, .inr (SqT.of ha), _, rfl, b', _, rfl, .inr (SqT.of hb'), rfl, _, rfl, ite2 (fun _ => ?_) (fun z => ?_)⟩
      · exact k H (Same.refl H)
      · exfalso
        refine z ?_
        rw [decide_eq_false (fun z => hne (by have := V.int.inj z; omega))]
        rfl
    · obtain ⟨hl, hlb⟩ := h3'.len
      have eb : bs.all id = b := by
        cases b with
        | true => exact hall.mpr (hb.mp rfl)
        | false =>
          cases hh : bs.all id with
          | false => rfl
          | true => have := hb.mpr (hall.mp hh); cases this
      refine ⟨_, rfl, a, _, rfl, .inr (SqT.of ha), _, rfl, b', _, rfl, .inr (SqT.of hb'), rfl, _, rfl, ite2 (fun z => ?_) (fun _ => ?_)⟩
      · rw [hl, decide_eq_true rfl] at z
        cases z
      refine ⟨_, rfl, _, rfl, a, b', rfl, ⟨_, SqT.of ha⟩, ⟨_, SqT.of hb'⟩, ?_⟩
      refine comp_zipT (K := K) (a := a) (b := b') (xs := xs) (ys := ys) hl (fun i zs H' => Same H H' ∧ zs = (bs.take i).map V.bl) ⟨Same.refl _, rfl⟩ (lk (by omega)) (fun i zs H' ⟨_, e⟩ => by rw [e, List.length_map, List.length_take]; omega) (fun i zs H' ⟨s', _⟩ => ⟨SqT.of (s' _ _ ha), SqT.of (s' _ _ hb')⟩) ?_ ?_
      · rintro i x y zs H1 hx hy ⟨s1, rfl⟩ e he
        have s2 := s1.trans (same_upd (o := .tup [x, y]) he)
        obtain ⟨c, hc, hxy⟩ := h3'.get i x y hx hy
        refine ⟨e, _, rfl, SqT.of upd_same, rfl, _, _, rfl, _, _, rfl, rfl, trivial, ?_⟩
        refine ⟨_, rfl, _, rfl, x, y, c, rfl, hxy.mono s2.tups, fun H2 s3 => ⟨s2.trans s3, ?_⟩⟩
        rw [List.take_add_one, hc, List.map_append]
        rfl
      · rintro zs H1 ⟨s1, rfl⟩ lc hlc
        refine ⟨lc, _, rfl, SqL.of upd_same, ?_⟩
        rw [← hlb, List.take_length, eb]
        exact k _ (s1.trans (same_upd hlc))
theorem ok_alike (T : Txt P w K mg t) : ∀ d : Nat, FnOk P w K mg base (CX1 P w) (d + 1) t.a__law_alike t.fd__law_alike ["_law_found", "_law_due"] (spAlike d)
  | 0 => alike_of T 0 (sp := fun _ _ _ _ => False) ⟨fun _ _ _ _ h => h.elim, fun _ _ _ _ _ _ _ _ _ _ _ _ _ h => h.elim⟩ (.inl rfl)
  | d + 1 => alike_of T (d + 1) (ok_alike T d) (.inr ⟨d, rfl, rfl⟩)
end
end K09

namespace K09
open PySem L2 Mc
/-! ### the law -/
def spLaw (K : PySem.W.Frag) : Sp := fun vs H Q _ => ∃ (a : Addr) (ns : List Int), vs = [.ref a] ∧ SqL K H a (ns.map V.int) ∧ ns.length ≤ 63 ∧ ∀ H', Q (.bl true) H'
def less (x : Str) (lo hi : Nat) : Str := cutS x none (some (lo : Int)) ++ cutS x (some ((lo : Int) + 1)) (some (hi : Int)) ++ cutS x (some ((hi : Int) + 1)) none
theorem less_l {x : Str} {lo hi : Nat} (h1 : lo < hi) (h2 : hi < x.cps.toList.length) : (less x lo hi).cps.toList = x.cps.toList.take lo ++ ((x.cps.toList.drop (lo + 1)).take (hi - (lo + 1)) ++ x.cps.toList.drop (hi + 1)) := by
  have hxl : x.length = x.cps.toList.length := Array.length_toList.symm
  have e1 : ((lo : Int) + 1) = ((lo + 1 : Nat) : Int) := by omega
  have e2 : ((hi : Int) + 1) = ((hi + 1 : Nat) : Int) := by omega
  unfold less
  rw [str_app, str_app, cutS_toList, cutS_toList, cutS_toList, e1, e2, HT.sIx_none, HT.sIx_none, HT.sIx_nat, HT.sIx_nat, HT.sIx_nat, HT.sIx_nat, hxl, List.append_assoc]
  rw [Nat.min_eq_left (show lo ≤ x.cps.toList.length by omega), Nat.min_eq_left (show lo + 1 ≤ x.cps.toList.length by omega), Nat.min_eq_left (show hi ≤ x.cps.toList.length by omega), Nat.min_eq_left (show hi + 1 ≤ x.cps.toList.length by omega)]
  rw [List.drop_zero, Nat.sub_zero]
  congr 2
  rw [List.take_of_length_le (by rw [List.length_drop]; omega)]
theorem less_split {cs : List Nat} {lo hi : Nat} (h : lo < hi) (h1 : cs[lo]? = some 40) (h2 : cs[hi]? = some 41) : cs = cs.take lo ++ 40 :: ((cs.drop (lo + 1)).take (hi - (lo + 1)) ++ 41 :: cs.drop (hi + 1)) := by
  have d1 : cs.drop lo = 40 :: cs.drop (lo + 1) := by
    obtain ⟨hl, e⟩ := List.getElem?_eq_some_iff.mp h1
    rw [List.drop_eq_getElem_cons hl, e]
  have d2 : (cs.drop (lo + 1)).drop (hi - (lo + 1)) = 41 :: cs.drop (hi + 1) := by
    obtain ⟨hl, e⟩ := List.getElem?_eq_some_iff.mp h2
    rw [List.drop_drop, show lo + 1 + (hi - (lo + 1)) = hi by omega, List.drop_eq_getElem_cons hl, e]
  rw [← d2, List.take_append_drop, ← d1, List.take_append_drop]
section
variable {P : Program} {w : World} {K : PySem.W.Frag} {mg : Str → Option Value} {base : Heap} {t : Adr}
theorem scLaw : FnScope ["_law_script", "_law_kept", "_law_names", "_law_tree", "_law_text", "_law_pairs_here", "_law_told_here", "_law_k", "_law_low", "_law_high"] ["_law_script"] (defScope s_law) := ⟨rfl, rfl, rfl, by decide +kernel, rfl, by decide +kernel, by decide +kernel⟩
theorem ok_law (T : Txt P w K mg t) : FnOk P w K mg base (CX1 P w) 82 t.a_law t.fd_law ["_law_script"] (spLaw K) := by
  have G__law_cell_at : FnOk P w K mg base (CX1 P w) 1 t.a__law_cell_at t.fd__law_cell_at ["_law_script", "_law_k"] (spCell K) := ok_cell T
  have G__law_names_by : FnOk P w K mg base (CX1 P w) 1 t.a__law_names_by t.fd__law_names_by ["_law_cell", "_law_many"] spNamesBy := ok_namesBy T
  have G__law_grown : FnOk P w K mg base (CX1 P w) 2 t.a__law_grown t.fd__law_grown ["_law_names", "_law_cells", "_law_most"] (spGrown3 K) := ok_grown3 T
  have G__law_folded : FnOk P w K mg base (CX1 P w) 1 t.a__law_folded t.fd__law_folded ["_law_script", "_law_start", "_law_many"] (spFolded K) := ok_folded T
  have G_shown : FnOk P w K mg base (CX1 P w) 81 t.a_shown t.fd_shown ["tree"] (spShown 40) := ok_shown T 40
  have G__law_told : FnOk P w K mg base (CX1 P w) 7 t.a__law_told t.fd__law_told ["_law_text"] (spTold t) := ok_told T
  have G__law_pairs : FnOk P w K mg base (CX1 P w) 1 t.a__law_pairs t.fd__law_pairs ["_law_text"] spPairs := ok_pairs T
  have G__law_alike : FnOk P w K mg base (CX1 P w) 41 t.a__law_alike t.fd__law_alike ["_law_found", "_law_due"] (spAlike 40) := ok_alike T 40
  refine T.F_law.ok1 (k := 81) scLaw (fun vs H Q E h => by obtain ⟨a, ns, rfl, _⟩ := h; rfl) (fun cdv A outer s H vs Q E hr h => ?_)
  obtain ⟨a, cs, rfl, hS, hlen, k⟩ := h
  have nd := scLaw.nd
  refine ⟨_, (pss_cons (psl 1 nd (pcall G__law_cell_at (hr.mono (by first | decide | omega)) T.m__law_cell_at T.k__law_cell_at T.b__law_cell_at never1 (pa_cons (pvl 0) (pa_cons pe_int pa_nil))))
      (pss_cons (psl 2 nd (pcall G__law_names_by (hr.mono (by first | decide | omega)) T.m__law_names_by T.k__law_names_by T.b__law_names_by never1 (pa_cons (pcall G__law_cell_at (hr.mono (by first | decide | omega)) T.m__law_cell_at T.k__law_cell_at T.b__law_cell_at never1 (pa_cons (pvl 0) (pa_cons pe_int pa_nil))) (pa_cons (pe_op op_add pe_int (pe_op op_mod (pvl 1) pe_int)) pa_nil))))
      (pss_cons (psl 3 nd (pcall G__law_grown (hr.mono (by first | decide | omega)) T.m__law_grown T.k__law_grown T.b__law_grown never1 (pa_cons (pvl 2) (pa_cons (pcall G__law_folded (hr.mono (by first | decide | omega)) T.m__law_folded T.k__law_folded T.b__law_folded never1 (pa_cons (pvl 0) (pa_cons pe_int (pa_cons (pe_op op_add pe_int (pe_op op_mod (pe_op op_fdiv (pvl 1) pe_int) pe_int)) pa_nil)))) (pa_cons (pe_op op_add pe_int (pe_op op_mod (pe_op op_fdiv (pvl 1) pe_int) pe_int)) pa_nil)))))
      (pss_cons (psl 4 nd (pcall G_shown (hr.mono (by first | decide | omega)) T.m_shown T.k_shown T.b_shown never1 (pa_cons (pvl 3) pa_nil)))
      (pss_cons (ps_if (pt_not (pt_val (pcallB call_isI T.n_isinstance Bt.isinstance (pa_cons (pvl 4) (pa_cons (pbltn (v := .ty "str") T.n_str Bt.str rfl) pa_nil)))))
        (pss_one (ps_ret pe_bl))
        pss_nil)
      (pss_cons (psl 5 nd (pcall G__law_pairs (hr.mono (by first | decide | omega)) T.m__law_pairs T.k__law_pairs T.b__law_pairs never1 (pa_cons (pvl 4) pa_nil)))
      (pss_cons (ps_if (pt_cmpR op_isN (pvl 5) pe_non (nomark _))
        (pss_one (ps_ret pe_bl))
        pss_nil)
      (pss_strike 4 6 32 nd (pcallB call_len_str T.n_len Bt.len (pa_cons (pvl 4) pa_nil)) (pss_one (ps_ret pe_bl)) G__law_told (hr.mono (by first | decide | omega)) T.m__law_told T.k__law_told T.b__law_told never1
      (pss_cons (ps_if (PW.pt (pw_or (pt_cmpR op_ne (pe_ix ix_tup (pvl 6) pe_int (fun _ _ => rfl)) pe_str (nomark _)) (pw_or1 (pt_not (pt_val (pcall G__law_alike (hr.mono (by first | decide | omega)) T.m__law_alike T.k__law_alike T.b__law_alike never1 (pa_cons (pe_ix ix_tup (pvl 6) pe_int (fun _ _ => rfl)) (pa_cons (pvl 3) pa_nil))))))))
        (pss_one (ps_ret pe_bl))
        pss_nil)
      (pss_cons (ps_for own1 rfl (prange1 T.n_range (pa_cons (pcallB (call_min2 rfl) T.n_min Bt.min (pa_cons pe_int (pa_cons (pcallB call_len_seq T.n_len Bt.len (pa_cons (pvl 5) pa_nil)) pa_nil))) pa_nil)) (pgl 7 nd)
        (pss_cons (ps_asg (pe_ix ix_list (pvl 5) (pe_op op_mod (pe_op op_add (pe_op op_fdiv (pvl 1) pe_int) (pvl 7)) (pcallB call_len_seq T.n_len Bt.len (pa_cons (pvl 5) pa_nil))) (fun _ _ => rfl)) (pg_tup (n := 2) rfl (pgs_cons (pgl 8 nd) (pgs_cons (pgl 9 nd) pgs_nil))))
        (pss_cons (psl 6 nd (pcall G__law_told (hr.mono (by first | decide | omega)) T.m__law_told T.k__law_told T.b__law_told never1 (pa_cons (pe_op op_add_str (pe_op op_add_str (pe_slice sl_str (pvl 4) po_none (po_some (pvl 8))) (pe_slice sl_str (pvl 4) (po_some (pe_op op_add (pvl 8) pe_int)) (po_some (pvl 9)))) (pe_slice sl_str (pvl 4) (po_some (pe_op op_add (pvl 9) pe_int)) po_none)) pa_nil)))
        (pss_one (ps_if (PW.pt (pw_and (pt_cmpR op_ne (pe_ix ix_tup (pvl 6) pe_int (fun _ _ => rfl)) pe_str (nomark _)) (pw_and1 (PW.pt (pw_or (pt_cmpR op_ne (pe_ix ix_tup (pvl 6) pe_int (fun _ _ => rfl)) pe_str (nomark _)) (pw_or1 (pt_val (pcall G__law_alike (hr.mono (by first | decide | omega)) T.m__law_alike T.k__law_alike T.b__law_alike never1 (pa_cons (pe_ix ix_tup (pvl 6) pe_int (fun _ _ => rfl)) (pa_cons (pvl 3) pa_nil))))))))))
          (pss_one (ps_ret pe_bl))
          pss_nil)))))
      (pss_one (ps_ret pe_bl)))) (nomark _))))))))), ?_⟩
  refine ⟨_, rfl, a, cs, 1, rfl, hS, by decide, ?_⟩
  try dsimp (config := { proj := false, iota := false }) only
  generalize cs.getD (1 : Int).toNat 0 = kept
  have m8 := Int.emod_nonneg kept (show (8 : Int) ≠ 0 by decide)
  have m8' := Int.emod_lt_of_pos kept (show (0 : Int) < 8 by decide)
  refine ⟨_, rfl, a, cs, 0, rfl, hS, by decide, _, rfl, _, _, rfl, rfl, (by show (0 : Int) < 8; decide), _, _, rfl, rfl, _, 1 + kept % 8, rfl, by omega, by omega, fun p way H1 _ s1 hp => ?_⟩
  have hnm := namesS_name way (cs.getD (0 : Int).toNat 0 / 3) (1 + kept % 8).toNat
  have hnl : (namesS way (cs.getD (0 : Int).toNat 0 / 3) (1 + kept % 8).toNat).length = (1 + kept % 8).toNat := namesS_len _ _ _
  generalize namesS way (cs.getD (0 : Int).toNat 0 / 3) (1 + kept % 8).toNat = names at hp hnm hnl
  obtain ⟨m, hm, hm1, hm2⟩ : ∃ m : Nat, 2 + kept / 8 % 12 = m ∧ 1 ≤ m ∧ m ≤ 13 := ⟨(2 + kept / 8 % 12).toNat, by omega, by omega, by omega⟩
  refine ⟨_, rfl, _, rfl, _, rfl, _, _, rfl, rfl, ⟨by decide, by decide⟩, _, _, rfl, rfl, (by show (0 : Int) < 12; decide), _, _, rfl, rfl, ?_⟩
  try dsimp (config := { proj := false, iota := false }) only
  rw [hm]
  refine ⟨a, cs, 2, m, rfl, s1.seq hS, hlen, hm1, by omega, fun l ds H2 hl0 s2 hl hdl => ?_⟩
  refine ⟨_, rfl, _, _, rfl, rfl, ⟨by decide, by decide⟩, _, _, rfl, rfl, (by show (0 : Int) < 10; decide), _, _, rfl, rfl, ?_⟩
  refine ⟨p, l, _, names, ds, rfl, s2 _ _ hp, by omega, by omega, SqL.of hl, by omega, by omega, by omega, fun v tr H3 s3 ht _ hsz hn hdep => ?_⟩
  have hdep : tr.depth ≤ 40 := by omega
  have hsz27 : tr.size ≤ 27 := by omega
  have hno : NamesOk tr := fun x hx => isname_of (hnm x (hn x hx))
  have hsh : Short tr := fun x hx => by
    have := (hnm x (hn x hx)).le
    have e : x.length = x.cps.toList.length := Array.length_toList.symm
    omega
  refine ⟨_, rfl, v, tr, rfl, ht, hdep, hsh, by omega, ?_⟩
  refine ⟨_, rfl, _, _, _, _, true, rfl, rfl, .str _, rfl, _, rfl, iteF ?_⟩
  have hlt := len_shown tr hsh
  have hL : (shownF tr).length ≤ sizeLine := lkB (by omega)
  have hbal := bal_shown tr hno 0
  have hcod := codes_shown tr hno
  have hlen2 := @less_read tr hno
  have hN := sp_shownN tr hno
  have hwr := wr_tree (wr_shown tr hno 0 fun o a b _ => by have := op_ge (opSign_op o); omega)
  generalize shownF tr = x at hlt hL hbal hcod hlen2 hN ⊢
  have hxl : x.length = x.cps.toList.length := Array.length_toList.symm
  refine ⟨_, rfl, x, rfl, by omega, hbal, fun q us prs H4 s4 hq hpr hprs hul => ?_⟩
  refine ⟨_, rfl, rfl, _, rfl, ite2 (fun z => absurd (of_decide_eq_true z) (by intro z; cases z)) (fun _ => ?_)⟩
  refine ⟨_, rfl, x, rfl, hL, _, rfl, ?_⟩
  by_cases h200 : (200 : Int) < (x.length : Int)
  · rw [if_pos h200]
    exact k _
  rw [if_neg h200]
  have ht4 := ht.mono s4.tups
  obtain ⟨y, hy⟩ : ∃ y : Str, (⟨(x.cps.toList.filter (· != 32)).toArray⟩ : Str) = y := ⟨_, rfl⟩
  have hyl : y.cps.toList = x.cps.toList.filter (· != 32) := by rw [← hy]
  have hyn : y.length ≤ x.length := by
    have e : y.length = y.cps.toList.length := Array.length_toList.symm
    rw [e, hyl, hxl]
    exact List.length_filter_le _ _
  have hry : readF y = .tree tr := by
    unfold readF
    rw [if_neg (by omega), spells_words (by rw [hyl]; exact hN), hwr]
    show (if 40 < tr.depth then Out.deep else Out.tree tr) = _
    rw [if_neg (by omega)]
  refine ⟨x, rfl, hL, ?_⟩
  rw [hy]
  refine ⟨y, rfl, by omega, fun c hc => hcod c (by rw [hyl] at hc; exact (List.mem_filter.mp hc).1), fun H5 e5 s5 => ?_⟩
  rw [hry]
  intro v5 hv5 he5
  refine ⟨_, rfl, e5, _, 0, _, rfl, rfl, SqT.of he5, rfl, rfl, _, rfl, ite2 (fun z => absurd z (by rw [decide_eq_true rfl]; decide)) (fun _ => ?_)⟩
  refine ⟨_, rfl, e5, _, 1, v5, rfl, rfl, SqT.of he5, rfl, _, rfl, v5, v, true, rfl, .inr (.inr (.inr ⟨tr, tr, hv5, ht4.mono s5.tups, hdep, ⟨fun _ => rfl, fun _ => rfl⟩⟩)), fun H6 s6 => ⟨_, rfl, iteF ?_⟩⟩
  have s46 := s5.trans s6
  have hq6 := s46 _ _ hq
  have hpr6 := Paired.mapP hpr fun _ _ z => PrAt.mono s46.tups z
  have ht6 := ht4.mono s46.tups
  refine ⟨_, rfl, q, us, rfl, .inl (SqL.of hq6), _, _, rfl, ?_⟩
  have eN : (if ((us.length : Nat) : Int) < 6 then ((us.length : Nat) : Int) else 6) = ((min 6 us.length : Nat) : Int) := by
    split <;> omega
  try dsimp (config := { proj := false, iota := false }) only
  rw [eN]
  have hn6 : min 6 us.length ≤ us.length := Nat.min_le_right _ _
  have hn66 : min 6 us.length ≤ 6 := Nat.min_le_left _ _
  generalize min 6 us.length = N at hn6 hn66 ⊢
  refine ⟨_, rfl, by omega, by omega, ?_⟩
  rw [Int.toNat_natCast]
  refine for_range (lo := 0) (n := N) (fun i σ H' => ∃ o6 o7 o8 o9 : Option V, σ = [some (.ref a), some (.int kept), some (.ref p), some v, some (.str x), some (.ref q), o6, o7, o8, o9] ∧ Same H6 H') ⟨_, none, none, none, rfl, Same.refl _⟩ ?_ ?_
  · rintro i σ H7 hi ⟨o6, o7, o8, o9, rfl, s7⟩
    have hq7 := s7 _ _ hq6
    have hup : (0 : Int) < ((us.length : Nat) : Int) := by omega
    obtain ⟨j, hj, hjl⟩ : ∃ j : Nat, (kept / 960 + (0 + (i : Int))) % ((us.length : Nat) : Int) = (j : Int) ∧ j < us.length := by
      have z1 := Int.emod_nonneg (kept / 960 + (0 + (i : Int))) (show ((us.length : Nat) : Int) ≠ 0 by omega)
      have z2 := Int.emod_lt_of_pos (kept / 960 + (0 + (i : Int))) hup
      exact ⟨((kept / 960 + (0 + (i : Int))) % ((us.length : Nat) : Int)).toNat, by omega, by omega⟩
    obtain ⟨pr, hpr', pp, hpp, hppH⟩ := paired_get hpr6 j us[j] (List.getElem?_eq_getElem hjl)
    obtain ⟨lo, hi'⟩ := pr
    obtain ⟨hlh, hlo, hhi⟩ := hprs _ (List.mem_of_getElem? hpr')
    have hlh : lo < hi' := hlh
    have hppH : H6 pp = some (.tup [.int (lo : Int), .int (hi' : Int)]) := hppH
    have hhl : hi' < x.cps.toList.length := (List.getElem?_eq_some_iff.mp hhi).1
    refine ⟨_, rfl, _, rfl, _, _, rfl, rfl, ⟨by decide, by decide⟩, _, rfl, _, _, rfl, rfl, _, rfl, q, us, rfl, .inl (SqL.of hq7), _, _, rfl, rfl, hup, q, us, _, .ref pp, rfl, rfl, SqL.of hq7, (by
      show atI us ((kept / 960 + (0 + (i : Int))) % ((us.length : Nat) : Int)) = _
      rw [hj]
      exact atI_nat (by rw [List.getElem?_eq_getElem hjl, hpp])), ?_⟩
    refine ⟨pp, _, rfl, SqT.of (s7 _ _ hppH), rfl, _, _, rfl, _, _, rfl, rfl, ?_⟩
    have cl : ∀ l' h', (cutS x l' h').length ≤ 200 := fun l' h' => Nat.le_trans (cutS_le x l' h') (by omega)
    refine ⟨_, rfl, _, rfl, _, rfl, x, rfl, hL, _, rfl, _, rfl, _, _, rfl, rfl, _, rfl, _, rfl, _, rfl, x, rfl, hL, _, _, rfl, rfl, lkB (by have := cl none (some (lo : Int)); have := cl (some ((lo : Int) + 1)) (some (hi' : Int)); omega), ?_⟩
    refine ⟨_, rfl, _, rfl, _, _, rfl, rfl, _, rfl, x, rfl, hL, _, _, rfl, rfl, lkB (by rw [Str.length_append]; have := cl none (some (lo : Int)); have := cl (some ((lo : Int) + 1)) (some (hi' : Int)); have := cl (some ((hi' : Int) + 1)) none; omega), ?_⟩
    have ell := less_l hlh hhl
    have esp := less_split hlh hlo hhi
    have hmem : ∀ c ∈ (less x lo hi').cps.toList, c ∈ x.cps.toList := fun c hc => by
      rw [ell] at hc
      rcases List.mem_append.mp hc with hc | hc
      · exact List.mem_of_mem_take hc
      · rcases List.mem_append.mp hc with hc | hc
        · exact List.mem_of_mem_drop (List.mem_of_mem_take hc)
        · exact List.mem_of_mem_drop hc
    have hll : (less x lo hi').length ≤ x.length := by
      have e : (less x lo hi').length = (less x lo hi').cps.toList.length := Array.length_toList.symm
      have e2 := congrArg List.length esp
      rw [e, ell, hxl]
      simp only [List.length_append, List.length_cons] at e2 ⊢
      omega
    refine ⟨less x lo hi', rfl, by omega, fun c hc => hcod c (hmem c hc), fun H8 e8 s8 => ?_⟩
    have hq8 := s8 _ _ hq7
    have ht8 := (ht6.mono s7.tups).mono s8.tups
    have hrd : readF (less x lo hi') = .sentence ∨ ∃ r, readF (less x lo hi') = .tree r ∧ ¬ r = tr := by
      unfold readF
      rw [if_neg (by omega)]
      cases hh : treeF (wordsF (less x lo hi')) with
      | none => exact .inl rfl
      | some r =>
        obtain ⟨hne, hrs⟩ := hlen2 esp ell hh
        have hdr := depth_size r
        refine .inr ⟨r, ?_, hne⟩
        show (if 40 < r.depth then Out.deep else Out.tree r) = _
        rw [if_neg (by omega)]
    rcases hrd with hrd | ⟨r, hrd, hne⟩
    · rw [hrd]
      intro he8
      refine ⟨_, rfl, e8, _, 0, _, rfl, rfl, SqT.of he8, rfl, rfl, _, rfl, ite2 (fun z => absurd z (by rw [decide_eq_true rfl]; decide)) (fun _ => iteF ?_)⟩
      exact ⟨_, _, _, _, rfl, s7.trans s8⟩
    · rw [hrd]
      intro v8 hv8 he8
      refine ⟨_, rfl, e8, _, 0, _, rfl, rfl, SqT.of he8, rfl, rfl, _, rfl, ite2 (fun _ => ?_) (fun z => absurd (by rw [decide_eq_false (fun z => absurd (V.str.inj z) (by decide +kernel))]; rfl) z)⟩
      refine ⟨_, rfl, e8, _, 0, _, rfl, rfl, SqT.of he8, rfl, rfl, _, rfl, ite2 (fun z => absurd z (by rw [decide_eq_true rfl]; decide)) (fun _ => ?_)⟩
      refine ⟨_, rfl, e8, _, 1, v8, rfl, rfl, SqT.of he8, rfl, _, rfl, v8, v, false, rfl, .inr (.inr (.inr ⟨r, tr, hv8, ht8, hdep, ⟨fun z => (nomatch z), fun z => absurd z hne⟩⟩)), fun H9 s9 => ⟨_, rfl, iteF ?_⟩⟩
      exact ⟨_, _, _, _, rfl, (s7.trans s8).trans s9⟩
  · rintro σ H7 ⟨o6, o7, o8, o9, rfl, s7⟩
    exact k _
end
end K09

namespace K09
open PySem L2
theorem txt_mk {P : Program} {w : World} {K : PySem.W.Frag} {h : Heap} {mg : Str → Option Value} (X : K.In h) (G : h.Ns mainGlobals mg)
    {f0 : Addr} {od0 an0 : Option Addr} {sl0 : Array (Option Value)} {oc0 kV0 dc0 pm0 cd0 ct0 : Value}
    {f1 : Addr} {od1 an1 : Option Addr} {sl1 : Array (Option Value)} {oc1 kV1 dc1 pm1 cd1 ct1 : Value}
    {f2 : Addr} {od2 an2 : Option Addr} {sl2 : Array (Option Value)} {oc2 kV2 dc2 pm2 cd2 ct2 : Value}
    {f3 : Addr} {od3 an3 : Option Addr} {sl3 : Array (Option Value)} {oc3 kV3 dc3 pm3 cd3 ct3 : Value}
    {f4 : Addr} {od4 an4 : Option Addr} {sl4 : Array (Option Value)} {oc4 kV4 dc4 pm4 cd4 ct4 : Value}
    {f5 : Addr} {od5 an5 : Option Addr} {sl5 : Array (Option Value)} {oc5 kV5 dc5 pm5 cd5 ct5 : Value}
    {f6 : Addr} {od6 an6 : Option Addr} {sl6 : Array (Option Value)} {oc6 kV6 dc6 pm6 cd6 ct6 : Value}
    {f7 : Addr} {od7 an7 : Option Addr} {sl7 : Array (Option Value)} {oc7 kV7 dc7 pm7 cd7 ct7 : Value}
    {f8 : Addr} {od8 an8 : Option Addr} {sl8 : Array (Option Value)} {oc8 kV8 dc8 pm8 cd8 ct8 : Value}
    {f9 : Addr} {od9 an9 : Option Addr} {sl9 : Array (Option Value)} {oc9 kV9 dc9 pm9 cd9 ct9 : Value}
    {f10 : Addr} {od10 an10 : Option Addr} {sl10 : Array (Option Value)} {oc10 kV10 dc10 pm10 cd10 ct10 : Value}
    {f11 : Addr} {od11 an11 : Option Addr} {sl11 : Array (Option Value)} {oc11 kV11 dc11 pm11 cd11 ct11 : Value}
    {f12 : Addr} {od12 an12 : Option Addr} {sl12 : Array (Option Value)} {oc12 kV12 dc12 pm12 cd12 ct12 : Value}
    {f13 : Addr} {od13 an13 : Option Addr} {sl13 : Array (Option Value)} {oc13 kV13 dc13 pm13 cd13 ct13 : Value}
    {f14 : Addr} {od14 an14 : Option Addr} {sl14 : Array (Option Value)} {oc14 kV14 dc14 pm14 cd14 ct14 : Value}
    {f15 : Addr} {od15 an15 : Option Addr} {sl15 : Array (Option Value)} {oc15 kV15 dc15 pm15 cd15 ct15 : Value}
    {f16 : Addr} {od16 an16 : Option Addr} {sl16 : Array (Option Value)} {oc16 kV16 dc16 pm16 cd16 ct16 : Value}
    {f17 : Addr} {od17 an17 : Option Addr} {sl17 : Array (Option Value)} {oc17 kV17 dc17 pm17 cd17 ct17 : Value}
    {f18 : Addr} {od18 an18 : Option Addr} {sl18 : Array (Option Value)} {oc18 kV18 dc18 pm18 cd18 ct18 : Value}
    {f19 : Addr} {od19 an19 : Option Addr} {sl19 : Array (Option Value)} {oc19 kV19 dc19 pm19 cd19 ct19 : Value}
    {f20 : Addr} {od20 an20 : Option Addr} {sl20 : Array (Option Value)} {oc20 kV20 dc20 pm20 cd20 ct20 : Value}
    {f21 : Addr} {od21 an21 : Option Addr} {sl21 : Array (Option Value)} {oc21 kV21 dc21 pm21 cd21 ct21 : Value}
    {f22 : Addr} {od22 an22 : Option Addr} {sl22 : Array (Option Value)} {oc22 kV22 dc22 pm22 cd22 ct22 : Value}
    {f23 : Addr} {od23 an23 : Option Addr} {sl23 : Array (Option Value)} {oc23 kV23 dc23 pm23 cd23 ct23 : Value}
    {f24 : Addr} {od24 an24 : Option Addr} {sl24 : Array (Option Value)} {oc24 kV24 dc24 pm24 cd24 ct24 : Value}
    {f25 : Addr} {od25 an25 : Option Addr} {sl25 : Array (Option Value)} {oc25 kV25 dc25 pm25 cd25 ct25 : Value}
    {f26 : Addr} {od26 an26 : Option Addr} {sl26 : Array (Option Value)} {oc26 kV26 dc26 pm26 cd26 ct26 : Value}
    {f27 : Addr} {od27 an27 : Option Addr} {sl27 : Array (Option Value)} {oc27 kV27 dc27 pm27 cd27 ct27 : Value}
    {f28 : Addr} {od28 an28 : Option Addr} {sl28 : Array (Option Value)} {oc28 kV28 dc28 pm28 cd28 ct28 : Value}
    {f29 : Addr} {od29 an29 : Option Addr} {sl29 : Array (Option Value)} {oc29 kV29 dc29 pm29 cd29 ct29 : Value}
    {f30 : Addr} {od30 an30 : Option Addr} {sl30 : Array (Option Value)} {oc30 kV30 dc30 pm30 cd30 ct30 : Value}
    {c_MindError : Addr}
    {c_NoSentence : Addr}
    {c_TooDeep : Addr}
    {c_NoName : Addr}
    {c_Always : Addr}
    {c_Never : Addr}
    {c_NoMinds : Addr}
    {c_Unlike : Addr}
    {c_NoBack : Addr}
    {c_NoAgain : Addr}
    {c_Refused : Addr}
    {c_Unfinished : Addr}
    {k_LONGEST_NAME : Tok}
    {k_LONGEST_TEXT : Tok}
    {k_GREATEST_DEPTH : Tok}
    {d_KINDS : Addr}
    {d_BINDS : Addr}
    {d_SIGNS : Addr}
    (n_MindError : PySem.W.nsIn K mainGlobals "MindError" = some (some (.ref c_MindError)))
    (n_NoSentence : PySem.W.nsIn K mainGlobals "NoSentence" = some (some (.ref c_NoSentence)))
    (n_TooDeep : PySem.W.nsIn K mainGlobals "TooDeep" = some (some (.ref c_TooDeep)))
    (n_NoName : PySem.W.nsIn K mainGlobals "NoName" = some (some (.ref c_NoName)))
    (n_Always : PySem.W.nsIn K mainGlobals "Always" = some (some (.ref c_Always)))
    (n_Never : PySem.W.nsIn K mainGlobals "Never" = some (some (.ref c_Never)))
    (n_NoMinds : PySem.W.nsIn K mainGlobals "NoMinds" = some (some (.ref c_NoMinds)))
    (n_Unlike : PySem.W.nsIn K mainGlobals "Unlike" = some (some (.ref c_Unlike)))
    (n_NoBack : PySem.W.nsIn K mainGlobals "NoBack" = some (some (.ref c_NoBack)))
    (n_NoAgain : PySem.W.nsIn K mainGlobals "NoAgain" = some (some (.ref c_NoAgain)))
    (n_Refused : PySem.W.nsIn K mainGlobals "Refused" = some (some (.ref c_Refused)))
    (n_Unfinished : PySem.W.nsIn K mainGlobals "Unfinished" = some (some (.ref c_Unfinished)))
    (a0 : PySem.W.nsIn K mainGlobals "is_letter" = some (some (.ref f0)))
    (l0 : K.lookup f0 = some ⟨oc0, od0, .func (PySem.W.fnOf "is_letter" "is_letter" (defArgs s_is_letter) (defBody s_is_letter) (defScope s_is_letter) .none kV0 dc0 pm0 an0 cd0 ct0), sl0⟩)
    (c0 : PySem.W.codeIn K cd0 "is_letter" = true)
    (k0 : PySem.W.keepIn K (.ref f0) = true)
    (a1 : PySem.W.nsIn K mainGlobals "is_name" = some (some (.ref f1)))
    (l1 : K.lookup f1 = some ⟨oc1, od1, .func (PySem.W.fnOf "is_name" "is_name" (defArgs s_is_name) (defBody s_is_name) (defScope s_is_name) .none kV1 dc1 pm1 an1 cd1 ct1), sl1⟩)
    (c1 : PySem.W.codeIn K cd1 "is_name" = true)
    (k1 : PySem.W.keepIn K (.ref f1) = true)
    (a2 : PySem.W.nsIn K mainGlobals "parts_of" = some (some (.ref f2)))
    (l2 : K.lookup f2 = some ⟨oc2, od2, .func (PySem.W.fnOf "parts_of" "parts_of" (defArgs s_parts_of) (defBody s_parts_of) (defScope s_parts_of) .none kV2 dc2 pm2 an2 cd2 ct2), sl2⟩)
    (c2 : PySem.W.codeIn K cd2 "parts_of" = true)
    (k2 : PySem.W.keepIn K (.ref f2) = true)
    (a3 : PySem.W.nsIn K mainGlobals "layer_below" = some (some (.ref f3)))
    (l3 : K.lookup f3 = some ⟨oc3, od3, .func (PySem.W.fnOf "layer_below" "layer_below" (defArgs s_layer_below) (defBody s_layer_below) (defScope s_layer_below) .none kV3 dc3 pm3 an3 cd3 ct3), sl3⟩)
    (c3 : PySem.W.codeIn K cd3 "layer_below" = true)
    (k3 : PySem.W.keepIn K (.ref f3) = true)
    (a4 : PySem.W.nsIn K mainGlobals "depth" = some (some (.ref f4)))
    (l4 : K.lookup f4 = some ⟨oc4, od4, .func (PySem.W.fnOf "depth" "depth" (defArgs s_depth) (defBody s_depth) (defScope s_depth) .none kV4 dc4 pm4 an4 cd4 ct4), sl4⟩)
    (c4 : PySem.W.codeIn K cd4 "depth" = true)
    (k4 : PySem.W.keepIn K (.ref f4) = true)
    (a5 : PySem.W.nsIn K mainGlobals "words_of" = some (some (.ref f5)))
    (l5 : K.lookup f5 = some ⟨oc5, od5, .func (PySem.W.fnOf "words_of" "words_of" (defArgs s_words_of) (defBody s_words_of) (defScope s_words_of) .none kV5 dc5 pm5 an5 cd5 ct5), sl5⟩)
    (c5 : PySem.W.codeIn K cd5 "words_of" = true)
    (k5 : PySem.W.keepIn K (.ref f5) = true)
    (a6 : PySem.W.nsIn K mainGlobals "leaf" = some (some (.ref f6)))
    (l6 : K.lookup f6 = some ⟨oc6, od6, .func (PySem.W.fnOf "leaf" "leaf" (defArgs s_leaf) (defBody s_leaf) (defScope s_leaf) .none kV6 dc6 pm6 an6 cd6 ct6), sl6⟩)
    (c6 : PySem.W.codeIn K cd6 "leaf" = true)
    (k6 : PySem.W.keepIn K (.ref f6) = true)
    (a7 : PySem.W.nsIn K mainGlobals "takes_part" = some (some (.ref f7)))
    (l7 : K.lookup f7 = some ⟨oc7, od7, .func (PySem.W.fnOf "takes_part" "takes_part" (defArgs s_takes_part) (defBody s_takes_part) (defScope s_takes_part) .none kV7 dc7 pm7 an7 cd7 ct7), sl7⟩)
    (c7 : PySem.W.codeIn K cd7 "takes_part" = true)
    (k7 : PySem.W.keepIn K (.ref f7) = true)
    (a8 : PySem.W.findIn K (.ref c_Unfinished) "__init__" = some (some (.ref f8)))
    (i8 : PySem.W.isFn K (.ref f8) = true)
    (l8 : K.lookup f8 = some ⟨oc8, od8, .func (PySem.W.fnOf "__init__" "Unfinished.__init__" (defArgs s_Unfinished___init__) (defBody s_Unfinished___init__) (defScope s_Unfinished___init__) .none kV8 dc8 pm8 an8 cd8 ct8), sl8⟩)
    (c8 : PySem.W.codeIn K cd8 "Unfinished.__init__" = true)
    (k8 : PySem.W.keepIn K (.ref f8) = true)
    (a9 : PySem.W.findIn K (.ref c_Unfinished) "begin_part" = some (some (.ref f9)))
    (i9 : PySem.W.isFn K (.ref f9) = true)
    (l9 : K.lookup f9 = some ⟨oc9, od9, .func (PySem.W.fnOf "begin_part" "Unfinished.begin_part" (defArgs s_Unfinished_begin_part) (defBody s_Unfinished_begin_part) (defScope s_Unfinished_begin_part) .none kV9 dc9 pm9 an9 cd9 ct9), sl9⟩)
    (c9 : PySem.W.codeIn K cd9 "Unfinished.begin_part" = true)
    (k9 : PySem.W.keepIn K (.ref f9) = true)
    (a10 : PySem.W.findIn K (.ref c_Unfinished) "follow_part" = some (some (.ref f10)))
    (i10 : PySem.W.isFn K (.ref f10) = true)
    (l10 : K.lookup f10 = some ⟨oc10, od10, .func (PySem.W.fnOf "follow_part" "Unfinished.follow_part" (defArgs s_Unfinished_follow_part) (defBody s_Unfinished_follow_part) (defScope s_Unfinished_follow_part) .none kV10 dc10 pm10 an10 cd10 ct10), sl10⟩)
    (c10 : PySem.W.codeIn K cd10 "Unfinished.follow_part" = true)
    (k10 : PySem.W.keepIn K (.ref f10) = true)
    (a11 : PySem.W.findIn K (.ref c_Unfinished) "fold" = some (some (.ref f11)))
    (i11 : PySem.W.isFn K (.ref f11) = true)
    (l11 : K.lookup f11 = some ⟨oc11, od11, .func (PySem.W.fnOf "fold" "Unfinished.fold" (defArgs s_Unfinished_fold) (defBody s_Unfinished_fold) (defScope s_Unfinished_fold) .none kV11 dc11 pm11 an11 cd11 ct11), sl11⟩)
    (c11 : PySem.W.codeIn K cd11 "Unfinished.fold" = true)
    (k11 : PySem.W.keepIn K (.ref f11) = true)
    (a12 : PySem.W.findIn K (.ref c_Unfinished) "fold_to_bracket" = some (some (.ref f12)))
    (i12 : PySem.W.isFn K (.ref f12) = true)
    (l12 : K.lookup f12 = some ⟨oc12, od12, .func (PySem.W.fnOf "fold_to_bracket" "Unfinished.fold_to_bracket" (defArgs s_Unfinished_fold_to_bracket) (defBody s_Unfinished_fold_to_bracket) (defScope s_Unfinished_fold_to_bracket) .none kV12 dc12 pm12 an12 cd12 ct12), sl12⟩)
    (c12 : PySem.W.codeIn K cd12 "Unfinished.fold_to_bracket" = true)
    (k12 : PySem.W.keepIn K (.ref f12) = true)
    (a13 : PySem.W.findIn K (.ref c_Unfinished) "close_bracket" = some (some (.ref f13)))
    (i13 : PySem.W.isFn K (.ref f13) = true)
    (l13 : K.lookup f13 = some ⟨oc13, od13, .func (PySem.W.fnOf "close_bracket" "Unfinished.close_bracket" (defArgs s_Unfinished_close_bracket) (defBody s_Unfinished_close_bracket) (defScope s_Unfinished_close_bracket) .none kV13 dc13 pm13 an13 cd13 ct13), sl13⟩)
    (c13 : PySem.W.codeIn K cd13 "Unfinished.close_bracket" = true)
    (k13 : PySem.W.keepIn K (.ref f13) = true)
    (a14 : PySem.W.findIn K (.ref c_Unfinished) "whole" = some (some (.ref f14)))
    (i14 : PySem.W.isFn K (.ref f14) = true)
    (l14 : K.lookup f14 = some ⟨oc14, od14, .func (PySem.W.fnOf "whole" "Unfinished.whole" (defArgs s_Unfinished_whole) (defBody s_Unfinished_whole) (defScope s_Unfinished_whole) .none kV14 dc14 pm14 an14 cd14 ct14), sl14⟩)
    (c14 : PySem.W.codeIn K cd14 "Unfinished.whole" = true)
    (k14 : PySem.W.keepIn K (.ref f14) = true)
    (a15 : PySem.W.nsIn K mainGlobals "tree_of_words" = some (some (.ref f15)))
    (l15 : K.lookup f15 = some ⟨oc15, od15, .func (PySem.W.fnOf "tree_of_words" "tree_of_words" (defArgs s_tree_of_words) (defBody s_tree_of_words) (defScope s_tree_of_words) .none kV15 dc15 pm15 an15 cd15 ct15), sl15⟩)
    (c15 : PySem.W.codeIn K cd15 "tree_of_words" = true)
    (k15 : PySem.W.keepIn K (.ref f15) = true)
    (a16 : PySem.W.nsIn K mainGlobals "read" = some (some (.ref f16)))
    (l16 : K.lookup f16 = some ⟨oc16, od16, .func (PySem.W.fnOf "read" "read" (defArgs s_read) (defBody s_read) (defScope s_read) .none kV16 dc16 pm16 an16 cd16 ct16), sl16⟩)
    (c16 : PySem.W.codeIn K cd16 "read" = true)
    (k16 : PySem.W.keepIn K (.ref f16) = true)
    (a17 : PySem.W.nsIn K mainGlobals "in_brackets" = some (some (.ref f17)))
    (l17 : K.lookup f17 = some ⟨oc17, od17, .func (PySem.W.fnOf "in_brackets" "in_brackets" (defArgs s_in_brackets) (defBody s_in_brackets) (defScope s_in_brackets) .none kV17 dc17 pm17 an17 cd17 ct17), sl17⟩)
    (c17 : PySem.W.codeIn K cd17 "in_brackets" = true)
    (k17 : PySem.W.keepIn K (.ref f17) = true)
    (a18 : PySem.W.nsIn K mainGlobals "shown_ahead" = some (some (.ref f18)))
    (l18 : K.lookup f18 = some ⟨oc18, od18, .func (PySem.W.fnOf "shown_ahead" "shown_ahead" (defArgs s_shown_ahead) (defBody s_shown_ahead) (defScope s_shown_ahead) .none kV18 dc18 pm18 an18 cd18 ct18), sl18⟩)
    (c18 : PySem.W.codeIn K cd18 "shown_ahead" = true)
    (k18 : PySem.W.keepIn K (.ref f18) = true)
    (a19 : PySem.W.nsIn K mainGlobals "shown_behind" = some (some (.ref f19)))
    (l19 : K.lookup f19 = some ⟨oc19, od19, .func (PySem.W.fnOf "shown_behind" "shown_behind" (defArgs s_shown_behind) (defBody s_shown_behind) (defScope s_shown_behind) .none kV19 dc19 pm19 an19 cd19 ct19), sl19⟩)
    (c19 : PySem.W.codeIn K cd19 "shown_behind" = true)
    (k19 : PySem.W.keepIn K (.ref f19) = true)
    (a20 : PySem.W.nsIn K mainGlobals "shown" = some (some (.ref f20)))
    (l20 : K.lookup f20 = some ⟨oc20, od20, .func (PySem.W.fnOf "shown" "shown" (defArgs s_shown) (defBody s_shown) (defScope s_shown) .none kV20 dc20 pm20 an20 cd20 ct20), sl20⟩)
    (c20 : PySem.W.codeIn K cd20 "shown" = true)
    (k20 : PySem.W.keepIn K (.ref f20) = true)
    (a21 : PySem.W.nsIn K mainGlobals "_law_cell_at" = some (some (.ref f21)))
    (l21 : K.lookup f21 = some ⟨oc21, od21, .func (PySem.W.fnOf "_law_cell_at" "_law_cell_at" (defArgs s__law_cell_at) (defBody s__law_cell_at) (defScope s__law_cell_at) .none kV21 dc21 pm21 an21 cd21 ct21), sl21⟩)
    (c21 : PySem.W.codeIn K cd21 "_law_cell_at" = true)
    (k21 : PySem.W.keepIn K (.ref f21) = true)
    (a22 : PySem.W.nsIn K mainGlobals "_law_names_by" = some (some (.ref f22)))
    (l22 : K.lookup f22 = some ⟨oc22, od22, .func (PySem.W.fnOf "_law_names_by" "_law_names_by" (defArgs s__law_names_by) (defBody s__law_names_by) (defScope s__law_names_by) .none kV22 dc22 pm22 an22 cd22 ct22), sl22⟩)
    (c22 : PySem.W.codeIn K cd22 "_law_names_by" = true)
    (k22 : PySem.W.keepIn K (.ref f22) = true)
    (a23 : PySem.W.nsIn K mainGlobals "_law_leaf" = some (some (.ref f23)))
    (l23 : K.lookup f23 = some ⟨oc23, od23, .func (PySem.W.fnOf "_law_leaf" "_law_leaf" (defArgs s__law_leaf) (defBody s__law_leaf) (defScope s__law_leaf) .none kV23 dc23 pm23 an23 cd23 ct23), sl23⟩)
    (c23 : PySem.W.codeIn K cd23 "_law_leaf" = true)
    (k23 : PySem.W.keepIn K (.ref f23) = true)
    (a24 : PySem.W.nsIn K mainGlobals "_law_grown" = some (some (.ref f24)))
    (l24 : K.lookup f24 = some ⟨oc24, od24, .func (PySem.W.fnOf "_law_grown" "_law_grown" (defArgs s__law_grown) (defBody s__law_grown) (defScope s__law_grown) .none kV24 dc24 pm24 an24 cd24 ct24), sl24⟩)
    (c24 : PySem.W.codeIn K cd24 "_law_grown" = true)
    (k24 : PySem.W.keepIn K (.ref f24) = true)
    (a25 : PySem.W.nsIn K mainGlobals "_law_alike" = some (some (.ref f25)))
    (l25 : K.lookup f25 = some ⟨oc25, od25, .func (PySem.W.fnOf "_law_alike" "_law_alike" (defArgs s__law_alike) (defBody s__law_alike) (defScope s__law_alike) .none kV25 dc25 pm25 an25 cd25 ct25), sl25⟩)
    (c25 : PySem.W.codeIn K cd25 "_law_alike" = true)
    (k25 : PySem.W.keepIn K (.ref f25) = true)
    (a26 : PySem.W.nsIn K mainGlobals "_law_class" = some (some (.ref f26)))
    (l26 : K.lookup f26 = some ⟨oc26, od26, .func (PySem.W.fnOf "_law_class" "_law_class" (defArgs s__law_class) (defBody s__law_class) (defScope s__law_class) .none kV26 dc26 pm26 an26 cd26 ct26), sl26⟩)
    (c26 : PySem.W.codeIn K cd26 "_law_class" = true)
    (k26 : PySem.W.keepIn K (.ref f26) = true)
    (a27 : PySem.W.nsIn K mainGlobals "_law_told" = some (some (.ref f27)))
    (l27 : K.lookup f27 = some ⟨oc27, od27, .func (PySem.W.fnOf "_law_told" "_law_told" (defArgs s__law_told) (defBody s__law_told) (defScope s__law_told) .none kV27 dc27 pm27 an27 cd27 ct27), sl27⟩)
    (c27 : PySem.W.codeIn K cd27 "_law_told" = true)
    (k27 : PySem.W.keepIn K (.ref f27) = true)
    (a28 : PySem.W.nsIn K mainGlobals "_law_folded" = some (some (.ref f28)))
    (l28 : K.lookup f28 = some ⟨oc28, od28, .func (PySem.W.fnOf "_law_folded" "_law_folded" (defArgs s__law_folded) (defBody s__law_folded) (defScope s__law_folded) .none kV28 dc28 pm28 an28 cd28 ct28), sl28⟩)
    (c28 : PySem.W.codeIn K cd28 "_law_folded" = true)
    (k28 : PySem.W.keepIn K (.ref f28) = true)
    (a29 : PySem.W.nsIn K mainGlobals "_law_pairs" = some (some (.ref f29)))
    (l29 : K.lookup f29 = some ⟨oc29, od29, .func (PySem.W.fnOf "_law_pairs" "_law_pairs" (defArgs s__law_pairs) (defBody s__law_pairs) (defScope s__law_pairs) .none kV29 dc29 pm29 an29 cd29 ct29), sl29⟩)
    (c29 : PySem.W.codeIn K cd29 "_law_pairs" = true)
    (k29 : PySem.W.keepIn K (.ref f29) = true)
    (a30 : PySem.W.nsIn K mainGlobals "law" = some (some (.ref f30)))
    (l30 : K.lookup f30 = some ⟨oc30, od30, .func (PySem.W.fnOf "law" "law" (defArgs s_law) (defBody s_law) (defScope s_law) .none kV30 dc30 pm30 an30 cd30 ct30), sl30⟩)
    (c30 : PySem.W.codeIn K cd30 "law" = true)
    (k30 : PySem.W.keepIn K (.ref f30) = true)
    (hn : PySem.W.specialIn K (.builtin "object.__class__") "__get__" = some (some (.builtin "getset_descriptor.__get__")))
    (ht : PySem.W.takesIn K (.builtin "object.__class__") = some true)
    (h_MindError : catches K c_MindError = true)
    (xg_NoSentence : PySem.W.findIn K (.ref c_NoSentence) "__getattribute__" = some (some (.builtin "BaseException.__getattribute__")))
    (xh_NoSentence : PySem.W.findIn K (.ref c_NoSentence) "__getattr__" = some none)
    (xa_NoSentence : PySem.W.findIn K (.ref c_NoSentence) "__class__" = some (some (.builtin "object.__class__")))
    (xm_NoSentence : PySem.W.mroIn K c_NoSentence (.type "object") = some true)
    (xB_NoSentence : PySem.W.mroIn K c_NoSentence (.type "BaseException") = some true)
    (xd_NoSentence : PySem.W.hasDictIn K c_NoSentence = true)
    (u_NoSentence : under K c_NoSentence c_MindError = true)
    (e_NoSentence : PySem.W.excIn K c_NoSentence bmV "ValueError.__new__" = true)
    (o_NoSentence_NoSentence : PySem.W.kitOne K (.ref c_NoSentence) (.ref c_NoSentence) = some true)
    (o_NoSentence_TooDeep : PySem.W.kitOne K (.ref c_NoSentence) (.ref c_TooDeep) = some false)
    (o_NoSentence_NoName : PySem.W.kitOne K (.ref c_NoSentence) (.ref c_NoName) = some false)
    (o_NoSentence_Always : PySem.W.kitOne K (.ref c_NoSentence) (.ref c_Always) = some false)
    (o_NoSentence_Never : PySem.W.kitOne K (.ref c_NoSentence) (.ref c_Never) = some false)
    (o_NoSentence_NoMinds : PySem.W.kitOne K (.ref c_NoSentence) (.ref c_NoMinds) = some false)
    (o_NoSentence_Unlike : PySem.W.kitOne K (.ref c_NoSentence) (.ref c_Unlike) = some false)
    (o_NoSentence_NoBack : PySem.W.kitOne K (.ref c_NoSentence) (.ref c_NoBack) = some false)
    (o_NoSentence_NoAgain : PySem.W.kitOne K (.ref c_NoSentence) (.ref c_NoAgain) = some false)
    (o_NoSentence_Refused : PySem.W.kitOne K (.ref c_NoSentence) (.ref c_Refused) = some false)
    (o_NoSentence_ValueError : PySem.W.kitOne K (.ref c_NoSentence) (.type "ValueError") = some true)
    (xg_TooDeep : PySem.W.findIn K (.ref c_TooDeep) "__getattribute__" = some (some (.builtin "BaseException.__getattribute__")))
    (xh_TooDeep : PySem.W.findIn K (.ref c_TooDeep) "__getattr__" = some none)
    (xa_TooDeep : PySem.W.findIn K (.ref c_TooDeep) "__class__" = some (some (.builtin "object.__class__")))
    (xm_TooDeep : PySem.W.mroIn K c_TooDeep (.type "object") = some true)
    (xB_TooDeep : PySem.W.mroIn K c_TooDeep (.type "BaseException") = some true)
    (xd_TooDeep : PySem.W.hasDictIn K c_TooDeep = true)
    (u_TooDeep : under K c_TooDeep c_MindError = true)
    (e_TooDeep : PySem.W.excIn K c_TooDeep bmV "ValueError.__new__" = true)
    (o_TooDeep_NoSentence : PySem.W.kitOne K (.ref c_TooDeep) (.ref c_NoSentence) = some false)
    (o_TooDeep_TooDeep : PySem.W.kitOne K (.ref c_TooDeep) (.ref c_TooDeep) = some true)
    (o_TooDeep_NoName : PySem.W.kitOne K (.ref c_TooDeep) (.ref c_NoName) = some false)
    (o_TooDeep_Always : PySem.W.kitOne K (.ref c_TooDeep) (.ref c_Always) = some false)
    (o_TooDeep_Never : PySem.W.kitOne K (.ref c_TooDeep) (.ref c_Never) = some false)
    (o_TooDeep_NoMinds : PySem.W.kitOne K (.ref c_TooDeep) (.ref c_NoMinds) = some false)
    (o_TooDeep_Unlike : PySem.W.kitOne K (.ref c_TooDeep) (.ref c_Unlike) = some false)
    (o_TooDeep_NoBack : PySem.W.kitOne K (.ref c_TooDeep) (.ref c_NoBack) = some false)
    (o_TooDeep_NoAgain : PySem.W.kitOne K (.ref c_TooDeep) (.ref c_NoAgain) = some false)
    (o_TooDeep_Refused : PySem.W.kitOne K (.ref c_TooDeep) (.ref c_Refused) = some false)
    (o_TooDeep_ValueError : PySem.W.kitOne K (.ref c_TooDeep) (.type "ValueError") = some true)
    (yg_Unfinished : PySem.W.plainGet K c_Unfinished Str.empty = true)
    (yd_Unfinished : PySem.W.hasDictIn K c_Unfinished = true)
    (yo_Unfinished : PySem.W.plainOver K c_Unfinished = true)
    (ys_Unfinished : PySem.W.findIn K (.ref c_Unfinished) "__setattr__" = some (some (.builtin "object.__setattr__")))
    (ym_Unfinished : PySem.W.makesIn K c_Unfinished = true)
    (yk_Unfinished : PySem.W.keepIn K (.ref c_Unfinished) = true)
    (no_Unfinished_trees : PySem.W.findIn K (.ref c_Unfinished) "trees" = some none)
    (no_Unfinished_signs : PySem.W.findIn K (.ref c_Unfinished) "signs" = some none)
    (n_LONGEST_NAME : PySem.W.nsIn K mainGlobals "LONGEST_NAME" = some (some (.int 8 k_LONGEST_NAME)))
    (n_LONGEST_TEXT : PySem.W.nsIn K mainGlobals "LONGEST_TEXT" = some (some (.int 200 k_LONGEST_TEXT)))
    (n_GREATEST_DEPTH : PySem.W.nsIn K mainGlobals "GREATEST_DEPTH" = some (some (.int 40 k_GREATEST_DEPTH)))
    (n_KINDS : PySem.W.nsIn K mainGlobals "KINDS" = some (some (.ref d_KINDS)))
    (dd_KINDS : MdK P w K d_KINDS [(.inr "&", .str "and"), (.inr "|", .str "or"), (.inr ">", .str "then"), (.inr "=", .str "same")])
    (n_BINDS : PySem.W.nsIn K mainGlobals "BINDS" = some (some (.ref d_BINDS)))
    (dd_BINDS : MdK P w K d_BINDS [(.inr "&", .int 4), (.inr "|", .int 3), (.inr ">", .int 2), (.inr "=", .int 1)])
    (n_SIGNS : PySem.W.nsIn K mainGlobals "SIGNS" = some (some (.ref d_SIGNS)))
    (dd_SIGNS : MdK P w K d_SIGNS [(.inr "and", .str "&"), (.inr "or", .str "|"), (.inr "then", .str ">"), (.inr "same", .str "=")])
    (z_ValueError : PySem.W.nsIn K mainGlobals "ValueError" = some none)
    (z_list : PySem.W.nsIn K mainGlobals "list" = some none)
    (z_tuple : PySem.W.nsIn K mainGlobals "tuple" = some none)
    (z_isinstance : PySem.W.nsIn K mainGlobals "isinstance" = some none)
    (z_str : PySem.W.nsIn K mainGlobals "str" = some none)
    (z_all : PySem.W.nsIn K mainGlobals "all" = some none)
    (z_enumerate : PySem.W.nsIn K mainGlobals "enumerate" = some none)
    (z_range : PySem.W.nsIn K mainGlobals "range" = some none)
    (z_len : PySem.W.nsIn K mainGlobals "len" = some none)
    (z_int : PySem.W.nsIn K mainGlobals "int" = some none)
    (z_min : PySem.W.nsIn K mainGlobals "min" = some none)
    (z_sum : PySem.W.nsIn K mainGlobals "sum" = some none)
    (z_max : PySem.W.nsIn K mainGlobals "max" = some none)
    (z_zip : PySem.W.nsIn K mainGlobals "zip" = some none) : ∃ t : Adr, Txt P w K mg t := by
  have F0 := fun_mk (st := s_is_letter) l0 c0 k0
  have b0 := F0.binds (ps := ["sign"]) fun _ _ _ _ _ _ => L2.us1 fun _ => rfl
  have F1 := fun_mk (st := s_is_name) l1 c1 k1
  have b1 := F1.binds (ps := ["text"]) fun _ _ _ _ _ _ => L2.us1 fun _ => rfl
  have F2 := fun_mk (st := s_parts_of) l2 c2 k2
  have b2 := F2.binds (ps := ["tree"]) fun _ _ _ _ _ _ => L2.us1 fun _ => rfl
  have F3 := fun_mk (st := s_layer_below) l3 c3 k3
  have b3 := F3.binds (ps := ["layer"]) fun _ _ _ _ _ _ => L2.us1 fun _ => rfl
  have F4 := fun_mk (st := s_depth) l4 c4 k4
  have b4 := F4.binds (ps := ["tree"]) fun _ _ _ _ _ _ => L2.us1 fun _ => rfl
  have F5 := fun_mk (st := s_words_of) l5 c5 k5
  have b5 := F5.binds (ps := ["text"]) fun _ _ _ _ _ _ => L2.us1 fun _ => rfl
  have F6 := fun_mk (st := s_leaf) l6 c6 k6
  have b6 := F6.binds (ps := ["word"]) fun _ _ _ _ _ _ => L2.us1 fun _ => rfl
  have F7 := fun_mk (st := s_takes_part) l7 c7 k7
  have b7 := F7.binds (ps := ["earlier", "later"]) fun _ _ _ _ _ _ => L2.us2 fun _ _ => rfl
  have F8 := fun_mk (st := s_Unfinished___init__) l8 c8 k8
  have b8 := F8.binds (ps := ["self"]) fun _ _ _ _ _ _ => L2.us1 fun _ => rfl
  have F9 := fun_mk (st := s_Unfinished_begin_part) l9 c9 k9
  have b9 := F9.binds (ps := ["self", "word"]) fun _ _ _ _ _ _ => L2.us2 fun _ _ => rfl
  have F10 := fun_mk (st := s_Unfinished_follow_part) l10 c10 k10
  have b10 := F10.binds (ps := ["self", "word"]) fun _ _ _ _ _ _ => L2.us2 fun _ _ => rfl
  have F11 := fun_mk (st := s_Unfinished_fold) l11 c11 k11
  have b11 := F11.binds (ps := ["self"]) fun _ _ _ _ _ _ => L2.us1 fun _ => rfl
  have F12 := fun_mk (st := s_Unfinished_fold_to_bracket) l12 c12 k12
  have b12 := F12.binds (ps := ["self"]) fun _ _ _ _ _ _ => L2.us1 fun _ => rfl
  have F13 := fun_mk (st := s_Unfinished_close_bracket) l13 c13 k13
  have b13 := F13.binds (ps := ["self"]) fun _ _ _ _ _ _ => L2.us1 fun _ => rfl
  have F14 := fun_mk (st := s_Unfinished_whole) l14 c14 k14
  have b14 := F14.binds (ps := ["self"]) fun _ _ _ _ _ _ => L2.us1 fun _ => rfl
  have F15 := fun_mk (st := s_tree_of_words) l15 c15 k15
  have b15 := F15.binds (ps := ["words"]) fun _ _ _ _ _ _ => L2.us1 fun _ => rfl
  have F16 := fun_mk (st := s_read) l16 c16 k16
  have b16 := F16.binds (ps := ["text"]) fun _ _ _ _ _ _ => L2.us1 fun _ => rfl
  have F17 := fun_mk (st := s_in_brackets) l17 c17 k17
  have b17 := F17.binds (ps := ["text", "needed"]) fun _ _ _ _ _ _ => L2.us2 fun _ _ => rfl
  have F18 := fun_mk (st := s_shown_ahead) l18 c18 k18
  have b18 := F18.binds (ps := ["tree", "sign"]) fun _ _ _ _ _ _ => L2.us2 fun _ _ => rfl
  have F19 := fun_mk (st := s_shown_behind) l19 c19 k19
  have b19 := F19.binds (ps := ["sign", "tree"]) fun _ _ _ _ _ _ => L2.us2 fun _ _ => rfl
  have F20 := fun_mk (st := s_shown) l20 c20 k20
  have b20 := F20.binds (ps := ["tree"]) fun _ _ _ _ _ _ => L2.us1 fun _ => rfl
  have F21 := fun_mk (st := s__law_cell_at) l21 c21 k21
  have b21 := F21.binds (ps := ["_law_script", "_law_k"]) fun _ _ _ _ _ _ => L2.us2 fun _ _ => rfl
  have F22 := fun_mk (st := s__law_names_by) l22 c22 k22
  have b22 := F22.binds (ps := ["_law_cell", "_law_many"]) fun _ _ _ _ _ _ => L2.us2 fun _ _ => rfl
  have F23 := fun_mk (st := s__law_leaf) l23 c23 k23
  have b23 := F23.binds (ps := ["_law_names", "_law_cell"]) fun _ _ _ _ _ _ => L2.us2 fun _ _ => rfl
  have F24 := fun_mk (st := s__law_grown) l24 c24 k24
  have b24 := F24.binds (ps := ["_law_names", "_law_cells", "_law_most"]) fun _ _ _ _ _ _ => L2.us3 fun _ _ _ => rfl
  have F25 := fun_mk (st := s__law_alike) l25 c25 k25
  have b25 := F25.binds (ps := ["_law_found", "_law_due"]) fun _ _ _ _ _ _ => L2.us2 fun _ _ => rfl
  have F26 := fun_mk (st := s__law_class) l26 c26 k26
  have b26 := F26.binds (ps := ["_law_caught"]) fun _ _ _ _ _ _ => L2.us1 fun _ => rfl
  have F27 := fun_mk (st := s__law_told) l27 c27 k27
  have b27 := F27.binds (ps := ["_law_text"]) fun _ _ _ _ _ _ => L2.us1 fun _ => rfl
  have F28 := fun_mk (st := s__law_folded) l28 c28 k28
  have b28 := F28.binds (ps := ["_law_script", "_law_start", "_law_many"]) fun _ _ _ _ _ _ => L2.us3 fun _ _ _ => rfl
  have F29 := fun_mk (st := s__law_pairs) l29 c29 k29
  have b29 := F29.binds (ps := ["_law_text"]) fun _ _ _ _ _ _ => L2.us1 fun _ => rfl
  have F30 := fun_mk (st := s_law) l30 c30 k30
  have b30 := F30.binds (ps := ["_law_script"]) fun _ _ _ _ _ _ => L2.us1 fun _ => rfl
  exact ⟨⟨f0, PySem.W.fnOf "is_letter" "is_letter" (defArgs s_is_letter) (defBody s_is_letter) (defScope s_is_letter) .none kV0 dc0 pm0 an0 cd0 ct0, f1, PySem.W.fnOf "is_name" "is_name" (defArgs s_is_name) (defBody s_is_name) (defScope s_is_name) .none kV1 dc1 pm1 an1 cd1 ct1, f2, PySem.W.fnOf "parts_of" "parts_of" (defArgs s_parts_of) (defBody s_parts_of) (defScope s_parts_of) .none kV2 dc2 pm2 an2 cd2 ct2, f3, PySem.W.fnOf "layer_below" "layer_below" (defArgs s_layer_below) (defBody s_layer_below) (defScope s_layer_below) .none kV3 dc3 pm3 an3 cd3 ct3, f4, PySem.W.fnOf "depth" "depth" (defArgs s_depth) (defBody s_depth) (defScope s_depth) .none kV4 dc4 pm4 an4 cd4 ct4, f5, PySem.W.fnOf "words_of" "words_of" (defArgs s_words_of) (defBody s_words_of) (defScope s_words_of) .none kV5 dc5 pm5 an5 cd5 ct5, f6, PySem.W.fnOf "leaf" "leaf" (defArgs s_leaf) (defBody s_leaf) (defScope s_leaf) .none kV6 dc6 pm6 an6 cd6 ct6, f7, PySem.W.fnOf "takes_part" "takes_part" (defArgs s_takes_part) (defBody s_takes_part) (defScope s_takes_part) .none kV7 dc7 pm7 an7 cd7 ct7, f8, PySem.W.fnOf "__init__" "Unfinished.__init__" (defArgs s_Unfinished___init__) (defBody s_Unfinished___init__) (defScope s_Unfinished___init__) .none kV8 dc8 pm8 an8 cd8 ct8, f9, PySem.W.fnOf "begin_part" "Unfinished.begin_part" (defArgs s_Unfinished_begin_part) (defBody s_Unfinished_begin_part) (defScope s_Unfinished_begin_part) .none kV9 dc9 pm9 an9 cd9 ct9, f10, PySem.W.fnOf "follow_part" "Unfinished.follow_part" (defArgs s_Unfinished_follow_part) (defBody s_Unfinished_follow_part) (defScope s_Unfinished_follow_part) .none kV10 dc10 pm10 an10 cd10 ct10, f11, PySem.W.fnOf "fold" "Unfinished.fold" (defArgs s_Unfinished_fold) (defBody s_Unfinished_fold) (defScope s_Unfinished_fold) .none kV11 dc11 pm11 an11 cd11 ct11, f12, PySem.W.fnOf "fold_to_bracket" "Unfinished.fold_to_bracket" (defArgs s_Unfinished_fold_to_bracket) (defBody s_Unfinished_fold_to_bracket) (defScope s_Unfinished_fold_to_bracket) .none kV12 dc12 pm12 an12 cd12 ct12, f13, PySem.W.fnOf "close_bracket" "Unfinished.close_bracket" (defArgs s_Unfinished_close_bracket) (defBody s_Unfinished_close_bracket) (defScope s_Unfinished_close_bracket) .none kV13 dc13 pm13 an13 cd13 ct13, f14, PySem.W.fnOf "whole" "Unfinished.whole" (defArgs s_Unfinished_whole) (defBody s_Unfinished_whole) (defScope s_Unfinished_whole) .none kV14 dc14 pm14 an14 cd14 ct14, f15, PySem.W.fnOf "tree_of_words" "tree_of_words" (defArgs s_tree_of_words) (defBody s_tree_of_words) (defScope s_tree_of_words) .none kV15 dc15 pm15 an15 cd15 ct15, f16, PySem.W.fnOf "read" "read" (defArgs s_read) (defBody s_read) (defScope s_read) .none kV16 dc16 pm16 an16 cd16 ct16, f17, PySem.W.fnOf "in_brackets" "in_brackets" (defArgs s_in_brackets) (defBody s_in_brackets) (defScope s_in_brackets) .none kV17 dc17 pm17 an17 cd17 ct17, f18, PySem.W.fnOf "shown_ahead" "shown_ahead" (defArgs s_shown_ahead) (defBody s_shown_ahead) (defScope s_shown_ahead) .none kV18 dc18 pm18 an18 cd18 ct18, f19, PySem.W.fnOf "shown_behind" "shown_behind" (defArgs s_shown_behind) (defBody s_shown_behind) (defScope s_shown_behind) .none kV19 dc19 pm19 an19 cd19 ct19, f20, PySem.W.fnOf "shown" "shown" (defArgs s_shown) (defBody s_shown) (defScope s_shown) .none kV20 dc20 pm20 an20 cd20 ct20, f21, PySem.W.fnOf "_law_cell_at" "_law_cell_at" (defArgs s__law_cell_at) (defBody s__law_cell_at) (defScope s__law_cell_at) .none kV21 dc21 pm21 an21 cd21 ct21, f22, PySem.W.fnOf "_law_names_by" "_law_names_by" (defArgs s__law_names_by) (defBody s__law_names_by) (defScope s__law_names_by) .none kV22 dc22 pm22 an22 cd22 ct22, f23, PySem.W.fnOf "_law_leaf" "_law_leaf" (defArgs s__law_leaf) (defBody s__law_leaf) (defScope s__law_leaf) .none kV23 dc23 pm23 an23 cd23 ct23, f24, PySem.W.fnOf "_law_grown" "_law_grown" (defArgs s__law_grown) (defBody s__law_grown) (defScope s__law_grown) .none kV24 dc24 pm24 an24 cd24 ct24, f25, PySem.W.fnOf "_law_alike" "_law_alike" (defArgs s__law_alike) (defBody s__law_alike) (defScope s__law_alike) .none kV25 dc25 pm25 an25 cd25 ct25, f26, PySem.W.fnOf "_law_class" "_law_class" (defArgs s__law_class) (defBody s__law_class) (defScope s__law_class) .none kV26 dc26 pm26 an26 cd26 ct26, f27, PySem.W.fnOf "_law_told" "_law_told" (defArgs s__law_told) (defBody s__law_told) (defScope s__law_told) .none kV27 dc27 pm27 an27 cd27 ct27, f28, PySem.W.fnOf "_law_folded" "_law_folded" (defArgs s__law_folded) (defBody s__law_folded) (defScope s__law_folded) .none kV28 dc28 pm28 an28 cd28 ct28, f29, PySem.W.fnOf "_law_pairs" "_law_pairs" (defArgs s__law_pairs) (defBody s__law_pairs) (defScope s__law_pairs) .none kV29 dc29 pm29 an29 cd29 ct29, f30, PySem.W.fnOf "law" "law" (defArgs s_law) (defBody s_law) (defScope s_law) .none kV30 dc30 pm30 an30 cd30 ct30, c_MindError, c_NoSentence, c_TooDeep, c_NoName, c_Always, c_Never, c_NoMinds, c_Unlike, c_NoBack, c_NoAgain, c_Refused, c_Unfinished, k_LONGEST_NAME, k_LONGEST_TEXT, k_GREATEST_DEPTH, d_KINDS, d_BINDS, d_SIGNS⟩, ⟨F0, b0, PySem.W.mg_of X G a0, k0, F1, b1, PySem.W.mg_of X G a1, k1, F2, b2, PySem.W.mg_of X G a2, k2, F3, b3, PySem.W.mg_of X G a3, k3, F4, b4, PySem.W.mg_of X G a4, k4, F5, b5, PySem.W.mg_of X G a5, k5, F6, b6, PySem.W.mg_of X G a6, k6, F7, b7, PySem.W.mg_of X G a7, k7, F8, b8, ⟨a8, i8, k8⟩, F9, b9, ⟨a9, i9, k9⟩, F10, b10, ⟨a10, i10, k10⟩, F11, b11, ⟨a11, i11, k11⟩, F12, b12, ⟨a12, i12, k12⟩, F13, b13, ⟨a13, i13, k13⟩, F14, b14, ⟨a14, i14, k14⟩, F15, b15, PySem.W.mg_of X G a15, k15, F16, b16, PySem.W.mg_of X G a16, k16, F17, b17, PySem.W.mg_of X G a17, k17, F18, b18, PySem.W.mg_of X G a18, k18, F19, b19, PySem.W.mg_of X G a19, k19, F20, b20, PySem.W.mg_of X G a20, k20, F21, b21, PySem.W.mg_of X G a21, k21, F22, b22, PySem.W.mg_of X G a22, k22, F23, b23, PySem.W.mg_of X G a23, k23, F24, b24, PySem.W.mg_of X G a24, k24, F25, b25, PySem.W.mg_of X G a25, k25, F26, b26, PySem.W.mg_of X G a26, k26, F27, b27, PySem.W.mg_of X G a27, k27, F28, b28, PySem.W.mg_of X G a28, k28, F29, b29, PySem.W.mg_of X G a29, k29, F30, b30, PySem.W.mg_of X G a30, k30, PySem.W.mg_of X G n_MindError, h_MindError, PySem.W.mg_of X G n_NoSentence, ⟨xg_NoSentence, xh_NoSentence, xa_NoSentence, hn, ht, xm_NoSentence, xB_NoSentence, xd_NoSentence⟩, u_NoSentence, e_NoSentence, o_NoSentence_NoSentence, o_NoSentence_TooDeep, o_NoSentence_NoName, o_NoSentence_Always, o_NoSentence_Never, o_NoSentence_NoMinds, o_NoSentence_Unlike, o_NoSentence_NoBack, o_NoSentence_NoAgain, o_NoSentence_Refused, o_NoSentence_ValueError, PySem.W.mg_of X G n_TooDeep, ⟨xg_TooDeep, xh_TooDeep, xa_TooDeep, hn, ht, xm_TooDeep, xB_TooDeep, xd_TooDeep⟩, u_TooDeep, e_TooDeep, o_TooDeep_NoSentence, o_TooDeep_TooDeep, o_TooDeep_NoName, o_TooDeep_Always, o_TooDeep_Never, o_TooDeep_NoMinds, o_TooDeep_Unlike, o_TooDeep_NoBack, o_TooDeep_NoAgain, o_TooDeep_Refused, o_TooDeep_ValueError, PySem.W.mg_of X G n_NoName, PySem.W.mg_of X G n_Always, PySem.W.mg_of X G n_Never, PySem.W.mg_of X G n_NoMinds, PySem.W.mg_of X G n_Unlike, PySem.W.mg_of X G n_NoBack, PySem.W.mg_of X G n_NoAgain, PySem.W.mg_of X G n_Refused, PySem.W.mg_of X G n_Unfinished, ⟨yg_Unfinished, yd_Unfinished, yo_Unfinished, ys_Unfinished⟩, ⟨ym_Unfinished, a8, i8, yk_Unfinished⟩, no_Unfinished_trees, no_Unfinished_signs, PySem.W.mg_of X G n_LONGEST_NAME, PySem.W.mg_of X G n_LONGEST_TEXT, PySem.W.mg_of X G n_GREATEST_DEPTH, PySem.W.mg_of X G n_KINDS, dd_KINDS, PySem.W.mg_of X G n_BINDS, dd_BINDS, PySem.W.mg_of X G n_SIGNS, dd_SIGNS, PySem.W.mg_none_of X G z_ValueError, PySem.W.mg_none_of X G z_list, PySem.W.mg_none_of X G z_tuple, PySem.W.mg_none_of X G z_isinstance, PySem.W.mg_none_of X G z_str, PySem.W.mg_none_of X G z_all, PySem.W.mg_none_of X G z_enumerate, PySem.W.mg_none_of X G z_range, PySem.W.mg_none_of X G z_len, PySem.W.mg_none_of X G z_int, PySem.W.mg_none_of X G z_min, PySem.W.mg_none_of X G z_sum, PySem.W.mg_none_of X G z_max, PySem.W.mg_none_of X G z_zip, fun s u => .of_eq rfl⟩⟩
end K09
def _root_.PySem.W.Fast.tw121550502335917923 : Unit := ()
def _root_.PySem.W.Fast.tw2619095404832993681 : Unit := ()
def _root_.PySem.W.Fast.tw10505535520772270976 : Unit := ()
def _root_.PySem.W.Fast.tw18092826386070449606 : Unit := ()
def _root_.PySem.W.Fast.tw14285758158571740396 : Unit := ()
def _root_.PySem.W.Fast.tw14970001372646025103 : Unit := ()
def _root_.PySem.W.Fast.tw3434394808021641076 : Unit := ()
def _root_.PySem.W.Fast.tw13854106127645112643 : Unit := ()
def _root_.PySem.W.Fast.tw5233101772164499852 : Unit := ()
def _root_.PySem.W.Fast.tw6353701289089817080 : Unit := ()
def _root_.PySem.W.Fast.tw2287642630008389206 : Unit := ()
def _root_.PySem.W.Fast.tw2499499656781300809 : Unit := ()
def _root_.PySem.W.Fast.tw6241441762212218466 : Unit := ()
def _root_.PySem.W.Fast.tw12322115498666125345 : Unit := ()
def _root_.PySem.W.Fast.tw4533343886895185773 : Unit := ()
def _root_.PySem.W.Fast.tw854985265158879762 : Unit := ()
def _root_.PySem.W.Fast.tw14842826674843501455 : Unit := ()
def _root_.PySem.W.Fast.tw16231695793584229240 : Unit := ()
def _root_.PySem.W.Fast.tw12797745110848691606 : Unit := ()
def _root_.PySem.W.Fast.tw12375805836665902038 : Unit := ()
def _root_.PySem.W.Fast.tw5119952918095976181 : Unit := ()
def _root_.PySem.W.Fast.tw697574936478332216 : Unit := ()
def _root_.PySem.W.Fast.tw13633266915633063399 : Unit := ()
open PySem PySem.W PyProof.Rows
set_option maxRecDepth 100000 in
set_option maxHeartbeats 0 in
theorem PySem.Challenge.cw_mindchange_k09_each_bracket_is_needed_holds : PySem.Challenge.rw_mindchange_k09_each_bracket_is_needed.Holds := by
  w_on; o_law; k_head; (case hw => w_witness2)
  k_fill
  refine L2.walk_ofX (l := PySem.Challenge.rw_mindchange_k09_each_bracket_is_needed) (n := 63) (k := 82) (x := "_law_script") (sp := K09.spLaw) rfl (by decide) rfl ⟨rfl, by decide, by decide⟩ (fun w h Y => PySem.W.kIn_of Y) ?F ?S
  case F =>
    intro w mg fa h KX G hmg
    have T : ∃ t, K09.Txt PySem.Challenge.rw_mindchange_k09_each_bracket_is_needed.prog w (L2.KOf KX) mg t := by
      dsimp only [L2.KOf]
      refine' K09.txt_mk KX G ?n_MindError ?n_NoSentence ?n_TooDeep ?n_NoName ?n_Always ?n_Never ?n_NoMinds ?n_Unlike ?n_NoBack ?n_NoAgain ?n_Refused ?n_Unfinished ?a0 ?l0 ?c0 ?k0 ?a1 ?l1 ?c1 ?k1 ?a2 ?l2 ?c2 ?k2 ?a3 ?l3 ?c3 ?k3 ?a4 ?l4 ?c4 ?k4 ?a5 ?l5 ?c5 ?k5 ?a6 ?l6 ?c6 ?k6 ?a7 ?l7 ?c7 ?k7 ?a8 ?i8 ?l8 ?c8 ?k8 ?a9 ?i9 ?l9 ?c9 ?k9 ?a10 ?i10 ?l10 ?c10 ?k10 ?a11 ?i11 ?l11 ?c11 ?k11 ?a12 ?i12 ?l12 ?c12 ?k12 ?a13 ?i13 ?l13 ?c13 ?k13 ?a14 ?i14 ?l14 ?c14 ?k14 ?a15 ?l15 ?c15 ?k15 ?a16 ?l16 ?c16 ?k16 ?a17 ?l17 ?c17 ?k17 ?a18 ?l18 ?c18 ?k18 ?a19 ?l19 ?c19 ?k19 ?a20 ?l20 ?c20 ?k20 ?a21 ?l21 ?c21 ?k21 ?a22 ?l22 ?c22 ?k22 ?a23 ?l23 ?c23 ?k23 ?a24 ?l24 ?c24 ?k24 ?a25 ?l25 ?c25 ?k25 ?a26 ?l26 ?c26 ?k26 ?a27 ?l27 ?c27 ?k27 ?a28 ?l28 ?c28 ?k28 ?a29 ?l29 ?c29 ?k29 ?a30 ?l30 ?c30 ?k30 ?hn ?ht ?h_MindError ?xg_NoSentence ?xh_NoSentence ?xa_NoSentence ?xm_NoSentence ?xB_NoSentence ?xd_NoSentence ?u_NoSentence ?e_NoSentence ?o_NoSentence_NoSentence ?o_NoSentence_TooDeep ?o_NoSentence_NoName ?o_NoSentence_Always ?o_NoSentence_Never ?o_NoSentence_NoMinds ?o_NoSentence_Unlike ?o_NoSentence_NoBack ?o_NoSentence_NoAgain ?o_NoSentence_Refused ?o_NoSentence_ValueError ?xg_TooDeep ?xh_TooDeep ?xa_TooDeep ?xm_TooDeep ?xB_TooDeep ?xd_TooDeep ?u_TooDeep ?e_TooDeep ?o_TooDeep_NoSentence ?o_TooDeep_TooDeep ?o_TooDeep_NoName ?o_TooDeep_Always ?o_TooDeep_Never ?o_TooDeep_NoMinds ?o_TooDeep_Unlike ?o_TooDeep_NoBack ?o_TooDeep_NoAgain ?o_TooDeep_Refused ?o_TooDeep_ValueError ?yg_Unfinished ?yd_Unfinished ?yo_Unfinished ?ys_Unfinished ?ym_Unfinished ?yk_Unfinished ?no_Unfinished_trees ?no_Unfinished_signs ?n_LONGEST_NAME ?n_LONGEST_TEXT ?n_GREATEST_DEPTH ?n_KINDS ?dd_KINDS ?n_BINDS ?dd_BINDS ?n_SIGNS ?dd_SIGNS ?z_ValueError ?z_list ?z_tuple ?z_isinstance ?z_str ?z_all ?z_enumerate ?z_range ?z_len ?z_int ?z_min ?z_sum ?z_max ?z_zip
      (case n_MindError => k_is)
      (case n_NoSentence => k_is)
      (case n_TooDeep => k_is)
      (case n_NoName => k_is)
      (case n_Always => k_is)
      (case n_Never => k_is)
      (case n_NoMinds => k_is)
      (case n_Unlike => k_is)
      (case n_NoBack => k_is)
      (case n_NoAgain => k_is)
      (case n_Refused => k_is)
      (case n_Unfinished => k_is)
      (case a0 => k_is)
      (case l0 => k_is)
      (case c0 => k_is)
      (case k0 => k_is)
      (case a1 => k_is)
      (case l1 => k_is)
      (case c1 => k_is)
      (case k1 => k_is)
      (case a2 => k_is)
      (case l2 => k_is)
      (case c2 => k_is)
      (case k2 => k_is)
      (case a3 => k_is)
      (case l3 => k_is)
      (case c3 => k_is)
      (case k3 => k_is)
      (case a4 => k_is)
      (case l4 => k_is)
      (case c4 => k_is)
      (case k4 => k_is)
      (case a5 => k_is)
      (case l5 => k_is)
      (case c5 => k_is)
      (case k5 => k_is)
      (case a6 => k_is)
      (case l6 => k_is)
      (case c6 => k_is)
      (case k6 => k_is)
      (case a7 => k_is)
      (case l7 => k_is)
      (case c7 => k_is)
      (case k7 => k_is)
      (case a8 => k_is)
      (case i8 => k_is)
      (case l8 => k_is)
      (case c8 => k_is)
      (case k8 => k_is)
      (case a9 => k_is)
      (case i9 => k_is)
      (case l9 => k_is)
      (case c9 => k_is)
      (case k9 => k_is)
      (case a10 => k_is)
      (case i10 => k_is)
      (case l10 => k_is)
      (case c10 => k_is)
      (case k10 => k_is)
      (case a11 => k_is)
      (case i11 => k_is)
      (case l11 => k_is)
      (case c11 => k_is)
      (case k11 => k_is)
      (case a12 => k_is)
      (case i12 => k_is)
      (case l12 => k_is)
      (case c12 => k_is)
      (case k12 => k_is)
      (case a13 => k_is)
      (case i13 => k_is)
      (case l13 => k_is)
      (case c13 => k_is)
      (case k13 => k_is)
      (case a14 => k_is)
      (case i14 => k_is)
      (case l14 => k_is)
      (case c14 => k_is)
      (case k14 => k_is)
      (case a15 => k_is)
      (case l15 => k_is)
      (case c15 => k_is)
      (case k15 => k_is)
      (case a16 => k_is)
      (case l16 => k_is)
      (case c16 => k_is)
      (case k16 => k_is)
      (case a17 => k_is)
      (case l17 => k_is)
      (case c17 => k_is)
      (case k17 => k_is)
      (case a18 => k_is)
      (case l18 => k_is)
      (case c18 => k_is)
      (case k18 => k_is)
      (case a19 => k_is)
      (case l19 => k_is)
      (case c19 => k_is)
      (case k19 => k_is)
      (case a20 => k_is)
      (case l20 => k_is)
      (case c20 => k_is)
      (case k20 => k_is)
      (case a21 => k_is)
      (case l21 => k_is)
      (case c21 => k_is)
      (case k21 => k_is)
      (case a22 => k_is)
      (case l22 => k_is)
      (case c22 => k_is)
      (case k22 => k_is)
      (case a23 => k_is)
      (case l23 => k_is)
      (case c23 => k_is)
      (case k23 => k_is)
      (case a24 => k_is)
      (case l24 => k_is)
      (case c24 => k_is)
      (case k24 => k_is)
      (case a25 => k_is)
      (case l25 => k_is)
      (case c25 => k_is)
      (case k25 => k_is)
      (case a26 => k_is)
      (case l26 => k_is)
      (case c26 => k_is)
      (case k26 => k_is)
      (case a27 => k_is)
      (case l27 => k_is)
      (case c27 => k_is)
      (case k27 => k_is)
      (case a28 => k_is)
      (case l28 => k_is)
      (case c28 => k_is)
      (case k28 => k_is)
      (case a29 => k_is)
      (case l29 => k_is)
      (case c29 => k_is)
      (case k29 => k_is)
      (case a30 => k_is)
      (case l30 => k_is)
      (case c30 => k_is)
      (case k30 => k_is)
      (case hn => k_is)
      (case ht => k_is)
      (case h_MindError => kernel_rfl)
      (case xg_NoSentence => k_is)
      (case xh_NoSentence => k_is)
      (case xa_NoSentence => k_is)
      (case xm_NoSentence => k_is)
      (case xB_NoSentence => k_is)
      (case xd_NoSentence => k_is)
      (case u_NoSentence => kernel_rfl)
      (case e_NoSentence => k_exc)
      (case o_NoSentence_NoSentence => kernel_rfl)
      (case o_NoSentence_TooDeep => kernel_rfl)
      (case o_NoSentence_NoName => kernel_rfl)
      (case o_NoSentence_Always => kernel_rfl)
      (case o_NoSentence_Never => kernel_rfl)
      (case o_NoSentence_NoMinds => kernel_rfl)
      (case o_NoSentence_Unlike => kernel_rfl)
      (case o_NoSentence_NoBack => kernel_rfl)
      (case o_NoSentence_NoAgain => kernel_rfl)
      (case o_NoSentence_Refused => kernel_rfl)
      (case o_NoSentence_ValueError => kernel_rfl)
      (case xg_TooDeep => k_is)
      (case xh_TooDeep => k_is)
      (case xa_TooDeep => k_is)
      (case xm_TooDeep => k_is)
      (case xB_TooDeep => k_is)
      (case xd_TooDeep => k_is)
      (case u_TooDeep => kernel_rfl)
      (case e_TooDeep => k_exc)
      (case o_TooDeep_NoSentence => kernel_rfl)
      (case o_TooDeep_TooDeep => kernel_rfl)
      (case o_TooDeep_NoName => kernel_rfl)
      (case o_TooDeep_Always => kernel_rfl)
      (case o_TooDeep_Never => kernel_rfl)
      (case o_TooDeep_NoMinds => kernel_rfl)
      (case o_TooDeep_Unlike => kernel_rfl)
      (case o_TooDeep_NoBack => kernel_rfl)
      (case o_TooDeep_NoAgain => kernel_rfl)
      (case o_TooDeep_Refused => kernel_rfl)
      (case o_TooDeep_ValueError => kernel_rfl)
      (case yg_Unfinished => k_is)
      (case yd_Unfinished => k_is)
      (case yo_Unfinished => k_is)
      (case ys_Unfinished => k_is)
      (case ym_Unfinished => k_is)
      (case yk_Unfinished => k_is)
      (case no_Unfinished_trees => k_is)
      (case no_Unfinished_signs => k_is)
      (case n_LONGEST_NAME => k_is)
      (case n_LONGEST_TEXT => k_is)
      (case n_GREATEST_DEPTH => k_is)
      (case n_KINDS => k_is)
      (case dd_KINDS => (refine' L2.mdk_of ?l ?m ?n ?s; (case l => k_is); (case m => (repeat (refine ⟨rfl, ⟨_, rfl⟩, ⟨_, rfl⟩, ?_⟩)); exact True.intro); (case n => decide +kernel); (case s => kernel_rfl)))
      (case n_BINDS => k_is)
      (case dd_BINDS => (refine' L2.mdk_of ?l ?m ?n ?s; (case l => k_is); (case m => (repeat (refine ⟨rfl, ⟨_, rfl⟩, ⟨_, rfl⟩, ?_⟩)); exact True.intro); (case n => decide +kernel); (case s => kernel_rfl)))
      (case n_SIGNS => k_is)
      (case dd_SIGNS => (refine' L2.mdk_of ?l ?m ?n ?s; (case l => k_is); (case m => (repeat (refine ⟨rfl, ⟨_, rfl⟩, ⟨_, rfl⟩, ?_⟩)); exact True.intro); (case n => decide +kernel); (case s => kernel_rfl)))
      (case z_ValueError => k_is)
      (case z_list => k_is)
      (case z_tuple => k_is)
      (case z_isinstance => k_is)
      (case z_str => k_is)
      (case z_all => k_is)
      (case z_enumerate => k_is)
      (case z_range => k_is)
      (case z_len => k_is)
      (case z_int => k_is)
      (case z_min => k_is)
      (case z_sum => k_is)
      (case z_max => k_is)
      (case z_zip => k_is)
    obtain ⟨t, T⟩ := T
    have e0 := hmg.symm.trans T.m_law
    cases e0
    refine' ⟨t.fd_law, ?b, fun base kb nb => K09.ok_law T⟩
    exact T.bl
  case S => exact fun K H a ns hl hO hS => ⟨a, ns, rfl, hS, hl, fun _ => rfl⟩
#print axioms PySem.Challenge.cw_mindchange_k09_each_bracket_is_needed_holds

import PyProof.Rows.All
import Wide.All
import OpenK.AllK
import Wide.FinOn
import Lean
import PyProof.EqAt
import PyProof.EqKinds
import PyProof.TupleCall
import PySem.Challenge.RW_mindchange_k24_sentences_of_a_mind
set_option Elab.async false
set_option linter.all false
set_option maxRecDepth 100000
set_option maxHeartbeats 8000000
-- CHANGE: your row's module here, as the last of these rows
set_option Elab.async false
set_option linter.all false
set_option maxRecDepth 100000
/-! THE HAND LAYER, for ints, bools, texts, own classes, LISTS and tuples (index, slices, in, append, pop ..), calls, loops. Paste it whole ahead of your own text; what your proof does not reach may be deleted. -/
namespace L2
open PySem PySem.Spec PyProof.Rows

/-- a key: an int or a str -/
abbrev Key := Sum Int Str
def keyIs : Key → Value → Bool
  | .inl k, v => Value.isInt k v
  | .inr x, v => Value.isStrOf x v
def keyH (w : World) : Key → Int
  | .inl k => hashInt k
  | .inr x => hashStr w x
theorem keyIs_shape : ∀ {k : Key} {v : Value}, keyIs k v = true → (∃ i t, k = Sum.inl i ∧ v = Value.int i t) ∨ (∃ x t, k = Sum.inr x ∧ v = Value.str x t)
  | .inl i, v, h => by
    obtain ⟨t, e⟩ := Value.isInt_shape (k := i) (v := v) h
    exact .inl ⟨i, t, rfl, e⟩
  | .inr x, v, h => by
    obtain ⟨t, e⟩ := Value.isStrOf_shape (x := x) (v := v) h
    exact .inr ⟨x, t, rfl, e⟩
theorem keyIs_int (i : Int) (t : Tok) : keyIs (.inl i) (.int i t) = true := by simp [keyIs, Value.isInt]
theorem keyIs_str (x : Str) (t : Tok) : keyIs (.inr x) (.str x t) = true := by simp [keyIs, Value.isStrOf]
theorem key_ll (a b : Int) : decide ((Sum.inl a : Key) = Sum.inl b) = (a == b) := by
  by_cases e : a = b
  · subst e; simp
  · have h : ¬ (Sum.inl a : Key) = Sum.inl b := fun q => e (Sum.inl.inj q)
    rw [decide_eq_false h]
    exact (beq_eq_false_iff_ne.mpr e).symm
theorem key_rr (a b : Str) : decide ((Sum.inr a : Key) = Sum.inr b) = decide (a = b) := by
  by_cases e : a = b
  · subst e; simp
  · have h : ¬ (Sum.inr a : Key) = Sum.inr b := fun q => e (Sum.inr.inj q)
    rw [decide_eq_false h, decide_eq_false e]
theorem key_lr (a : Int) (b : Str) : decide ((Sum.inl a : Key) = Sum.inr b) = false := decide_eq_false (fun q => nomatch q)
theorem key_rl (a : Str) (b : Int) : decide ((Sum.inr a : Key) = Sum.inl b) = false := decide_eq_false (fun q => nomatch q)

def mixKind (prog : Program) (w : World) : PySem.KeyKind prog w Key where
  is := keyIs
  hash := keyH w
  inj := fun v a b ha hb => by
    rcases keyIs_shape ha with ⟨i, t, rfl, rfl⟩ | ⟨x, t, rfl, rfl⟩
    · rcases keyIs_shape hb with ⟨j, u, rfl, e⟩ | ⟨y, u, rfl, e⟩
      · injection e with e1 _; rw [e1]
      · exact nomatch e
    · rcases keyIs_shape hb with ⟨j, u, rfl, e⟩ | ⟨y, u, rfl, e⟩
      · exact nomatch e
      · injection e with e1 _; rw [e1]
  byValue := fun k v h => by
    rcases keyIs_shape h with ⟨i, t, rfl, rfl⟩ | ⟨x, t, rfl, rfl⟩ <;> rfl
  pyHash := fun hv h => by
    rcases keyIs_shape hv with ⟨i, t, rfl, rfl⟩ | ⟨x, t, rfl, rfl⟩
    · exact wpAny_pyHash_int h
    · exact wpAny_pyHash_str h
  eqBool := fun hu hv h => by
    rcases keyIs_shape hu with ⟨i, t, rfl, rfl⟩ | ⟨x, t, rfl, rfl⟩
    · rcases keyIs_shape hv with ⟨j, u, rfl, rfl⟩ | ⟨y, u, rfl, rfl⟩
      · rw [key_ll] at h; exact wpAny_eqBool_int h
      · rw [key_lr] at h; exact SeqAt.EqAt.int_str i t y u _ _ _ _ h
    · rcases keyIs_shape hv with ⟨j, u, rfl, rfl⟩ | ⟨y, u, rfl, rfl⟩
      · rw [key_rl] at h; exact SeqAt.EqAt.str_int x t j u _ _ _ _ h
      · rw [key_rr] at h; exact wpAny_eqBool_str h
  «strs» := fun k x t v h => by
    rcases keyIs_shape h with ⟨i, u, rfl, e⟩ | ⟨y, u, rfl, e⟩
    · exact nomatch e
    · injection e with e1 _
      subst e1
      cases v <;> rfl

theorem mixKind_int (prog : Program) (w : World) (i : Int) (t : Tok) : (mixKind prog w).is (.inl i) (.int i t) = true := keyIs_int i t
theorem mixKind_str (prog : Program) (w : World) (x : Str) (t : Tok) : (mixKind prog w).is (.inr x) (.str x t) = true := keyIs_str x t
end L2

namespace L2
open PySem PySem.Spec PyProof.Rows

/-- a value, without the heap -/
inductive V where
  | non | bl (b : Bool) | int (i : Int) | str (x : Str) | byt (b : Array UInt8) | flt (b : UInt64) | ref (a : Addr) | ty (n : String)
  deriving DecidableEq

def RelV : V → Value → Prop
  | .non, u => u = Value.none
  | .bl b, u => u = Value.bool b
  | .int i, u => ∃ t, u = Value.int i t
  | .str x, u => ∃ t, u = Value.str x t
  | .byt b, u => ∃ t, u = Value.bytes b t
  | .flt b, u => ∃ t, u = Value.float b t
  | .ref a, u => u = Value.ref a
  | .ty n, u => u = Value.type n

abbrev Vals : List V → List Value → Prop := Paired RelV
theorem Vals.length {xs : List V} {us : List Value} (r : Vals xs us) : xs.length = us.length := Paired.length r
theorem Vals.get : ∀ {xs : List V} {us : List Value} {i : Nat} {x : V}, Vals xs us → xs[i]? = some x → ∃ u, us[i]? = some u ∧ RelV x u
  | _, _, _, _, .nil, e => by simp at e
  | _, _, 0, _, .cons r _, e => by simp at e; subst e; exact ⟨_, rfl, r⟩
  | _, _, i + 1, x, .cons _ t, e => by
    obtain ⟨u, h1, h2⟩ := Vals.get (i := i) (x := x) t (by simpa using e)
    exact ⟨u, by simpa using h1, h2⟩
theorem Vals.set {x : V} {u : Value} (r : RelV x u) : ∀ {xs : List V} {us : List Value} (i : Nat), Vals xs us → Vals (xs.set i x) (us.set i u)
  | _, _, _, .nil => .nil
  | _, _, 0, .cons _ t => .cons r t
  | _, _, i + 1, .cons q t => .cons q (Vals.set r i t)
theorem Vals.append : ∀ {xs ys : List V} {us ws : List Value}, Vals xs us → Vals ys ws → Vals (xs ++ ys) (us ++ ws)
  | _, _, _, _, .nil, s => s
  | _, _, _, _, .cons r t, s => .cons r (Vals.append t s)
theorem Vals.take : ∀ {xs : List V} {us : List Value} (n : Nat), Vals xs us → Vals (xs.take n) (us.take n)
  | _, _, 0, _ => .nil
  | _, _, _ + 1, .nil => .nil
  | _, _, n + 1, .cons r t => .cons r (Vals.take n t)
theorem Vals.drop : ∀ {xs : List V} {us : List Value} (n : Nat), Vals xs us → Vals (xs.drop n) (us.drop n)
  | _, _, 0, r => r
  | _, _, _ + 1, .nil => .nil
  | _, _, n + 1, .cons _ t => Vals.drop n t
def RelO : Option V → Option Value → Prop
  | some v, some u => RelV v u
  | none, none => True
  | _, _ => False
def KV {κ : Type} : List (κ × V) → List (κ × Value) → Prop := Paired fun (p : κ × V) (q : κ × Value) => p.1 = q.1 ∧ RelV p.2 q.2

/-- a key of a dict (00_mix): an int or a text -/
def kV : Key → V
  | .inl i => .int i
  | .inr x => .str x

/-- what stands at a tracked address -/
inductive HO where
  /-- a list -/
  | lst (xs : List V)
  /-- a tuple (never changes) -/
  | tup (xs : List V)
  /-- a dict whose keys are ints and texts; one whose keys are tuples of ints and texts (the empty one is both) -/
  | dK (kvs : List (Key × V)) | dT (kvs : List (List Key × V))
  /-- a set of ints: its members, its size -/
  | set (S : Int → Bool) (n : Nat)
  /-- an instance of the class at C, its dict at dx, its attributes -/
  | ins (C dx : Addr) (fs : List (Str × V))
  /-- the dict of the instance at x -/
  | own (x : Addr)
  /-- the dict of an exception -/
  | xd (fs : List (Str × V))
  /-- a bound method, f of x -/
  | met (f x : Addr)
  /-- a range object lo, lo + 1, .. below hi -/
  | rng (lo hi : Int)
  /-- a thing that is known to the object (the script; a dict while a loop walks it): read, never written while it is so -/
  | frz (o : Obj) (u : HO)
  /-- a code object's table -/
  | tbl (ps : Array Value)
  /-- any other thing, by what is true of its one object (a def of one's own: SetO a S n := HO.ext fun h => ..) -/
  | ext (φ : Heap → Prop)

abbrev Hp := Addr → Option HO
def upd (H : Hp) (a : Addr) (o : HO) : Hp := fun b => if b = a then some o else H b
theorem upd_same {H : Hp} {a : Addr} {o : HO} : upd H a o a = some o := by unfold upd; rw [if_pos rfl]
theorem upd_ne {H : Hp} {a b : Addr} {o : HO} (h : b ≠ a) : upd H a o b = H b := by unfold upd; rw [if_neg h]
/-- two objects of different content stand apart -/
theorem ne_of {H : Hp} {a b : Addr} {o u : HO} (h : H a = some o) (h' : H b = some u) (d : o ≠ u) : a ≠ b := by
  intro e; subst e; rw [h] at h'; exact d (Option.some.inj h')
theorem ne_of_none {H : Hp} {a b : Addr} {o : HO} (h : H a = some o) (h' : H b = none) : a ≠ b := by
  intro e; subst e; rw [h] at h'; cases h'

/-- a tuple without a dict of its own -/
def IsTupP (h : Heap) (a : Addr) (its : Array Value) : Prop := ∃ o, h.get? a = some o ∧ o.cls = .type "tuple" ∧ ∃ n, (o.data, o.dict) = (Data.seq its n, none)
theorem IsTupP.tup {h : Heap} {a : Addr} {its : Array Value} (x : IsTupP h a its) : IsTup h a its := let ⟨o, e, c, n, d⟩ := x; ⟨o, e, c, n, congrArg Prod.fst d⟩
theorem IsTupP.new (h : Heap) (its : Array Value) : IsTupP (h.push { cls := .type "tuple", data := .seq its }) h.objs.size its := ⟨_, Heap.get?_push_size _ rfl, rfl, _, rfl⟩
section
variable (P : Program) (w : World)
def ObjOk (H : Hp) (h : Heap) (a : Addr) : HO → Prop
  | .lst xs => xs.length ≤ sizeLine ∧ ∃ (its : List Value) (n : Nat), Vals xs its ∧ h.get? a = some { cls := .type "list", data := .seq its.toArray n }
  | .tup xs => xs.length ≤ sizeLine ∧ ∃ its : List Value, Vals xs its ∧ IsTupP h a its.toArray
  | .dK kvs => kvs.length ≤ sizeLine ∧ (a == sysModules) = false ∧ ∃ vs, KV kvs vs ∧ h.DictOf (mixKind P w) a vs
  | .dT kvs => kvs.length ≤ sizeLine ∧ (a == sysModules) = false ∧ ∃ xs : List (List Key × Addr × Value),
      Paired (fun (p : List Key × V) (q : List Key × Addr × Value) => p.1 = q.1 ∧ H q.2.1 = some (.tup (p.1.map kV)) ∧ RelV p.2 q.2.2) kvs xs ∧
      ∃ o es ep, h.get? a = some o ∧ o.ExactDict ∧ o.data = .dict es ep ∧ es.toList = xs.map (entryOfKey (tupleKind (mixKind P w))) ∧ (xs.map (·.1)).Nodup
  | .set S n => h.SetOf (intKind P w) a S n
  | .ins C dx fs => H dx = some (.own a) ∧ fs.length ≤ 1000 ∧ dx ≠ a ∧ h.get? a = some (PySem.W.instObj C dx) ∧
      ∃ mA, h.Ns1 dx mA ∧ (∀ f, RelO (fs.lookup f) (mA f)) ∧ PySem.Within mA (fs.map (·.1))
  | .own _ => ∃ o, h.get? a = some o
  | .xd fs => ∃ mA, h.Ns1 a mA ∧ ∀ f, RelO (fs.lookup f) (mA f)
  | .rng lo hi => ∃ t u v, h.get? a = some { cls := .type "range", data := .fields #[.int lo t, .int hi u, .int 1 v] }
  | .frz o u => h.get? a = some o ∧ ObjOk H h a u
  | .tbl ps => h.get? a = some { cls := .none, data := .fields ps }
  | .met f x => h.get? a = some (PySem.W.methodObj (.ref f) (.ref x))
  | .ext φ => φ h ∧ (∃ o, h.get? a = some o) ∧ ∀ h1 h2 : Heap, φ h1 → (∀ o, h1.get? a = some o → h2.get? a = some o) → φ h2
/-- the abstract heap is held -/
def HOk (H : Hp) (h : Heap) : Prop := ∀ a o, H a = some o → ObjOk P w H h a o
end

section
variable {P : Program} {w : World} {H H' : Hp} {h h' : Heap} {a : Addr} {o : HO}
theorem ObjOk.lt (x : ObjOk P w H h a o) : a < h.objs.size := by
  cases o with
  | lst xs => obtain ⟨_, _, _, _, e⟩ := x; exact Heap.lt_size e
  | tup xs => obtain ⟨_, _, _, p⟩ := x; exact p.tup.lt
  | dK kvs => obtain ⟨_, _, _, _, o, _, _, e, _⟩ := x; exact Heap.lt_size e
  | dT kvs => obtain ⟨_, _, _, _, o, _, _, e, _⟩ := x; exact Heap.lt_size e
  | set S n => obtain ⟨o, _, _, _, e, _⟩ := x; exact Heap.lt_size e
  | ins C dx fs => obtain ⟨_, _, _, e, _⟩ := x; exact Heap.lt_size e
  | own y => obtain ⟨_, e⟩ := x; exact Heap.lt_size e
  | xd fs => obtain ⟨_, ⟨_, _, _, e, _⟩, _⟩ := x; exact Heap.lt_size e
  | rng lo hi => obtain ⟨_, _, _, e⟩ := x; exact Heap.lt_size e
  | frz ob u => obtain ⟨e, _⟩ := x; exact Heap.lt_size e
  | tbl ps => exact Heap.lt_size (show h.get? a = some _ from x)
  | met f y => exact Heap.lt_size (show h.get? a = some _ from x)
  | ext φ => obtain ⟨_, ⟨_, e⟩, _⟩ := x; exact Heap.lt_size e
theorem Paired.mapP {α β : Type} {F G : α → β → Prop} : ∀ {l₁ : List α} {l₂ : List β}, Paired F l₁ l₂ → (∀ a b, F a b → G a b) → Paired G l₁ l₂
  | _, _, .nil, _ => .nil
  | _, _, .cons r t, f => .cons (f _ _ r) (Paired.mapP t f)
/-- what an object's description leans on: its own object, its own dict, the tuples -/
theorem ObjOk.stay (x : ObjOk P w H h a o) (k : ∀ b u, (b = a ∨ H b = some (.own a)) → h.get? b = some u → h'.get? b = some u)
    (ho : ∀ b, H b = some (.own a) → H' b = some (.own a)) (ht : ∀ b xs, H b = some (.tup xs) → H' b = some (.tup xs)) : ObjOk P w H' h' a o := by
  induction o with
  | lst xs => obtain ⟨z, its, n, r, e⟩ := x; exact ⟨z, its, n, r, k _ _ (.inl rfl) e⟩
  | tup xs => obtain ⟨z, its, r, ob, e, c⟩ := x; exact ⟨z, its, r, ob, k _ _ (.inl rfl) e, c⟩
  | dK kvs => obtain ⟨z, y, vs, r, ob, es, ep, e, c⟩ := x; exact ⟨z, y, vs, r, ob, es, ep, k _ _ (.inl rfl) e, c⟩
  | dT kvs =>
    obtain ⟨z, y, xs, r, ob, es, ep, e, c⟩ := x
    exact ⟨z, y, xs, Paired.mapP r fun p q z => ⟨z.1, ht _ _ z.2.1, z.2.2⟩, ob, es, ep, k _ _ (.inl rfl) e, c⟩
  | set S n => obtain ⟨ob, es, ep, t, e, c⟩ := x; exact ⟨ob, es, ep, t, k _ _ (.inl rfl) e, c⟩
  | ins C dx fs =>
    obtain ⟨d, z, ne, e, mA, ⟨od, es, ep, e2, c⟩, r⟩ := x
    exact ⟨ho _ d, z, ne, k _ _ (.inl rfl) e, mA, ⟨od, es, ep, k _ _ (.inr d) e2, c⟩, r⟩
  | own y => obtain ⟨ob, e⟩ := x; exact ⟨ob, k _ _ (.inl rfl) e⟩
  | xd fs => obtain ⟨mA, ⟨od, es, ep, e, c⟩, r⟩ := x; exact ⟨mA, ⟨od, es, ep, k _ _ (.inl rfl) e, c⟩, r⟩
  | rng lo hi => obtain ⟨t, u, v, e⟩ := x; exact ⟨t, u, v, k _ _ (.inl rfl) e⟩
  | frz ob u ih => obtain ⟨e, q⟩ := x; exact ⟨k _ _ (.inl rfl) e, ih q⟩
  | tbl ps =>
    have e : h.get? a = some { cls := .none, data := .fields ps } := x
    show h'.get? a = some { cls := .none, data := .fields ps }
    exact k a _ (.inl rfl) e
  | met f y =>
    have e : h.get? a = some (PySem.W.methodObj (.ref f) (.ref y)) := x
    show h'.get? a = some (PySem.W.methodObj (.ref f) (.ref y))
    exact k a _ (.inl rfl) e
  | ext φ => obtain ⟨p, ⟨o, e⟩, st⟩ := x; exact ⟨st _ _ p fun o q => k _ _ (.inl rfl) q, ⟨o, k _ _ (.inl rfl) e⟩, st⟩
theorem HOk.lt (x : HOk P w H h) (e : H a = some o) : a < h.objs.size := (x a o e).lt
theorem HOk.fresh (x : HOk P w H h) (e : h.objs.size ≤ a) : H a = none := by
  cases q : H a with
  | none => rfl
  | some u => exact absurd (Nat.lt_of_lt_of_le (x.lt q) e) (Nat.lt_irrefl _)
/-- every object of the heap is kept -/
theorem HOk.kept (x : HOk P w H h) (k : ∀ b u, h.get? b = some u → h'.get? b = some u) : HOk P w H h' := fun a o e =>
  (x a o e).stay (fun b u _ q => k b u q) (fun _ q => q) fun _ _ q => q
/-- a new object is laid and tracked -/
theorem HOk.laid (x : HOk P w H h) (k : ∀ b u, h.get? b = some u → h'.get? b = some u) (hp : h.objs.size ≤ a) (new : ObjOk P w (upd H a o) h' a o) : HOk P w (upd H a o) h' := fun b u e => by
  have hn := x.fresh hp
  by_cases hb : b = a
  · subst hb; rw [upd_same] at e; cases e; exact new
  · rw [upd_ne hb] at e
    exact (x b u e).stay (fun c v _ q => k c v q) (fun c q => by rw [upd_ne (ne_of_none q hn)]; exact q) fun c xs q => by rw [upd_ne (ne_of_none q hn)]; exact q
end

/-- what may be read as u: it is u, or a known u -/
def Rd (H : Hp) (a : Addr) (u : HO) : Prop := H a = some u ∨ ∃ o, H a = some (.frz o u)
theorem Rd.of {H : Hp} {a : Addr} {u : HO} (h : H a = some u) : Rd H a u := .inl h
theorem Rd.ok {P : Program} {w : World} {H : Hp} {h : Heap} {a : Addr} {u : HO} (r : Rd H a u) (x : HOk P w H h) : ObjOk P w H h a u := by
  rcases r with r | ⟨o, r⟩
  · exact x a u r
  · obtain ⟨_, q⟩ := x a _ r
    exact q
/-- what may be written -/
def Mut : Option HO → Prop
  | some (.lst _) => True
  | some (.dK _) => True
  | some (.dT _) => True
  | some (.set _ _) => True
  | some (.ins _ _ _) => True
  | some (.ext _) => True
  | _ => False
section
variable {P : Program} {w : World} {H : Hp} {h h' : Heap} {x e : Addr} {o' : HO}
/-- the object at e is changed: x itself, or the dict of the instance x -/
theorem HOk.write (ok : HOk P w H h) (mu : Mut (H x)) (he : e = x ∨ H e = some (.own x)) (k : ∀ b u, b ≠ e → h.get? b = some u → h'.get? b = some u) (heo : ∃ u, h'.get? e = some u)
    (new : ObjOk P w (upd H x o') h' x o') : HOk P w (upd H x o') h' := fun b u q => by
  have nown : ∀ c y, H c = some (.own y) → c ≠ x := fun c y r z => by subst z; rw [r] at mu; exact mu
  have ntup : ∀ c xs, H c = some (.tup xs) → c ≠ x := fun c xs r z => by subst z; rw [r] at mu; exact mu
  by_cases hb : b = x
  · subst hb; rw [upd_same] at q; cases q; exact new
  · rw [upd_ne hb] at q
    by_cases hbe : b = e
    · have q' : H b = some (.own x) := by
        rcases he with z | z
        · exact absurd (hbe.trans z) hb
        · rw [hbe]; exact z
      rw [q] at q'; cases q'
      obtain ⟨v, hv⟩ := heo
      exact ⟨v, by rw [hbe]; exact hv⟩
    · refine (ok b u q).stay (fun c v hc r => k c v ?_ r) (fun c r => by rw [upd_ne (nown c b r)]; exact r) fun c xs r => by rw [upd_ne (ntup c xs r)]; exact r
      rcases hc with rfl | hc
      · exact hbe
      · rintro rfl
        rcases he with z | z
        · exact nown c b hc z
        · rw [hc] at z; cases z; exact hb rfl
end

/-! ### kept unless tracked; of the frames at fs (the callers') the slots may change (an exception that passes writes there); of the records at ex (iterators) nothing is said -/
structure Un (fs ex : List Addr) (H H' : Hp) (h h' : Heap) : Prop where
  keep : ∀ b o, h.get? b = some o → H b = none → b ∉ fs → b ∉ ex → h'.get? b = some o
  slot : ∀ b o, h.get? b = some o → H b = none → b ∈ fs → b ∉ ex → ∃ sl, h'.get? b = some { o with slots := sl }
  free : ∀ b o, h.get? b = some o → H b = none → b ∉ ex → H' b = none
  there : ∀ b o, h.get? b = some o → b ∉ ex → ∃ o', h'.get? b = some o'
  tups : ∀ b xs, H b = some (.tup xs) → H' b = some (.tup xs)
  frzs : ∀ b o u, H b = some (.frz o u) → H' b = some (.frz o u)
  tbls : ∀ b ps, H b = some (.tbl ps) → ∃ more, H' b = some (.tbl (ps ++ more))
section
variable {fs fs' ex ex' : List Addr} {H H1 H2 : Hp} {h h1 h2 h' : Heap} {a x e : Addr} {o : HO}
theorem Un.any (u : Un fs ex H H1 h h1) {b : Addr} {ob : Obj} (q : h.get? b = some ob) (n : H b = none) (hx : b ∉ ex) : ∃ sl, h1.get? b = some { ob with slots := sl } := by
  by_cases hb : b ∈ fs
  · exact u.slot b ob q n hb hx
  · exact ⟨ob.slots, u.keep b ob q n hb hx⟩
theorem Un.trans (a : Un fs ex H H1 h h1) (b : Un fs ex H1 H2 h1 h2) : Un fs ex H H2 h h2 where
  keep := fun c ob q n hc hx => b.keep c ob (a.keep c ob q n hc hx) (a.free c ob q n hx) hc hx
  slot := fun c ob q n hc hx => by
    obtain ⟨sl, e1⟩ := a.slot c ob q n hc hx
    obtain ⟨sl', e2⟩ := b.slot c _ e1 (a.free c ob q n hx) hc hx
    exact ⟨sl', e2⟩
  free := fun c ob q n hx => by
    obtain ⟨o', e1⟩ := a.there c ob q hx
    exact b.free c o' e1 (a.free c ob q n hx) hx
  there := fun c ob q hx => by
    obtain ⟨o', e1⟩ := a.there c ob q hx
    exact b.there c o' e1 hx
  tups := fun c xs q => b.tups c xs (a.tups c xs q)
  frzs := fun c ob xs q => b.frzs c ob xs (a.frzs c ob xs q)
  tbls := fun c ps q => by
    obtain ⟨m1, e1⟩ := a.tbls c ps q
    obtain ⟨m2, e2⟩ := b.tbls c _ e1
    exact ⟨m1 ++ m2, by rw [e2, Array.append_assoc]⟩
theorem Un.kept (k : ∀ b u, h.get? b = some u → h'.get? b = some u) : Un fs ex H H h h' :=
  ⟨fun b ob q _ _ _ => k b ob q, fun b ob q _ _ _ => ⟨ob.slots, k b ob q⟩, fun _ _ _ n _ => n, fun b ob q _ => ⟨ob, k b ob q⟩, fun _ _ q => q, fun _ _ _ q => q, fun _ ps q => ⟨#[], by rw [q]; simp⟩⟩
theorem Un.refl : Un fs ex H H h h := Un.kept fun _ _ q => q
theorem Un.laid (k : ∀ b u, h.get? b = some u → h'.get? b = some u) (hp : h.objs.size ≤ a) (hn : H a = none) : Un fs ex H (upd H a o) h h' where
  keep := fun b u q _ _ _ => k b u q
  slot := fun b u q _ _ _ => ⟨u.slots, k b u q⟩
  free := fun b u q n _ => by rw [upd_ne (Nat.ne_of_lt (Nat.lt_of_lt_of_le (Heap.lt_size q) hp))]; exact n
  there := fun b u q _ => ⟨u, k b u q⟩
  tups := fun b xs q => by rw [upd_ne (ne_of_none q hn)]; exact q
  frzs := fun b u xs q => by rw [upd_ne (ne_of_none q hn)]; exact q
  tbls := fun b ps q => ⟨#[], by rw [upd_ne (ne_of_none q hn), q]; simp⟩
theorem Un.write (mu : Mut (H x)) (he : e = x ∨ H e = some (.own x)) (k : ∀ b u, b ≠ e → h.get? b = some u → h'.get? b = some u) (heo : ∃ u, h'.get? e = some u) : Un fs ex H (upd H x o) h h' := by
  have hx : ∀ b, H b = none → b ≠ x := fun b n z => by subst z; rw [n] at mu; exact mu
  have hb : ∀ b, H b = none → b ≠ e := fun b n z => by
    subst z
    rcases he with r | r
    · exact hx b n r
    · rw [n] at r; cases r
  have hm : ∀ b u, H b = some u → ¬ Mut (some u) → b ≠ x := fun b u q nm z => by subst z; rw [q] at mu; exact nm mu
  refine ⟨fun b u q n _ _ => k b u (hb b n) q, fun b u q n _ _ => ⟨u.slots, k b u (hb b n) q⟩, fun b u q n _ => by rw [upd_ne (hx b n)]; exact n, fun b u q _ => ?_,
    fun b xs q => by rw [upd_ne (hm b _ q fun z => z)]; exact q, fun b u xs q => by rw [upd_ne (hm b _ q fun z => z)]; exact q, fun b ps q => ⟨#[], by rw [upd_ne (hm b _ q fun z => z), q]; simp⟩⟩
  by_cases hbe : b = e
  · subst hbe; exact heo
  · exact ⟨u, k b u hbe q⟩
theorem Un.mono (u : Un fs ex H H1 h h1) (hs : ∀ b ∈ fs, b ∈ fs') (hx : ∀ b ∈ ex, b ∈ ex') : Un fs' ex' H H1 h h1 :=
  ⟨fun b ob q n hb he => u.keep b ob q n (fun z => hb (hs b z)) fun z => he (hx b z), fun _ _ q n _ he => u.any q n fun z => he (hx _ z), fun b ob q n he => u.free b ob q n fun z => he (hx b z), fun b ob q he => u.there b ob q fun z => he (hx b z), u.tups, u.frzs, u.tbls⟩
end

/-! ### the heap without what is tracked -/
def trk (h : Heap) (H : Hp) : List Addr := (List.range h.objs.size).filter fun a => (H a).isSome
def hidT (h : Heap) (H : Hp) : Heap := PySem.W.hideAll h (trk h H)
theorem hidT_size (h : Heap) (H : Hp) : (hidT h H).objs.size = h.objs.size := PySem.W.hideAll_size _ _
theorem hidT_get {h : Heap} {H : Hp} {b : Addr} {o : Obj} (e : h.get? b = some o) (n : H b = none) : (hidT h H).get? b = some o :=
  PySem.W.hideAll_get _ e fun hm => by
    have q : (H b).isSome = true := (List.mem_filter.mp hm).2
    rw [n] at q; simp at q
theorem of_hidT {h : Heap} {H : Hp} {b : Addr} {o : Obj} (e : (hidT h H).get? b = some o) : h.get? b = some o ∧ H b = none := by
  have e' : h.get? b = some o := PySem.W.of_hideAll (trk h H) e
  refine ⟨e', ?_⟩
  cases q : H b with
  | none => rfl
  | some x =>
    have hm : b ∈ trk h H := List.mem_filter.mpr ⟨List.mem_range.mpr (Heap.lt_size e'), by simp [q]⟩
    have z : (hidT h H).get? b = none := PySem.W.hideAll_none (trk h H) hm
    rw [z] at e; cases e

/-! ### OpenK's ledger, filled with every new object but one -/
def allNews (g h : Heap) (L : Addr) : List (Addr × Obj) := (List.range h.objs.size).filterMap fun a => if a = L ∨ (g.get? a).isSome = true then none else (h.get? a).map fun o => (a, o)
def rest (g h : Heap) (L d : Addr) : List (Addr × Obj) := (allNews g h L).filter fun p => decide (p.1 ≠ d)
end L2

namespace L2
open PySem PySem.Spec PyProof.Rows

/-- the module's facts, over the base: the heap at the law's entry without what is tracked there -/
structure Mod (K : PySem.W.Frag) (mg : Str → Option Value) (base : Heap) : Prop where
  kin : K.In base
  glob : base.Ns mainGlobals mg
  blt : ∃ mb, base.Ns builtinsNs mb ∧ ∀ x : Str, x ≠ "__name__" → mb x = bootBuiltins x
  nolimit : base.NoLimit

/-- the context: a def's body (or a comprehension's block) running. base: fixed through the whole law; s₀, H₀: the entry; outer: the frames whose slots others may change (a def's callers); stack: all frames that run;
   ex: iterators that were made ahead of the entry and are walked here (a comprehension's); fn: the names whose cells were made at the entry (a def: all; a comprehension's block: its own); calm: not within an except suite; pn: pins that every state bears; xe: what is wanted of an exception that leaves the code -/
structure Cx where
  prog : Program
  w : World
  K : PySem.W.Frag
  mg : Str → Option Value
  base : Heap
  A : Around
  N : List Str
  s₀ : Shared
  H₀ : Hp
  env : Env
  outer : List Env
  stack : List Env
  ex : List Addr
  fn : Str → Bool
  calm : Bool
  pn : List (Addr × Obj)
  xe : Value → Shared → Prop
/-- the callers' frames -/
def frs (l : List Env) : List Addr := l.filterMap (·.frame)
abbrev Cx.fs (X : Cx) : List Addr := frs X.outer

def Vis (sc : Scope) (x : Str) : Prop := sc.names.lookup x = some .local ∨ sc.names.lookup x = some .cell ∨ sc.names.lookup x = some .free
def Loc (sc : Scope) (x : Str) : Prop := sc.names.lookup x = some .local ∨ sc.names.lookup x = some .cell
def Look (env : Env) (h : Heap) (m : Str → Option Value) (x : Str) (u : Value) : Prop :=
  (env.kindOf x = some .local ∧ m x = some u) ∨ ((env.kindOf x = some .cell ∨ env.kindOf x = some .free) ∧ ∃ c, env.cells.lookup x = some c ∧ h.IsCell c (some u))

structure Cx.Ok (X : Cx) : Prop where
  mod : Mod X.K X.mg X.base
  kind : X.env.scope.kind = .function
  glob : X.env.globals = mainGlobals
  blt : X.env.builtins = builtinsNs
  above : X.s₀.heap.objs.size ≤ X.env.locals
  inj : ∀ x y c, X.env.cells.lookup x = some c → X.env.cells.lookup y = some c → x = y
  has : ∀ x, (X.env.kindOf x = some .cell ∨ X.env.kindOf x = some .free) → ∃ c, X.env.cells.lookup x = some c
  cab : ∀ x c, X.fn x = true → X.env.cells.lookup x = some c → X.s₀.heap.objs.size ≤ c
  hd : X.calm = true → X.A.handled = none
  frames : X.A.frames = some X.stack
  stk : X.stack = X.outer ∨ (X.stack = X.env :: X.outer ∧ X.env.frame = some X.env.locals)
  exf : ∀ b ∈ X.ex, b ≠ X.env.locals ∧ ∀ x c, X.env.cells.lookup x = some c → c ≠ b
  bs : ∀ b o, X.base.get? b = some o → X.s₀.heap.get? b = some o ∧ X.H₀ b = none
  bsz : X.base.objs.size ≤ X.s₀.heap.objs.size
  noex : ∀ b o, X.base.get? b = some o → b ∉ X.ex
  exfs : ∀ b ∈ X.ex, b ∉ X.fs
  funs : X.s₀.heap.FunFrames X.base X.outer
  frf : ∀ b ∈ X.fs, X.H₀ b = none

structure Inv (X : Cx) (pins : List (Addr × Obj)) (σ : List (Option V)) (H : Hp) (s : Shared) : Prop where
  ok : X.Ok
  os : s.os = X.s₀.os
  bare : AllBare s.gens
  base : Un X.fs X.ex X.H₀ H X.s₀.heap s.heap
  loc : ∃ m, s.heap.Ns X.env.locals m ∧ ∀ (i : Nat) (x : Str) (v : V), X.N[i]? = some x → σ[i]? = some (some v) → Vis X.env.scope x → ∃ u, RelV v u ∧ Look X.env s.heap m x u
  cell : ∀ x c, X.env.cells.lookup x = some c → ∃ v, s.heap.IsCell c v
  free : H X.env.locals = none
  freeC : ∀ x c, X.env.cells.lookup x = some c → H c = none
  pin : ∀ p ∈ X.pn ++ pins, s.heap.get? p.1 = some p.2 ∧ H p.1 = none ∧ p.1 ≠ X.env.locals ∧ p.1 ∉ X.fs ∧ ∀ v, p.2.data ≠ .cell v
  hok : HOk X.prog X.w H s.heap
  len : σ.length = X.N.length

section
variable {X : Cx} {pins : List (Addr × Obj)} {σ : List (Option V)} {H H' : Hp} {s : Shared} {h' : Heap}

theorem Cx.Ok.nofr (ok : X.Ok) {b : Addr} {o : Obj} (e : X.base.get? b = some o) : b ∉ X.fs := fun hb => by
  have := (ok.funs.mem hb).1
  rw [e] at this; cases this
theorem Inv.bs (I : Inv X pins σ H s) : ∀ b o, X.base.get? b = some o → s.heap.get? b = some o ∧ H b = none := fun b o e =>
  ⟨I.base.keep b o (I.ok.bs b o e).1 (I.ok.bs b o e).2 (I.ok.nofr e) (I.ok.noex b o e), I.base.free b o (I.ok.bs b o e).1 (I.ok.bs b o e).2 (I.ok.noex b o e)⟩
theorem Inv.bk (I : Inv X pins σ H s) : ∀ b o, X.base.get? b = some o → s.heap.get? b = some o := fun b o e => (I.bs b o e).1
theorem Inv.mod (I : Inv X pins σ H s) : Mod X.K X.mg X.base := I.ok.mod
theorem Inv.kIn (I : Inv X pins σ H s) : X.K.In s.heap := I.ok.mod.kin.keeps I.bk
theorem Inv.nolimit (I : Inv X pins σ H s) : s.heap.NoLimit := I.ok.mod.nolimit.keeps I.bk
/-- the frame over the base: for OpenK's rules (K.In X.base is I.mod.kin) -/
theorem Inv.fr (I : Inv X pins σ H s) : ∃ m, Fr X.base X.env.locals s.heap m :=
  let ⟨m, hn, _⟩ := I.loc
  ⟨m, hn, I.bk, Nat.le_trans I.ok.bsz I.ok.above⟩
theorem Inv.lt (I : Inv X pins σ H s) : X.env.locals < s.heap.objs.size := let ⟨_, hn, _⟩ := I.loc; hn.lt
theorem Inv.sz (I : Inv X pins σ H s) : X.s₀.heap.objs.size ≤ s.heap.objs.size := Nat.le_trans I.ok.above (Nat.le_of_lt I.lt)
theorem Inv.nofs (I : Inv X pins σ H s) {a : Addr} (h : s.heap.objs.size ≤ a) : a ∉ X.fs := fun hb => by
  obtain ⟨_, o, ho, _⟩ := I.ok.funs.mem hb
  exact absurd (Nat.lt_of_lt_of_le (Heap.lt_size ho) (Nat.le_trans I.sz h)) (Nat.lt_irrefl _)
theorem Inv.cne (I : Inv X pins σ H s) : ∀ x c, X.env.cells.lookup x = some c → c ≠ X.env.locals := fun x c e z => by
  obtain ⟨v, o, ho, hd⟩ := I.cell x c e
  obtain ⟨m, ⟨o', es, ep, ho', hd', _⟩, _⟩ := I.loc
  rw [z, ho'] at ho; cases ho; rw [hd'] at hd; cases hd
theorem Inv.funs (I : Inv X pins σ H s) : s.heap.FunFrames X.base X.outer := by
  have all : ∀ (l : List Env), (∀ b ∈ frs l, b ∈ X.fs) → X.s₀.heap.FunFrames X.base l → s.heap.FunFrames X.base l := by
    intro l
    induction l with
    | nil => intro _ _; trivial
    | cons env r ih =>
      intro hs hl
      obtain ⟨hk, ⟨L, o, hf, hn, ho, hd⟩, hr⟩ := hl
      have hL : L ∈ X.fs := hs L (by unfold frs; rw [List.filterMap_cons, hf]; exact List.mem_cons_self)
      obtain ⟨sl, e⟩ := I.base.slot L o ho (I.ok.frf L hL) hL fun z => I.ok.exfs L z hL
      exact ⟨hk, ⟨L, _, hf, hn, e, hd⟩, ih (fun b hb => hs b (by unfold frs; rw [List.filterMap_cons, hf]; exact List.mem_cons_of_mem _ hb)) hr⟩
  exact all X.outer (fun _ hb => hb) I.ok.funs

/-- the frames that run, for a call -/
theorem Inv.stack (I : Inv X pins σ H s) : s.heap.FunFrames X.base X.stack := by
  rcases I.ok.stk with e | ⟨e, hf⟩
  · rw [e]; exact I.funs
  · rw [e]
    obtain ⟨m, hn, _⟩ := I.loc
    refine .cons (by rw [I.ok.kind]; decide) hf hn ?_ I.funs
    exact Heap.get?_none_of_le (Nat.le_trans I.ok.bsz I.ok.above)
theorem Inv.stkSub (I : Inv X pins σ H s) : ∀ b ∈ frs X.stack, b ∈ X.env.locals :: X.fs := fun b hb => by
  rcases I.ok.stk with e | ⟨e, hf⟩
  · rw [e] at hb; exact List.mem_cons_of_mem _ hb
  · rw [e] at hb
    unfold frs at hb
    rw [List.filterMap_cons, hf] at hb
    exact hb
theorem Inv.stkFree (I : Inv X pins σ H s) : ∀ b ∈ frs X.stack, H b = none := fun b hb => by
  rcases List.mem_cons.mp (I.stkSub b hb) with e | hb
  · rw [e]; exact I.free
  · obtain ⟨_, o, ho, _⟩ := I.ok.funs.mem hb
    exact I.base.free b o ho (I.ok.frf b hb) fun z => I.ok.exfs b z hb

/-- THE STEP: the untracked objects but the frame and the records at ch are kept (the callers' frames up to slots), the frame's map is kept, the new abstract heap is held -/
theorem Inv.step {g' : Array GenState} {t' : Nat} {d' : Drawn} {ch : List Addr} (I : Inv X pins σ H s)
    (hch : ∀ b ∈ ch, (b ∈ X.ex ∨ X.s₀.heap.objs.size ≤ b) ∧ b ≠ X.env.locals ∧ (∀ x c, X.env.cells.lookup x = some c → c ≠ b) ∧ ∀ p ∈ X.pn ++ pins, p.1 ≠ b)
    (keep : ∀ b o, b ≠ X.env.locals → b ∉ X.fs → b ∉ ch → s.heap.get? b = some o → H b = none → h'.get? b = some o)
    (slot : ∀ b o, b ≠ X.env.locals → b ∈ X.fs → b ∉ ch → s.heap.get? b = some o → H b = none → ∃ sl, h'.get? b = some { o with slots := sl }) (free : ∀ b o, b ∉ ch → s.heap.get? b = some o → H b = none → H' b = none)
    (there : ∀ b o, b ∉ ch → s.heap.get? b = some o → ∃ o', h'.get? b = some o')
    (tups : ∀ b xs, H b = some (.tup xs) → H' b = some (.tup xs)) (frzs : ∀ b o u, H b = some (.frz o u) → H' b = some (.frz o u)) (tbls : ∀ b ps, H b = some (.tbl ps) → ∃ more, H' b = some (.tbl (ps ++ more)))
    (ns : ∀ m, s.heap.Ns X.env.locals m → h'.Ns X.env.locals m) (hok : HOk X.prog X.w H' h') (hg : AllBare g') :
    Inv X pins σ H' { s with heap := h', gens := g', drawn := d', toks := t' } := by
  have neL : ∀ b o, X.s₀.heap.get? b = some o → b ≠ X.env.locals := fun b o e => Nat.ne_of_lt (Nat.lt_of_lt_of_le (Heap.lt_size e) I.ok.above)
  have neC : ∀ b o, X.s₀.heap.get? b = some o → b ∉ X.ex → b ∉ ch := fun b o e hx hb => by
    rcases (hch b hb).1 with z | z
    · exact hx z
    · exact absurd (Nat.lt_of_lt_of_le (Heap.lt_size e) z) (Nat.lt_irrefl _)
  have cellK : ∀ x c, X.env.cells.lookup x = some c → ∀ v, s.heap.IsCell c v → h'.IsCell c v := fun x c e v ⟨o, ho, hd⟩ => by
    have nch : c ∉ ch := fun z => (hch c z).2.2.1 x c e rfl
    by_cases hc : c ∈ X.fs
    · obtain ⟨sl, q⟩ := slot c o (I.cne x c e) hc nch ho (I.freeC x c e)
      exact ⟨_, q, hd⟩
    · exact ⟨o, keep c o (I.cne x c e) hc nch ho (I.freeC x c e), hd⟩
  refine ⟨I.ok, I.os, hg, ⟨fun b o e n hb hx => ?_, fun b o e n hb hx => ?_, fun b o e n hx => ?_, fun b o e hx => ?_, fun b xs e => tups b xs (I.base.tups b xs e), fun b o xs e => frzs b o xs (I.base.frzs b o xs e), fun b ps e => ?_⟩, ?_, fun x c e => ?_, ?_, fun x c e => ?_, fun p hp => ?_, hok, I.len⟩
  · exact keep b o (neL b o e) hb (neC b o e hx) (I.base.keep b o e n hb hx) (I.base.free b o e n hx)
  · obtain ⟨sl, e1⟩ := I.base.slot b o e n hb hx
    obtain ⟨sl', e2⟩ := slot b _ (neL b o e) hb (neC b o e hx) e1 (I.base.free b o e n hx)
    exact ⟨sl', e2⟩
  · obtain ⟨o', e1⟩ := I.base.there b o e hx
    exact free b o' (neC b o e hx) e1 (I.base.free b o e n hx)
  · obtain ⟨o', e1⟩ := I.base.there b o e hx
    exact there b o' (neC b o e hx) e1
  · obtain ⟨m1, e1⟩ := I.base.tbls b ps e
    obtain ⟨m2, e2⟩ := tbls b _ e1
    exact ⟨m1 ++ m2, by rw [e2, Array.append_assoc]⟩
  · obtain ⟨m, hn, hl⟩ := I.loc
    refine ⟨m, ns m hn, fun i x v e1 e2 e3 => ?_⟩
    obtain ⟨u, r, l⟩ := hl i x v e1 e2 e3
    refine ⟨u, r, ?_⟩
    rcases l with l | ⟨k, c, e, z⟩
    · exact .inl l
    · exact .inr ⟨k, c, e, cellK x c e _ z⟩
  · obtain ⟨v, z⟩ := I.cell x c e
    exact ⟨v, cellK x c e v z⟩
  · obtain ⟨m, ⟨o, _, _, ho, _⟩, _⟩ := I.loc
    exact free _ o (fun z => (hch _ z).2.1 rfl) ho I.free
  · obtain ⟨v, o, ho, hd⟩ := I.cell x c e
    exact free c o (fun z => (hch c z).2.2.1 x c e rfl) ho (I.freeC x c e)
  · obtain ⟨e, n, ne, nf, d⟩ := I.pin p hp
    have nch : p.1 ∉ ch := fun z => (hch p.1 z).2.2.2 p hp rfl
    exact ⟨keep p.1 p.2 ne nf nch e n, free p.1 p.2 nch e n, ne, nf, d⟩
/-- .. where the frame's own object is kept too -/
theorem Inv.un {t' : Nat} (I : Inv X pins σ H s) (u : Un X.fs [] H H' s.heap h') (hok : HOk X.prog X.w H' h') : Inv X pins σ H' { s with heap := h', toks := t' } := by
  obtain ⟨m, ⟨o, es, ep, ho, r⟩, _⟩ := id I.loc
  obtain ⟨sl, hL⟩ := u.any ho I.free (by simp)
  exact I.step (g' := s.gens) (d' := s.drawn) (ch := []) (fun _ z => nomatch z) (fun b o _ hb _ e n => u.keep b o e n hb (by simp)) (fun b o _ hb _ e n => u.slot b o e n hb (by simp)) (fun b o _ e n => u.free b o e n (by simp)) (fun b o _ e => u.there b o e (by simp)) u.tups u.frzs u.tbls (fun m' hm => by
    obtain ⟨o', es', ep', ho', r'⟩ := hm
    rw [ho] at ho'; cases ho'
    exact ⟨_, es', ep', hL, r'⟩) hok I.bare
/-- behind a call (or a comprehension's block): the slots of this frame may have changed too, the records at ch may have turned -/
theorem Inv.call {g' : Array GenState} {t' : Nat} {d' : Drawn} {ch : List Addr} (I : Inv X pins σ H s) (u : Un (frs X.stack) ch H H' s.heap h') (hok : HOk X.prog X.w H' h') (hg : AllBare g')
    (hch : ∀ b ∈ ch, (b ∈ X.ex ∨ X.s₀.heap.objs.size ≤ b) ∧ b ≠ X.env.locals ∧ (∀ x c, X.env.cells.lookup x = some c → c ≠ b) ∧ ∀ p ∈ X.pn ++ pins, p.1 ≠ b) :
    Inv X pins σ H' { s with heap := h', gens := g', drawn := d', toks := t' } := by
  obtain ⟨m, ⟨o, es, ep, ho, r⟩, _⟩ := id I.loc
  obtain ⟨sl, hL⟩ := u.any ho I.free fun z => (hch _ z).2.1 rfl
  exact I.step (ch := ch) hch (fun b o hL hb hc e n => u.keep b o e n (fun z => (List.mem_cons.mp (I.stkSub b z)).elim hL hb) hc) (fun b o _ _ hc e n => u.any e n hc) (fun b o hc e n => u.free b o e n hc) (fun b o hc e => u.there b o e hc) u.tups u.frzs u.tbls (fun m' hm => by
    obtain ⟨o', es', ep', ho', r'⟩ := hm
    rw [ho] at ho'; cases ho'
    exact ⟨_, es', ep', hL, r'⟩) hok hg
/-- an untracked record of ours (an iterator) has turned -/
theorem Inv.turned {t' : Nat} {it : Addr} (I : Inv X pins σ H s) (k : ∀ b o, b ≠ it → s.heap.get? b = some o → h'.get? b = some o) (hn : H it = none) (hL : it ≠ X.env.locals)
    (h1 : it ∈ X.ex ∨ X.s₀.heap.objs.size ≤ it) (h2 : ∀ x c, X.env.cells.lookup x = some c → c ≠ it) (h3 : ∀ p ∈ X.pn ++ pins, p.1 ≠ it) : Inv X pins σ H { s with heap := h', toks := t' } := by
  have nit : ∀ b u, H b = some u → b ≠ it := fun b u e z => by rw [z, hn] at e; cases e
  refine I.step (g' := s.gens) (d' := s.drawn) (ch := [it]) (fun b hb => ?_) (fun b o _ _ hc e _ => k b o (fun z => hc (by simp [z])) e) (fun b o _ _ hc e _ => ⟨o.slots, k b o (fun z => hc (by simp [z])) e⟩) (fun _ _ _ _ n => n)
    (fun b o hc e => ⟨o, k b o (fun z => hc (by simp [z])) e⟩) (fun _ _ e => e) (fun _ _ _ e => e) (fun b ps e => ⟨#[], by rw [e]; simp⟩) (fun m hm => ?_) (fun b u e => ?_) I.bare
  · have e : b = it := by simpa using hb
    subst e
    exact ⟨h1, hL, h2, h3⟩
  · obtain ⟨o, es, ep, ho, r⟩ := hm
    exact ⟨o, es, ep, k _ o (Ne.symm hL) ho, r⟩
  · refine (I.hok b u e).stay (fun c v hc q => k c v ?_ q) (fun _ q => q) fun _ _ q => q
    rcases hc with z | z
    · rw [z]; exact nit b u e
    · exact nit c _ z
theorem Inv.tok (I : Inv X pins σ H s) (t : Nat) : Inv X pins σ H { s with toks := t } := I.un (h' := s.heap) (t' := t) Un.refl I.hok
/-- all objects kept -/
theorem Inv.kept {t' : Nat} (I : Inv X pins σ H s) (k : ∀ b u, s.heap.get? b = some u → h'.get? b = some u) : Inv X pins σ H { s with heap := h', toks := t' } := I.un (Un.kept k) (I.hok.kept k)
/-- a new object laid and tracked -/
theorem Inv.laid {a : Addr} {o : HO} {t' : Nat} (I : Inv X pins σ H s) (k : ∀ b u, s.heap.get? b = some u → h'.get? b = some u) (hp : s.heap.objs.size ≤ a) (new : ObjOk X.prog X.w (upd H a o) h' a o) :
    Inv X pins σ (upd H a o) { s with heap := h', toks := t' } := I.un (Un.laid k hp (I.hok.fresh hp)) (I.hok.laid k hp new)
/-- an object written -/
theorem Inv.write {x e : Addr} {o : HO} {t' : Nat} (I : Inv X pins σ H s) (mu : Mut (H x)) (he : e = x ∨ H e = some (.own x)) (k : ∀ b u, b ≠ e → s.heap.get? b = some u → h'.get? b = some u) (heo : ∃ u, h'.get? e = some u)
    (new : ObjOk X.prog X.w (upd H x o) h' x o) : Inv X pins σ (upd H x o) { s with heap := h', toks := t' } := I.un (Un.write mu he k heo) (I.hok.write mu he k heo new)
/-- forgetting slots, pins -/
theorem Inv.weak {σ' : List (Option V)} (I : Inv X pins σ H s) (hl : σ'.length = σ.length) (w : ∀ (i : Nat) v, σ'[i]? = some (some v) → σ[i]? = some (some v)) : Inv X pins σ' H s :=
  ⟨I.ok, I.os, I.bare, I.base, let ⟨m, hn, hl'⟩ := I.loc; ⟨m, hn, fun i x v e1 e2 e3 => hl' i x v e1 (w i v e2) e3⟩, I.cell, I.free, I.freeC, I.pin, I.hok, hl.trans I.len⟩
theorem Inv.pins_of {pins' : List (Addr × Obj)} (I : Inv X pins σ H s) (h : ∀ p ∈ pins', s.heap.get? p.1 = some p.2 ∧ H p.1 = none ∧ p.1 ≠ X.env.locals ∧ p.1 ∉ X.fs ∧ ∀ v, p.2.data ≠ .cell v) : Inv X pins' σ H s :=
  ⟨I.ok, I.os, I.bare, I.base, I.loc, I.cell, I.free, I.freeC, fun p hp => (List.mem_append.mp hp).elim (fun z => I.pin p (List.mem_append_left _ z)) (h p), I.hok, I.len⟩

theorem nodup_ix {N : List Str} (hN : N.Nodup) {i j : Nat} {x : Str} (a : N[i]? = some x) (b : N[j]? = some x) : i = j := by
  obtain ⟨h1, e1⟩ := List.getElem?_eq_some_iff.mp a
  obtain ⟨h2, e2⟩ := List.getElem?_eq_some_iff.mp b
  exact (List.getElem_inj hN).mp (e1.trans e2.symm)

/-- a name is stored; what changed -/
theorem store_ok2 {M : Model} {A : Around} {E : Value → Shared → Prop} {i : Nat} {x : Str} {v : V} {u : Value} {Q : Unit → Shared → Prop} (I : Inv X pins σ H s) (hN : X.N.Nodup) (hi : X.N[i]? = some x) (hx : Loc X.env.scope x) (r : RelV v u)
    (h : ∀ s', Inv X pins (σ.set i (some v)) H s' → (∃ a, Heap.SameBut a s.heap s'.heap ∧ (a = X.env.locals ∨ X.env.cells.lookup x = some a)) → Q () s') (hf : X.fn x = true ∨ X.env.scope.names.lookup x = some .local := by first | exact .inl rfl | exact .inr rfl | assumption) : wpAny M A (storeName X.env x u) Q E s := by
  obtain ⟨m, hn, hl⟩ := id I.loc
  have hcls : (X.env.scope.kind == .class || (X.env.scope.kind == .module && X.env.locals != X.env.globals)) = false := by rw [I.ok.kind]; rfl
  have hiσ : i < σ.length := by rw [I.len]; exact (List.getElem?_eq_some_iff.mp hi).1
  have cne := I.cne
  have tracked : ∀ {a : Addr} {h' : Heap}, (∃ o, s.heap.get? a = some o ∧ H a = none) → Heap.SameBut a s.heap h' → HOk X.prog X.w H h' := fun {a h'} ha hs b ob e => by
    obtain ⟨_, _, hfree⟩ := ha
    refine (I.hok b ob e).stay (fun c w' hc q => (hs.2 c ?_).trans q) (fun _ q => q) fun _ _ q => q
    rintro rfl
    rcases hc with rfl | hc
    · rw [hfree] at e; cases e
    · rw [hfree] at hc; cases hc
  rcases hx with hk | hk
  · refine wpAny_storeName_local hk hn (fun h' hn' hs => ?_) hcls
    obtain ⟨oL, _, _, hoL, _⟩ := id hn
    refine h _ ⟨I.ok, I.os, I.bare, ⟨fun b o e n hb hx => ?_, fun b o e n hb hx => ?_, I.base.free, fun b o e hx => ?_, I.base.tups, I.base.frzs, I.base.tbls⟩, ⟨_, hn', fun j y v' e1 e2 e3 => ?_⟩, fun y c e => ?_, I.free, I.freeC, fun p hp => ?_, tracked ⟨oL, hoL, I.free⟩ hs, by simpa using I.len⟩ ⟨_, hs, .inl rfl⟩
    · exact (hs.2 b (Nat.ne_of_lt (Nat.lt_of_lt_of_le (Heap.lt_size e) I.ok.above))).trans (I.base.keep b o e n hb hx)
    · obtain ⟨sl, e1⟩ := I.base.slot b o e n hb hx
      exact ⟨sl, (hs.2 b (Nat.ne_of_lt (Nat.lt_of_lt_of_le (Heap.lt_size e) I.ok.above))).trans e1⟩
    · obtain ⟨o', e1⟩ := I.base.there b o e hx
      exact ⟨o', (hs.2 b (Nat.ne_of_lt (Nat.lt_of_lt_of_le (Heap.lt_size e) I.ok.above))).trans e1⟩
    · by_cases hj : j = i
      · subst hj
        rw [hi] at e1; cases e1
        rw [List.getElem?_set_self hiσ] at e2
        cases e2
        exact ⟨u, r, .inl ⟨hk, by simp⟩⟩
      · rw [List.getElem?_set_ne (Ne.symm hj)] at e2
        obtain ⟨u', r', q⟩ := hl j y v' e1 e2 e3
        refine ⟨u', r', ?_⟩
        rcases q with ⟨k, e⟩ | ⟨k, c, e, z⟩
        · refine .inl ⟨k, ?_⟩
          have : y ≠ x := fun e => hj (nodup_ix hN e1 (e ▸ hi))
          simp [this, e]
        · exact .inr ⟨k, c, e, z.sameBut hs (cne y c e)⟩
    · obtain ⟨w', z⟩ := I.cell y c e
      exact ⟨w', z.sameBut hs (cne y c e)⟩
    · obtain ⟨e, n, ne, nf, d⟩ := I.pin p hp
      exact ⟨(hs.2 p.1 ne).trans e, n, ne, nf, d⟩
  · have hfn : X.fn x = true := by
      rcases hf with z | z
      · exact z
      · rw [z] at hk; cases hk
    obtain ⟨c, hc⟩ := I.ok.has x (.inl hk)
    obtain ⟨w', z⟩ := I.cell x c hc
    refine wpAny_storeName_cell I.ok.kind hk hc z (fun h' hc' hs => ?_)
    obtain ⟨oc, hoc, hocd⟩ := id z
    refine h { s with heap := h' } ⟨I.ok, I.os, I.bare, ⟨fun b o e n hb hx => ?_, fun b o e n hb hx => ?_, I.base.free, fun b o e hx => ?_, I.base.tups, I.base.frzs, I.base.tbls⟩, ⟨m, hn.sameBut hs (Ne.symm (cne x c hc)), fun j y v' e1 e2 e3 => ?_⟩, fun y c' e => ?_, I.free, I.freeC, fun p hp => ?_, tracked ⟨oc, hoc, I.freeC x c hc⟩ hs, by simpa using I.len⟩ ⟨c, hs, .inr hc⟩
    · exact (hs.2 b (Nat.ne_of_lt (Nat.lt_of_lt_of_le (Heap.lt_size e) (I.ok.cab x c hfn hc)))).trans (I.base.keep b o e n hb hx)
    · obtain ⟨sl, e1⟩ := I.base.slot b o e n hb hx
      exact ⟨sl, (hs.2 b (Nat.ne_of_lt (Nat.lt_of_lt_of_le (Heap.lt_size e) (I.ok.cab x c hfn hc)))).trans e1⟩
    · obtain ⟨o', e1⟩ := I.base.there b o e hx
      exact ⟨o', (hs.2 b (Nat.ne_of_lt (Nat.lt_of_lt_of_le (Heap.lt_size e) (I.ok.cab x c hfn hc)))).trans e1⟩
    · by_cases hj : j = i
      · subst hj
        rw [hi] at e1; cases e1
        rw [List.getElem?_set_self hiσ] at e2
        cases e2
        exact ⟨u, r, .inr ⟨.inl hk, c, hc, hc'⟩⟩
      · rw [List.getElem?_set_ne (Ne.symm hj)] at e2
        obtain ⟨u', r', q⟩ := hl j y v' e1 e2 e3
        refine ⟨u', r', ?_⟩
        rcases q with q | ⟨k, c', e, z'⟩
        · exact .inl q
        · refine .inr ⟨k, c', e, z'.sameBut hs ?_⟩
          rintro rfl
          exact hj (nodup_ix hN e1 (I.ok.inj _ _ _ e hc ▸ hi))
    · by_cases hcc : c' = c
      · subst hcc; exact ⟨_, hc'⟩
      · obtain ⟨w2, z2⟩ := I.cell y c' e
        exact ⟨w2, z2.sameBut hs hcc⟩
    · obtain ⟨e, n, ne, nf, d⟩ := I.pin p hp
      refine ⟨(hs.2 p.1 ?_).trans e, n, ne, nf, d⟩
      intro q
      rw [q, hoc] at e
      have q' : oc = p.2 := Option.some.inj e
      exact d w' (by rw [← q']; exact hocd)
theorem store_ok {M : Model} {A : Around} {E : Value → Shared → Prop} {i : Nat} {x : Str} {v : V} {u : Value} {Q : Unit → Shared → Prop} (I : Inv X pins σ H s) (hN : X.N.Nodup) (hi : X.N[i]? = some x) (hx : Loc X.env.scope x) (r : RelV v u)
    (h : ∀ s', Inv X pins (σ.set i (some v)) H s' → Q () s') (hf : X.fn x = true ∨ X.env.scope.names.lookup x = some .local := by first | exact .inl rfl | exact .inr rfl | assumption) : wpAny M A (storeName X.env x u) Q E s :=
  store_ok2 I hN hi hx r (fun s' I' _ => h s' I') hf
/-- behind a call or a block, the state as it is -/
theorem Inv.call' {s' : Shared} {ch : List Addr} (I : Inv X pins σ H s) (ho : s'.os = s.os) (u : Un (frs X.stack) ch H H' s.heap s'.heap) (hok : HOk X.prog X.w H' s'.heap) (hg : AllBare s'.gens)
    (hch : ∀ b ∈ ch, (b ∈ X.ex ∨ X.s₀.heap.objs.size ≤ b) ∧ b ≠ X.env.locals ∧ (∀ x c, X.env.cells.lookup x = some c → c ≠ b) ∧ ∀ p ∈ X.pn ++ pins, p.1 ≠ b) : Inv X pins σ H' s' := by
  obtain ⟨h', g', d', t', o'⟩ := s'
  have e : o' = s.os := ho
  subst e
  exact I.call (g' := g') (t' := t') (d' := d') u hok hg hch
end

/-! ### the judgements -/
/-- an exception: its class, its own dict's address (where it has one), the abstract heap behind it -/
abbrev XK := Value → Option Addr → Hp → Prop
abbrev St := List (Option V)
abbrev VK := V → Hp → Prop
/-- an expression's reading; a test's; an argument list's -/
abbrev TE := St → Hp → VK → Prop
abbrev TT := St → Hp → (Bool → Hp → Prop) → Prop
abbrev TA := St → Hp → (List V → Hp → Prop) → Prop
/-- what is wanted behind a statement -/
structure Ends where
  nx : St → Hp → Prop
  rt : VK
  bk : St → Hp → Prop := fun _ _ => False
  ct : St → Hp → Prop := fun _ _ => False
abbrev TS := Ends → St → Hp → Prop

def EP (X : Cx) (pins : List (Addr × Obj)) (σ : St) (Q : VK) (u : Value) (s' : Shared) : Prop := ∃ v H', Inv X pins σ H' s' ∧ RelV v u ∧ Q v H'
def TP (X : Cx) (pins : List (Addr × Obj)) (σ : St) (Q : Bool → Hp → Prop) (b : Bool) (s' : Shared) : Prop := ∃ H', Inv X pins σ H' s' ∧ Q b H'
def AP (X : Cx) (pins : List (Addr × Obj)) (σ : St) (Q : List V → Hp → Prop) (us : List Value) (s' : Shared) : Prop := ∃ vs H', Inv X pins σ H' s' ∧ Vals vs us ∧ Q vs H'
def SP (X : Cx) (pins : List (Addr × Obj)) (D : Ends) (f : Flow) (s' : Shared) : Prop :=
  match f with
  | .next => ∃ σ' H', Inv X pins σ' H' s' ∧ D.nx σ' H'
  | .brk => ∃ σ' H', Inv X pins σ' H' s' ∧ D.bk σ' H'
  | .cont => ∃ σ' H', Inv X pins σ' H' s' ∧ D.ct σ' H'
  | .ret u => ∃ v σ' H', Inv X pins σ' H' s' ∧ RelV v u ∧ D.rt v H'

def PE (X : Cx) (e : Expr) (t : TE) : Prop :=
  ∀ (pins : List (Addr × Obj)) (s : Shared) (σ : St) (H : Hp) (Q : VK), Inv X pins σ H s → t σ H Q → wpAny (model X.prog X.w) X.A (eval e X.env) (EP X pins σ Q) X.xe s
def PT (X : Cx) (e : Expr) (t : TT) : Prop :=
  ∀ (pins : List (Addr × Obj)) (s : Shared) (σ : St) (H : Hp) (Q : Bool → Hp → Prop), Inv X pins σ H s → t σ H Q → wpAny (model X.prog X.w) X.A (isTrue e X.env (eval e X.env)) (TP X pins σ Q) X.xe s
/-- a test whatever its 'whole' is (and, or) -/
def PW (X : Cx) (e : Expr) (t : TT) : Prop :=
  ∀ (whole : Sem Value) (pins : List (Addr × Obj)) (s : Shared) (σ : St) (H : Hp) (Q : Bool → Hp → Prop), Inv X pins σ H s → t σ H Q → wpAny (model X.prog X.w) X.A (isTrue e X.env whole) (TP X pins σ Q) X.xe s
theorem PW.pt {X : Cx} {e : Expr} {t : TT} (h : PW X e t) : PT X e t := h _
/-- an argument list (no star), from the left -/
def PA (X : Cx) (es : List Expr) (t : TA) : Prop :=
  ∀ (pos : Pos) (pins : List (Addr × Obj)) (s : Shared) (σ : St) (H : Hp) (Q : List V → Hp → Prop), Inv X pins σ H s → t σ H Q → wpAny (model X.prog X.w) X.A (spliced (backTo pos (starEach es X.env))) (AP X pins σ Q) X.xe s
def PS (X : Cx) (st : Stmt) (t : TS) : Prop :=
  ∀ (pins : List (Addr × Obj)) (s : Shared) (σ : St) (H : Hp) (D : Ends), Inv X pins σ H s → t D σ H → wpAny (model X.prog X.w) X.A (exec st X.env) (SP X pins D) X.xe s
def PSs (X : Cx) (st : List Stmt) (t : TS) : Prop :=
  ∀ (pins : List (Addr × Obj)) (s : Shared) (σ : St) (H : Hp) (D : Ends), Inv X pins σ H s → t D σ H → wpAny (model X.prog X.w) X.A (execs st X.env) (SP X pins D) X.xe s
/-- weaken the end -/
theorem thn {α : Type} {t : Sem α} {Q Q' : α → Shared → Prop} {M : Model} {A : Around} {E : Value → Shared → Prop} {s : Shared} (h : wpAny M A t Q E s) (hQ : ∀ a s, Q a s → Q' a s) : wpAny M A t Q' E s := wpAny_mono h hQ fun _ _ x => x
end L2

namespace L2
open PySem PySem.Spec PyProof.Rows
section
variable {X : Cx}

/-- two expressions in a row -/
theorem bin {a b : Expr} {ta tb : TE} (ha : PE X a ta) (hb : PE X b tb) {pins : List (Addr × Obj)} {s : Shared} {σ : St} {H : Hp} {R : V → V → Hp → Prop} (I : Inv X pins σ H s) (h : ta σ H fun x H1 => tb σ H1 fun y H2 => R x y H2)
    {α : Type} {Q : α → Shared → Prop} {f : Value → Value → Sem α}
    (hf : ∀ v u s2 x y H2, Inv X pins σ H2 s2 → RelV x v → RelV y u → R x y H2 → wpAny (model X.prog X.w) X.A (f v u) Q X.xe s2) :
    wpAny (model X.prog X.w) X.A (eval a X.env) (fun v s₁ => wpAny (model X.prog X.w) X.A (eval b X.env) (fun u s₂ => wpAny (model X.prog X.w) X.A (f v u) Q X.xe s₂) X.xe s₁) X.xe s := by
  refine thn (ha pins s σ H _ I h) fun v s1 ⟨x, H1, I1, r1, q1⟩ => ?_
  refine thn (hb pins s1 σ H1 _ I1 q1) fun u s2 ⟨y, H2, I2, r2, q2⟩ => ?_
  exact hf v u s2 x y H2 I2 r1 r2 q2

/-! ### names and constants -/
def tVar (i : Nat) : TE := fun σ H Q => ∃ v, σ[i]? = some (some v) ∧ Q v H
def tC (v : V) : TE := fun _ H Q => Q v H
theorem pe_var {i : Nat} {x : Str} {pos : Pos} (hN : X.N[i]? = some x) (hv : Vis X.env.scope x) (hd : (x == ("__debug__" : Str)) = false := by decide) (hcd : (x == ("__classdict__" : Str)) = false := by decide) : PE X (.Name x pos) (tVar i) := by
  intro pins s σ H Q I h
  obtain ⟨v, e, h⟩ := h
  obtain ⟨m, hn, hl⟩ := I.loc
  obtain ⟨u, r, l⟩ := hl i x v hN e hv
  have fin : EP X pins σ Q u s := ⟨v, H, I, r, h⟩
  rcases l with ⟨hk, hm⟩ | ⟨hk, c, hc, hcell⟩
  · exact wpAny_Name (wpAny_loadName_local I.ok.kind hk hn hm fin) hd
  · rcases hk with hk | hk
    · exact wpAny_Name (wpAny_loadName_cell I.ok.kind hk hc hcell fin) hd
    · exact wpAny_Name (wpAny_loadName_free I.ok.kind hk hc hcell fin hcd) hd
theorem pe_int {i j pos} : PE X (.Constant (.int i) j pos) (tC (.int i)) := fun _ _ _ H _ I h => wpAny_Constant_int ⟨.int i, H, I.tok _, ⟨_, rfl⟩, h⟩
theorem pe_bl {b j pos} : PE X (.Constant (.bool b) j pos) (tC (.bl b)) := fun _ _ _ H _ I h => Constant_bool ⟨.bl b, H, I, rfl, h⟩
theorem pe_str {x j pos} : PE X (.Constant (.str x) j pos) (tC (.str x)) := fun _ _ _ H _ I h => Calls.Constant_str ⟨.str x, H, I.tok _, ⟨_, rfl⟩, h⟩

/-- a global name of the def -/
def Gl (X : Cx) (x : Str) : Prop := X.env.kindOf x = some .globalImplicit
theorem ld_glob {E : Value → Shared → Prop} {pins : List (Addr × Obj)} {s : Shared} {σ : St} {H : Hp} {x : Str} {u : Value} {pos : Pos} {Q : Value → Shared → Prop} (I : Inv X pins σ H s) (hg : Gl X x) (hm : X.mg x = some u) (h : Q u s)
    (hd : (x == ("__debug__" : Str)) = false := by decide) : wpAny (model X.prog X.w) X.A (eval (.Name x pos) X.env) Q E s :=
  Calls.Name_function_global I.ok.kind hg (Calls.loadGlobal_global (by rw [I.ok.glob]; exact I.mod.glob.keeps I.bk) hm h) hd
theorem ld_blt {E : Value → Shared → Prop} {pins : List (Addr × Obj)} {s : Shared} {σ : St} {H : Hp} {x : Str} {u : Value} {pos : Pos} {Q : Value → Shared → Prop} (I : Inv X pins σ H s) (hg : Gl X x) (hm : X.mg x = none) (hv : bootBuiltins x = some u) (h : Q u s)
    (hn : x ≠ "__name__" := by decide) (hd : (x == ("__debug__" : Str)) = false := by decide) : wpAny (model X.prog X.w) X.A (eval (.Name x pos) X.env) Q E s := by
  obtain ⟨mb, h1, h2⟩ := I.mod.blt
  exact Calls.Name_function_global I.ok.kind hg (Calls.loadGlobal_builtin (by rw [I.ok.glob]; exact I.mod.glob.keeps I.bk) hm (by rw [I.ok.blt]; exact h1.keeps I.bk) ((h2 x hn).trans hv) h) hd
theorem pe_bltn {x : Str} {v : V} {u : Value} {pos : Pos} (hg : Gl X x) (hm : X.mg x = none) (hv : bootBuiltins x = some u) (r : RelV v u) (hn : x ≠ "__name__" := by decide) (hd : (x == ("__debug__" : Str)) = false := by decide) : PE X (.Name x pos) (tC v) :=
  fun _ _ _ H _ I h => ld_blt I hg hm hv ⟨v, H, I, r, h⟩ hn hd

/-! ### arithmetic -/
variable {a b : Expr} {ta tb : TE} {pos : Pos}
/-! ### comparisons -/
def PC (X : Cx) (op : CmpOp) (a b : Expr) (t : TE) : Prop :=
  ∀ (pins : List (Addr × Obj)) (s : Shared) (σ : St) (H : Hp) (Q : VK), Inv X pins σ H s → t σ H Q →
    wpAny (model X.prog X.w) X.A (eval a X.env) (fun v s₁ => wpAny (model X.prog X.w) X.A (eval b X.env) (fun u s₂ => wpAny (model X.prog X.w) X.A (compareOp op v u) (EP X pins σ Q) X.xe s₂) X.xe s₁) X.xe s
/-- a comparison as a value, as a test -/
def tB (t : TE) : TT := fun σ H Q => t σ H fun x H1 => ∃ c, x = .bl c ∧ Q c H1
/-- an expression whose value is a bool, as a test -/
theorem pt_val {e : Expr} {t : TE} (h : PE X e t) (he : ∀ whole, isTrue e X.env whole = (do let v ← whole; standAt e.pos; holding [v] (truthy v)) := by intro _; rfl) : PT X e (tB t) := by
  intro pins s σ H Q I hw
  refine isTrue_plain (thn (h pins s σ H _ I hw) fun v s1 ⟨x, H1, I1, r1, q1⟩ => ?_) (he _)
  obtain ⟨d, rfl, q⟩ := q1
  cases r1
  exact wpAny_truthy_bool ⟨H1, I1, q⟩

/-! ### and, or, not -/
variable {tA tB' : TT} {rest : List Expr}
def tAnd (t u : TT) : TT := fun σ H Q => t σ H fun c H1 => if c = true then u σ H1 Q else Q false H1
def tOr (t u : TT) : TT := fun σ H Q => t σ H fun c H1 => if c = true then Q true H1 else u σ H1 Q
def tNot (t : TT) : TT := fun σ H Q => t σ H fun c H1 => Q (!c) H1
theorem pw_and1 (ha : PT X a tA) : PW X (.BoolOp .And [a] pos) tA := by
  intro wh pins s σ H Q I h
  refine isTrue_and (thn (ha pins s σ H Q I h) fun c s1 e => ?_)
  cases c with
  | true => exact isTrue_and_nil e
  | false => exact e
theorem pw_or1 (ha : PT X a tA) : PW X (.BoolOp .Or [a] pos) tA := by
  intro wh pins s σ H Q I h
  refine isTrue_or (thn (ha pins s σ H Q I h) fun c s1 e => ?_)
  cases c with
  | false => exact isTrue_or_nil e
  | true => exact e
theorem pw_and (ha : PT X a tA) (hb : PW X (.BoolOp .And (b :: rest) pos) tB') : PW X (.BoolOp .And (a :: b :: rest) pos) (tAnd tA tB') := by
  intro wh pins s σ H Q I h
  refine isTrue_and (thn (ha pins s σ H _ I h) fun c s1 ⟨H1, I1, q1⟩ => ?_)
  cases c with
  | true => exact hb wh pins s1 σ H1 Q I1 q1
  | false => exact ⟨H1, I1, q1⟩
theorem pw_or (ha : PT X a tA) (hb : PW X (.BoolOp .Or (b :: rest) pos) tB') : PW X (.BoolOp .Or (a :: b :: rest) pos) (tOr tA tB') := by
  intro wh pins s σ H Q I h
  refine isTrue_or (thn (ha pins s σ H _ I h) fun c s1 ⟨H1, I1, q1⟩ => ?_)
  cases c with
  | true => exact ⟨H1, I1, q1⟩
  | false => exact hb wh pins s1 σ H1 Q I1 q1
theorem pt_not (ha : PT X a tA) : PT X (.UnaryOp .Not a pos) (tNot tA) := by
  intro pins s σ H Q I h
  exact isTrue_not (ha pins s σ H (fun c H1 => Q (!c) H1) I h)
/-- .. as values (bools) -/
def tAndV (ta tb : TE) : TE := fun σ H Q => ta σ H fun x H1 => ∃ c, x = .bl c ∧ if c = true then tb σ H1 Q else Q (.bl false) H1
def tNotV (ta : TE) : TE := fun σ H Q => ta σ H fun x H1 => ∃ c, x = .bl c ∧ Q (.bl (!c)) H1
theorem pe_one {op} {t : TE} (h : PE X a t) : PE X (.BoolOp op [a] pos) t := fun pins s σ H Q I hw => BoolOp_one (h pins s σ H Q I hw)
theorem pe_and (ha : PE X a ta) (hb : PE X (.BoolOp .And (b :: rest) pos) tb) : PE X (.BoolOp .And (a :: b :: rest) pos) (tAndV ta tb) := by
  intro pins s σ H Q I h
  refine BoolOp_and (thn (ha pins s σ H _ I h) fun v s1 ⟨x, H1, I1, r1, q1⟩ => ?_)
  obtain ⟨c, rfl, q1⟩ := q1
  cases r1
  refine wpAny_truthy_bool ?_
  cases c with
  | true => exact hb pins s1 σ H1 Q I1 q1
  | false => exact ⟨.bl false, H1, I1, rfl, q1⟩
theorem pe_not (ha : PE X a ta) : PE X (.UnaryOp .Not a pos) (tNotV ta) := by
  intro pins s σ H Q I h
  refine UnaryOp_ (thn (ha pins s σ H _ I h) fun v s1 ⟨x, H1, I1, r1, q1⟩ => ?_)
  obtain ⟨c, rfl, q1⟩ := q1
  cases r1
  exact not_of (wpAny_truthy_bool ⟨.bl (!c), H1, I1, rfl, q1⟩)
/-- a if t else b -/
def tIf (t : TT) (ta tb : TE) : TE := fun σ H Q => t σ H fun c H1 => if c = true then ta σ H1 Q else tb σ H1 Q
theorem pe_ifExp {c : Expr} (hc : PT X c tA) (ha : PE X a ta) (hb : PE X b tb) : PE X (.IfExp c a b pos) (tIf tA ta tb) := by
  intro pins s σ H Q I h
  refine wpAny_IfExp (thn (hc pins s σ H _ I h) fun d s1 ⟨H1, I1, q1⟩ => ?_)
  cases d with
  | true => exact ha pins s1 σ H1 Q I1 q1
  | false => exact hb pins s1 σ H1 Q I1 q1
end
end L2

namespace L2
open PySem PySem.Spec PyProof.Rows

/-! ### a list, a tuple that is read: tracked, frozen, or an object of the module -/
def SqL (K : PySem.W.Frag) (H : Hp) (a : Addr) (xs : List V) : Prop :=
  Rd H a (.lst xs) ∨
    ∃ (o : Obj) (its : Array Value) (n : Nat), K.lookup a = some o ∧ o.cls = .type "list" ∧ o.dict = none ∧ o.data = .seq its n ∧ its.size ≤ sizeLine ∧ Vals xs its.toList
def SqT (K : PySem.W.Frag) (H : Hp) (a : Addr) (xs : List V) : Prop :=
  Rd H a (.tup xs) ∨
    ∃ (o : Obj) (its : Array Value) (n : Nat), K.lookup a = some o ∧ o.cls = .type "tuple" ∧ o.data = .seq its n ∧ its.size ≤ sizeLine ∧ Vals xs its.toList
def absV : Value → Option V
  | .none => some .non
  | .bool b => some (.bl b)
  | .int i _ => some (.int i)
  | .str x _ => some (.str x)
  | .bytes b _ => some (.byt b)
  | .float b _ => some (.flt b)
  | .ref a => some (.ref a)
  | .type n => some (.ty n)
  | _ => none
theorem RelV.abs {x : V} {u : Value} (r : RelV x u) : absV u = some x := by
  cases x with
  | non => cases r; rfl
  | bl _ => cases r; rfl
  | int _ => obtain ⟨t, rfl⟩ := r; rfl
  | str _ => obtain ⟨t, rfl⟩ := r; rfl
  | byt _ => obtain ⟨t, rfl⟩ := r; rfl
  | flt _ => obtain ⟨t, rfl⟩ := r; rfl
  | ref _ => cases r; rfl
  | ty _ => cases r; rfl
theorem RelV.inj {x y : V} {u : Value} (r : RelV x u) (q : RelV y u) : x = y := Option.some.inj (r.abs.symm.trans q.abs)
theorem Vals.inj : ∀ {xs ys : List V} {us : List Value}, Vals xs us → Vals ys us → xs = ys
  | _, _, _, .nil, .nil => rfl
  | _, _, _, .cons r t, .cons r' t' => by rw [r.inj r', Vals.inj t t']
section
variable {X : Cx} {pins : List (Addr × Obj)} {σ : St} {H : Hp} {s : Shared} {a : Addr} {xs ys : List V}
theorem SqL.of {K : PySem.W.Frag} (h : H a = some (.lst xs)) : SqL K H a xs := .inl (.inl h)
theorem SqT.of {K : PySem.W.Frag} (h : H a = some (.tup xs)) : SqT K H a xs := .inl (.inl h)
theorem Inv.list (I : Inv X pins σ H s) (h : SqL X.K H a xs) : ∃ its : List Value, Vals xs its ∧ PlainL s.heap a its.toArray ∧ xs.length ≤ sizeLine := by
  rcases h with h | ⟨o, its, n, hk, hc, hd, hs, hz, r⟩
  · obtain ⟨z, its, n, r, e⟩ := h.ok I.hok
    exact ⟨its, r, ⟨_, n, e, rfl, rfl, rfl⟩, z⟩
  · refine ⟨its.toList, r, ⟨o, n, I.kIn a o hk, hc, hd, by simpa using hs⟩, ?_⟩
    have e := r.length
    simp only [Array.length_toList] at e
    omega
theorem Inv.tuple (I : Inv X pins σ H s) (h : SqT X.K H a xs) : ∃ its : List Value, Vals xs its ∧ IsTup s.heap a its.toArray ∧ xs.length ≤ sizeLine := by
  rcases h with h | ⟨o, its, n, hk, hc, hs, hz, r⟩
  · obtain ⟨z, its, r, p⟩ := h.ok I.hok
    exact ⟨its, r, p.tup, z⟩
  · refine ⟨its.toList, r, ⟨o, I.kIn a o hk, hc, n, by simpa using hs⟩, ?_⟩
    have e := r.length
    simp only [Array.length_toList] at e
    omega
theorem Inv.list_inj (I : Inv X pins σ H s) (h : SqL X.K H a xs) (h' : SqL X.K H a ys) : xs = ys := by
  obtain ⟨its, r, ⟨o, n, e, _, _, d⟩, _⟩ := I.list h
  obtain ⟨its', r', ⟨o', n', e', _, _, d'⟩, _⟩ := I.list h'
  rw [e] at e'; cases e'
  rw [d] at d'
  injection d' with d1 _
  have : its = its' := by simpa using congrArg Array.toList d1
  subst this
  exact r.inj r'
theorem Inv.tuple_inj (I : Inv X pins σ H s) (h : SqT X.K H a xs) (h' : SqT X.K H a ys) : xs = ys := by
  obtain ⟨its, r, ⟨o, e, _, n, d⟩, _⟩ := I.tuple h
  obtain ⟨its', r', ⟨o', e', _, n', d'⟩, _⟩ := I.tuple h'
  rw [e] at e'; cases e'
  rw [d] at d'
  injection d' with d1 _
  have : its = its' := by simpa using congrArg Array.toList d1
  subst this
  exact r.inj r'
end

/-! ### another wish about exceptions -/
abbrev Cx.wish (X : Cx) (E : Value → Shared → Prop) : Cx := { X with xe := E }
/-- no exception leaves -/
abbrev Cx.nox (X : Cx) : Cx := X.wish fun _ _ => False
theorem Cx.Ok.wish {X : Cx} (ok : X.Ok) (E : Value → Shared → Prop) : (X.wish E).Ok :=
  ⟨ok.mod, ok.kind, ok.glob, ok.blt, ok.above, ok.inj, ok.has, ok.cab, ok.hd, ok.frames, ok.stk, ok.exf, ok.bs, ok.bsz, ok.noex, ok.exfs, ok.funs, ok.frf⟩
theorem Cx.Ok.unwish {X : Cx} {E : Value → Shared → Prop} (ok : (X.wish E).Ok) : X.Ok :=
  ⟨ok.mod, ok.kind, ok.glob, ok.blt, ok.above, ok.inj, ok.has, ok.cab, ok.hd, ok.frames, ok.stk, ok.exf, ok.bs, ok.bsz, ok.noex, ok.exfs, ok.funs, ok.frf⟩
section
variable {X : Cx} {pins : List (Addr × Obj)} {σ : St} {H : Hp} {s : Shared} {E : Value → Shared → Prop}
theorem Inv.wish (I : Inv X pins σ H s) (E : Value → Shared → Prop) : Inv (X.wish E) pins σ H s := ⟨I.ok.wish E, I.os, I.bare, I.base, I.loc, I.cell, I.free, I.freeC, I.pin, I.hok, I.len⟩
theorem Inv.unwish (I : Inv (X.wish E) pins σ H s) : Inv X pins σ H s := ⟨I.ok.unwish, I.os, I.bare, I.base, I.loc, I.cell, I.free, I.freeC, I.pin, I.hok, I.len⟩
theorem SP.unwish {D : Ends} {f : Flow} {s' : Shared} (h : SP (X.wish E) pins D f s') : SP X pins D f s' := by
  cases f with
  | next => obtain ⟨σ', H', I, q⟩ := h; exact ⟨σ', H', I.unwish, q⟩
  | brk => obtain ⟨σ', H', I, q⟩ := h; exact ⟨σ', H', I.unwish, q⟩
  | cont => obtain ⟨σ', H', I, q⟩ := h; exact ⟨σ', H', I.unwish, q⟩
  | ret u => obtain ⟨v, σ', H', I, r, q⟩ := h; exact ⟨v, σ', H', I.unwish, r, q⟩
theorem PE.nox {e : Expr} {t : TE} (h : PE X.nox e t) : PE X e t := fun pins s σ H Q I hw =>
  wpAny_mono (h pins s σ H Q (I.wish _) hw) (fun _ _ ⟨v, H', I', r, q⟩ => ⟨v, H', I'.unwish, r, q⟩) fun _ _ z => False.elim z
theorem PT.nox {e : Expr} {t : TT} (h : PT X.nox e t) : PT X e t := fun pins s σ H Q I hw =>
  wpAny_mono (h pins s σ H Q (I.wish _) hw) (fun _ _ ⟨H', I', q⟩ => ⟨H', I'.unwish, q⟩) fun _ _ z => False.elim z
theorem PSs.nox {st : List Stmt} {t : TS} (h : PSs X.nox st t) : PSs X st t := fun pins s σ H D I hw =>
  wpAny_mono (h pins s σ H D (I.wish _) hw) (fun _ _ q => q.unwish) fun _ _ z => False.elim z
end

/-! ### blocks and small statements -/
section
variable {X : Cx} {st : Stmt} {rest : List Stmt} {t u : TS} {e : Expr} {te : TE} {pos : Pos}
def tNext : TS := fun D σ H => D.nx σ H
def tSeq (t u : TS) : TS := fun D σ H => t { D with nx := u D } σ H
theorem pss_nil : PSs X [] tNext := fun _ _ σ H _ I h => wpAny_execs_nil ⟨σ, H, I, h⟩
theorem pss_cons (h1 : PS X st t) (h2 : PSs X rest u) : PSs X (st :: rest) (tSeq t u) := by
  intro pins s σ H D I h
  refine wpAny_execs_cons (thn (h1 pins s σ H { D with nx := u D } I h) fun f s1 q => ?_)
  cases f with
  | next =>
    obtain ⟨σ', H', I', q⟩ := q
    exact h2 pins s1 σ' H' D I' q
  | ret v => exact q
  | brk => exact q
  | cont => exact q
theorem pss_one (h1 : PS X st t) : PSs X [st] t := by
  intro pins s σ H D I h
  refine wpAny_execs_cons (thn (h1 pins s σ H D I h) fun f s1 q => ?_)
  cases f with
  | next => exact wpAny_execs_nil q
  | ret v => exact q
  | brk => exact q
  | cont => exact q
/-- in a def's body nothing is shown -/
theorem Inv.quiet {pins : List (Addr × Obj)} {σ : St} {H : Hp} {s : Shared} (I : Inv X pins σ H s) : interactive X.env = false := by simp [interactive, I.ok.kind]
/-- an expression whose value is dropped -/
def tDrop (te : TE) : TS := fun D σ H => te σ H fun _ H1 => D.nx σ H1
theorem ps_expr (he : PE X e te) (hs : swapsWith e none pos.line X.env = pure false := by rfl) : PS X (.Expr e pos) (tDrop te) := by
  intro pins s σ H D I h
  exact wpAny_Expr_any (thn (he pins s σ H _ I h) fun v s1 ⟨x, H1, I1, r1, q1⟩ => ⟨σ, H1, I1, q1⟩) I.quiet hs
def tRet (te : TE) : TS := fun D σ H => te σ H D.rt
theorem ps_ret (he : PE X e te) : PS X (.Return (some e) pos) (tRet te) := by
  intro pins s σ H D I h
  exact wpAny_Return_some (thn (he pins s σ H _ I h) fun v s1 ⟨x, H1, I1, r1, q1⟩ => ⟨x, σ, H1, I1, r1, q1⟩)
def tIfS (c : TT) (t u : TS) : TS := fun D σ H => c σ H fun b H1 => if b = true then t D σ H1 else u D σ H1
theorem ps_if {c : Expr} {a b : List Stmt} {tc : TT} (hc : PT X c tc) (ha : PSs X a t) (hb : PSs X b u) : PS X (.If c a b pos) (tIfS tc t u) := by
  intro pins s σ H D I h
  refine wpAny_If (thn (hc pins s σ H _ I h) fun d s1 ⟨H1, I1, q1⟩ => ?_)
  cases d with
  | true => exact ha pins s1 σ H1 D I1 q1
  | false => exact hb pins s1 σ H1 D I1 q1
end

/-! ### targets -/
abbrev TG := V → St → Hp → (St → Hp → Prop) → Prop
abbrev TGs := List V → St → Hp → (St → Hp → Prop) → Prop
def PG (X : Cx) (target : Expr) (t : TG) : Prop :=
  ∀ (pins : List (Addr × Obj)) (s : Shared) (σ : St) (H : Hp) (v : V) (u : Value) (Q : St → Hp → Prop), Inv X pins σ H s → RelV v u → t v σ H Q →
    wpAny (model X.prog X.w) X.A (assign target X.env u) (fun _ s' => ∃ σ' H', Inv X pins σ' H' s' ∧ Q σ' H') X.xe s
/-- several targets, one after another -/
def PGs (X : Cx) (ts : List Expr) (t : TGs) : Prop :=
  ∀ (pins : List (Addr × Obj)) (s : Shared) (σ : St) (H : Hp) (vs : List V) (us : List Value) (Q : St → Hp → Prop), Inv X pins σ H s → Vals vs us → t vs σ H Q →
    wpAny (model X.prog X.w) X.A (assignInOrder ((assignEach ts X.env).map (·.2)) us) (fun _ s' => ∃ σ' H', Inv X pins σ' H' s' ∧ Q σ' H') X.xe s
section
variable {X : Cx} {pos : Pos}
def gName (i : Nat) : TG := fun v σ H Q => Q (σ.set i (some v)) H
theorem pg_name {i : Nat} {x : Str} (hN : X.N.Nodup) (hi : X.N[i]? = some x) (hx : Loc X.env.scope x) (hf : X.fn x = true ∨ X.env.scope.names.lookup x = some .local := by first | exact .inl rfl | exact .inr rfl | assumption) : PG X (.Name x pos) (gName i) := by
  intro pins s σ H v u Q I r h
  exact wpAny_assign_Name (store_ok I hN hi hx r (fun s' I' => ⟨_, H, I', h⟩) hf)
def gNil : TGs := fun vs σ H Q => vs = [] ∧ Q σ H
def gCons (t : TG) (u : TGs) : TGs := fun vs σ H Q => ∃ v r, vs = v :: r ∧ t v σ H fun σ' H' => u r σ' H' Q
theorem pgs_nil : PGs X [] gNil := by
  intro pins s σ H vs us Q I r h
  obtain ⟨e, h⟩ := h
  subst e
  cases r
  exact assignInOrder_nil ⟨σ, H, I, h⟩
theorem pgs_cons {e : Expr} {es : List Expr} {t : TG} {u : TGs} (h1 : PG X e t) (h2 : PGs X es u)
    (hs : (assignEach (e :: es) X.env).map (·.2) = assign e X.env :: (assignEach es X.env).map (·.2) := by rfl) : PGs X (e :: es) (gCons t u) := by
  intro pins s σ H vs us Q I r h
  obtain ⟨v, vr, e1, h⟩ := h
  subst e1
  cases r with
  | cons r rr =>
    rw [hs]
    refine assignInOrder_cons (thn (h1 pins s σ H _ _ _ I r h) fun _ s1 ⟨σ1, H1, I1, q1⟩ => ?_)
    exact h2 pins s1 σ1 H1 _ _ Q I1 rr q1
/-- (a, b, ..) = a tuple of that length -/
def gTup (K : PySem.W.Frag) (n : Nat) (t : TGs) : TG := fun v σ H Q => ∃ a xs, v = .ref a ∧ SqT K H a xs ∧ xs.length = n ∧ t xs σ H Q
theorem pg_tup {es : List Expr} {k : Nat} {t : TGs} {n : Nat} (hc : X.calm = true) (h : PGs X es t)
    (hn : (assignEach es X.env).length = n := by rfl) (hst : (assignEach es X.env).findIdx? (·.1) = none := by rfl) : PG X (.Tuple es k pos) (gTup X.K n t) := by
  intro pins s σ H v u Q I r hw
  obtain ⟨a, xs, e1, hq, hl, hw⟩ := hw
  subst e1
  cases r
  obtain ⟨its, rv, ht, hz⟩ := I.tuple hq
  refine assign_Tuple_tuple (I.ok.hd hc) ht (by simp [hn, ← hl, rv.length]) hst fun h' hx => ?_
  have I1 : Inv X pins σ H { s with heap := h' } := I.kept (t' := s.toks) fun b o e => hx b o (Nat.ne_of_lt (Heap.lt_size e)) e
  exact h pins _ σ H xs _ Q I1 (by simpa using rv) hw
/-- target = value -/
def tAsg (te : TE) (g : TG) : TS := fun D σ H => te σ H fun x H1 => g x σ H1 D.nx
/-- name = value -/
theorem ps_set {i : Nat} {x : Str} {e : Expr} {te : TE} {pos' : Pos} (hN : X.N.Nodup) (hi : X.N[i]? = some x) (hx : Loc X.env.scope x) (he : PE X e te) (hs : swapsWith e (some (.Name x pos')) pos.line X.env = pure false := by rfl) (hf : X.fn x = true ∨ X.env.scope.names.lookup x = some .local := by first | exact .inl rfl | exact .inr rfl | assumption) :
    PS X (.Assign [.Name x pos'] e pos) (tAsg te (gName i)) := by
  intro pins s σ H D I h
  refine wpAny_Assign_Name (thn (he pins s σ H _ I h) fun v s1 ⟨y, H1, I1, r1, q1⟩ => ?_) hs
  exact store_ok I1 hN hi hx r1 (fun s2 I2 => ⟨_, H1, I2, q1⟩) hf
end

/-! ### while -/
section
variable {X : Cx} {pos : Pos}
/-- the invariant W with its measure -/
def tWhile (c : TT) (tb : TS) : TS := fun D σ H => ∃ W : Nat → St → Hp → Prop, (∃ m, W m σ H) ∧ ∀ m σ H, W m σ H →
  c σ H fun b H1 => if b = true then ∃ N : St → Hp → Prop, (∀ σ' H', N σ' H' → ∃ m', m' < m ∧ W m' σ' H') ∧ tb { D with nx := N, ct := N, bk := D.nx } σ H1 else D.nx σ H1
theorem ps_while {c : Expr} {body : List Stmt} {tc : TT} {tb : TS} (hp : PassesOwn (model X.prog X.w) X.A X.env X.xe) (hc : PT X c tc) (hb : PSs X body tb) : PS X (.While c body [] pos) (tWhile tc tb) := by
  intro pins s σ H D I h
  obtain ⟨W, ⟨m0, w0⟩, turn⟩ := h
  refine wpAny_While (codeAny_whileLoop (fun n s' => ∃ σ' H', Inv X pins σ' H' s' ∧ W n σ' H') ?_ m0 ⟨σ, H, I, w0⟩)
  rintro n s1 ⟨σ1, H1, I1, w1⟩
  refine wpAny_passesOwn hp (thn (hc pins s1 σ1 H1 _ I1 (turn n σ1 H1 w1)) fun b s2 ⟨H2, I2, q2⟩ => ?_)
  cases b with
  | true =>
    obtain ⟨N, hN, q2⟩ := q2
    rw [if_pos rfl]
    refine wpAny_passesOwn hp (thn (hb pins s2 σ1 H2 _ I2 q2) fun f s3 q3 => ?_)
    cases f with
    | next =>
      obtain ⟨σ3, H3, I3, n3⟩ := q3
      obtain ⟨m', hm, w3⟩ := hN σ3 H3 n3
      exact ⟨m', hm, σ3, H3, I3, w3⟩
    | cont =>
      obtain ⟨σ3, H3, I3, n3⟩ := q3
      obtain ⟨m', hm, w3⟩ := hN σ3 H3 n3
      exact ⟨m', hm, σ3, H3, I3, w3⟩
    | brk => exact q3
    | ret v => exact q3
  | false =>
    rw [if_neg Bool.false_ne_true]
    exact wpAny_execs_nil ⟨σ1, H2, I2, q2⟩
end

/-! ### what a loop or a comprehension walks -/
/-- at turn i: it yields x (the heap may grow), or it stops -/
structure It where
  go : Nat → Hp → Prop
  yld : Nat → Hp → V → Hp → Prop
  stop : Nat → Hp → Prop
/-- the iterator's own objects may turn: they are not the frame's, not pinned, younger than the entry (or a comprehension's own) -/
def FpOk (X : Cx) (pins : List (Addr × Obj)) (H : Hp) (b : Addr) : Prop :=
  H b = none ∧ b ≠ X.env.locals ∧ b ∉ X.fs ∧ (b ∈ X.ex ∨ X.s₀.heap.objs.size ≤ b) ∧ (∀ x c, X.env.cells.lookup x = some c → c ≠ b) ∧ ∀ p ∈ X.pn ++ pins, p.1 ≠ b
theorem Inv.fpOk {X : Cx} {pins : List (Addr × Obj)} {σ : St} {H H' : Hp} {s : Shared} {b : Addr} (I : Inv X pins σ H s) (hb : s.heap.objs.size ≤ b) (hn : H' b = none) : FpOk X pins H' b := by
  refine ⟨hn, Nat.ne_of_gt (Nat.lt_of_lt_of_le I.lt hb), I.nofs hb, .inr (Nat.le_trans I.sz hb), fun x c e z => ?_, fun p hp z => ?_⟩
  · obtain ⟨v, q⟩ := I.cell x c e
    exact absurd (Nat.lt_of_lt_of_le q.lt (by rw [z]; exact hb)) (Nat.lt_irrefl _)
  · exact absurd (Nat.lt_of_lt_of_le (Heap.lt_size (I.pin p hp).1) (by rw [z]; exact hb)) (Nat.lt_irrefl _)
structure Turn (P : Program) (w : World) (K : PySem.W.Frag) (tg : Expr) (J : It) (fp : List Addr) (it : Addr) (tn : Nat → Heap → Prop) : Prop where
  mem : it ∈ fp
  obj : ∀ i h, tn i h → ∀ b ∈ fp, ∃ o, h.get? b = some o ∧ ∀ v, o.data ≠ .cell v
  keep : ∀ i h h', tn i h → (∀ b ∈ fp, ∀ o, h.get? b = some o → h'.get? b = some o) → tn i h'
  item : ∀ (X : Cx), X.prog = P → X.w = w → X.K = K → X.calm = true → ∀ (i : Nat) (pins : List (Addr × Obj)) (s : Shared) (σ : St) (H : Hp) (E : Value → Shared → Prop), Inv X pins σ H s → (∀ b ∈ fp, FpOk X pins H b) → tn i s.heap → J.go i H →
    wpAny (model P w) X.A (pyNext (.ref it)) (fun r s1 => ∃ u, r = some u ∧
      wpAny (model P w) X.A (letOwnedTupleGo tg (.ref it) u) (fun _ s2 => ∃ x H', Inv X pins σ H' s2 ∧ RelV x u ∧ J.yld i H x H' ∧ tn (i + 1) s2.heap ∧ ∀ b ∈ fp, H' b = none) E s1) E s
  done : ∀ (X : Cx), X.prog = P → X.w = w → X.K = K → X.calm = true → ∀ (i : Nat) (pins : List (Addr × Obj)) (s : Shared) (σ : St) (H : Hp) (E : Value → Shared → Prop), Inv X pins σ H s → (∀ b ∈ fp, FpOk X pins H b) → tn i s.heap → J.stop i H →
    wpAny (model P w) X.A (pyNext (.ref it)) (fun r s1 => r = none ∧ Inv X pins σ H s1) E s
  self : ∀ (A : Around) (i : Nat) (s : Shared) (Q : Value → Shared → Prop) (E : Value → Shared → Prop), tn i s.heap → Q (.ref it) s → wpAny (model P w) A (pyIter (.ref it)) Q E s
abbrev TI := St → Hp → (It → Hp → Prop) → Prop
/-- an iterator has come -/
def PIE (X : Cx) (pins : List (Addr × Obj)) (σ : St) (tg : Expr) (R : It → Hp → Prop) (itv : Value) (s2 : Shared) : Prop :=
  ∃ (it : Addr) (fp : List Addr) (tn : Nat → Heap → Prop) (J : It) (H' : Hp), itv = .ref it ∧ Inv X pins σ H' s2 ∧ Turn X.prog X.w X.K tg J fp it tn ∧ tn 0 s2.heap ∧ (∀ b ∈ fp, FpOk X pins H' b) ∧ R J H'
def PI (X : Cx) (tg iter : Expr) (wi : TI) : Prop :=
  ∀ (pins : List (Addr × Obj)) (s : Shared) (σ : St) (H : Hp) (R : It → Hp → Prop), Inv X pins σ H s → wi σ H R →
    wpAny (model X.prog X.w) X.A (eval iter X.env) (fun v s1 => wpAny (model X.prog X.w) X.A (pyIter v) (PIE X pins σ tg R) X.xe s1) X.xe s

/-- the step ahead of the store is nothing for an iterator that keeps no tuple -/
theorem go_of {M : Model} {A : Around} {E : Value → Shared → Prop} {s : Shared} {tg : Expr} {it : Addr} {u : Value} {o : Obj} {n : String} {vs : Array Value} {Q : Unit → Shared → Prop} (ho : s.heap.get? it = some o) (hc : o.cls = .type n) (hd : o.data = .fields vs)
    (hn : ["enumerate", "zip", "dict_itemiterator", "dict_reverseitemiterator", "odict_iterator", "itertools.zip_longest", "itertools.pairwise"].contains n = false) (hQ : Q () s) : wpAny M A (letOwnedTupleGo tg (.ref it) u) Q E s := by
  unfold letOwnedTupleGo
  cases tg <;> first
    | exact wpAny_pure hQ
    | (cases u <;> first
        | exact wpAny_pure hQ
        | (refine wpAny_bind (wpAny_load ho ?_)
           rw [hc, hd]
           show wpAny M A (if (["enumerate", "zip", "dict_itemiterator", "dict_reverseitemiterator", "odict_iterator", "itertools.zip_longest", "itertools.pairwise"].contains n && vs[0]? == some (rawInt _)) = true then _ else _) Q E s
           rw [if_neg (by intro h; rw [hn, Bool.false_and] at h; cases h)]
           exact wpAny_pure hQ))

/-- the list at a, as it stands at each turn (a loop may append to it) -/
def Itl (K : PySem.W.Frag) (a : Addr) : It :=
  ⟨fun i H => ∃ xs x, SqL K H a xs ∧ xs[i]? = some x, fun i H x H' => H' = H ∧ ∀ xs, SqL K H a xs → xs[i]? = some x, fun i H => ∃ xs, SqL K H a xs ∧ xs.length ≤ i⟩
def Itt (K : PySem.W.Frag) (a : Addr) : It :=
  ⟨fun i H => ∃ xs x, SqT K H a xs ∧ xs[i]? = some x, fun i H x H' => H' = H ∧ ∀ xs, SqT K H a xs → xs[i]? = some x, fun i H => ∃ xs, SqT K H a xs ∧ xs.length ≤ i⟩
/-- lo, lo + 1, .. (n of them) -/
def Itr (lo : Int) (n : Nat) : It := ⟨fun i _ => i < n, fun i H x H' => H' = H ∧ x = .int (lo + i), fun i _ => n ≤ i⟩
theorem turn_list {P : Program} {w : World} {K : PySem.W.Frag} {tg : Expr} (a it : Addr) : Turn P w K tg (Itl K a) [it] it (fun i h => h.IsListIter it a i) where
  mem := by simp
  obj := fun i h st b hb => by
    have e : b = it := by simpa using hb
    subst e
    obtain ⟨o, e, c, d⟩ := st
    exact ⟨o, e, fun v z => by rw [d] at z; cases z⟩
  keep := fun i h h' st k => st.at fun o e => k it (by simp) o e
  item := by
    intro X hP hw hK hc i pins s σ H E I hf st hg
    subst hP hw hK
    obtain ⟨xs, x, hq, hx⟩ := hg
    obtain ⟨its, rv, p, hz⟩ := I.list hq
    obtain ⟨u, hu, ru⟩ := rv.get hx
    obtain ⟨f0, f1, f2, f3, f4, f5⟩ := hf it (by simp)
    refine wpAny_pyNext_list_item st p.isList (x := u) (by simpa using hu) fun h' st' sb => ?_
    have I1 : Inv X pins σ H { s with heap := h' } := I.turned (t' := s.toks) (fun b o hb e => (sb.2 b hb).trans e) f0 f1 f3 f4 f5
    obtain ⟨o, e, c, d⟩ := id st'
    exact ⟨u, rfl, go_of (s := { s with heap := h' }) e c d (by decide) ⟨x, H, I1, ru, ⟨rfl, fun ys hy => by rw [I.list_inj hy hq]; exact hx⟩, st', fun b hb => (hf b hb).1⟩⟩
  done := by
    intro X hP hw hK hc i pins s σ H E I hf st hg
    subst hP hw hK
    obtain ⟨xs, hq, hx⟩ := hg
    obtain ⟨its, rv, p, hz⟩ := I.list hq
    obtain ⟨f0, f1, f2, f3, f4, f5⟩ := hf it (by simp)
    have hl := rv.length
    exact wpAny_pyNext_list_end (I.ok.hd hc) st p.isList (by simp; omega) fun h' eb => ⟨rfl, I.turned (t' := s.toks) (fun b o hb e => eb b o hb e) f0 f1 f3 f4 f5⟩
  self := fun _ _ _ _ _ st h => wpAny_pyIter_listiter st h
theorem turn_tuple {P : Program} {w : World} {K : PySem.W.Frag} {tg : Expr} (a it : Addr) : Turn P w K tg (Itt K a) [it] it (fun i h => h.IsTupleIter it a i) where
  mem := by simp
  obj := fun i h st b hb => by
    have e : b = it := by simpa using hb
    subst e
    obtain ⟨o, e, c, d⟩ := st
    exact ⟨o, e, fun v z => by rw [d] at z; cases z⟩
  keep := fun i h h' st k => st.at fun o e => k it (by simp) o e
  item := by
    intro X hP hw hK hc i pins s σ H E I hf st hg
    subst hP hw hK
    obtain ⟨xs, x, hq, hx⟩ := hg
    obtain ⟨its, rv, p, hz⟩ := I.tuple hq
    obtain ⟨u, hu, ru⟩ := rv.get hx
    obtain ⟨f0, f1, f2, f3, f4, f5⟩ := hf it (by simp)
    refine wpAny_pyNext_tuple_item st (show s.heap.IsTuple a its.toArray from p) (x := u) (by simpa using hu) fun h' st' sb => ?_
    have I1 : Inv X pins σ H { s with heap := h' } := I.turned (t' := s.toks) (fun b o hb e => (sb.2 b hb).trans e) f0 f1 f3 f4 f5
    obtain ⟨o, e, c, d⟩ := id st'
    exact ⟨u, rfl, go_of (s := { s with heap := h' }) e c d (by decide) ⟨x, H, I1, ru, ⟨rfl, fun ys hy => by rw [I.tuple_inj hy hq]; exact hx⟩, st', fun b hb => (hf b hb).1⟩⟩
  done := by
    intro X hP hw hK hc i pins s σ H E I hf st hg
    subst hP hw hK
    obtain ⟨xs, hq, hx⟩ := hg
    obtain ⟨its, rv, p, hz⟩ := I.tuple hq
    obtain ⟨f0, f1, f2, f3, f4, f5⟩ := hf it (by simp)
    have hl := rv.length
    exact wpAny_pyNext_tuple_end (I.ok.hd hc) st (show s.heap.IsTuple a its.toArray from p) (by simp; omega) fun h' eb => ⟨rfl, I.turned (t' := s.toks) (fun b o hb e => eb b o hb e) f0 f1 f3 f4 f5⟩
  self := fun _ _ _ _ _ st h => wpAny_pyIter_tupleiter st h
theorem turn_range {P : Program} {w : World} {K : PySem.W.Frag} {tg : Expr} (it : Addr) (lo : Int) (n : Nat) : Turn P w K tg (Itr lo n) [it] it (fun i h => IsRangeIter h it (lo + (i : Nat) * 1) ((n : Int) - (i : Nat)) 1) where
  mem := by simp
  obj := fun i h st b hb => by
    have e : b = it := by simpa using hb
    subst e
    exact ⟨_, st, fun v z => by
      have z' : Data.fields _ = Data.cell v := z
      cases z'⟩
  keep := fun i h h' st k => k it (by simp) _ st
  item := by
    intro X hP hw hK hc i pins s σ H E I hf st hg
    subst hP hw hK
    obtain ⟨f0, f1, f2, f3, f4, f5⟩ := hf it (by simp)
    have W := Walks.range (prog := X.prog) (w := X.w) (I.ok.hd hc) it lo 1 n
    refine W.item i s _ _ hg st fun v h' tk hv st' kk => ?_
    obtain ⟨t, rfl⟩ := hv
    have I1 : Inv X pins σ H { s with heap := h', toks := tk } := I.turned (fun b o hb e => kk b o (by simpa using hb) e) f0 f1 f3 f4 f5
    refine ⟨_, rfl, go_of (s := { s with heap := h', toks := tk }) (n := "range_iterator") st' rfl rfl (by decide) ⟨.int (lo + i), H, I1, ⟨t, ?_⟩, ⟨rfl, rfl⟩, st', fun b hb => (hf b hb).1⟩⟩
    rw [Int.mul_one]
  done := by
    intro X hP hw hK hc i pins s σ H E I hf st hg
    subst hP hw hK
    obtain ⟨f0, f1, f2, f3, f4, f5⟩ := hf it (by simp)
    exact wpAny_pyNext_range_end (I.ok.hd hc) st (by have : n ≤ i := hg; omega) fun h' eb => ⟨rfl, I.turned (t' := s.toks) (fun b o hb e => eb b o hb e) f0 f1 f3 f4 f5⟩
  self := fun _ _ _ _ _ st h => wpAny_pyIter_rangeiter st h
end L2

namespace L2
open PySem PySem.Spec PyProof.Rows
section
variable {X : Cx} {tg : Expr}
def iList (K : PySem.W.Frag) (tl : TE) : TI := fun σ H R => tl σ H fun x H1 => ∃ a, x = .ref a ∧ (∃ xs, SqL K H1 a xs) ∧ R (Itl K a) H1
def iTup (K : PySem.W.Frag) (tl : TE) : TI := fun σ H R => tl σ H fun x H1 => ∃ a, x = .ref a ∧ (∃ xs, SqT K H1 a xs) ∧ R (Itt K a) H1
theorem pi_list {l : Expr} {tl : TE} (hl : PE X l tl) : PI X tg l (iList X.K tl) := by
  intro pins s σ H R I h
  refine thn (hl pins s σ H _ I h) fun v s1 ⟨x, H1, I1, r1, q1⟩ => ?_
  obtain ⟨a, e, ⟨xs, hq⟩, q⟩ := q1
  subst e
  cases r1
  obtain ⟨its, rv, p, hz⟩ := I1.list hq
  refine wpAny_pyIter_list p.isList ?_
  refine ⟨s1.heap.objs.size, [s1.heap.objs.size], _, _, H1, rfl, I1.kept (t' := s1.toks) fun b o e => Heap.get?_push_of_some _ e, turn_list a _, ⟨_, Heap.get?_push_size _ rfl, rfl, rfl⟩, fun b hb => ?_, q⟩
  have e : b = s1.heap.objs.size := by simpa using hb
  subst e
  exact I1.fpOk (Nat.le_refl _) (I1.hok.fresh (Nat.le_refl _))
theorem pi_tup {l : Expr} {tl : TE} (hl : PE X l tl) : PI X tg l (iTup X.K tl) := by
  intro pins s σ H R I h
  refine thn (hl pins s σ H _ I h) fun v s1 ⟨x, H1, I1, r1, q1⟩ => ?_
  obtain ⟨a, e, ⟨xs, hq⟩, q⟩ := q1
  subst e
  cases r1
  obtain ⟨its, rv, p, hz⟩ := I1.tuple hq
  refine wpAny_pyIter_tuple (show s1.heap.IsTuple a its.toArray from p) ?_
  refine ⟨s1.heap.objs.size, [s1.heap.objs.size], _, _, H1, rfl, I1.kept (t' := s1.toks) fun b o e => Heap.get?_push_of_some _ e, turn_tuple a _, ⟨_, Heap.get?_push_size _ rfl, rfl, rfl⟩, fun b hb => ?_, q⟩
  have e : b = s1.heap.objs.size := by simpa using hb
  subst e
  exact I1.fpOk (Nat.le_refl _) (I1.hok.fresh (Nat.le_refl _))
/-- a range object just made, walked -/
theorem range_it {pins : List (Addr × Obj)} {σ : St} {H : Hp} {s : Shared} {R : It → Hp → Prop} {E : Value → Shared → Prop} {lo hi : Int} {t u v : Tok} {tk : Nat} (I : Inv X pins σ H s) (h1 : -(2 ^ 62) ≤ lo) (h2 : lo < 2 ^ 62) (h3 : -(2 ^ 62) ≤ hi) (h4 : hi < 2 ^ 62)
    (q : R (Itr lo (hi - lo).toNat) H) : wpAny (model X.prog X.w) X.A (pyIter (.ref s.heap.objs.size)) (PIE X pins σ tg R) E { s with heap := s.heap.push { cls := .type "range", data := .fields #[.int lo t, .int hi u, .int 1 v] }, toks := tk } := by
  refine wpAny_pyIter_range (IsRange.new ..) (small_one h1 h2 h3 h4) ?_
  have I1 : Inv X pins σ H { s with heap := s.heap.push { cls := .type "range", data := .fields #[.int lo t, .int hi u, .int 1 v] }, toks := tk } := I.kept fun b o e => Heap.get?_push_of_some _ e
  refine ⟨(s.heap.push { cls := .type "range", data := .fields #[.int lo t, .int hi u, .int 1 v] }).objs.size, [(s.heap.push { cls := .type "range", data := .fields #[.int lo t, .int hi u, .int 1 v] }).objs.size], _, _, H, rfl,
    I1.kept (t' := tk) fun b o e => Heap.get?_push_of_some _ e, turn_range _ lo (hi - lo).toNat, ?_, fun b hb => ?_, q⟩
  · have e1 : lo + ((0 : Nat) : Int) * 1 = lo := by simp
    have e2 : (((hi - lo).toNat : Nat) : Int) - ((0 : Nat) : Int) = Builtin.Range.rangeSize lo hi 1 := by rw [rangeSize_one]; split <;> omega
    show IsRangeIter _ _ (lo + ((0 : Nat) : Int) * 1) ((((hi - lo).toNat : Nat) : Int) - ((0 : Nat) : Int)) 1
    rw [e1, e2]
    exact Heap.get?_push_size _ rfl
  · have e : b = (s.heap.push { cls := .type "range", data := .fields #[.int lo t, .int hi u, .int 1 v] }).objs.size := by simpa using hb
    subst e
    exact I1.fpOk (Nat.le_refl _) (I1.hok.fresh (Nat.le_refl _))
def iRng1 (ta : TA) : TI := fun σ H R => ta σ H fun vs H1 => ∃ j : Int, vs = [.int j] ∧ -(2 ^ 62) ≤ j ∧ j < 2 ^ 62 ∧ R (Itr 0 j.toNat) H1
theorem pi_range1 {a : Expr} {ta : TA} {p pos : Pos} (hg : Gl X "range") (hm : X.mg "range" = none) (ha : PA X [a] ta) (hs : starEach [a] X.env = [(false, eval a X.env)] := by rfl) : PI X tg (.Call (.Name "range" p) [a] [] pos) (iRng1 ta) := by
  intro pins s σ H R I h
  refine Call_ (ld_blt I hg hm boot_range (PyProof.Rows.callWith_type1 (thn (ha pos pins s σ H _ I h) fun us s1 ⟨vs, H1, I1, r1, q1⟩ => ?_) hs rfl))
  obtain ⟨j, e, q1, q2, q⟩ := q1
  subst e
  cases r1 with
  | cons r rr =>
    cases rr
    obtain ⟨t, rfl⟩ := r
    exact call_range_1 (range_it I1 (by omega) (by omega) q1 q2 (by simpa using q))
/-! ### for -/
/-- W: the invariant by the turn and a measure; N: what the body is to reach -/
def tFor (wi : TI) (g : TG) (tb : TS) : TS := fun D σ H => wi σ H fun J H1 => ∃ W : Nat → Nat → St → Hp → Prop, (∃ m, W 0 m σ H1) ∧ ∀ i m σ H, W i m σ H →
  (J.stop i H ∧ D.nx σ H) ∨ (J.go i H ∧ ∃ N : St → Hp → Prop, (∀ σ' H', N σ' H' → ∃ m', m' < m ∧ W (i + 1) m' σ' H') ∧ ∀ x H', J.yld i H x H' → g x σ H' fun σ2 H2 => tb { D with nx := N, ct := N, bk := D.nx } σ2 H2)
/-- the records at fp as they stand -/
def pinsAt (fp : List Addr) (h : Heap) : List (Addr × Obj) := fp.filterMap fun b => (h.get? b).map fun o => (b, o)
theorem mem_pinsAt {fp : List Addr} {h : Heap} {b : Addr} {o : Obj} (hb : b ∈ fp) (e : h.get? b = some o) : (b, o) ∈ pinsAt fp h := List.mem_filterMap.mpr ⟨b, hb, by rw [e]; rfl⟩
theorem of_pinsAt {fp : List Addr} {h : Heap} {p : Addr × Obj} (hp : p ∈ pinsAt fp h) : p.1 ∈ fp ∧ h.get? p.1 = some p.2 := by
  obtain ⟨b, hb, e⟩ := List.mem_filterMap.mp hp
  cases q : h.get? b with
  | none => rw [q] at e; cases e
  | some o =>
    rw [q] at e
    have e' : (b, o) = p := Option.some.inj e
    subst e'
    exact ⟨hb, q⟩
theorem Inv.pinned {pins : List (Addr × Obj)} {σ : St} {H : Hp} {s : Shared} {fp : List Addr} (I : Inv X pins σ H s) (hf : ∀ b ∈ fp, FpOk X pins H b) (ho : ∀ b ∈ fp, ∃ o, s.heap.get? b = some o ∧ ∀ v, o.data ≠ .cell v) : Inv X (pins ++ pinsAt fp s.heap) σ H s :=
  I.pins_of fun p hp => (List.mem_append.mp hp).elim (fun z => I.pin p (List.mem_append_right _ z)) fun z => by
    obtain ⟨hb, e⟩ := of_pinsAt z
    obtain ⟨f0, f1, f2, _⟩ := hf p.1 hb
    obtain ⟨o, e', d⟩ := ho p.1 hb
    rw [e] at e'; cases e'
    exact ⟨e, f0, f1, f2, d⟩
theorem Inv.unpinned {pins pl : List (Addr × Obj)} {σ : St} {H : Hp} {s : Shared} (I : Inv X (pins ++ pl) σ H s) : Inv X pins σ H s := I.pins_of fun p hp => I.pin p (List.mem_append_right _ (List.mem_append_left _ hp))
theorem ps_for {iter : Expr} {body : List Stmt} {wi : TI} {g : TG} {tb : TS} {pos : Pos} (hp : PassesOwn (model X.prog X.w) X.A X.env X.xe) (hc : X.calm = true) (hi : PI X tg iter wi) (hg : PG X tg g) (hb : PSs X body tb)
    (hs : ∀ x, foldedSetIterable iter X.env x = pure x := by intro _; rfl) : PS X (.For tg iter body [] pos) (tFor wi g tb) := by
  intro pins s σ H D I h
  refine wpAny_For (thn (hi pins s σ H _ I h) fun v s1 h1 => thn h1 fun itv s2 h2 => ?_) hs
  obtain ⟨it, fp, tn, J, H2, e, I2, T, st2, f2, W, ⟨m0, w0⟩, turn⟩ := h2
  subst e
  -- what stays true of the iterator's objects through the loop
  have stat : ∀ {H' : Hp}, (∀ b ∈ fp, H' b = none) → ∀ b ∈ fp, FpOk X pins H' b := fun hn b hb => ⟨hn b hb, (f2 b hb).2⟩
  refine codeAny_forLoop_any (fun n s' => ∃ i σ' H', Inv X pins σ' H' s' ∧ tn i s'.heap ∧ (∀ b ∈ fp, H' b = none) ∧ W i n σ' H') ?_ m0 ⟨0, σ, H2, I2, st2, fun b hb => (f2 b hb).1, w0⟩
  rintro n s3 ⟨i, σ3, H3, I3, st3, fr3, w3⟩
  rcases turn i n σ3 H3 w3 with ⟨stop, qn⟩ | ⟨go, N, hN, step⟩
  · refine wpAny_passesOwn hp (thn (T.done X rfl rfl rfl hc i pins s3 σ3 H3 X.xe I3 (stat fr3) st3 stop) fun r s4 ⟨hr, I4⟩ => ?_)
    subst hr
    exact wpAny_execs_nil ⟨σ3, H3, I4, qn⟩
  · refine wpAny_passesOwn hp (thn (T.item X rfl rfl rfl hc i pins s3 σ3 H3 X.xe I3 (stat fr3) st3 go) fun r s4 ⟨u, hr, h4⟩ => ?_)
    subst hr
    refine wpAny_passesOwn hp (thn h4 fun _ s5 ⟨x, H5, I5, r5, y5, st5, fr5⟩ => ?_)
    have I5' := I5.pinned (stat fr5) (T.obj _ _ st5)
    refine wpAny_passesOwn hp (thn (hg _ s5 σ3 H5 x u _ I5' r5 (step x H5 y5)) fun _ s6 ⟨σ6, H6, I6, q6⟩ => ?_)
    refine wpAny_passesOwn hp (thn (hb _ s6 σ6 H6 _ I6 q6) fun f s7 q7 => ?_)
    have again : ∀ {σ7 : St} {H7 : Hp}, Inv X (pins ++ pinsAt fp s5.heap) σ7 H7 s7 → N σ7 H7 → ∃ m, m < n ∧ ∃ i σ' H', Inv X pins σ' H' s7 ∧ tn i s7.heap ∧ (∀ b ∈ fp, H' b = none) ∧ W i m σ' H' := fun {σ7 H7} I7 n7 => by
      obtain ⟨m', hm, w7⟩ := hN σ7 H7 n7
      refine ⟨m', hm, i + 1, σ7, H7, I7.unpinned, T.keep _ _ _ st5 fun b hb o e => (I7.pin (b, o) (List.mem_append_right _ (List.mem_append_right _ (mem_pinsAt hb e)))).1, fun b hb => ?_, w7⟩
      obtain ⟨o, e, d⟩ := T.obj _ _ st5 b hb
      exact (I7.pin (b, o) (List.mem_append_right _ (List.mem_append_right _ (mem_pinsAt hb e)))).2.1
    cases f with
    | next => obtain ⟨σ7, H7, I7, n7⟩ := q7; exact again I7 n7
    | cont => obtain ⟨σ7, H7, I7, n7⟩ := q7; exact again I7 n7
    | brk => obtain ⟨σ7, H7, I7, q7⟩ := q7; exact ⟨σ7, H7, I7.unpinned, q7⟩
    | ret v => obtain ⟨x7, σ7, H7, I7, r7, q7⟩ := q7; exact ⟨x7, σ7, H7, I7.unpinned, r7, q7⟩
end

/-! ### the forms one uses -/
/-- over a list that the body leaves as it is -/
theorem for_list {K : PySem.W.Frag} {a : Addr} {xs : List V} {g : TG} {tb : TS} {D : Ends} {σ : St} {H : Hp} (Pv : Nat → St → Hp → Prop) (h0 : Pv 0 σ H) (hl : ∀ i σ H, i ≤ xs.length → Pv i σ H → SqL K H a xs)
    (hs : ∀ i x σ H, xs[i]? = some x → Pv i σ H → g x σ H fun σ2 H2 => tb { D with nx := Pv (i + 1), ct := Pv (i + 1), bk := D.nx } σ2 H2) (hd : ∀ σ H, Pv xs.length σ H → D.nx σ H) :
    ∃ W : Nat → Nat → St → Hp → Prop, (∃ m, W 0 m σ H) ∧ ∀ i m σ H, W i m σ H →
      ((Itl K a).stop i H ∧ D.nx σ H) ∨ ((Itl K a).go i H ∧ ∃ N : St → Hp → Prop, (∀ σ' H', N σ' H' → ∃ m', m' < m ∧ W (i + 1) m' σ' H') ∧ ∀ x H', (Itl K a).yld i H x H' → g x σ H' fun σ2 H2 => tb { D with nx := N, ct := N, bk := D.nx } σ2 H2) := by
  refine ⟨fun i m σ H => m = xs.length - i ∧ i ≤ xs.length ∧ Pv i σ H, ⟨xs.length, by simp, Nat.zero_le _, h0⟩, ?_⟩
  rintro i m σ H ⟨rfl, hi, p⟩
  have q := hl i σ H hi p
  by_cases hlt : i < xs.length
  · refine .inr ⟨⟨xs, xs[i], q, by simp [hlt]⟩, Pv (i + 1), fun σ' H' p' => ⟨xs.length - (i + 1), by omega, rfl, hlt, p'⟩, fun x H' y => ?_⟩
    obtain ⟨e, y⟩ := y
    subst e
    exact hs i x σ _ (y xs q) p
  · have e : i = xs.length := by omega
    subst e
    exact .inl ⟨⟨xs, q, Nat.le_refl _⟩, hd σ H p⟩
theorem for_range {lo : Int} {n : Nat} {g : TG} {tb : TS} {D : Ends} {σ : St} {H : Hp} (Pv : Nat → St → Hp → Prop) (h0 : Pv 0 σ H)
    (hs : ∀ i σ H, i < n → Pv i σ H → g (.int (lo + i)) σ H fun σ2 H2 => tb { D with nx := Pv (i + 1), ct := Pv (i + 1), bk := D.nx } σ2 H2) (hd : ∀ σ H, Pv n σ H → D.nx σ H) :
    ∃ W : Nat → Nat → St → Hp → Prop, (∃ m, W 0 m σ H) ∧ ∀ i m σ H, W i m σ H →
      ((Itr lo n).stop i H ∧ D.nx σ H) ∨ ((Itr lo n).go i H ∧ ∃ N : St → Hp → Prop, (∀ σ' H', N σ' H' → ∃ m', m' < m ∧ W (i + 1) m' σ' H') ∧ ∀ x H', (Itr lo n).yld i H x H' → g x σ H' fun σ2 H2 => tb { D with nx := N, ct := N, bk := D.nx } σ2 H2) := by
  refine ⟨fun i m σ H => m = n - i ∧ i ≤ n ∧ Pv i σ H, ⟨n, by simp, Nat.zero_le _, h0⟩, ?_⟩
  rintro i m σ H ⟨rfl, hi, p⟩
  by_cases hlt : i < n
  · refine .inr ⟨hlt, Pv (i + 1), fun σ' H' p' => ⟨n - (i + 1), by omega, rfl, hlt, p'⟩, fun x H' y => ?_⟩
    obtain ⟨e, y⟩ := y
    subst e y
    exact hs i σ _ hlt p
  · have e : i = n := by omega
    subst e
    exact .inl ⟨Nat.le_refl _, hd σ H p⟩
end L2

namespace L2
open PySem PySem.Spec PyProof.Rows

abbrev R2 := V → V → Hp → VK → Prop
/-- a two-place operation on values: f is binaryOp op, inplaceOp op or compareOp op -/
def OpR (X : Cx) (f : Value → Value → Sem Value) (r : R2) : Prop :=
  ∀ (pins : List (Addr × Obj)) (s : Shared) (σ : St) (H : Hp) (x y : V) (v u : Value) (Q : VK), Inv X pins σ H s → RelV x v → RelV y u → r x y H Q →
    wpAny (model X.prog X.w) X.A (f v u) (EP X pins σ Q) X.xe s
/-- a one-place operation -/
def UnR (X : Cx) (f : Value → Sem Value) (r : V → Hp → VK → Prop) : Prop :=
  ∀ (pins : List (Addr × Obj)) (s : Shared) (σ : St) (H : Hp) (x : V) (v : Value) (Q : VK), Inv X pins σ H s → RelV x v → r x H Q →
    wpAny (model X.prog X.w) X.A (f v) (EP X pins σ Q) X.xe s
/-- a call of a value that is known (a builtin, a type) with values -/
def CallR (X : Cx) (f : Value) (r : List V → Hp → VK → Prop) : Prop :=
  ∀ (pins : List (Addr × Obj)) (s : Shared) (σ : St) (H : Hp) (xs : List V) (us : List Value) (Q : VK), Inv X pins σ H s → Vals xs us → r xs H Q →
    wpAny (model X.prog X.w) X.A (call f us) (EP X pins σ Q) X.xe s
/-- a value's truth -/
def TruR (X : Cx) (r : V → Hp → (Bool → Hp → Prop) → Prop) : Prop :=
  ∀ (pins : List (Addr × Obj)) (s : Shared) (σ : St) (H : Hp) (x : V) (v : Value) (Q : Bool → Hp → Prop), Inv X pins σ H s → RelV x v → r x H Q →
    wpAny (model X.prog X.w) X.A (truthy v) (TP X pins σ Q) X.xe s

def tOp (r : R2) (ta tb : TE) : TE := fun σ H Q => ta σ H fun x H1 => tb σ H1 fun y H2 => r x y H2 Q
def tUn (r : V → Hp → VK → Prop) (ta : TE) : TE := fun σ H Q => ta σ H fun x H1 => r x H1 Q
/-- ints in, under C, and a value out -/
def rI (C : Int → Int → Prop) (g : Int → Int → V) : R2 := fun x y H Q => ∃ i j, x = .int i ∧ y = .int j ∧ C i j ∧ Q (g i j) H
def rI0 (g : Int → Int → V) : R2 := fun x y H Q => ∃ i j, x = .int i ∧ y = .int j ∧ Q (g i j) H
def rU (g : Int → V) : V → Hp → VK → Prop := fun x H Q => ∃ i, x = .int i ∧ Q (g i) H

section
variable {X : Cx} {a b c : Expr} {ta tb tc : TE} {pos : Pos}

theorem binT (ha : PE X a ta) (hb : PE X b tb) {pins : List (Addr × Obj)} {s : Shared} {σ : St} {H : Hp} {R : V → V → Hp → Prop} (I : Inv X pins σ H s)
    (h : ta σ H fun x H1 => tb σ H1 fun y H2 => R x y H2) {Q : Value → Shared → Prop} {f : Value → Value → Sem Value}
    (hf : ∀ v u s2 x y H2, Inv X pins σ H2 s2 → RelV x v → RelV y u → R x y H2 → wpAny (model X.prog X.w) X.A (f v u) Q X.xe s2) :
    wpAny (model X.prog X.w) X.A (eval a X.env) (fun v s₁ => wpAny (model X.prog X.w) X.A (eval b X.env) (fun u s₂ => wpAny (model X.prog X.w) X.A (f v u) Q X.xe s₂) X.xe s₁) X.xe s := by
  refine thn (ha pins s σ H _ I h) fun v s1 ⟨x, H1, I1, r1, q1⟩ => ?_
  refine thn (hb pins s1 σ H1 _ I1 q1) fun u s2 ⟨y, H2, I2, r2, q2⟩ => ?_
  exact hf v u s2 x y H2 I2 r1 r2 q2

theorem pe_op {op : Operator} {r : R2} (ho : OpR X (binaryOp op) r) (ha : PE X a ta) (hb : PE X b tb) : PE X (.BinOp a op b pos) (tOp r ta tb) := by
  intro pins s σ H Q I h
  exact wpAny_BinOp (binT ha hb I h fun v u s2 x y H2 I2 rx ry q => ho pins s2 σ H2 x y v u Q I2 rx ry q)
theorem pe_un {op : UnaryOp} {r : V → Hp → VK → Prop} (ho : UnR X (unaryOp op) r) (ha : PE X a ta) : PE X (.UnaryOp op a pos) (tUn r ta) := by
  intro pins s σ H Q I h
  exact UnaryOp_ (thn (ha pins s σ H _ I h) fun v s1 ⟨x, H1, I1, r1, q1⟩ => ho pins s1 σ H1 x v Q I1 r1 q1)
/-! ### ints -/
theorem opI {f : Value → Value → Sem Value} {C : Int → Int → Prop} {g : Int → Int → Int}
    (rule : ∀ (i j : Int) (t u : Tok) (s : Shared) (Q : Value → Shared → Prop) (E : Value → Shared → Prop), C i j → Q (.int (g i j) s.toks) { s with toks := s.toks + 1 } → wpAny (model X.prog X.w) X.A (f (.int i t) (.int j u)) Q E s) :
    OpR X f (rI C fun i j => .int (g i j)) := by
  intro pins s σ H x y v u Q I rx ry h
  obtain ⟨i, j, rfl, rfl, hc, q⟩ := h
  obtain ⟨t, rfl⟩ := rx
  obtain ⟨t', rfl⟩ := ry
  exact rule i j t t' s _ _ hc ⟨.int (g i j), H, I.tok _, ⟨_, rfl⟩, q⟩
theorem opI0 {f : Value → Value → Sem Value} {g : Int → Int → Int}
    (rule : ∀ (i j : Int) (t u : Tok) (s : Shared) (Q : Value → Shared → Prop) (E : Value → Shared → Prop), Q (.int (g i j) s.toks) { s with toks := s.toks + 1 } → wpAny (model X.prog X.w) X.A (f (.int i t) (.int j u)) Q E s) :
    OpR X f (rI0 fun i j => .int (g i j)) := by
  intro pins s σ H x y v u Q I rx ry h
  obtain ⟨i, j, rfl, rfl, q⟩ := h
  obtain ⟨t, rfl⟩ := rx
  obtain ⟨t', rfl⟩ := ry
  exact rule i j t t' s _ _ ⟨.int (g i j), H, I.tok _, ⟨_, rfl⟩, q⟩
theorem opB0 {f : Value → Value → Sem Value} {g : Int → Int → Bool}
    (rule : ∀ (i j : Int) (t u : Tok) (s : Shared) (Q : Value → Shared → Prop) (E : Value → Shared → Prop), Q (.bool (g i j)) s → wpAny (model X.prog X.w) X.A (f (.int i t) (.int j u)) Q E s) :
    OpR X f (rI0 fun i j => .bl (g i j)) := by
  intro pins s σ H x y v u Q I rx ry h
  obtain ⟨i, j, rfl, rfl, q⟩ := h
  obtain ⟨t, rfl⟩ := rx
  obtain ⟨t', rfl⟩ := ry
  exact rule i j t t' s _ _ ⟨.bl (g i j), H, I, rfl, q⟩

def CDiv (i j : Int) : Prop := 0 < j ∧ j < 1073741824
def CPow (i j : Int) : Prop := 0 ≤ j ∧ j ≤ 1000000 ∧ i.natAbs < 2 ^ 64
def CMul (i j : Int) : Prop := (-(2 ^ 64) < i ∧ i < 2 ^ 64) ∨ (-(2 ^ 64) < j ∧ j < 2 ^ 64)
theorem CMul.ok {i j : Int} (h : CMul i j) : IntMulOk i j := by
  rcases h with ⟨h1, h2⟩ | ⟨h1, h2⟩
  · exact .of_left (intBits_le_64 h1 h2)
  · exact .of_right (intBits_le_64 h1 h2)
theorem two_pow_nn (k : Nat) : (0 : Int) ≤ 2 ^ k := by
  rw [two_pow_cast]
  exact Int.natCast_nonneg _

theorem op_add : OpR X (binaryOp .Add) (rI0 fun i j => .int (i + j)) := opI0 fun _ _ _ _ _ _ _ q => add_int q
theorem op_sub : OpR X (binaryOp .Sub) (rI0 fun i j => .int (i - j)) := opI0 fun _ _ _ _ _ _ _ q => sub_int q
theorem op_mul : OpR X (binaryOp .Mult) (rI CMul fun i j => .int (i * j)) := opI fun _ _ _ _ _ _ _ hc q => mul_int q hc.ok
/-- // by a positive divisor -/
theorem op_fdiv : OpR X (binaryOp .FloorDiv) (rI CDiv fun i j => .int (i / j)) := opI fun i j _ _ _ _ _ hc q => by
  have h1 : (0 : Int) < j := hc.1
  have h2 : j < 1073741824 := hc.2
  exact floordiv_int (by omega) (by rw [Int.fdiv_eq_ediv_of_nonneg i (by omega)]; exact q) (.inl (PyProof.noPylong_small (by omega)))
/-- % by a positive divisor of any size -/
theorem op_mod : OpR X (binaryOp .Mod) (rI (fun _ j => 0 < j) fun i j => .int (i % j)) := opI fun i j _ _ _ _ _ hc q => by
  have h1 : (0 : Int) < j := hc
  exact mod_int' (by omega) (by rw [Int.fmod_eq_emod_of_nonneg i (by omega)]; exact q)
theorem op_pow : OpR X (binaryOp .Pow) (rI CPow fun i j => .int (i ^ j.toNat)) := opI fun _ _ _ _ _ _ _ hc q => pow_int_small hc.1 hc.2.1 hc.2.2 q
theorem op_shl : OpR X (binaryOp .LShift) (rI CPow fun i j => .int (i * 2 ^ j.toNat)) := opI fun _ _ _ _ _ _ _ hc q => lshift_int_small hc.1 hc.2.1 hc.2.2 q
theorem op_shr : OpR X (binaryOp .RShift) (rI (fun _ j => 0 ≤ j) fun i j => .int (i / 2 ^ j.toNat)) := opI fun i j _ _ _ _ _ hc q =>
  rshift_int hc (by rw [Int.fdiv_eq_ediv_of_nonneg i (two_pow_nn _)]; exact q)
theorem op_and : OpR X (binaryOp .BitAnd) (rI0 fun i j => .int (Builtin.bitAnd i j)) := opI0 fun _ _ _ _ _ _ _ q => and_int q
theorem op_or : OpR X (binaryOp .BitOr) (rI0 fun i j => .int (Builtin.bitOr i j)) := opI0 fun _ _ _ _ _ _ _ q => or_int q
theorem op_xor : OpR X (binaryOp .BitXor) (rI0 fun i j => .int (Builtin.bitXor i j)) := opI0 fun _ _ _ _ _ _ _ q => xor_int q

theorem unI {f : Value → Sem Value} {g : Int → Int}
    (rule : ∀ (i : Int) (t : Tok) (s : Shared) (Q : Value → Shared → Prop) (E : Value → Shared → Prop), Q (.int (g i) s.toks) { s with toks := s.toks + 1 } → wpAny (model X.prog X.w) X.A (f (.int i t)) Q E s) :
    UnR X f (rU fun i => .int (g i)) := by
  intro pins s σ H x v Q I rx h
  obtain ⟨i, rfl, q⟩ := h
  obtain ⟨t, rfl⟩ := rx
  exact rule i t s _ _ ⟨.int (g i), H, I.tok _, ⟨_, rfl⟩, q⟩
theorem un_neg : UnR X (unaryOp .USub) (rU fun i => .int (-i)) := unI fun _ _ _ _ _ q => neg_int q
/-! ### bools among ints: n += (a < b) -/
end

/-! ### comparisons -/
/-- the scalars that == tells apart as data does -/
def scal : V → V → Bool
  | .non, .non => true | .non, .int _ => true | .int _, .non => true | .non, .bl _ => true | .bl _, .non => true | .non, .str _ => true | .str _, .non => true
  | .int _, .int _ => true | .bl _, .bl _ => true | .str _, .str _ => true | .byt _, .byt _ => true
  | .int _, .str _ => true | .str _, .int _ => true | .bl _, .str _ => true | .str _, .bl _ => true
  | _, _ => false
def rEq : R2 := fun x y H Q => scal x y = true ∧ Q (.bl (decide (x = y))) H
def rNe : R2 := fun x y H Q => scal x y = true ∧ Q (.bl (!decide (x = y))) H

theorem dec_int {i j : Int} : decide (V.int i = V.int j) = (i == j) := by
  rw [Bool.eq_iff_iff]
  simp
theorem dec_bl {i j : Bool} : decide (V.bl i = V.bl j) = (i == j) := by
  rw [Bool.eq_iff_iff]
  simp
theorem dec_str {i j : Str} : decide (V.str i = V.str j) = (i == j) := by
  rw [Bool.eq_iff_iff]
  simp
theorem dec_byt {i j : Array UInt8} : decide (V.byt i = V.byt j) = (i.toList == j.toList) := by
  rw [Bool.eq_iff_iff]
  cases i
  cases j
  simp

section
variable {X : Cx} {a b c : Expr} {ta tb tc : TE} {pos : Pos}
theorem fin_bl {pins : List (Addr × Obj)} {σ : St} {H : Hp} {s : Shared} {Q : VK} {k k' : Bool} (I : Inv X pins σ H s) (q : Q (.bl k) H) (e : k = k') : EP X pins σ Q (.bool k') s := by
  subst e
  exact ⟨.bl k, H, I, rfl, q⟩
theorem op_eq : OpR X (compareOp .Eq) rEq := by
  intro pins s σ H x y v u Q I rx ry h
  obtain ⟨hs, q⟩ := h
  cases x with
  | non =>
    cases rx
    cases y with
    | non => cases ry; exact PySem.EqNone.eq_none_none (fin_bl I q (by simp))
    | bl j => cases ry; exact PySem.EqNone.eq_none_bool (fin_bl I q (by simp))
    | int j => obtain ⟨t', rfl⟩ := ry; exact PySem.EqNone.eq_none_int (fin_bl I q (by simp))
    | str j => obtain ⟨t', rfl⟩ := ry; exact PySem.EqNone.eq_none_str (fin_bl I q (by simp))
    | _ => exact absurd (show false = true from hs) Bool.false_ne_true
  | bl i =>
    cases rx
    cases y with
    | non => cases ry; exact PySem.EqNone.eq_bool_none (fin_bl I q (by simp))
    | bl j => cases ry; exact eq_bool (fin_bl I q dec_bl)
    | str j => obtain ⟨t', rfl⟩ := ry; exact PySem.EqMixed.eq_bool_str (fin_bl I q (by simp))
    | _ => exact absurd (show false = true from hs) Bool.false_ne_true
  | int i =>
    obtain ⟨t, rfl⟩ := rx
    cases y with
    | non => cases ry; exact PySem.EqNone.eq_int_none (fin_bl I q (by simp))
    | int j => obtain ⟨t', rfl⟩ := ry; exact eq_int (fin_bl I q dec_int)
    | str j => obtain ⟨t', rfl⟩ := ry; exact PySem.EqMixed.eq_int_str (fin_bl I q (by simp))
    | _ => exact absurd (show false = true from hs) Bool.false_ne_true
  | str i =>
    obtain ⟨t, rfl⟩ := rx
    cases y with
    | non => cases ry; exact PySem.EqNone.eq_str_none (fin_bl I q (by simp))
    | bl j => cases ry; exact PySem.EqMixed.eq_str_bool (fin_bl I q (by simp))
    | int j => obtain ⟨t', rfl⟩ := ry; exact PySem.EqMixed.eq_str_int (fin_bl I q (by simp))
    | str j => obtain ⟨t', rfl⟩ := ry; exact eq_str (fin_bl I q dec_str)
    | _ => exact absurd (show false = true from hs) Bool.false_ne_true
  | byt i =>
    obtain ⟨t, rfl⟩ := rx
    cases y with
    | byt j => obtain ⟨t', rfl⟩ := ry; exact PySem.W.eq_bytes (fin_bl I q dec_byt)
    | _ => exact absurd (show false = true from hs) Bool.false_ne_true
  | _ => cases y <;> exact absurd (show false = true from hs) Bool.false_ne_true
theorem op_ne : OpR X (compareOp .NotEq) rNe := by
  intro pins s σ H x y v u Q I rx ry h
  obtain ⟨hs, q⟩ := h
  cases x with
  | non =>
    cases rx
    cases y with
    | non => cases ry; exact PySem.EqNone.ne_none_none (fin_bl I q (by simp))
    | bl j => cases ry; exact PySem.EqNone.ne_none_bool (fin_bl I q (by simp))
    | int j => obtain ⟨t', rfl⟩ := ry; exact PySem.EqNone.ne_none_int (fin_bl I q (by simp))
    | str j => obtain ⟨t', rfl⟩ := ry; exact PySem.EqNone.ne_none_str (fin_bl I q (by simp))
    | _ => exact absurd (show false = true from hs) Bool.false_ne_true
  | bl i =>
    cases rx
    cases y with
    | non => cases ry; exact PySem.EqNone.ne_bool_none (fin_bl I q (by simp))
    | bl j => cases ry; exact ne_bool (fin_bl I q (congrArg not dec_bl))
    | str j => obtain ⟨t', rfl⟩ := ry; exact PySem.EqMixed.ne_bool_str (fin_bl I q (by simp))
    | _ => exact absurd (show false = true from hs) Bool.false_ne_true
  | int i =>
    obtain ⟨t, rfl⟩ := rx
    cases y with
    | non => cases ry; exact PySem.EqNone.ne_int_none (fin_bl I q (by simp))
    | int j => obtain ⟨t', rfl⟩ := ry; exact ne_int (fin_bl I q (congrArg not dec_int))
    | str j => obtain ⟨t', rfl⟩ := ry; exact PySem.EqMixed.ne_int_str (fin_bl I q (by simp))
    | _ => exact absurd (show false = true from hs) Bool.false_ne_true
  | str i =>
    obtain ⟨t, rfl⟩ := rx
    cases y with
    | non => cases ry; exact PySem.EqNone.ne_str_none (fin_bl I q (by simp))
    | bl j => cases ry; exact PySem.EqMixed.ne_str_bool (fin_bl I q (by simp))
    | int j => obtain ⟨t', rfl⟩ := ry; exact PySem.EqMixed.ne_str_int (fin_bl I q (by simp))
    | str j => obtain ⟨t', rfl⟩ := ry; exact ne_str (fin_bl I q (congrArg not dec_str))
    | _ => exact absurd (show false = true from hs) Bool.false_ne_true
  | byt i =>
    obtain ⟨t, rfl⟩ := rx
    cases y with
    | byt j => obtain ⟨t', rfl⟩ := ry; exact PySem.W.ne_bytes (fin_bl I q (congrArg not dec_byt))
    | _ => exact absurd (show false = true from hs) Bool.false_ne_true
  | _ => cases y <;> exact absurd (show false = true from hs) Bool.false_ne_true

theorem op_lt : OpR X (compareOp .Lt) (rI0 fun i j => .bl (decide (i < j))) := opB0 fun _ _ _ _ _ _ _ q => lt_int q
theorem op_gt : OpR X (compareOp .Gt) (rI0 fun i j => .bl (decide (j < i))) := opB0 fun _ _ _ _ _ _ _ q => gt_int q
/-- two rules for one operation: by cases -/
theorem OpR.or {f : Value → Value → Sem Value} {r r' : R2} (h : OpR X f r) (h' : OpR X f r') : OpR X f (fun x y H Q => r x y H Q ∨ r' x y H Q) := by
  intro pins s σ H x y v u Q I rx ry q
  rcases q with q | q
  · exact h pins s σ H x y v u Q I rx ry q
  · exact h' pins s σ H x y v u Q I rx ry q

theorem nomark (b : Expr) {op : CmpOp} (h : op ≠ .In := by decide) (h2 : op ≠ .NotIn := by decide) : behindInMarks op b = false := by
  have e1 : (op == CmpOp.In) = false := by cases op <;> first | rfl | exact absurd rfl h
  have e2 : (op == CmpOp.NotIn) = false := by cases op <;> first | rfl | exact absurd rfl h2
  cases b <;> simp [behindInMarks, e1, e2]
/-- a comparison as a value; hm: nomark b, or (for in, not in) by with_unfolding_all rfl -/
theorem pe_cmpR {op : CmpOp} {r : R2} (ho : OpR X (compareOp op) r) (ha : PE X a ta) (hb : PE X b tb) (hm : behindInMarks op b = false) : PE X (.Compare a [op] [b] pos) (tOp r ta tb) := by
  intro pins s σ H Q I h
  exact wpAny_Compare1 (binT ha hb I h fun v u s2 x y H2 I2 rx ry q => ho pins s2 σ H2 x y v u Q I2 rx ry q) hm
/-- a reading of a value as a test -/
def tTest (t : TE) : TT := fun σ H Q => t σ H fun x H' => ∃ k, x = .bl k ∧ Q k H'
theorem pt_cmpR {op : CmpOp} {r : R2} (ho : OpR X (compareOp op) r) (ha : PE X a ta) (hb : PE X b tb) (hm : behindInMarks op b = false) : PT X (.Compare a [op] [b] pos) (tTest (tOp r ta tb)) := by
  intro pins s σ H Q I h
  refine wpAny_isTrue_Compare1 (thn (ha pins s σ H _ I h) fun v s1 ⟨x, H1, I1, r1, q1⟩ => thn (hb pins s1 σ H1 _ I1 q1) fun u s2 ⟨y, H2, I2, r2, q2⟩ =>
    thn (ho pins s2 σ H2 x y v u _ I2 r1 r2 q2) fun c s3 ⟨z, H3, I3, r3, k, e, q3⟩ => ?_) hm
  subst e
  cases r3
  exact wpAny_truthy_bool ⟨H3, I3, q3⟩
/-! ### truth -/
/-- a value's truth by the abstract heap -/
def TruV (K : PySem.W.Frag) (x : V) (H : Hp) (k : Bool) : Prop :=
  match x with
  | .non => k = false
  | .bl b => k = b
  | .int i => k = (i != 0)
  | .str y => y.length ≤ sizeLine ∧ k = ((y.length : Int) != 0)
  | .byt y => y.size ≤ sizeLine ∧ k = ((y.size : Int) != 0)
  | .ref p => (∃ xs, SqL K H p xs ∧ k = !xs.isEmpty) ∨ (∃ xs, SqT K H p xs ∧ k = !xs.isEmpty) ∨ ∃ kvs, H p = some (.dK kvs) ∧ k = !kvs.isEmpty
  | _ => False
theorem isEmpty_kv {κ : Type} {kvs : List (κ × V)} {vs : List (κ × Value)} (r : KV kvs vs) : (!vs.isEmpty) = !kvs.isEmpty := by
  cases r <;> rfl
theorem isEmpty_of {xs : List V} {its : List Value} (r : Vals xs its) : (!its.toArray.isEmpty) = !xs.isEmpty := by
  cases r <;> simp
theorem line63 : (sizeLine : Nat) < 2 ^ 63 := by rw [sizeLine_eq]; decide
theorem tru_ok : TruR X (fun x H Q => ∃ k, TruV X.K x H k ∧ Q k H) := by
  intro pins s σ H x v Q I rx h
  obtain ⟨k, e, q⟩ := h
  have hl := line63
  have hs : sizeLine = 16777216 := sizeLine_eq
  cases x with
  | non =>
    cases rx
    have e' : k = false := e
    subst e'
    exact truthy_none ⟨H, I, q⟩
  | bl b =>
    cases rx
    have e' : k = b := e
    subst e'
    exact wpAny_truthy_bool ⟨H, I, q⟩
  | int i =>
    obtain ⟨t, rfl⟩ := rx
    have e' : k = (i != 0) := e
    subst e'
    exact PySem.P.truthy_int ⟨H, I, q⟩
  | str y =>
    obtain ⟨t, rfl⟩ := rx
    obtain ⟨hy, e'⟩ : y.length ≤ sizeLine ∧ k = ((y.length : Int) != 0) := e
    subst e'
    exact PySem.P.truthy_str (by omega) ⟨H, I.tok _, q⟩
  | byt y =>
    obtain ⟨t, rfl⟩ := rx
    obtain ⟨hy, e'⟩ : y.size ≤ sizeLine ∧ k = ((y.size : Int) != 0) := e
    subst e'
    exact PySem.W.truthy_bytes (by omega) ⟨H, I.tok _, q⟩
  | ref p =>
    cases rx
    have e' : (∃ xs, SqL X.K H p xs ∧ k = !xs.isEmpty) ∨ (∃ xs, SqT X.K H p xs ∧ k = !xs.isEmpty) ∨ ∃ kvs, H p = some (.dK kvs) ∧ k = !kvs.isEmpty := e
    rcases e' with ⟨xs, hx, e'⟩ | ⟨xs, hx, e'⟩ | ⟨kvs, hx, e'⟩
    · subst e'
      obtain ⟨its, r, pl, hz⟩ := I.list hx
      have hlen := r.length
      exact wpAny_truthy_list pl.isList (by simp only [List.size_toArray]; omega) ⟨H, I.tok _, by rw [isEmpty_of r]; exact q⟩
    · subst e'
      obtain ⟨its, r, pl, hz⟩ := I.tuple hx
      have hlen := r.length
      exact truthy_tuple pl (by simp only [List.size_toArray]; omega) ⟨H, I.tok _, by rw [isEmpty_of r]; exact q⟩
    · subst e'
      obtain ⟨hz, hS, vs, r, m⟩ : kvs.length ≤ sizeLine ∧ (p == sysModules) = false ∧ ∃ vs, KV kvs vs ∧ s.heap.DictOf (mixKind X.prog X.w) p vs := I.hok p _ hx
      have hlen : kvs.length = vs.length := Paired.length r
      exact wpAny_truthy_dict hS m (by omega) ⟨H, I.tok _, by rw [isEmpty_kv r]; exact q⟩
  | _ => exact (show False from e).elim
/-- any expression whose test is its value's truth (a name, a call, a subscript, a field ..: he by fun _ => rfl) -/
theorem pt_truth (ha : PE X a ta) (he : ∀ whole, isTrue a X.env whole = (do let v ← whole; standAt a.pos; holding [v] (truthy v))) :
    PT X a (fun σ H Q => ta σ H fun x H' => ∃ k, TruV X.K x H' k ∧ Q k H') := by
  intro pins s σ H Q I h
  exact isTrue_plain (thn (ha pins s σ H _ I h) fun v s1 ⟨x, H1, I1, r1, q1⟩ => tru_ok pins s1 σ H1 x v Q I1 r1 q1) (he _)

/-! ### strs and bytes -/
theorem op_add_str : OpR X (binaryOp .Add) (fun x y H Q => ∃ i j, x = .str i ∧ y = .str j ∧ i.length + j.length ≤ sizeLine ∧ Q (.str (i ++ j)) H) := by
  intro pins s σ H x y v u Q I rx ry h
  obtain ⟨i, j, rfl, rfl, hz, q⟩ := h
  obtain ⟨t, rfl⟩ := rx
  obtain ⟨t', rfl⟩ := ry
  exact add_str (fun t' tk => ⟨.str (i ++ j), H, I.tok _, ⟨_, rfl⟩, q⟩) hz
/-! ### scalar builtins, by CallR -/
theorem vals1 {x : V} {us : List Value} (r : Vals [x] us) : ∃ u, us = [u] ∧ RelV x u := by
  cases r with
  | cons r1 r2 => cases r2; exact ⟨_, rfl, r1⟩
theorem vals2 {x y : V} {us : List Value} (r : Vals [x, y] us) : ∃ u w', us = [u, w'] ∧ RelV x u ∧ RelV y w' := by
  cases r with
  | cons r1 r2 =>
    cases r2 with
    | cons r3 r4 => cases r4; exact ⟨_, _, rfl, r1, r3⟩
theorem call_max2 (hc : X.calm = true) : CallR X (.builtin "max") (fun xs H Q => ∃ i j, xs = [.int i, .int j] ∧ Q (.int (if j > i then j else i)) H) := by
  intro pins s σ H xs us Q I r h
  obtain ⟨i, j, rfl, q⟩ := h
  obtain ⟨u, w', rfl, ⟨t, rfl⟩, ⟨t', rfl⟩⟩ := vals2 r
  refine max_two_ints (I.ok.hd hc) fun h' tk k => ⟨_, H, I.kept k, ?_, q⟩
  by_cases hj : j > i
  · rw [if_pos hj, if_pos hj]; exact ⟨_, rfl⟩
  · rw [if_neg hj, if_neg hj]; exact ⟨_, rfl⟩
theorem call_int1 : CallR X (.type "int") (fun xs H Q => (∃ i, xs = [.int i] ∧ Q (.int i) H) ∨ ∃ k, xs = [.bl k] ∧ Q (.int (if k then 1 else 0)) H) := by
  intro pins s σ H xs us Q I r h
  rcases h with ⟨i, rfl, q⟩ | ⟨k, rfl, q⟩
  · obtain ⟨u, rfl, t, rfl⟩ := vals1 r
    exact call_int_int ⟨.int i, H, I, ⟨_, rfl⟩, q⟩
  · obtain ⟨u, rfl, r1⟩ := vals1 r
    cases r1
    exact call_int_bool ⟨.int (if k then 1 else 0), H, I.tok _, ⟨_, rfl⟩, q⟩
end
end L2

namespace L2
open PySem PySem.Spec PyProof.Rows

/-! ### an instance, its attributes a map -/
structure ObjM (h : Heap) (x dx C : Addr) (mA : Str → Option Value) : Prop where
  obj : h.get? x = some (PySem.W.instObj C dx)
  ns : h.Ns1 dx mA
  ne : dx ≠ x

theorem lookIn_ns {h : Heap} {dx : Addr} {mA : Str → Option Value} (n : h.Ns1 dx mA) : ∃ od, h.get? dx = some od ∧ ∀ name, PySem.W.lookIn name od = some (mA name) := by
  obtain ⟨o, es, ep, ho, hd, hk, _, hm⟩ := n
  refine ⟨o, ho, fun name => ?_⟩
  have e := hm name
  unfold nsFind findBy at e
  rw [← Array.find?_toList] at e
  unfold PySem.W.lookIn
  rw [hd]
  dsimp only
  split
  · rename_i y q
    rw [q] at e
    exact congrArg some e
  · rename_i q
    rw [q] at e
    have a : es.toList.any (·.refKey) = false := by
      rw [List.any_eq_false]
      intro y hy
      obtain ⟨z, t, hkey⟩ := hk y (Array.mem_toList_iff.mp hy)
      simp [DictEntry.refKey, hkey]
    have a' : ¬ es.toList.any (·.refKey) = true := by rw [a]; exact Bool.false_ne_true
    rw [if_neg a']
    exact congrArg some e

theorem ObjM.look {h : Heap} {x dx C : Addr} {mA : Str → Option Value} (I : ObjM h x dx C mA) : ∃ od, PySem.W.InstAt h x (PySem.W.instObj C dx) C (some od) ∧ ∀ name, PySem.W.lookIn name od = some (mA name) :=
  let ⟨od, ho, hl⟩ := lookIn_ns I.ns
  ⟨od, ⟨I.obj, rfl, rfl, ho⟩, hl⟩

section
variable {prog : Program} {w : World} {A : Around} {E : Value → Shared → Prop} {s : Shared} {K : PySem.W.Frag} {x dx C f : Addr} {mA : Str → Option Value} {name : Str} {v : Value}

end

/-! ### the attributes as a list of pairs -/
theorem RelO.some_of {v : V} {o : Option Value} (r : RelO (some v) o) : ∃ u, o = some u ∧ RelV v u := by
  cases o with
  | none => exact (show False from r).elim
  | some u => exact ⟨u, rfl, r⟩
section
variable {P : Program} {w : World} {H H' : Hp} {h h' : Heap} {a C dx : Addr} {fs fs' : List (Str × V)}
theorem ins_get (hok : HOk P w H h) (e : H a = some (.ins C dx fs)) : ∃ mA, ObjM h a dx C mA ∧ (∀ f, RelO (fs.lookup f) (mA f)) ∧ PySem.Within mA (fs.map (·.1)) ∧ fs.length ≤ 1000 ∧ H dx = some (.own a) := by
  obtain ⟨d, z, ne, ob, mA, n, r, q⟩ := (show ObjOk P w H h a (.ins C dx fs) from hok a _ e)
  exact ⟨mA, ⟨ob, n, ne⟩, r, q, z, d⟩
end

/-! ### what of the text a class must have -/
structure Cls (K : PySem.W.Frag) (C : Addr) : Prop where
  pg : PySem.W.plainGet K C Str.empty = true
  hd : PySem.W.hasDictIn K C = true
  po : PySem.W.plainOver K C = true
  sa : PySem.W.findIn K (.ref C) "__setattr__" = some (some (.builtin "object.__setattr__"))
theorem Cls.get {K : PySem.W.Frag} {C : Addr} (c : Cls K C) (f : Str) : PySem.W.plainGet K C f = true := c.pg
section
variable {X : Cx} {pins : List (Addr × Obj)} {σ : St} {H : Hp} {s : Shared} {a C dx : Addr} {fs : List (Str × V)} {f : Str} {v : V} {A : Around} {E : Value → Shared → Prop}

/-- a new instance, tracked, without attributes -/
theorem Inv.made (I : Inv X pins σ H s) : Inv X pins σ (upd (upd H s.heap.objs.size (.own (s.heap.objs.size + 1))) (s.heap.objs.size + 1) (.ins C s.heap.objs.size []))
    { s with heap := (s.heap.push PySem.W.emptyDict).push (PySem.W.instObj C s.heap.objs.size) } := by
  have e1 : (s.heap.push PySem.W.emptyDict).get? s.heap.objs.size = some PySem.W.emptyDict := Heap.get?_push_size s.heap rfl
  have e2 : ((s.heap.push PySem.W.emptyDict).push (PySem.W.instObj C s.heap.objs.size)).get? (s.heap.objs.size + 1) = some (PySem.W.instObj C s.heap.objs.size) := by
    have := Heap.get?_push_size (s.heap.push PySem.W.emptyDict) (o := PySem.W.instObj C s.heap.objs.size) rfl
    rwa [Heap.size_push] at this
  have e3 : (s.heap.push PySem.W.emptyDict).Ns s.heap.objs.size (fun _ => none) := ⟨PySem.W.emptyDict, #[], _, e1, rfl, (fun e he => absurd he (by simp)), fun _ => rfl⟩
  have I1 := I.laid (a := s.heap.objs.size) (o := .own (s.heap.objs.size + 1)) (h' := s.heap.push PySem.W.emptyDict) (t' := s.toks) (fun b u q => Heap.get?_push_of_some _ q) (Nat.le_refl _) ⟨_, e1⟩
  refine I1.laid (a := s.heap.objs.size + 1) (o := .ins C s.heap.objs.size []) (t' := s.toks) (fun b u q => Heap.get?_push_of_some _ q) (Nat.le_of_eq (Heap.size_push _ _)) ?_
  have ne : s.heap.objs.size ≠ s.heap.objs.size + 1 := Nat.ne_of_lt (Nat.lt_succ_self _)
  refine ⟨by rw [upd_ne ne, upd_same], Nat.zero_le _, ne, e2, fun _ => none, (Heap.Ns1.of_empty e3).at fun o q => Heap.get?_push_of_some _ q, fun _ => True.intro, fun y hy => absurd rfl hy⟩

end

/-! ### readings and rules -/
section
variable {X : Cx} {o e value : Expr} {f : Str} {pos pos' tpos : Pos} {ta tv : TE}
end

/-! ### isinstance -/
section
variable {X : Cx} {pins : List (Addr × Obj)} {σ : St} {H : Hp} {s : Shared} {A : Around} {E : Value → Shared → Prop} {Q : Value → Shared → Prop} {c : Value} {b : Bool}
/-- the type of a value, as the fragment's deciders take it; for an instance its class -/
inductive TyOf (K : PySem.W.Frag) (H : Hp) : V → Value → Prop where
  | non : TyOf K H .non (.type "NoneType")
  | bl (x : Bool) : TyOf K H (.bl x) (.type "bool")
  | int (i : Int) : TyOf K H (.int i) (.type "int")
  | str (x : Str) : TyOf K H (.str x) (.type "str")
  | flt (x : UInt64) : TyOf K H (.flt x) (.type "float")
  | lst {a : Addr} {xs : List V} (e : H a = some (.lst xs)) : TyOf K H (.ref a) (.type "list")
  | frz {a : Addr} {o : Obj} {xs : List V} (e : H a = some (.frz o (.lst xs))) : TyOf K H (.ref a) (.type "list")
  | tup {a : Addr} {xs : List V} (e : H a = some (.tup xs)) : TyOf K H (.ref a) (.type "tuple")
  | dK {a : Addr} {kvs : List (Key × V)} (e : H a = some (.dK kvs)) : TyOf K H (.ref a) (.type "dict")
  | dT {a : Addr} {kvs : List (List Key × V)} (e : H a = some (.dT kvs)) : TyOf K H (.ref a) (.type "dict")
  | ins {a C dx : Addr} {fs : List (Str × V)} (e : H a = some (.ins C dx fs)) (cl : Cls K C) (ha : PySem.W.findIn K (.ref C) "__class__" = some (some (.builtin "object.__class__")))
      (hn : PySem.W.specialIn K (.builtin "object.__class__") "__get__" = some (some (.builtin "getset_descriptor.__get__"))) (htk : PySem.W.takesIn K (.builtin "object.__class__") = some true)
      (hm : PySem.W.mroIn K C (.type "object") = some true) : TyOf K H (.ref a) (.ref C)
/-- isinstance(x, c) for one class c, a built-in or an own one: kitOne's answer -/
theorem isinst_ok {x : V} {u t : Value} (I : Inv X pins σ H s) (rx : RelV x u) (ty : TyOf X.K H x t) (e : PySem.W.kitOne X.K t c = some b) (h : ∀ tk, Q (.bool b) { s with toks := tk }) :
    wpAny (model X.prog X.w) A (call (.builtin "isinstance") [u, c]) Q E s := by
  cases ty with
  | non => cases (show u = Value.none from rx); exact PySem.W.kia_one PySem.W.kitx_none I.kIn True.intro e (fun z => nomatch z) h
  | bl y => cases (show u = Value.bool y from rx); exact PySem.W.kia_one PySem.W.kitx_bool I.kIn True.intro e (fun z => nomatch z) h
  | int i => obtain ⟨t, q⟩ := (show ∃ t, u = Value.int i t from rx); cases q; exact PySem.W.kia_one PySem.W.kitx_int I.kIn True.intro e (fun z => nomatch z) h
  | str y => obtain ⟨t, q⟩ := (show ∃ t, u = Value.str y t from rx); cases q; exact PySem.W.kia_one PySem.W.kitx_str I.kIn True.intro e (fun z => nomatch z) h
  | flt y => obtain ⟨t, q⟩ := (show ∃ t, u = Value.float y t from rx); cases q; exact PySem.W.kia_one PySem.W.kitx_float I.kIn True.intro e (fun z => nomatch z) h
  | @lst a xs ea =>
    cases (show u = Value.ref a from rx)
    obtain ⟨_, _, n, _, h1⟩ := (show ObjOk X.prog X.w H s.heap a (.lst xs) from I.hok a _ ea)
    exact PySem.W.kia_one PySem.W.kitx_list I.kIn ⟨_, h1, rfl⟩ e (fun z => nomatch z) h
  | @frz a ob xs ea =>
    cases (show u = Value.ref a from rx)
    obtain ⟨_, _, _, n, _, h1⟩ := (show ObjOk X.prog X.w H s.heap a (.frz ob (.lst xs)) from I.hok a _ ea)
    exact PySem.W.kia_one PySem.W.kitx_list I.kIn ⟨_, h1, rfl⟩ e (fun z => nomatch z) h
  | @tup a xs ea =>
    cases (show u = Value.ref a from rx)
    obtain ⟨_, _, _, p⟩ := (show ObjOk X.prog X.w H s.heap a (.tup xs) from I.hok a _ ea)
    obtain ⟨o, h1, h2, _⟩ := p
    exact PySem.W.kia_one PySem.W.kitx_tuple I.kIn ⟨o, h1, h2⟩ e (fun z => nomatch z) h
  | @dK a kvs ea =>
    cases (show u = Value.ref a from rx)
    obtain ⟨_, _, vs, _, p⟩ := (show ObjOk X.prog X.w H s.heap a (.dK kvs) from I.hok a _ ea)
    obtain ⟨o, es, ep, h1, h2, _⟩ := p
    exact PySem.W.kia_one PySem.W.kitx_dict I.kIn ⟨o, h1, h2.1⟩ e (fun z => nomatch z) h
  | @dT a kvs ea =>
    cases (show u = Value.ref a from rx)
    obtain ⟨_, _, xs, _, o, es, ep, h1, h2, _⟩ := (show ObjOk X.prog X.w H s.heap a (.dT kvs) from I.hok a _ ea)
    exact PySem.W.kia_one PySem.W.kitx_dict I.kIn ⟨o, h1, h2.1⟩ e (fun z => nomatch z) h
  | @ins a C dx fs ea cl ha hn htk hm =>
    cases (show u = Value.ref a from rx)
    obtain ⟨mA, O, _⟩ := ins_get I.hok ea
    obtain ⟨od, J, _⟩ := O.look
    exact PySem.W.kia_one (PySem.W.kitx_own (cl.get _) cl.hd ha hn htk hm) I.kIn J e (fun z => nomatch z) h
end
end L2

namespace L2
open PySem PySem.Spec PyProof.Rows

/-! ### room -/
structure Room (k : Nat) (A : Around) : Prop where
  hd : A.handled = none
  dp : A.depth + 3 * k + 5 < recursionLimit
  un : A.units + 16 * k + 200 < cLine
theorem Room.mono {j k : Nat} {A : Around} (r : Room k A) (h : j ≤ k) : Room j A := ⟨r.hd, by have := r.dp; omega, by have := r.un; omega⟩
theorem Room.deeper {k : Nat} {A : Around} (r : Room (k + 1) A) (env : Env) : Room k (A.deeper env) :=
  ⟨r.hd, by have := r.dp; show A.depth + 1 + 3 * k + 5 < _; omega, by have := r.un; show A.units + 3 + 16 * k + 200 < _; omega⟩
theorem Room.in1 {k : Nat} {A : Around} (r : Room (k + 1) A) : Room k A.in1 :=
  ⟨r.hd, by have := r.dp; show A.depth + 3 * k + 5 < _; omega, by have := r.un; show A.units + 1 + 16 * k + 200 < _; omega⟩
theorem Room.depth {k : Nat} {A : Around} (r : Room k A) : A.depth < recursionLimit := by have := r.dp; omega
theorem Room.units {k : Nat} {A : Around} (r : Room k A) : A.units + 64 < cLine := by have := r.un; omega
/-! ### argument lists and displays -/
def tNil : TA := fun _ H Q => Q [] H
def tCons (ta : TE) (tr : TA) : TA := fun σ H Q => ta σ H fun x H1 => tr σ H1 fun xs H2 => Q (x :: xs) H2
section
variable {X : Cx} {e : Expr} {es : List Expr} {te : TE} {t : TA} {pos : Pos}
theorem pa_nil : PA X [] tNil := fun _ _ _ _ H Q I h => Calls.spliced_nil ⟨[], H, I, .nil, h⟩
theorem pa_cons (ha : PE X e te) (hr : PA X es t) (hs : starEach (e :: es) X.env = (false, eval e X.env) :: starEach es X.env := by rfl) : PA X (e :: es) (tCons te t) := by
  intro pos pins s σ H Q I h
  rw [hs]
  show wpAny _ _ (spliced ((false, eval e X.env) :: backTo pos (starEach es X.env))) _ _ s
  refine Calls.spliced_cons (thn (ha pins s σ H _ I h) fun u s1 ⟨x, H1, I1, r1, q1⟩ => ?_)
  exact thn (hr pos pins s1 σ H1 _ I1 q1) fun us s2 ⟨xs, H2, I2, r2, q2⟩ => ⟨x :: xs, H2, I2, .cons r1 r2, q2⟩

/-- a tuple, a list of written items -/
def tTup (t : TA) : TE := fun σ H Q => t σ H fun xs H1 => xs.length ≤ sizeLine ∧ ∀ p, H1 p = none → Q (.ref p) (upd H1 p (.tup xs))
def tLst (t : TA) : TE := fun σ H Q => t σ H fun xs H1 => xs.length ≤ sizeLine ∧ ∀ p, H1 p = none → Q (.ref p) (upd H1 p (.lst xs))
theorem pe_tup {x1} (h : PA X es t) : PE X (.Tuple es x1 pos) (tTup t) := by
  intro pins s σ H Q I hq
  refine wpAny_Tuple_spliced (thn (h pos pins s σ H _ I hq) fun us s1 ⟨xs, H1, I1, r, z, q⟩ => ⟨by rw [← r.length]; exact z, ?_⟩)
  have hf : H1 s1.heap.objs.size = none := I1.hok.fresh (Nat.le_refl _)
  refine ⟨.ref s1.heap.objs.size, upd H1 s1.heap.objs.size (.tup xs), I1.laid (t' := s1.toks) (fun b u e => Heap.get?_push_of_some _ e) (Nat.le_refl _) ?_, rfl, q _ hf⟩
  exact ⟨z, us, r, ⟨_, Heap.get?_push_size _ rfl, rfl, _, rfl⟩⟩
theorem pe_lst (h : PA X es t) : PE X (.List es pos) (tLst t) := by
  intro pins s σ H Q I hq
  refine wpAny_List_spliced (thn (h pos pins s σ H _ I hq) fun us s1 ⟨xs, H1, I1, r, z, q⟩ => ⟨by rw [← r.length]; exact z, ?_⟩)
  have hf : H1 s1.heap.objs.size = none := I1.hok.fresh (Nat.le_refl _)
  refine ⟨.ref s1.heap.objs.size, upd H1 s1.heap.objs.size (.lst xs), I1.laid (t' := s1.toks) (fun b u e => Heap.get?_push_of_some _ e) (Nat.le_refl _) ?_, rfl, q _ hf⟩
  exact ⟨z, us, 0, r, Heap.get?_push_size _ rfl⟩
end

/-! ### what a def promises -/
/-- a def's promise: the bound arguments in the parameters' order, the heap, the wanted end, the wanted exception -/
abbrev Sp := List V → Hp → VK → XK → Prop
/-- how an exception lies behind a call (file 08 gives it): the callers' frames, abstract heap and state ahead of the call, the wish, the exception, the state -/
abbrev CXT := List Env → Hp → Shared → XK → Value → Shared → Prop

/-- the state at a call -/
structure Env0 (P : Program) (w : World) (K : PySem.W.Frag) (mg : Str → Option Value) (base : Heap) (A : Around) (outer : List Env) (s : Shared) (H : Hp) : Prop where
  frames : A.frames = some outer
  mod : Mod K mg base
  bs : ∀ b o, base.get? b = some o → s.heap.get? b = some o ∧ H b = none
  bsz : base.objs.size ≤ s.heap.objs.size
  funs : s.heap.FunFrames base outer
  frf : ∀ b ∈ frs outer, H b = none
  hok : HOk P w H s.heap
  bare : AllBare s.gens
/-- a call's end -/
def CE (outer : List Env) (P : Program) (w : World) (H : Hp) (s : Shared) (Q : VK) (u : Value) (s' : Shared) : Prop :=
  ∃ v H', s'.os = s.os ∧ AllBare s'.gens ∧ Un (frs outer) [] H H' s.heap s'.heap ∧ HOk P w H' s'.heap ∧ RelV v u ∧ Q v H'
def CR (CX : CXT) (outer : List Env) (P : Program) (w : World) (H : Hp) (s : Shared) (Q : VK) (E : XK) (r : Result) (s' : Shared) : Prop :=
  match r with
  | .ok (.ret u) => CE outer P w H s Q u s'
  | .ok _ => False
  | .error e => CX outer H s E e s'
structure FnOk (P : Program) (w : World) (K : PySem.W.Frag) (mg : Str → Option Value) (base : Heap) (CX : CXT) (k : Nat) (f : Addr) (fd : FuncData) (ps : List Str) (sp : Sp) : Prop where
  len : ∀ vs H Q E, sp vs H Q E → vs.length = ps.length
  run : ∀ (A : Around) (outer : List Env) (s : Shared) (H : Hp) (args : Args) (us : List Value) (vs : List V) (Q : VK) (E : XK), Room k A → Env0 P w K mg base A outer s H → BindsTo s fd args (ps.zip us) → Vals vs us → sp vs H Q E →
    codeAny (model P w) A (.call (.ref f) args) (CR CX outer P w H s Q E) s
theorem FnOk.mono {P : Program} {w : World} {K : PySem.W.Frag} {mg : Str → Option Value} {base : Heap} {CX : CXT} {j k : Nat} {f : Addr} {fd : FuncData} {ps : List Str} {sp : Sp} (F : FnOk P w K mg base CX j f fd ps sp) (h : j ≤ k) :
    FnOk P w K mg base CX k f fd ps sp := ⟨F.len, fun A outer s H args us vs Q E hr => F.run A outer s H args us vs Q E (hr.mono h)⟩
/-- a weaker promise -/
theorem FnOk.imp {P : Program} {w : World} {K : PySem.W.Frag} {mg : Str → Option Value} {base : Heap} {CX : CXT} {k : Nat} {f : Addr} {fd : FuncData} {ps : List Str} {sp sp' : Sp} (F : FnOk P w K mg base CX k f fd ps sp)
    (h : ∀ vs H Q E, sp' vs H Q E → sp vs H Q E) : FnOk P w K mg base CX k f fd ps sp' :=
  ⟨fun vs H Q E q => F.len vs H Q E (h _ _ _ _ q), fun A outer s H args us vs Q E hr he hb hv hs => F.run A outer s H args us vs Q E hr he hb hv (h _ _ _ _ hs)⟩

theorem Env0.in1 {P : Program} {w : World} {K : PySem.W.Frag} {mg : Str → Option Value} {base : Heap} {A : Around} {outer : List Env} {s : Shared} {H : Hp} (e : Env0 P w K mg base A outer s H) :
    Env0 P w K mg base A.in1 outer s H := ⟨e.frames, e.mod, e.bs, e.bsz, e.funs, e.frf, e.hok, e.bare⟩

section
variable {X : Cx} {pins : List (Addr × Obj)} {σ : St} {H : Hp} {s s' : Shared}
/-- from a body: what a callee wants -/
theorem Inv.env0 (I : Inv X pins σ H s) : Env0 X.prog X.w X.K X.mg X.base X.A X.stack s H :=
  ⟨I.ok.frames, I.ok.mod, I.bs, Nat.le_trans I.ok.bsz I.sz, I.stack, I.stkFree, I.hok, I.bare⟩
/-- behind a call -/
theorem Inv.after {Q : VK} {u : Value} (I : Inv X pins σ H s) (h : CE X.stack X.prog X.w H s Q u s') : EP X pins σ Q u s' := by
  obtain ⟨v, H', os, bare, un, hok, r, q⟩ := h
  obtain ⟨hh, g, d, t, os'⟩ := s'
  obtain rfl : os' = s.os := os
  exact ⟨v, H', I.call (h' := hh) (g' := g) (d' := d) (t' := t) (ch := []) un hok bare (fun b z => absurd z (by simp)), r, q⟩
end

/-! ### calls -/
/-- f(..): the written arguments, then the defaults dvs; E: what is wanted of an exception -/
def tCall (sp : Sp) (dvs : List V) (E : XK) (t : TA) : TE := fun σ H Q => t σ H fun vs H1 => sp (vs ++ dvs) H1 Q E
/-- how the parameters are bound: us the positional arguments, kw the keywords' values by name, ds the defaults that fill up -/
def Binds (K : PySem.W.Frag) (fd : FuncData) (ps : List Str) (ds : List Value) : Prop :=
  ∀ (s : Shared) (us : List Value), K.In s.heap → (us ++ ds).length = ps.length → BindsTo s fd ⟨us, []⟩ (ps.zip (us ++ ds))
/-- every parameter is given -/
theorem Binds.all {K : PySem.W.Frag} {fd : FuncData} {ps : List Str} (h : ∀ us : List Value, us.length = ps.length → bindArgs fd ⟨us, []⟩ = pure (ps.zip us)) : Binds K fd ps [] := fun s us _ hl => by
  rw [List.append_nil] at hl ⊢
  exact .of_eq (h us hl)

/-- an exception of a callee reaches what this body wants of exceptions -/
def Passes (CX : CXT) (X : Cx) (E : XK) : Prop := ∀ (pins : List (Addr × Obj)) (σ : St) (H : Hp) (s : Shared) (e : Value) (s' : Shared), Inv X pins σ H s → CX X.stack H s E e s' → X.xe e s'

section
variable {X : Cx} {CX : CXT} {k : Nat} {f C : Addr} {fd : FuncData} {ps : List Str} {sp : Sp} {dvs : List V} {ds : List Value} {E : XK} {x m : Str} {p pos apos : Pos} {e o : Expr} {es : List Expr} {ta : TE} {t : TA}

/-- the callee runs -/
theorem run_fn {pins : List (Addr × Obj)} {σ : St} {H : Hp} {s : Shared} {Q : VK} {us : List Value} {vs : List V} (F : FnOk X.prog X.w X.K X.mg X.base CX k f fd ps sp) (hr : Room k X.A) (hb : Binds X.K fd ps ds) (hd : Vals dvs ds) (hx : Passes CX X E)
    (I : Inv X pins σ H s) (r : Vals vs us) (h : sp (vs ++ dvs) H Q E) : wpAny (model X.prog X.w) X.A (call (.ref f) us) (EP X pins σ Q) X.xe s := by
  have r2 : Vals (vs ++ dvs) (us ++ ds) := r.append hd
  have hl : (us ++ ds).length = ps.length := by rw [← r2.length]; exact F.len _ _ _ _ h
  refine wpAny_call (codeAny_mono (F.run X.A X.stack s H ⟨us, []⟩ (us ++ ds) (vs ++ dvs) Q E hr I.env0 (hb s us I.kIn hl) r2 h) fun r s' hq => ?_)
  cases r with
  | error e => exact hx pins σ H s e s' I hq
  | ok fl =>
    cases fl with
    | ret u => exact I.after hq
    | next => exact False.elim hq
    | brk => exact False.elim hq
    | cont => exact False.elim hq

theorem pe_call (F : FnOk X.prog X.w X.K X.mg X.base CX k f fd ps sp) (hr : Room k X.A) (hg : Gl X x) (hm : X.mg x = some (.ref f)) (hk : PySem.W.keepIn X.K (.ref f) = true) (hb : Binds X.K fd ps ds) (hd : Vals dvs ds) (hx : Passes CX X E)
    (ha : PA X (e :: es) t) (hdb : (x == ("__debug__" : Str)) = false := by decide) (he : starEach (e :: es) X.env = (false, eval e X.env) :: starEach es X.env := by rfl) (hpl : (backTo pos (starEach es X.env)).any (·.1) = false := by rfl) :
    PE X (.Call (.Name x p) (e :: es) [] pos) (tCall sp dvs E t) := by
  intro pins s σ H Q I h
  refine wpAny_Call_Name_kw (ld_glob I hg hm ?_ hdb)
  refine PySem.W.callWith_K (h₀ := X.base) I.ok.mod.kin hk (thn (ha pos pins s σ H _ I h) fun us s1 ⟨vs, H1, I1, r, q⟩ => ⟨I1.kIn, ?_⟩) he hpl
  exact run_fn F hr hb hd hx I1 r q
end

/-! ### keywords -/
section
variable {X : Cx} {CX : CXT} {k : Nat} {f C : Addr} {fd : FuncData} {ps ks : List Str} {sp : Sp} {E : XK} {x m : Str} {p pos apos kpos : Pos} {e o : Expr} {es : List Expr} {kws : List Keyword} {te ta : TE} {t tk : TA} {nm : Option Str}
variable {g : List Value → List Value → List Value} {gV : List V → List V → List V}
end

/-! ### a def's body keeps its promise -/
/-- names: the parameters first -/
structure FnScope (N P : List Str) (sc : Scope) : Prop where
  kind : sc.kind = .function
  co : sc.isCoroutine = false
  gen : sc.isGenerator = false
  nd : N.Nodup
  pre : N.take P.length = P
  par : ∀ x ∈ P, sc.names.lookup x = some .local ∨ sc.names.lookup x = some .cell
  nofree : ∀ y ∈ sc.names, y.2 ≠ .free

theorem bindL_out {kindOf : Str → Option NameKind} {x : Str} : ∀ {binds : List (Str × Value)} {m : Str → Option Value}, (∀ v, (x, v) ∉ binds) → bindL kindOf binds m x = m x
  | [], _, _ => rfl
  | (n, v) :: r, m, h => by
    unfold bindL
    rw [bindL_out fun w hw => h w (List.mem_cons_of_mem _ hw)]
    split
    · have : x ≠ n := by rintro rfl; exact h v List.mem_cons_self
      simp [this]
    · rfl
theorem bindC_out {kindOf : Str → Option NameKind} {x : Str} : ∀ {binds : List (Str × Value)} {m : Str → Option Value}, (∀ v, (x, v) ∉ binds) → bindC kindOf binds m x = m x
  | [], _, _ => rfl
  | (n, v) :: r, m, h => by
    unfold bindC
    rw [bindC_out fun w hw => h w (List.mem_cons_of_mem _ hw)]
    split
    · rfl
    · have : x ≠ n := by rintro rfl; exact h v List.mem_cons_self
      simp [this]
theorem bindL_get {kindOf : Str → Option NameKind} {x : Str} {v : Value} : ∀ {P : List Str} {vs : List Value} {i : Nat} {m : Str → Option Value}, P.Nodup → P[i]? = some x → vs[i]? = some v → kindOf x = some .local →
    bindL kindOf (P.zip vs) m x = some v
  | [], _, _, _, _, h, _, _ => by simp at h
  | _ :: _, [], _, _, _, _, h, _ => by simp at h
  | p :: P, w :: vs, 0, m, nd, h1, h2, hk => by
    simp at h1 h2; subst h1; subst h2
    show bindL kindOf ((p, w) :: P.zip vs) m p = _
    unfold bindL
    rw [bindL_out fun v hv => (List.nodup_cons.mp nd).1 (List.of_mem_zip hv).1, if_pos hk]
    simp
  | p :: P, w :: vs, i + 1, m, nd, h1, h2, hk => by
    show bindL kindOf ((p, w) :: P.zip vs) m x = _
    unfold bindL
    exact bindL_get (i := i) (List.nodup_cons.mp nd).2 (by simpa using h1) (by simpa using h2) hk
theorem bindC_get {kindOf : Str → Option NameKind} {x : Str} {v : Value} : ∀ {P : List Str} {vs : List Value} {i : Nat} {m : Str → Option Value}, P.Nodup → P[i]? = some x → vs[i]? = some v → kindOf x ≠ some .local →
    bindC kindOf (P.zip vs) m x = some v
  | [], _, _, _, _, h, _, _ => by simp at h
  | _ :: _, [], _, _, _, _, h, _ => by simp at h
  | p :: P, w :: vs, 0, m, nd, h1, h2, hk => by
    simp at h1 h2; subst h1; subst h2
    show bindC kindOf ((p, w) :: P.zip vs) m p = _
    unfold bindC
    rw [bindC_out fun v hv => (List.nodup_cons.mp nd).1 (List.of_mem_zip hv).1, if_neg hk]
    simp
  | p :: P, w :: vs, i + 1, m, nd, h1, h2, hk => by
    show bindC kindOf ((p, w) :: P.zip vs) m x = _
    unfold bindC
    exact bindC_get (i := i) (List.nodup_cons.mp nd).2 (by simpa using h1) (by simpa using h2) hk

/-- the names' values at the entry -/
def start (N : List Str) (vs : List V) : St := vs.map some ++ List.replicate (N.length - vs.length) none

/-- the context of a def's body, at its entry; an exception leaves the frame, then lies as CX says -/
def cxOf (CX : CXT) (P : Program) (w : World) (K : PySem.W.Frag) (mg : Str → Option Value) (base : Heap) (N : List Str) (qual : Str) (scope : Scope) (f : Addr) (cd : Value) (A : Around) (outer : List Env) (s : Shared) (H : Hp) (E : XK) : Cx where
  prog := P
  w := w
  K := K
  mg := mg
  base := base
  A := A.deeper (envOfC qual scope s.heap.objs.size f cd)
  N := N
  s₀ := s
  H₀ := H
  env := envOfC qual scope s.heap.objs.size f cd
  outer := outer
  stack := envOfC qual scope s.heap.objs.size f cd :: outer
  ex := []
  calm := true
  fn := fun _ => true
  pn := []
  xe := fun e s' => wpAny (model P w) (A.deeper (envOfC qual scope s.heap.objs.size f cd)) (leaving (envOfC qual scope s.heap.objs.size f cd) e) (fun _ s'' => CX outer H s E e s'') (fun e' s'' => CX outer H s E e' s'') s'

theorem cell_has {sc : Scope} {n : Nat} {x : Str} (h : sc.names.lookup x = some .cell) : ∃ c, (cellsFrom n sc.names []).lookup x = some c := by
  have q := PySem.W.cellsFrom_some sc.names n [] (.inl h)
  exact Option.isSome_iff_exists.mp q

theorem inv_start {CX : CXT} {P : Program} {w : World} {K : PySem.W.Frag} {mg : Str → Option Value} {base : Heap} {N ps : List Str} {qual : Str} {scope : Scope} {f : Addr} {cd : Value} {A : Around} {outer : List Env} {s s1 : Shared} {H : Hp} {E : XK} {us : List Value} {vs : List V}
    (S : FnScope N ps scope) (hd : A.handled = none) (e0 : Env0 P w K mg base A outer s H) (hl : vs.length = ps.length) (r : Vals vs us)
    (x : InCallC s s.heap.objs.size (bindL (envOfC qual scope s.heap.objs.size f cd).kindOf (ps.zip us) fun _ => none) (cellsFrom (s.heap.objs.size + 1) scope.names []) (bindC (envOfC qual scope s.heap.objs.size f cd).kindOf (ps.zip us) fun _ => none) s1) :
    Inv (cxOf CX P w K mg base N qual scope f cd A outer s H E) [] (start N vs) H s1 := by
  have hpl : ps.length ≤ N.length := by have := congrArg List.length S.pre; rw [List.length_take] at this; omega
  obtain ⟨h1, tk, rfl, hk⟩ := x.done
  have noA : ∀ b : Addr, b ∉ (cxOf CX P w K mg base N qual scope f cd A outer s H E).ex := fun b z => absurd (show b ∈ ([] : List Addr) from z) (by simp)
  refine ⟨⟨e0.mod, S.kind, rfl, rfl, Nat.le_refl _, fun y z c h1 h2 => ?_, fun y hy => ?_, fun y c _ h => ?_, fun _ => hd, Around.frames_deeper e0.frames, .inr ⟨rfl, rfl⟩, fun b z => absurd z (noA b), e0.bs, e0.bsz, fun b _ _ => noA b, fun b z => absurd z (noA b), e0.funs, e0.frf⟩,
    rfl, e0.bare, Un.kept hk, ⟨_, x.toInCall.ns, fun i y v h1 h2 h3 => ?_⟩, fun y c h => ⟨_, x.cell y c h⟩, e0.hok.fresh (Nat.le_refl _), fun y c h => ?_, fun p hp => absurd (show p ∈ ([] : List (Addr × Obj)) from hp) (by simp), e0.hok.kept hk, ?_⟩
  · exact name_of_addr x.apart (PySem.mem_of_lookup h1) (PySem.mem_of_lookup h2)
  · have hy : scope.names.lookup y = some .cell ∨ scope.names.lookup y = some .free := hy
    rcases hy with hy | hy
    · exact cell_has hy
    · exact absurd rfl (S.nofree _ (PySem.mem_of_lookup hy))
  · exact Nat.le_of_lt (x.above y c (PySem.mem_of_lookup h))
  · have hi : i < vs.length := by
      unfold start at h2
      by_cases hi : i < vs.length
      · exact hi
      · rw [List.getElem?_append_right (by simpa using hi)] at h2
        rw [List.getElem?_replicate] at h2
        split at h2 <;> cases h2
    have ha : vs[i]? = some v := by
      unfold start at h2
      rw [List.getElem?_append_left (by simpa using hi), List.getElem?_map] at h2
      cases e : vs[i]? with
      | none => rw [e] at h2; cases h2
      | some a => rw [e] at h2; cases h2; rfl
    obtain ⟨u, hu, rv⟩ := r.get ha
    have hp : ps[i]? = some y := by
      rw [← S.pre, List.getElem?_take_of_lt (by omega)]; exact h1
    have ndP : ps.Nodup := by rw [← S.pre]; exact S.nd.sublist (List.take_sublist _ _)
    refine ⟨u, rv, ?_⟩
    rcases S.par y (List.mem_of_getElem? hp) with k | k
    · exact .inl ⟨k, bindL_get ndP hp hu k⟩
    · obtain ⟨c, e⟩ := cell_has (n := s.heap.objs.size + 1) k
      refine .inr ⟨.inl k, c, e, ?_⟩
      have q := x.cell y c e
      rw [bindC_get ndP hp hu (by show scope.names.lookup y ≠ _; rw [k]; decide)] at q
      exact q
  · exact e0.hok.fresh (Nat.le_of_lt (x.above y c (PySem.mem_of_lookup h)))
  · unfold start
    show _ = N.length
    rw [List.length_append, List.length_map, List.length_replicate]
    omega

/-- THE RULE: a def (or a method) of the text, by its body. The body's reading t is chosen for each entry; it is run at the parameters' values -/
theorem fn_of {CX : CXT} {P : Program} {w : World} {K : PySem.W.Frag} {mg : Str → Option Value} {base : Heap} {k : Nat} {f : Addr} {name qual : Str} {params : Arguments} {body : List Stmt} {scope : Scope} {dV kV doc pm cdv ct oc : Value} {an od : Option Addr}
    {osl : Array (Option Value)} {N ps : List Str} {sp : Sp} (lk : K.lookup f = some ⟨oc, od, .func (PySem.W.fnOf name qual params body scope dV kV doc pm an cdv ct), osl⟩) (hcd : PySem.W.codeIn K cdv qual = true) (S : FnScope N ps scope)
    (len : ∀ vs H Q E, sp vs H Q E → vs.length = ps.length)
    (hbody : ∀ (A : Around) (outer : List Env) (s : Shared) (H : Hp) (vs : List V) (Q : VK) (E : XK), Room k (A.deeper (envOfC qual scope s.heap.objs.size f cdv)) → sp vs H Q E →
      ∃ t, PSs (cxOf CX P w K mg base N qual scope f cdv A outer s H E) body t ∧ t { nx := fun _ H' => Q .non H', rt := Q } (start N vs) H) :
    FnOk P w K mg base CX (k + 1) f (PySem.W.fnOf name qual params body scope dV kV doc pm an cdv ct) ps sp := by
  refine ⟨len, fun A outer s H args us vs Q E hr e0 hb r hsp => ?_⟩
  have hl := len _ _ _ _ hsp
  have KX : K.In s.heap := e0.mod.kin.keeps fun b o e => (e0.bs b o e).1
  have lim : s.heap.NoLimit := e0.mod.nolimit.keeps fun b o e => (e0.bs b o e).1
  have hkind : ∀ y ∈ ps.zip us, scope.names.lookup y.1 = some .local ∨ (scope.names.lookup y.1 = some .cell ∧ ((cellsFrom (s.heap.objs.size + 1) scope.names []).lookup y.1).isSome = true) := fun ⟨n, v⟩ hy => by
    rcases S.par n (List.of_mem_zip hy).1 with q | q
    · exact .inl q
    · exact .inr ⟨q, PySem.W.cellsFrom_some _ _ _ (.inl q)⟩
  refine codeAny_call_function hr.depth (KX _ _ lk) rfl S.co S.gen rfl (PySem.W.codeRec_of KX hcd) (hb _ _ _ _ ?_)
  refine wpAny_newFunctionEnv_cells S.kind hkind fun env he s1 x => ?_
  subst he
  refine ⟨lim.keeps x.toInCall.keep, codeAny_func ?_⟩
  obtain ⟨t, ht, hq⟩ := hbody A outer s H vs Q E (hr.deeper _) hsp
  have I : Inv (cxOf CX P w K mg base N qual scope f cdv A outer s H E) [] (start N vs) H s1 := inv_start S hr.hd e0 hl r x
  refine wpAny_mono (ht [] s1 (start N vs) H _ I hq) (fun fl s' hs => ?_) fun e s' hs => hs
  have fin : ∀ {σ' : St} {H' : Hp} {v : V} {u : Value}, Inv (cxOf CX P w K mg base N qual scope f cdv A outer s H E) [] σ' H' s' → RelV v u → Q v H' → CE outer P w H s Q u s' :=
    fun {σ' H' v u} J rv q => ⟨v, H', J.os, J.bare, J.base, J.hok, rv, q⟩
  cases fl with
  | ret u =>
    obtain ⟨v, σ', H', J, rv, q⟩ := hs
    exact fin J rv q
  | next =>
    obtain ⟨σ', H', J, q⟩ := hs
    exact fin (v := V.non) (u := Value.none) J rfl q
  | brk =>
    obtain ⟨_, _, _, q⟩ := hs
    exact False.elim q
  | cont =>
    obtain ⟨_, _, _, q⟩ := hs
    exact False.elim q
end L2

namespace L2
open PySem PySem.Spec PyProof.Rows
section
variable {X : Cx} {x : Str} {p pos : Pos} {e : Expr} {es : List Expr} {t : TA} {id T : String} {r : List V → Hp → VK → Prop}

def tCB (r : List V → Hp → VK → Prop) (t : TA) : TE := fun σ H Q => t σ H fun vs H1 => r vs H1 Q
/-- f(e, ..), f a built-in function -/
theorem pe_callB (hc : CallR X (.builtin id) r) (hg : Gl X x) (hm : X.mg x = none) (hv : bootBuiltins x = some (.builtin id)) (ha : PA X (e :: es) t) (hn : x ≠ "__name__" := by decide) (hdb : (x == ("__debug__" : Str)) = false := by decide)
    (he : starEach (e :: es) X.env = (false, eval e X.env) :: starEach es X.env := by rfl) (hpl : (backTo pos (starEach es X.env)).any (·.1) = false := by rfl) : PE X (.Call (.Name x p) (e :: es) [] pos) (tCB r t) := by
  intro pins s σ H Q I h
  refine wpAny_Call_Name_kw (ld_blt I hg hm hv ?_ hn hdb)
  exact PyProof.Rows.callWith_builtin1 (thn (ha pos pins s σ H _ I h) fun us s1 ⟨vs, H1, I1, r1, q1⟩ => hc pins s1 σ H1 vs us Q I1 r1 q1) he hpl
/-- T(e, ..), T a built-in type -/
theorem pe_callTy (hc : CallR X (.type T) r) (hg : Gl X x) (hm : X.mg x = none) (hv : bootBuiltins x = some (.type T)) (ha : PA X (e :: es) t) (hn : x ≠ "__name__" := by decide) (hdb : (x == ("__debug__" : Str)) = false := by decide)
    (he : starEach (e :: es) X.env = (false, eval e X.env) :: starEach es X.env := by rfl) (hpl : (backTo pos (starEach es X.env)).any (·.1) = false := by rfl) : PE X (.Call (.Name x p) (e :: es) [] pos) (tCB r t) := by
  intro pins s σ H Q I h
  refine wpAny_Call_Name_kw (ld_blt I hg hm hv ?_ hn hdb)
  exact PyProof.Rows.callWith_type1 (thn (ha pos pins s σ H _ I h) fun us s1 ⟨vs, H1, I1, r1, q1⟩ => hc pins s1 σ H1 vs us Q I1 r1 q1) he hpl
end
end L2

namespace HT
open PySem PyProof.Rows

section
open PySem.SeqAt
open PySem.AutoSeq1 (wpAny_loadPart')
open PySem.MeetsSeq PySem.MeetsSeq2 PySem.MeetsSeq3

end

section
variable {prog : Program} {w : World} {A : Around} {E : Value → Shared → Prop} {s : Shared}

/-! ### t[a:b], not the whole -/
/-- a slice's bound as a place among n (d where it is left out) -/
def sIx (n d : Nat) : Option Int → Nat
  | none => d
  | some v => if v < 0 then (v + (n : Int)).toNat else min v.toNat n
theorem sIx_le (n d : Nat) (hd : d ≤ n) (o : Option Int) : sIx n d o ≤ n := by
  cases o with
  | none => exact hd
  | some v =>
    show (if v < 0 then (v + (n : Int)).toNat else min v.toNat n) ≤ n
    by_cases hv : v < 0
    · rw [if_pos hv]; omega
    · rw [if_neg hv]; exact Nat.min_le_right _ _
theorem clip_eq (v : Int) (n d : Nat) : (if v < 0 then max (v + (n : Int)) 0 else min v (n : Int)) = ((sIx n d (some v) : Nat) : Int) := by
  show (if v < 0 then max (v + (n : Int)) 0 else min v (n : Int)) = (((if v < 0 then (v + (n : Int)).toNat else min v.toNat n) : Nat) : Int)
  by_cases hv : v < 0
  · simp only [if_pos hv]; omega
  · simp only [if_neg hv]; omega
theorem adjust_gen (lo hi : Option Int) (n : Nat) : Builtin.Slice.sliceAdjust lo hi 1 (n : Int) = (((sIx n 0 lo : Nat) : Int), ((sIx n n hi : Nat) : Int)) := by
  have h1 : ¬ ((1 : Int) < 0) := by omega
  unfold Builtin.Slice.sliceAdjust
  simp only [h1, if_false]
  refine Prod.ext ?_ ?_
  · cases lo with
    | none => rfl
    | some v => exact clip_eq v n 0
  · cases hi with
    | none => rfl
    | some v => exact clip_eq v n n
theorem places_gen (i j : Nat) : Builtin.Slice.slicePlaces (i : Int) (j : Int) 1 = j - i := by
  unfold Builtin.Slice.slicePlaces
  have h1 : (1 : Int) > 0 := by omega
  simp only [h1, if_true, Int.ediv_one]
  split <;> omega
theorem slicePart_ {v : Value} {o : Option Int} {Q : Option Int → Shared → Prop} (p : IsPart v o) (h : Q o s) : wpAny (model prog w) A (Builtin.Slice.slicePartIndex v) Q E s := by
  cases p with
  | none => exact slicePart_none h
  | int i t => exact slicePart_int h
theorem sliceApplied_gen {sl : Addr} {vl vu : Value} {lo hi : Option Int} {n : Nat} {Q : Int × Int × Nat → Shared → Prop} (hs : s.heap.IsSliceOf sl vl vu .none) (pl : IsPart vl lo) (pu : IsPart vu hi)
    (h : Q (((sIx n 0 lo : Nat) : Int), 1, sIx n n hi - sIx n 0 lo) s) : wpAny (model prog w) A (Builtin.Slice.sliceApplied (.ref sl) (pure (n : Int))) Q E s := by
  obtain ⟨os, hos, hcs, hds⟩ := id hs
  unfold Builtin.Slice.sliceApplied Builtin.Slice.sliceFields
  refine wpAny_bind (wpAny_bind (wpAny_field hos hds (x := vl) rfl (wpAny_bind (wpAny_field hos hds (x := vu) rfl (wpAny_bind (wpAny_field hos hds (x := .none) rfl (wpAny_pure ?_)))))))
  refine wpAny_bind (slicePart_none ?_)
  show wpAny _ _ (if ((1 : Int) == 0) = true then _ else _) _ _ s
  rw [if_neg (by decide)]
  refine wpAny_bind (slicePart_ pl (wpAny_bind (slicePart_ pu (wpAny_bind (wpAny_pure ?_)))))
  show wpAny _ _ (match Builtin.Slice.sliceAdjust lo hi 1 (n : Int) with | (lo, hi) => pure (lo, (1 : Int), Builtin.Slice.slicePlaces lo hi 1)) _ _ s
  rw [adjust_gen lo hi n]
  show wpAny _ _ (pure (((sIx n 0 lo : Nat) : Int), (1 : Int), Builtin.Slice.slicePlaces ((sIx n 0 lo : Nat) : Int) ((sIx n n hi : Nat) : Int) 1)) _ _ s
  rw [places_gen]
  exact wpAny_pure h
theorem pick_gen (xs : Array Value) (i k : Nat) : ((List.range k).filterMap fun (m : Nat) => xs[((i : Int) + (m : Int) * 1).toNat]?).toArray = ((xs.toList.drop i).take k).toArray := by
  have e : (fun (m : Nat) => xs[((i : Int) + (m : Int) * 1).toNat]?) = fun m => xs[i + m]? := by
    funext m
    have : ((i : Int) + (m : Int) * 1).toNat = i + m := by omega
    rw [this]
  rw [e]
  have := pick_run xs i k
  rw [List.filterMap_map] at this
  have e2 : ((fun x => xs[x]?) ∘ fun x => i + x) = fun m => xs[i + m]? := rfl
  rw [e2] at this
  rw [this]

theorem getItem_tuple_cut {t sl : Addr} {items : Array Value} {vl vu : Value} {lo hi : Option Int} {Q : Value → Shared → Prop} (ht : IsTup s.heap t items) (hs : s.heap.IsSliceOf sl vl vu .none) (pl : IsPart vl lo) (pu : IsPart vu hi)
    (hw : ¬ (sIx items.size 0 lo = 0 ∧ sIx items.size items.size hi = items.size))
    (h : Q (.ref s.heap.objs.size) { s with heap := s.heap.push { cls := .type "tuple", data := .seq ((items.toList.drop (sIx items.size 0 lo)).take (sIx items.size items.size hi - sIx items.size 0 lo)).toArray } })
    (hsz : items.size ≤ sizeLine) : wpAny (model prog w) A (getItem (.ref t) (.ref sl)) Q E s := by
  have htake : sizeOk (.seq ((items.toList.drop (sIx items.size 0 lo)).take (sIx items.size items.size hi - sIx items.size 0 lo)).toArray) := by
    show ((items.toList.drop (sIx items.size 0 lo)).take (sIx items.size items.size hi - sIx items.size 0 lo)).toArray.size ≤ sizeLine
    rw [List.size_toArray, List.length_take, List.length_drop, Array.length_toList]
    omega
  have hj : sIx items.size items.size hi ≤ items.size := sIx_le _ _ (Nat.le_refl _) hi
  obtain ⟨os, hos, hcs, hds⟩ := id hs
  have hTs : s.TypeIs (.ref sl) "slice" := ⟨os, hos, hcs⟩
  unfold getItem
  try with_reducible refine wpAny_holding ?_
  first | refine wpAny_bind (wpAny_pure ?_) | skip
  refine wpAny_bind (wpAny_sequenceKey ht.typeIs (by decide) ?_)
  refine wpAny_bind (wpAny_callSpecial?_slot (name := Str.ofString "__getitem__") ht.typeIs PyProof.Rows.slot_tuple_getitem
    (wpAny_call_entry PyProof.Rows.slot_tuple_getitem ht.typeIs entry_tuple_getitem ?_ (args_tuple_getitem _ _)))
  show wpAny _ _ (Builtin.Tuple.tupleItemsOf (.ref t) >>= _) _ _ s
  refine wpAny_bind (tupleItemsOf_ ht ?_)
  refine wpAny_bind (wpAny_typeOf hTs ?_)
  rw [if_pos (by decide)]
  refine wpAny_bind (sliceApplied_gen hs pl pu ?_)
  have hno : ¬ ((((sIx items.size 0 lo : Nat) : Int) == 0 && (1 : Int) == 1 && (sIx items.size items.size hi - sIx items.size 0 lo) == items.size) = true) := by
    intro q
    rw [Bool.and_eq_true, Bool.and_eq_true] at q
    have q1 : ((sIx items.size 0 lo : Nat) : Int) = 0 := eq_of_beq q.1.1
    have q2 : sIx items.size items.size hi - sIx items.size 0 lo = items.size := eq_of_beq q.2
    exact hw ⟨by omega, by omega⟩
  show wpAny _ _ (if (((sIx items.size 0 lo : Nat) : Int) == 0 && (1 : Int) == 1 && (sIx items.size items.size hi - sIx items.size 0 lo) == items.size) = true then _ else _) _ _ s
  rw [if_neg hno, pick_gen]
  first
    | exact wpAny_bind (m := Builtin.Tuple.tupleExact _) (wpAny_newObj_type (wpAny_pure ⟨_, rfl, wpAny_pure h⟩) htake)
    | exact wpAny_bind (m := Builtin.Tuple.tupleExact _) (wpAny_newObj_type (wpAny_bind (wpAny_pure (wpAny_pure ⟨_, rfl, wpAny_pure h⟩))) htake)
    | exact wpAny_bind (wpAny_bind (m := Builtin.Tuple.tupleExact _) (wpAny_newObj_type (wpAny_pure (wpAny_pure ⟨_, rfl, wpAny_pure h⟩)) htake))
    | exact wpAny_bind (wpAny_bind (m := Builtin.Tuple.tupleExact _) (wpAny_newObj_type (wpAny_pure ⟨_, rfl, wpAny_pure h⟩) htake))
end
end HT

namespace L2
open PySem PySem.Spec PyProof.Rows

/-! ### the parts of a slice -/
abbrev TO := St → Hp → (Option Int → Hp → Prop) → Prop
/-- a slice's part (left out, or an int) -/
def PO (X : Cx) (e : Option Expr) (t : TO) : Prop :=
  ∀ (pins : List (Addr × Obj)) (s : Shared) (σ : St) (H : Hp) (Q : Option Int → Hp → Prop), Inv X pins σ H s → t σ H Q →
    wpAny (model X.prog X.w) X.A (evalPart e X.env) (fun u s' => ∃ o H', Inv X pins σ H' s' ∧ IsPart u o ∧ Q o H') X.xe s
def tNoPart : TO := fun _ H Q => Q none H
def tPart (t : TE) : TO := fun σ H Q => t σ H fun x H1 => ∃ i, x = .int i ∧ Q (some i) H1

theorem intsAre_of {ns : List Int} : ∀ {us : List Value}, Vals (ns.map V.int) us → IntsAre us ns := by
  induction ns with
  | nil => intro us r; rw [List.map_nil] at r; cases r; exact .nil
  | cons n ns ih =>
    intro us r
    rw [List.map_cons] at r
    cases r with
    | cons r1 r2 =>
      obtain ⟨t, e⟩ := r1
      subst e
      exact .cons n t (ih r2)

section
variable {X : Cx} {e : Expr} {te : TE} {lo hi : Option Expr} {tl th : TO} {pos p2 : Pos}

theorem po_none : PO X none tNoPart := by
  intro pins s σ H Q I h
  rw [evalPart_none]
  exact wpAny_pure ⟨none, H, I, .none, h⟩
theorem po_some (h : PE X e te) : PO X (some e) (tPart te) := by
  intro pins s σ H Q I hw
  rw [evalPart_some]
  refine thn (h pins s σ H _ I hw) fun u s1 ⟨x, H1, I1, r1, q1⟩ => ?_
  obtain ⟨i, rfl, q⟩ := q1
  obtain ⟨t, rfl⟩ := r1
  exact ⟨some i, H1, I1, .int i t, q⟩

/-- what a slice of a value is, by values: the slice object stands at sl -/
def SlR (X : Cx) (r : V → Option Int → Option Int → Hp → VK → Prop) : Prop :=
  ∀ (pins : List (Addr × Obj)) (s : Shared) (σ : St) (H : Hp) (x : V) (v vl vu : Value) (lo hi : Option Int) (sl : Addr) (Q : VK), Inv X pins σ H s → RelV x v → s.heap.IsSliceOf sl vl vu .none → IsPart vl lo → IsPart vu hi → r x lo hi H Q →
    ∃ T id, typeLookup (.type T) "__getitem__" = pure (some (.builtin id)) ∧ s.TypeIs v T ∧ wpAny (model X.prog X.w) X.A (getItem v (.ref sl)) (EP X pins σ Q) X.xe s
theorem SlR.or {r r' : V → Option Int → Option Int → Hp → VK → Prop} (h : SlR X r) (h' : SlR X r') : SlR X (fun x lo hi H Q => r x lo hi H Q ∨ r' x lo hi H Q) := by
  intro pins s σ H x v vl vu lo hi sl Q I rx hs pl pu q
  rcases q with q | q
  · exact h pins s σ H x v vl vu lo hi sl Q I rx hs pl pu q
  · exact h' pins s σ H x v vl vu lo hi sl Q I rx hs pl pu q
def tSl (r : V → Option Int → Option Int → Hp → VK → Prop) (te : TE) (tl th : TO) : TE := fun σ H Q => te σ H fun x H1 => tl σ H1 fun l H2 => th σ H2 fun u H3 => r x l u H3 Q
/-- a[lo:hi], any a -/
theorem pe_slice {r : V → Option Int → Option Int → Hp → VK → Prop} (hr : SlR X r) (he : PE X e te) (hl : PO X lo tl) (hu : PO X hi th) : PE X (.Subscript e (.Slice lo hi none p2) pos) (tSl r te tl th) := by
  intro pins s σ H Q I h
  refine Subscript_ (thn (he pins s σ H _ I h) fun v s1 ⟨x, H1, I1, r1, q1⟩ => ?_)
  refine wpAny_Slice (thn (hl pins s1 σ H1 _ I1 q1) fun vl s2 ⟨l, H2, I2, pl, q2⟩ => thn (hu pins s2 σ H2 _ I2 q2) fun vu s3 ⟨u, H3, I3, pu, q3⟩ => ?_)
  rw [evalPart_none]
  refine wpAny_pure ?_
  have I4 : Inv X pins σ H3 { s3 with heap := s3.heap.push { cls := .type "slice", data := .fields #[vl, vu, .none] } } := I3.kept (t' := s3.toks) fun b ob q => Heap.get?_push_of_some _ q
  obtain ⟨T, id, hT, ht, hg⟩ := hr pins { s3 with heap := s3.heap.push { cls := .type "slice", data := .fields #[vl, vu, .none] } } σ H3 x v vl vu l u s3.heap.objs.size Q I4 r1 (Heap.IsSliceOf.new ..) pl pu q3
  show wpAny (model X.prog X.w) X.A (subscriptTail e (.Slice lo hi none p2) v (.ref s3.heap.objs.size)) (EP X pins σ Q) X.xe { s3 with heap := s3.heap.push { cls := .type "slice", data := .fields #[vl, vu, .none] } }
  exact tail_any (ops := [.ref s3.heap.objs.size, v]) ht hT hg (by with_unfolding_all rfl)

/-- the items of xs[lo:hi] -/
def cutV (xs : List V) (lo hi : Option Int) : List V := (xs.drop (HT.sIx xs.length 0 lo)).take (HT.sIx xs.length xs.length hi - HT.sIx xs.length 0 lo)
theorem cutV_length (xs : List V) (lo hi : Option Int) : (cutV xs lo hi).length ≤ xs.length := by
  unfold cutV
  rw [List.length_take, List.length_drop]
  omega
/-- t[lo:hi], not the whole of it (the whole would be t itself) -/
def rSlT (K : PySem.W.Frag) : V → Option Int → Option Int → Hp → VK → Prop := fun x lo hi H Q => ∃ a xs, x = .ref a ∧ SqT K H a xs ∧
  ¬ (HT.sIx xs.length 0 lo = 0 ∧ HT.sIx xs.length xs.length hi = xs.length) ∧ ∀ p, H p = none → Q (.ref p) (upd H p (.tup (cutV xs lo hi)))
theorem sl_tup : SlR X (rSlT X.K) := by
  intro pins s σ H x v vl vu lo hi sl Q I rx hs pl pu h
  obtain ⟨a, xs, rfl, hx, hw, q⟩ := h
  cases rx
  obtain ⟨its, r, ht, hz⟩ := I.tuple hx
  have hlen : its.toArray.size = xs.length := by rw [List.size_toArray]; exact r.length.symm
  refine ⟨"tuple", _, PyProof.Rows.slot_tuple_getitem.lookup, ht.typeIs, ?_⟩
  refine HT.getItem_tuple_cut ht hs pl pu (by rw [hlen]; exact hw) ?_ (by rw [hlen]; exact hz)
  rw [hlen]
  refine ⟨.ref s.heap.objs.size, _, I.laid (t' := s.toks) (o := .tup (cutV xs lo hi)) (fun b ob q => Heap.get?_push_of_some _ q) (Nat.le_refl _) ?_, rfl, q _ (I.hok.fresh (Nat.le_refl _))⟩
  exact ⟨Nat.le_trans (cutV_length xs lo hi) hz, _, (r.drop (HT.sIx xs.length 0 lo)).take (HT.sIx xs.length xs.length hi - HT.sIx xs.length 0 lo), IsTupP.new _ _⟩

/-! ### t < u, t + u -/
end
end L2

namespace L2
open PySem PySem.Spec PyProof.Rows

/-! ### places -/
/-- the place that an index of any sign means -/
def ixN (n : Nat) (i : Int) : Option Nat := if 0 ≤ i then (if i < n then some i.toNat else none) else if -(n : Int) ≤ i then some (i + n).toNat else none
def atI {α : Type} (xs : List α) (i : Int) : Option α := (ixN xs.length i).bind fun j => xs[j]?
theorem ixN_seq {n : Nat} {i : Int} {j : Nat} (h : ixN n i = some j) : seqIndex? i n = some j ∧ j < n ∧ -(n : Int) ≤ i ∧ i < n := by
  unfold ixN at h
  by_cases h0 : 0 ≤ i
  · rw [if_pos h0] at h
    by_cases h1 : i < n
    · rw [if_pos h1] at h
      have e : i.toNat = j := Option.some.inj h
      exact ⟨by rw [seqIndex_of h0 h1, e], by omega, by omega, h1⟩
    · rw [if_neg h1] at h; cases h
  · rw [if_neg h0] at h
    by_cases h1 : -(n : Int) ≤ i
    · rw [if_pos h1] at h
      have e : (i + n).toNat = j := Option.some.inj h
      exact ⟨by rw [seqIndex_neg (by omega) h1, e], by omega, h1, by omega⟩
    · rw [if_neg h1] at h; cases h
theorem atI_get {α : Type} {xs : List α} {i : Int} {v : α} (h : atI xs i = some v) : ∃ j, seqIndex? i xs.length = some j ∧ xs[j]? = some v ∧ j < xs.length ∧ -(xs.length : Int) ≤ i ∧ i < xs.length := by
  unfold atI at h
  cases e : ixN xs.length i with
  | none => rw [e] at h; cases h
  | some j =>
    rw [e] at h
    obtain ⟨h1, h2, h3, h4⟩ := ixN_seq e
    exact ⟨j, h1, h, h2, h3, h4⟩
theorem atI_nat {α : Type} {xs : List α} {j : Nat} {v : α} (h : xs[j]? = some v) : atI xs (j : Int) = some v := by
  have hj : j < xs.length := (List.getElem?_eq_some_iff.mp h).1
  have e : ixN xs.length (j : Int) = some j := by
    unfold ixN
    rw [if_pos (by omega), if_pos (by omega)]; simp
  unfold atI; rw [e]; exact h
theorem atI_last {α : Type} (xs : List α) (v : α) : atI (xs ++ [v]) (-1) = some v := by
  have hl : (xs ++ [v]).length = xs.length + 1 := by simp
  have e : ixN (xs ++ [v]).length (-1) = some xs.length := by
    unfold ixN
    rw [hl, if_neg (by decide), if_pos (by omega)]
    congr 1
    omega
  unfold atI
  rw [e]
  show (xs ++ [v])[xs.length]? = some v
  simp

/-! ### what may be subscripted -/
/-- what stands as an index of a plain subscript -/
def PlainIx (b : Expr) : Prop := ∀ o i, subscripted b false o i = operate [o, i] (getItem o i)
/-- a subscript by values -/
def IxR (X : Cx) (r : R2) : Prop :=
  ∀ (value slice : Expr) (pins : List (Addr × Obj)) (s : Shared) (σ : St) (H : Hp) (x y : V) (v u : Value) (Q : VK), Inv X pins σ H s → RelV x v → RelV y u → r x y H Q →
    subscripted slice false v u = operate [v, u] (getItem v u) → wpAny (model X.prog X.w) X.A (subscriptTail value slice v u) (EP X pins σ Q) X.xe s
/-- a call of a builtin's method by values: the receiver, the arguments -/
def MtR (X : Cx) (id : String) (r : V → List V → Hp → VK → Prop) : Prop :=
  ∀ (pins : List (Addr × Obj)) (s : Shared) (σ : St) (H : Hp) (x : V) (xs : List V) (v : Value) (us : List Value) (Q : VK), Inv X pins σ H s → RelV x v → Vals xs us → r x xs H Q →
    wpAny (model X.prog X.w) X.A (call (.builtin id) (v :: us)) (EP X pins σ Q) X.xe s
section
variable {X : Cx} {a b : Expr} {ta tb : TE} {pos : Pos}
theorem IxR.or {r r' : R2} (h : IxR X r) (h' : IxR X r') : IxR X (fun x y H Q => r x y H Q ∨ r' x y H Q) := by
  intro value slice pins s σ H x y v u Q I rx ry q hs
  rcases q with q | q
  · exact h value slice pins s σ H x y v u Q I rx ry q hs
  · exact h' value slice pins s σ H x y v u Q I rx ry q hs
theorem MtR.or {id : String} {r r' : V → List V → Hp → VK → Prop} (h : MtR X id r) (h' : MtR X id r') : MtR X id (fun x xs H Q => r x xs H Q ∨ r' x xs H Q) := by
  intro pins s σ H x xs v us Q I rx rs q
  rcases q with q | q
  · exact h pins s σ H x xs v us Q I rx rs q
  · exact h' pins s σ H x xs v us Q I rx rs q
/-- a[b] -/
theorem pe_ix {r : R2} (hr : IxR X r) (ha : PE X a ta) (hb : PE X b tb) (hs : PlainIx b) : PE X (.Subscript a b pos) (tOp r ta tb) := by
  intro pins s σ H Q I h
  exact Subscript_ (binT ha hb I h fun v u s2 x y H2 I2 rx ry q => hr a b pins s2 σ H2 x y v u Q I2 rx ry q (hs _ _))

def rIxL (K : PySem.W.Frag) : R2 := fun x y H Q => ∃ p xs i v, x = .ref p ∧ y = .int i ∧ SqL K H p xs ∧ atI xs i = some v ∧ Q v H
def rIxT (K : PySem.W.Frag) : R2 := fun x y H Q => ∃ p xs i v, x = .ref p ∧ y = .int i ∧ SqT K H p xs ∧ atI xs i = some v ∧ Q v H
def rIxS : R2 := fun x y H Q => ∃ z i c, x = .str z ∧ y = .int i ∧ z.length ≤ sizeLine ∧ atI z.cps.toList i = some c ∧ Q (.str ⟨#[c]⟩) H
theorem ix_list : IxR X (rIxL X.K) := by
  intro value slice pins s σ H x y v u Q I rx ry h hs
  obtain ⟨p, xs, i, z, rfl, rfl, hq, he, q⟩ := h
  cases rx
  obtain ⟨t, rfl⟩ := ry
  obtain ⟨its, r, pl, hz⟩ := I.list hq
  obtain ⟨j, h1, h2, h3, h4, h5⟩ := atI_get he
  obtain ⟨w, ew, rw'⟩ := r.get h2
  have hl := r.length
  have hn := line63
  have fin : EP X pins σ Q w s := ⟨z, H, I, rw', q⟩
  by_cases h0 : 0 ≤ i
  · have hj : i.toNat = j := by
      rw [seqIndex_of h0 h5] at h1
      exact Option.some.inj h1
    exact item_listR pl.isList h0 (by omega) (by rw [hj]; simpa using ew) fin hs
  · have hj : (i + (its.toArray.size : Int)).toNat = j := by
      rw [seqIndex_neg (by omega) h4] at h1
      rw [List.size_toArray, ← hl]
      exact Option.some.inj h1
    exact subscriptTail_builtinR (x := w) pl.isList.typeIs slot_list_getitem.lookup
      (wpAny_getItem_list_neg (Q := fun r s' => r = w ∧ EP X pins σ Q r s') pl.isList (by omega) (by rw [List.size_toArray] <;> omega) (by omega) (by rw [hj]; simpa using ew) ⟨rfl, fin⟩) hs
theorem ix_tup : IxR X (rIxT X.K) := by
  intro value slice pins s σ H x y v u Q I rx ry h hs
  obtain ⟨p, xs, i, z, rfl, rfl, hq, he, q⟩ := h
  cases rx
  obtain ⟨t, rfl⟩ := ry
  obtain ⟨its, r, pl, hz⟩ := I.tuple hq
  obtain ⟨j, h1, h2, h3, h4, h5⟩ := atI_get he
  obtain ⟨w, ew, rw'⟩ := r.get h2
  have hl := r.length
  have hn := line63
  have fin : EP X pins σ Q w s := ⟨z, H, I, rw', q⟩
  exact subscriptTail_builtinR (x := w) pl.typeIs slot_tuple_getitem.lookup
    (getItem_tuple (j := j) (Q := fun r s' => r = w ∧ EP X pins σ Q r s') pl (by omega) (by omega) (by rw [List.size_toArray, ← hl]; exact h1) (by simpa using ew) ⟨rfl, fin⟩) hs
theorem ix_str : IxR X rIxS := by
  intro value slice pins s σ H x y v u Q I rx ry h hs
  obtain ⟨z, i, c, rfl, rfl, hz, he, q⟩ := h
  obtain ⟨t, rfl⟩ := rx
  obtain ⟨t', rfl⟩ := ry
  obtain ⟨j, h1, h2, h3, h4, h5⟩ := atI_get he
  have hl : z.cps.toList.length = z.length := by simp [Str.length]
  rw [hl] at h1 h4 h5
  have hn := line63
  exact tail_any (typeIs_str s z t) slot_str_getitem.lookup (getItem_str (c := c) (by
    have e1 : decide (i < -(2 ^ 63 : Int)) = false := decide_eq_false (by omega)
    have e2 : decide (i ≥ 2 ^ 63) = false := decide_eq_false (by omega)
    rw [e1, e2, Bool.or_false]) (by rw [h1]; simpa using h2) ⟨.str ⟨#[c]⟩, H, I.tok _, ⟨_, rfl⟩, q⟩) hs
/-! ### xs[i] = v, any sign -/
theorem Inv.lst {pins : List (Addr × Obj)} {σ : St} {H : Hp} {s : Shared} {p : Addr} {xs : List V} (I : Inv X pins σ H s) (h : H p = some (.lst xs)) :
    ∃ (its : List Value) (n : Nat), Vals xs its ∧ s.heap.get? p = some { cls := .type "list", data := .seq its.toArray n } ∧ xs.length ≤ sizeLine := by
  obtain ⟨z, its, n, r, e⟩ := I.hok p _ h
  exact ⟨its, n, r, e, z⟩
/-! ### slices -/
theorem slice_bounds (lo hi : Option Int) (n : Nat) : (sliceBounds lo hi none n).1 = ((HT.sIx n 0 lo : Nat) : Int) ∧ (sliceBounds lo hi none n).2.1 = ((HT.sIx n n hi : Nat) : Int) ∧ (sliceBounds lo hi none n).2.2 = 1 := by
  refine ⟨?_, ?_, rfl⟩
  · cases lo with
    | none => simp [sliceBounds, HT.sIx]
    | some i =>
      simp only [sliceBounds, HT.sIx, Option.getD_none, show (1 : Int) > 0 by decide, if_true]
      by_cases h : i < 0
      · simp only [h, if_true] <;> omega
      · simp only [h, if_false] <;> omega
  · cases hi with
    | none => simp [sliceBounds, HT.sIx]
    | some i =>
      simp only [sliceBounds, HT.sIx, Option.getD_none, show (1 : Int) > 0 by decide, if_true]
      by_cases h : i < 0
      · simp only [h, if_true] <;> omega
      · simp only [h, if_false] <;> omega
theorem slicePick_cut (its : List Value) (lo hi : Option Int) : slicePick its.toArray lo hi none = ((its.drop (HT.sIx its.length 0 lo)).take (HT.sIx its.length its.length hi - HT.sIx its.length 0 lo)).toArray := by
  obtain ⟨h1, h2, h3⟩ := slice_bounds lo hi its.toArray.size
  unfold slicePick
  rw [h1, h2, h3]
  simp only [sliceRange_one, pick_run, List.size_toArray] <;> rfl
/-- xs[lo:hi] of a list: a new list -/
def rSlL (K : PySem.W.Frag) : V → Option Int → Option Int → Hp → VK → Prop := fun x lo hi H Q => ∃ a xs, x = .ref a ∧ SqL K H a xs ∧ ∀ p, H p = none → Q (.ref p) (upd H p (.lst (cutV xs lo hi)))
theorem sl_list : SlR X (rSlL X.K) := by
  intro pins s σ H x v vl vu lo hi sl Q I rx hs pl pu h
  obtain ⟨a, xs, rfl, hx, q⟩ := h
  cases rx
  obtain ⟨its, r, ht, hz⟩ := I.list hx
  have hlen := r.length
  refine ⟨"list", _, slot_list_getitem.lookup, ht.isList.typeIs, ?_⟩
  refine wpAny_getItem_list_slice ht.isList hs pl pu .none (by simp) ?_ (by rw [List.size_toArray] <;> omega)
  rw [slicePick_cut, ← hlen]
  refine ⟨.ref s.heap.objs.size, _, I.laid (t' := s.toks) (o := .lst (cutV xs lo hi)) (fun b ob q => Heap.get?_push_of_some _ q) (Nat.le_refl _) ?_, rfl, q _ (I.hok.fresh (Nat.le_refl _))⟩
  exact ⟨Nat.le_trans (cutV_length xs lo hi) hz, _, 0, (r.drop (HT.sIx xs.length 0 lo)).take (HT.sIx xs.length xs.length hi - HT.sIx xs.length 0 lo), Heap.get?_push_size _ rfl⟩

/-! ### in, not in: flat items -/
def flatV : V → Bool
  | .non => true
  | .bl _ => true
  | .int _ => true
  | .str _ => true
  | _ => false
/-- == of flat values -/
def eqV : V → V → Bool
  | .non, .non => true
  | .bl a, .bl b => a == b
  | .bl a, .int b => (if a then 1 else 0) == b
  | .int a, .bl b => a == (if b then 1 else 0)
  | .int a, .int b => a == b
  | .str a, .str b => a == b
  | _, _ => false
theorem eqAt_V {A : Around} {s : Shared} {y x : V} {u v : Value} (ry : RelV y u) (rx : RelV x v) (fy : flatV y = true) (fx : flatV x = true) : SeqAt.EqAt A s u v (eqV y x) := by
  cases y with
  | non =>
    cases ry
    cases x with
    | non => cases rx; exact SeqAt.EqAt.same _
    | bl b => cases rx; exact SeqAt.EqAt.none_bool b
    | int b => obtain ⟨t, rfl⟩ := rx; exact SeqAt.EqAt.none_int b t
    | str b => obtain ⟨t, rfl⟩ := rx; exact SeqAt.EqAt.none_str b t
    | _ => exact absurd (show false = true from fx) Bool.false_ne_true
  | bl a =>
    cases ry
    cases x with
    | non => cases rx; exact SeqAt.EqAt.bool_none a
    | bl b => cases rx; exact SeqAt.EqAt.bool_bool a b
    | int b => obtain ⟨t, rfl⟩ := rx; exact SeqAt.EqAt.bool_int a b t
    | str b => obtain ⟨t, rfl⟩ := rx; exact SeqAt.EqAt.bool_str a b t
    | _ => exact absurd (show false = true from fx) Bool.false_ne_true
  | int a =>
    obtain ⟨t', rfl⟩ := ry
    cases x with
    | non => cases rx; exact SeqAt.EqAt.int_none a t'
    | bl b => cases rx; exact SeqAt.EqAt.int_bool a t' b
    | int b => obtain ⟨t, rfl⟩ := rx; exact SeqAt.EqAt.int_int a t' b t
    | str b => obtain ⟨t, rfl⟩ := rx; exact SeqAt.EqAt.int_str a t' b t
    | _ => exact absurd (show false = true from fx) Bool.false_ne_true
  | str a =>
    obtain ⟨t', rfl⟩ := ry
    cases x with
    | non => cases rx; exact SeqAt.EqAt.str_none a t'
    | bl b => cases rx; exact SeqAt.EqAt.str_bool a t' b
    | int b => obtain ⟨t, rfl⟩ := rx; exact SeqAt.EqAt.str_int a t' b t
    | str b => obtain ⟨t, rfl⟩ := rx; exact SeqAt.EqAt.str_str a t' b t
    | _ => exact absurd (show false = true from fx) Bool.false_ne_true
  | _ => exact absurd (show false = true from fy) Bool.false_ne_true
/-- the items' answers, read off the values (a value's own answer does not lean on its token) -/
def eqU (x : V) (u : Value) : Bool := match u with
  | .none => eqV .non x
  | .bool b => eqV (.bl b) x
  | .int i _ => eqV (.int i) x
  | .str z _ => eqV (.str z) x
  | _ => false
theorem eqU_of {x y : V} {u : Value} (r : RelV y u) (f : flatV y = true) : eqU x u = eqV y x := by
  cases y with
  | non => cases r; rfl
  | bl b => cases r; rfl
  | int i => obtain ⟨t, rfl⟩ := r; rfl
  | str z => obtain ⟨t, rfl⟩ := r; rfl
  | _ => exact absurd (show false = true from f) Bool.false_ne_true
theorem any_eqU {x : V} : ∀ {xs : List V} {us : List Value}, Vals xs us → xs.all flatV = true → us.any (eqU x) = xs.any fun y => eqV y x
  | _, _, .nil, _ => rfl
  | y :: xs, u :: us, .cons r t, f => by
    rw [List.all_cons, Bool.and_eq_true] at f
    rw [List.any_cons, List.any_cons, eqU_of r f.1, any_eqU t f.2]
theorem mem_eqAt {A : Around} {s : Shared} {x : V} {v : Value} (rx : RelV x v) (fx : flatV x = true) : ∀ {xs : List V} {us : List Value}, Vals xs us → xs.all flatV = true → ∀ u ∈ us, SeqAt.EqAt A s u v (eqU x u)
  | _, _, .nil, _ => fun u hu => by cases hu
  | y :: xs, u :: us, .cons r t, f => fun u' hu => by
    rw [List.all_cons, Bool.and_eq_true] at f
    rcases List.mem_cons.mp hu with rfl | hu
    · rw [eqU_of r f.1]; exact eqAt_V r rx f.1 fx
    · exact mem_eqAt rx fx t f.2 u' hu
def inV (x : V) (xs : List V) : Bool := xs.any fun y => eqV y x
/-- x in a list or tuple of flat items -/
def rIn (K : PySem.W.Frag) (neg : Bool) : R2 := fun x y H Q => ∃ p xs, y = .ref p ∧ (SqL K H p xs ∨ SqT K H p xs) ∧ flatV x = true ∧ xs.all flatV = true ∧ Q (.bl (if neg then !inV x xs else inV x xs)) H
theorem op_in_seq : OpR X (compareOp .In) (rIn X.K false) := by
  intro pins s σ H x y v u Q I rx ry h
  obtain ⟨p, xs, rfl, hq, fx, fs, q⟩ := h
  cases ry
  rcases hq with hq | hq
  · obtain ⟨its, r, pl, hz⟩ := I.list hq
    refine SeqAt.in_listAt (eqU x) pl.isList (fun w hw => mem_eqAt rx fx r fs w (by simpa using hw)) ⟨.bl _, H, I, rfl, ?_⟩
    rw [show its.toArray.any (eqU x) = its.any (eqU x) by simp, any_eqU r fs]
    exact q
  · obtain ⟨its, r, pl, hz⟩ := I.tuple hq
    refine SeqAt.in_tupleAt (eqU x) pl (fun w hw => mem_eqAt rx fx r fs w (by simpa using hw)) ⟨.bl _, H, I, rfl, ?_⟩
    rw [show its.toArray.any (eqU x) = its.any (eqU x) by simp, any_eqU r fs]
    exact q
theorem op_notIn_seq : OpR X (compareOp .NotIn) (rIn X.K true) := by
  intro pins s σ H x y v u Q I rx ry h
  obtain ⟨p, xs, rfl, hq, fx, fs, q⟩ := h
  cases ry
  rcases hq with hq | hq
  · obtain ⟨its, r, pl, hz⟩ := I.list hq
    refine SeqAt.notIn_listAt (eqU x) pl.isList (fun w hw => mem_eqAt rx fx r fs w (by simpa using hw)) ⟨.bl _, H, I, rfl, ?_⟩
    rw [show its.toArray.any (eqU x) = its.any (eqU x) by simp, any_eqU r fs]
    exact q
  · obtain ⟨its, r, pl, hz⟩ := I.tuple hq
    refine SeqAt.notIn_tupleAt (eqU x) pl (fun w hw => mem_eqAt rx fx r fs w (by simpa using hw)) ⟨.bl _, H, I, rfl, ?_⟩
    rw [show its.toArray.any (eqU x) = its.any (eqU x) by simp, any_eqU r fs]
    exact q
/-! ### len, list(x), tuple(x) of any list or tuple that is read -/
theorem call_len_seq : CallR X (.builtin "len") (fun xs H Q => ∃ p ys, xs = [.ref p] ∧ (SqL X.K H p ys ∨ SqT X.K H p ys) ∧ Q (.int ys.length) H) := by
  intro pins s σ H xs us Q I r h
  obtain ⟨p, ys, rfl, hq, q⟩ := h
  obtain ⟨u, rfl, rx⟩ := vals1 r
  cases rx
  have hn := line63
  rcases hq with hq | hq
  · obtain ⟨its, r', pl, hz⟩ := I.list hq
    have hlen := r'.length
    exact Calls.call_len_list pl.isList (by simp only [List.size_toArray] <;> omega) ⟨.int ys.length, H, I.tok _, ⟨s.toks + 1, by rw [List.size_toArray, hlen]⟩, q⟩
  · obtain ⟨its, r', pl, hz⟩ := I.tuple hq
    have hlen := r'.length
    exact len_tuple pl (by simp only [List.size_toArray] <;> omega) ⟨.int ys.length, H, I.tok _, ⟨s.toks + 1, by rw [List.size_toArray, hlen]⟩, q⟩
theorem CallR.or {f : Value} {r r' : List V → Hp → VK → Prop} (h : CallR X f r) (h' : CallR X f r') : CallR X f (fun xs H Q => r xs H Q ∨ r' xs H Q) := by
  intro pins s σ H xs us Q I rs q
  rcases q with q | q
  · exact h pins s σ H xs us Q I rs q
  · exact h' pins s σ H xs us Q I rs q
theorem call_list_of : CallR X (.type "list") (fun xs H Q => ∃ p ys, xs = [.ref p] ∧ (SqL X.K H p ys ∨ SqT X.K H p ys) ∧ ∀ l, H l = none → Q (.ref l) (upd H l (.lst ys))) := by
  intro pins s σ H xs us Q I r h
  obtain ⟨p, ys, rfl, hq, q⟩ := h
  obtain ⟨u, rfl, rx⟩ := vals1 r
  cases rx
  have fin : ∀ (its : List Value), Vals ys its → ys.length ≤ sizeLine → ∀ (h' : Heap) (c' : Nat), (∀ b o', s.heap.get? b = some o' → h'.get? b = some o') →
      h'.get? s.heap.objs.size = some { cls := .type "list", dict := none, data := .seq its.toArray c', slots := #[] } → EP X pins σ Q (.ref s.heap.objs.size) { s with heap := h' } := fun its r' hz h' c' kp e =>
    ⟨.ref s.heap.objs.size, _, I.laid (t' := s.toks) kp (Nat.le_refl _) (show ObjOk X.prog X.w _ h' _ (.lst ys) from ⟨hz, its, c', r', e⟩), rfl, q _ (I.hok.fresh (Nat.le_refl _))⟩
  rcases hq with hq | hq
  · obtain ⟨its, r', pl, hz⟩ := I.list hq
    have hlen := r'.length
    obtain ⟨o, ho, hc, n, hd⟩ := pl.isList
    exact call_list_seq p (.inl rfl) ho hc hd (fun h' c' kp e => fin its r' hz h' c' kp e) (by simp only [List.size_toArray] <;> omega)
  · obtain ⟨its, r', pl, hz⟩ := I.tuple hq
    have hlen := r'.length
    obtain ⟨o, ho, hc, n, hd⟩ := pl
    exact call_list_seq p (.inr rfl) ho hc hd (fun h' c' kp e => fin its r' hz h' c' kp e) (by simp only [List.size_toArray] <;> omega)
theorem call_tuple_of : CallR X (.type "tuple") (fun xs H Q => ∃ p ys, xs = [.ref p] ∧ ((SqL X.K H p ys ∧ ∀ l, H l = none → Q (.ref l) (upd H l (.tup ys))) ∨ (SqT X.K H p ys ∧ Q (.ref p) H))) := by
  intro pins s σ H xs us Q I r h
  obtain ⟨p, ys, rfl, h⟩ := h
  obtain ⟨u, rfl, rx⟩ := vals1 r
  cases rx
  rcases h with ⟨hq, q⟩ | ⟨hq, q⟩
  · obtain ⟨its, r', pl, hz⟩ := I.list hq
    have hlen := r'.length
    refine call_tuple_list pl.isList (fun h' kp => ?_) (by simp only [List.size_toArray] <;> omega)
    have I1 : Inv X pins σ H { s with heap := h' } := I.kept (t' := s.toks) kp
    have I2 : Inv X pins σ (upd H h'.objs.size (.tup ys)) { s with heap := h'.push { cls := .type "tuple", data := .seq its.toArray } } :=
      I1.laid (t' := s.toks) (fun b o e => Heap.get?_push_of_some _ e) (Nat.le_refl _) (show ObjOk X.prog X.w _ _ _ (.tup ys) from ⟨hz, its, r', IsTupP.new _ _⟩)
    exact ⟨.ref h'.objs.size, _, I2, rfl, q _ (I1.hok.fresh (Nat.le_refl _))⟩
  · obtain ⟨its, r', pl, hz⟩ := I.tuple hq
    exact call_tuple_same pl ⟨.ref p, H, I, rfl, q⟩

/-! ### the call of a builtin's method: o.m(..) -/
/-- the value is of that builtin type -/
def tyV (K : PySem.W.Frag) (T : String) (x : V) (H : Hp) : Prop := match x with
  | .str _ => T = "str"
  | .int _ => T = "int"
  | .ref p => (T = "list" ∧ ∃ xs, SqL K H p xs) ∨ (T = "tuple" ∧ ∃ o, K.lookup p = some o ∧ o.cls = .type "tuple" ∧ o.dict = none) ∨
      (T = "dict" ∧ ((∃ kvs, H p = some (.dK kvs)) ∨ ∃ kvs, H p = some (.dT kvs))) ∨ (T = "set" ∧ ∃ S n, H p = some (.set S n))
  | _ => False
theorem tyV_is {pins : List (Addr × Obj)} {σ : St} {H : Hp} {s : Shared} {T : String} {x : V} {v : Value} (I : Inv X pins σ H s) (r : RelV x v) (ty : tyV X.K T x H) :
    s.TypeIs v T ∧ ∀ a, v = .ref a → ∃ ob, s.heap.get? a = some ob ∧ ob.dict = none := by
  cases x with
  | str z =>
    obtain ⟨t, rfl⟩ := r
    cases (show T = "str" from ty)
    exact ⟨typeIs_str s z t, fun _ e => nomatch e⟩
  | int i =>
    obtain ⟨t, rfl⟩ := r
    cases (show T = "int" from ty)
    exact ⟨typeIs_int s i t, fun _ e => nomatch e⟩
  | ref p =>
    cases r
    rcases ty with ⟨rfl, xs, hq⟩ | ⟨rfl, o, hk, hc, hd⟩ | ⟨rfl, hk⟩ | ⟨rfl, S, n, hk⟩
    · obtain ⟨its, _, pl, _⟩ := I.list hq
      refine ⟨pl.isList.typeIs, fun a e => ?_⟩
      cases e
      obtain ⟨o, n, e, c, hd, _⟩ := pl
      exact ⟨o, e, hd⟩
    · refine ⟨⟨o, I.kIn p o hk, hc⟩, fun a e => ?_⟩
      cases e
      exact ⟨o, I.kIn _ o hk, hd⟩
    · have z : ∃ o, s.heap.get? p = some o ∧ o.ExactDict := by
        rcases hk with ⟨kvs, hk⟩ | ⟨kvs, hk⟩
        · obtain ⟨_, _, _, _, o, _, _, e, ex, _⟩ := I.hok p _ hk
          exact ⟨o, e, ex⟩
        · obtain ⟨_, _, _, _, o, _, _, e, ex, _⟩ := I.hok p _ hk
          exact ⟨o, e, ex⟩
      obtain ⟨o, e, ex⟩ := z
      refine ⟨⟨o, e, ex.1⟩, fun a e2 => ?_⟩
      cases e2
      exact ⟨o, e, ex.2.1⟩
    · obtain ⟨o, _, _, _, e, ex, _⟩ := I.hok p _ hk
      refine ⟨⟨o, e, ex.1⟩, fun a e2 => ?_⟩
      cases e2
      exact ⟨o, e, ex.2.1⟩
  | _ => exact False.elim ty
def tBM (K : PySem.W.Frag) (T : String) (r : V → List V → Hp → VK → Prop) (to : TE) (t : TA) : TE := fun σ H Q => to σ H fun x H1 => tyV K T x H1 ∧ t σ H1 fun xs H2 => r x xs H2 Q
variable {o e : Expr} {es : List Expr} {to : TE} {t : TA} {name : Str} {apos cpos : Pos} {T id : String} {r : V → List V → Hp → VK → Prop}
theorem pe_bm (pa : PlainAttrs T) (slot : Slot T name id) (hty : typeOf (.builtin id) = pure (.type "method_descriptor")) (hm : MtR X id r) (ho : PE X o to) (ha : PA X (e :: es) t)
    (hbase : attributeBase o name X.env (eval o X.env) = eval o X.env := by rfl)
    (hfew : ((backTo cpos (starEach (e :: es) X.env)).all (fun x => !x.1) && (backToKw cpos (keywordEach [] X.env)).all (fun x => x.1.isSome)
      && decide ((e :: es).length + ([] : List Keyword).length + (if ([] : List Keyword).isEmpty then 0 else 1) < 30)) = true := by rfl)
    (hline : (apos.endLine == cpos.line) = true := by rfl) (hs : starEach (e :: es) X.env = (false, eval e X.env) :: starEach es X.env := by rfl) (hplain : (backTo cpos (starEach es X.env)).any (·.1) = false := by rfl) :
    PE X (.Call (.Attribute o name apos) (e :: es) [] cpos) (tBM X.K T r to t) := by
  intro pins s σ H Q I h
  refine wpAny_Call_method_late hbase hfew hline rfl (thn (ho pins s σ H _ I h) fun v s1 ⟨x, H1, I1, r1, ty, q1⟩ => ?_)
  obtain ⟨h1, h2⟩ := tyV_is I1 r1 ty
  refine ⟨T, id, pa, slot, hty, h1, h2, ?_⟩
  have hA := ha cpos pins s1 σ H1 _ I1 q1
  rw [hs] at hA ⊢
  refine Calls.callWith_builtin (by show (false || (backTo cpos (starEach es X.env)).any (·.1)) = false; rw [hplain] <;> rfl) (Calls.evalArgs_plain ?_)
  exact thn hA fun us s2 ⟨vs, H2, I2, r2, q2⟩ => hm pins s2 σ H2 x vs v us Q I2 r1 r2 q2
/- xs.append(e), list.index on a module's tuple .. are MtR facts of 06m -/
end
end L2

namespace L2
open PySem PySem.Spec PyProof.Rows

def MtM (X : Cx) (id : String) (r : V → List V → Hp → VK → Prop) : Prop :=
  ∀ (pins : List (Addr × Obj)) (s : Shared) (σ : St) (H : Hp) (x : V) (xs : List V) (v : Value) (us : List Value) (Q : VK), Inv X pins σ H s → RelV x v → Vals xs us → r x xs H Q →
    wpAny (model X.prog X.w) X.A (call (.builtin id) (v :: us)) (EP X pins σ Q) X.xe s

/-! ### lists of values -/
theorem Vals.one : ∀ {x : V} {us : List Value}, Vals [x] us → ∃ u, us = [u] ∧ RelV x u
  | _, _, .cons r .nil => ⟨_, rfl, r⟩
theorem Vals.two : ∀ {x y : V} {us : List Value}, Vals [x, y] us → ∃ u v, us = [u, v] ∧ RelV x u ∧ RelV y v
  | _, _, _, .cons r (.cons q .nil) => ⟨_, _, rfl, r, q⟩
theorem Vals.zero : ∀ {us : List Value}, Vals [] us → us = []
  | _, .nil => rfl
theorem Vals.dropLast {xs : List V} {us : List Value} (h : Vals xs us) : Vals xs.dropLast us.dropLast := by
  induction h with
  | nil => exact .nil
  | cons r t ih =>
    cases t with
    | nil => exact .nil
    | cons q t' => exact .cons r ih
theorem Vals.eraseIdx : ∀ {xs : List V} {us : List Value} (i : Nat), Vals xs us → Vals (xs.eraseIdx i) (us.eraseIdx i)
  | _, _, _, .nil => .nil
  | _, _, 0, .cons _ t => t
  | _, _, i + 1, .cons r t => .cons r (Vals.eraseIdx i t)
theorem Vals.reverse {xs : List V} {us : List Value} (h : Vals xs us) : Vals xs.reverse us.reverse := by
  induction h with
  | nil => exact .nil
  | cons r t ih => rw [List.reverse_cons, List.reverse_cons]; exact Vals.append ih (.cons r .nil)
theorem Vals.rep {xs : List V} {us : List Value} (h : Vals xs us) : ∀ k : Nat, Vals (List.replicate k xs).flatten (List.replicate k us).flatten
  | 0 => .nil
  | k + 1 => by
    rw [List.replicate_succ, List.replicate_succ, List.flatten_cons, List.flatten_cons]
    exact Vals.append h (Vals.rep h k)
theorem foldl_rep (its : List Value) : ∀ (k : Nat) (acc : List Value),
    List.foldl (fun x1 x2 => x1 ++ x2) acc.toArray (List.replicate k its.toArray) = (acc ++ (List.replicate k its).flatten).toArray
  | 0, acc => by simp
  | k + 1, acc => by
    have e : acc.toArray ++ its.toArray = (acc ++ its).toArray := by simp
    have e2 : (acc ++ its) ++ (List.replicate k its).flatten = acc ++ (List.replicate (k + 1) its).flatten := by
      rw [List.replicate_succ, List.flatten_cons, List.append_assoc]
    rw [← e2, ← foldl_rep its k (acc ++ its), ← e, List.replicate_succ, List.foldl_cons]

section
variable {X : Cx} {pins : List (Addr × Obj)} {σ : St} {H : Hp} {s : Shared} {l b : Addr} {xs ys zs : List V}

/-! ### the two steps: a tracked list is rewritten, a new list is laid -/
theorem Inv.lset {its its' : List Value} {n : Nat} {f : Array Value → Array Value} {t' : Nat} (I : Inv X pins σ H s) (hH : H l = some (.lst xs))
    (e : s.heap.get? l = some { cls := .type "list", data := .seq its.toArray n }) (hf : f its.toArray = its'.toArray) (hv : Vals ys its') (hz : ys.length ≤ sizeLine) :
    Inv X pins σ (upd H l (.lst ys)) { s with heap := s.heap.update l (Obj.mapSeq f), toks := t' } := by
  have q := PySem.IsL.update e f
  rw [hf] at q
  refine I.write (x := l) (e := l) (by rw [hH]; exact trivial) (.inl rfl) (fun b' u hb hu => (Heap.get?_update_other s.heap (Obj.mapSeq f) (Ne.symm hb)).trans hu) ⟨_, q⟩ ?_
  exact ⟨hz, its', _, hv, q⟩
theorem Inv.lnew {its : List Value} {t' : Nat} (I : Inv X pins σ H s) (hv : Vals ys its) (hz : ys.length ≤ sizeLine) :
    Inv X pins σ (upd H s.heap.objs.size (.lst ys)) { s with heap := s.heap.push { cls := .type "list", data := .seq its.toArray }, toks := t' } :=
  I.laid (fun _ _ q => Heap.get?_push_of_some _ q) (Nat.le_refl _) ⟨hz, its, 0, hv, Heap.get?_push_size _ rfl⟩
theorem Inv.fresh (I : Inv X pins σ H s) : H s.heap.objs.size = none := I.hok.fresh (Nat.le_refl _)
theorem Inv.lstM (I : Inv X pins σ H s) (hH : H l = some (.lst xs)) : xs.length ≤ sizeLine ∧ ∃ (its : List Value) (n : Nat), Vals xs its ∧ xs.length = its.length ∧ s.heap.get? l = some { cls := .type "list", data := .seq its.toArray n } := by
  obtain ⟨z, its, n, r, e⟩ := I.hok l _ hH
  exact ⟨z, its, n, r, r.length, e⟩

theorem notLongL {n : Nat} (h : n ≤ sizeLine) : Builtin.List.listTooLong n = false := by
  unfold Builtin.List.listTooLong
  exact decide_eq_false (by omega)
end

section
variable {X : Cx}

/-! ### methods -/
def rAppend : V → List V → Hp → VK → Prop := fun x vs H Q => ∃ l xs y, x = .ref l ∧ vs = [y] ∧ H l = some (.lst xs) ∧ xs.length < sizeLine ∧ Q .non (upd H l (.lst (xs ++ [y])))
theorem mt_append : MtM X "list.append" rAppend := by
  intro pins s σ H x vs v us Q I rx rv h
  obtain ⟨l, xs, y, rfl, rfl, hH, hz, q⟩ := h
  cases rx
  obtain ⟨u, rfl, ru⟩ := rv.one
  obtain ⟨z, its, n, r, hl, e⟩ := I.lstM hH
  refine call_meets F.slot_list_append ⟨_, e, rfl⟩ F.entry_list_append (F.args_list_append_2 _ _) (PySem.list_append l its.toArray n u (by rw [List.size_toArray]; omega)) ⟨e, ?_⟩
  refine ⟨.non, _, I.lset (its' := its ++ [u]) hH e (by simp) (r.append (.cons ru .nil)) ?_, rfl, q⟩
  rw [List.length_append, List.length_singleton]
  omega

def rExtend : V → List V → Hp → VK → Prop := fun x vs H Q => ∃ l b xs zs, x = .ref l ∧ vs = [.ref b] ∧ H l = some (.lst xs) ∧ H b = some (.lst zs) ∧ xs.length + zs.length ≤ sizeLine ∧ Q .non (upd H l (.lst (xs ++ zs)))
theorem mt_extend : MtM X "list.extend" rExtend := by
  intro pins s σ H x vs v us Q I rx rv h
  obtain ⟨l, b, xs, zs, rfl, rfl, hH, hB, hz, q⟩ := h
  cases rx
  obtain ⟨u, rfl, ru⟩ := rv.one
  cases ru
  obtain ⟨z, its, n, r, hl, e⟩ := I.lstM hH
  obtain ⟨z2, its2, n2, r2, hl2, e2⟩ := I.lstM hB
  have hsz : its.toArray.size + its2.toArray.size ≤ sizeLine := by rw [List.size_toArray, List.size_toArray]; omega
  have hlong : ¬ (!its.toArray.isEmpty && Builtin.List.listTooLong (its.toArray.size + its2.toArray.size)) = true := by
    rw [notLongL hsz, Bool.and_false]
    exact Bool.false_ne_true
  refine call_meets F.slot_list_extend ⟨_, e, rfl⟩ F.entry_list_extend (F.args_list_extend_2 _ _)
    (AutoSeq1.list_extend_list_list_0 l its.toArray n b its2.toArray n2 hlong (by rw [List.size_toArray]; omega) (by omega)) ⟨e, e2, ?_⟩
  refine ⟨.non, _, I.lset (its' := its ++ its2) hH e (by simp) (r.append r2) ?_, rfl, q⟩
  rw [List.length_append]
  omega

/-! ### list + list, list += list, list * int -/
/-- a list times an int (a negative one is nothing) -/
def rRep : R2 := fun x y H Q => ∃ l k xs, x = .ref l ∧ y = .int k ∧ H l = some (.lst xs) ∧ -(2 ^ 63) ≤ k ∧ k < 2 ^ 63 ∧ xs.length * k.toNat ≤ sizeLine ∧
  ∀ p, H p = none → Q (.ref p) (upd H p (.lst (List.replicate k.toNat xs).flatten))
theorem len_rep {α : Type} (xs : List α) (k : Nat) : (List.replicate k xs).flatten.length = k * xs.length := by
  induction k with
  | zero => simp
  | succ k ih => rw [List.replicate_succ, List.flatten_cons, List.length_append, ih, Nat.succ_mul, Nat.add_comm]
theorem op_rep : OpR X (binaryOp .Mult) rRep := by
  intro pins s σ H x y v u Q I rx ry h
  obtain ⟨l, k, xs, rfl, rfl, hH, h1, h2, hz, q⟩ := h
  cases rx
  obtain ⟨t, rfl⟩ := ry
  obtain ⟨z, its, n, r, hl, e⟩ := I.lstM hH
  have hlen : its.toArray.size * k.toNat ≤ sizeLine := by rw [List.size_toArray, ← hl]; exact hz
  have hcap : ¬ its.toArray.size * k.toNat > (2 ^ 63 - 1) / 8 := by
    have : (sizeLine : Nat) ≤ (2 ^ 63 - 1) / 8 := by decide
    omega
  have hfit : ¬ (!Builtin.List.listFitsIndex k) = true := by
    rw [fitsIndex_both h1 h2]
    exact Bool.false_ne_true
  have hlong : ¬ Builtin.List.listTooLong (its.toArray.size * k.toNat) = true := by
    rw [notLongL hlen]
    exact Bool.false_ne_true
  have hnew : List.foldl (fun x1 x2 => x1 ++ x2) #[] (List.replicate (if its.toArray.isEmpty = true then 0 else k.toNat) its.toArray) = (List.replicate k.toNat its).flatten.toArray := by
    have f0 : ∀ m : Nat, List.foldl (fun x1 x2 => x1 ++ x2) #[] (List.replicate m its.toArray) = (List.replicate m its).flatten.toArray := fun m => by
      have := foldl_rep its m []
      rw [List.nil_append] at this
      exact this
    rw [f0]
    cases its with
    | nil => simp
    | cons a r' => rw [if_neg (by simp)]
  refine wpAny_binaryOp_repeat_ref (T := "list") (U := "int") (by decide) ⟨_, e, rfl⟩ (fun s' => typeIs_int s' k t) noFill_list_mul F.fills_int_mul F.slot_int_rmul repeat_list F.slot_int_index.lookup
    (call_meets F.slot_int_rmul (typeIs_int s k t) F.entry_int_rmul (F.args_int_rmul_2 _ _) (int___rmul___int_list k t l its.toArray n)
      ⟨e, rfl, ⟨_, e, rfl⟩, call_meets F.slot_list_mul ⟨_, e, rfl⟩ F.entry_list_mul (F.args_list_mul_2 _ _) (AutoListH.list___mul___list_int_3 l its.toArray n k t hfit hcap hlong) ⟨e, ?_⟩⟩)
  rw [hnew]
  exact ⟨.ref _, _, I.lnew (t' := s.toks) (r.rep k.toNat) (by rw [len_rep, Nat.mul_comm]; exact hz), rfl, q _ I.fresh⟩

/-! ### del xs[i] -/
end

/-! ### xs[a:b] = ys -/
section
variable {prog : Program} {w : World} {A : Around} {E : Value → Shared → Prop} {s : Shared}
set_option maxRecDepth 100000 in
end

section
variable {X : Cx}
end
end L2

namespace Att
open PySem PySem.W PySem.Calls PyProof.Rows

/-! ### the script -/
theorem ints_of_wellAll {P : Params} {h : Heap} : ∀ (ns : List Int) (vs : List Value), WellAll P h vs (ns.map WData.int) → IntsAre vs ns := by
  intro ns
  induction ns with
  | nil =>
    intro vs w
    rw [List.map_nil] at w
    cases w
    exact .nil
  | cons n ns ih =>
    intro vs w
    rw [List.map_cons] at w
    cases w with
    | cons a b =>
      cases a
      exact .cons _ _ (ih _ b)

theorem script_of {l : OpenLaw} {n : Nat} (hn : l.most = some n) {P : Params} {h : Heap} {args : List WData} {vals : List Value}
    (hpre : l.row.toRowW.claim.pre args = true) (hwl : WellAll P h vals args) :
    ∃ a vs ns, vals = [Value.ref a] ∧ args = [WData.list (ns.map WData.int)] ∧ h.get? a = some { cls := .type "list", data := .seq vs.toArray } ∧ IntsAre vs ns ∧ ns.length ≤ n := by
  have hsh : WShape.hasAll [] args [.list .int] = true := (pre_splitW hpre).1
  have hc : l.pre.holds [] { args := args } = true := (pre_splitW hpre).2
  obtain ⟨d, r, rfl, h1, h2⟩ := hasAllW_cons hsh
  obtain rfl := hasAllW_nil h2
  obtain ⟨xs, rfl, h3⟩ := hasW_list h1
  obtain ⟨ns, rfl⟩ := items_int h3
  have hlen : ns.length ≤ n := by
    unfold OpenLaw.pre at hc
    have h4 : (WTm.not (.lt (.lit (.int (n : Int))) (.len (.arg 0)))).holds [] { args := [.list (ns.map .int)] } = true := by
      have h4 := (holds_andW hc).1
      rw [hn] at h4
      exact h4
    have h5 := condW_of h4 (w_not (w_lt w_lit (w_len_list (w_arg rfl))))
    rw [List.length_map] at h5
    refine Nat.le_of_not_lt fun q => ?_
    have q' : (n : Int) < ((ns.length : Nat) : Int) := by omega
    first
      | (rw [decide_eq_true q'] at h5; exact absurd h5 (by decide))
      | (simp at h5; omega)
  cases hwl with
  | cons w1 w2 =>
    cases w2
    cases w1 with
    | list ho hall => exact ⟨_, _, ns, rfl, rfl, ho, ints_of_wellAll ns _ hall, hlen⟩

theorem post_true (l : OpenLaw) (args : List WData) : l.row.toRowW.claim.post args (.bool true) args = true :=
  postW_of (r := l.row.toRowW) (X := (true == true))
    (show WShape.has [] (.bool true) .bool = true by first | rfl | decide | simp [WShape.has, WShape.arms, WShape.armsAll])
    (show (WTm.eq .res (.lit (.bool true))).value [] { args := args, res := some (.bool true), after := args } = some (.bool (true == true)) from w_eq_bool (w_res rfl) w_lit) rfl

/-! ### the attachment: holds_open's last premise (the goal 'hc' behind k_head) from a wpAny of the law's body -/
/-- the same from a codeAny of the CALL (for a layer whose function contracts speak of calls) -/
theorem attach_call {l : OpenLaw} {n : Nat} {q : Program} {loose : List Str} {XP : (Str → Option Value) → Heap → Prop} {YP : World → Heap → Prop} {d : DefRec}
    (hn : l.most = some n) (hdf : d.params.defaults = [])
    (call : ∀ (w : World) (s₀ s₁ : Shared) (mg mb : Str → Option Value) (fa : Addr) (o : Obj) (pm cd doc : Value) (a : Addr) (vs : List Value) (ns : List Int),
      Ground q loose [] XP w s₀ mg mb s₁.heap → YP w s₁.heap →
      s₁.heap.get? fa = some o → o.data = .func (docDef d.name d.params d.body d.scope pm cd doc) → s₁.heap.CodeRec cd d.name → mg d.name = some (.ref fa) →
      s₁.heap.get? a = some { cls := .type "list", data := .seq vs.toArray } → IntsAre vs ns → ns.length ≤ n → s₁.gens = #[] →
      codeAny (model l.prog w) callerA (.call (.ref fa) ⟨[.ref a], []⟩) (fun r s' => r = .ok (.ret (.bool true)) ∧ OldK s₁.heap s'.heap ∧ s'.os = s₁.os ∧ AllBare s'.gens) s₁) :
    WalkO q loose XP YP l.row.toRowW d [] (fun f vs => PySem.call f vs) := by
  intro w s₀ s₁ mg mb G Y fa o pm cd doc dV kV ho hd hcd hD hmg hg args vals as hpre hlay hrd hwl hlo
  obtain rfl : dV = .none := Dflts.none hD hdf
  obtain rfl : kV = .none := Dflts.noKw hD
  obtain ⟨a, vs, ns, rfl, rfl, hobj, hints, hlen⟩ := script_of hn hpre hwl
  refine enter_call (codeAny_mono (call w s₀ s₁ mg mb fa o pm cd doc a vs ns G Y ho (fd_plain hd) hcd hmg hobj hints hlen hg) fun r s' hq => ?_)
  obtain ⟨rfl, h2, h3, h4⟩ := hq
  exact ⟨.inl ⟨.bool true, .bool true, [], rfl, fun _ => rfl, .bool true, post_true l _, fun _ => ⟨List.Pairwise.nil, fun _ hm => (nomatch hm)⟩⟩, h2, h3, h4⟩

/-! ### rules over ANY heap (no ledger) from facts about the written part K: the library's own take a ledger (News) for what they write -/
section
variable {prog : Program} {w : World} {A : Around} {E : Value → Shared → Prop} {s : Shared} {K : Frag}

/-! the whole heap as the ledger: makes every rule that writes through a ledger a rule over any heap -/
def ledger (h : Heap) (L d : Addr) : List (Addr × Obj) := (List.range h.objs.size).filterMap fun a => if a = L ∨ a = d then none else (h.get? a).map fun o => (a, o)
end
end Att

namespace L2
open PySem PySem.Spec PyProof.Rows

theorem vals_ints : ∀ {vs : List Value} {ns : List Int}, IntsAre vs ns → Vals (ns.map V.int) vs
  | _, _, .nil => .nil
  | _, _, .cons n t h => .cons ⟨t, rfl⟩ (vals_ints h)

/-- nothing is tracked but the script, known to the object (or it is an object of the module) -/
def Only (H : Hp) : Prop := ∀ b, H b = none ∨ ∃ o xs, H b = some (.frz o (.lst xs))

/-- THE HEAD: the law's promise, at the heap behind the top. F, the promise of the law's def, may use that base is part of the heap (so K.In base, base.Ns mainGlobals mg stand in Mod) -/
theorem law_call {P : Program} {w : World} {K : PySem.W.Frag} {mg mb : Str → Option Value} {CX : CXT} {k : Nat} {fa a : Addr} {fd : FuncData} {x : Str} {sp : Sp} {s₁ : Shared} {vs : List Value} {ns : List Int}
    (KX : K.In s₁.heap) (hns : s₁.heap.Ns mainGlobals mg) (hb : s₁.heap.Ns builtinsNs mb) (hbb : ∀ x : Str, x ≠ "__name__" → mb x = bootBuiltins x) (hlim : s₁.heap.NoLimit) (hg : s₁.gens = #[])
    (ha : s₁.heap.get? a = some { cls := .type "list", data := .seq vs.toArray }) (hi : IntsAre vs ns) (hl : ns.length ≤ sizeLine) (hr : Room k callerA)
    (F : ∀ base : Heap, K.In base → base.Ns mainGlobals mg → FnOk P w K mg base CX k fa fd [x] sp) (hbind : ∀ (s : Shared) (u : Value), BindsTo s fd ⟨[u], []⟩ [(x, u)])
    (hsp : ∀ H : Hp, Only H → SqL K H a (ns.map V.int) → sp [.ref a] H (fun v _ => v = .bl true) fun _ _ _ => False)
    (hCX : ∀ H e s', CX [] H s₁ (fun _ _ _ => False) e s' → False) :
    codeAny (model P w) callerA (.call (.ref fa) ⟨[.ref a], []⟩) (fun r s' => r = .ok (.ret (.bool true)) ∧ OldK s₁.heap s'.heap ∧ s'.os = s₁.os ∧ AllBare s'.gens) s₁ := by
  have rv := vals_ints hi
  have lenV := hi.length
  -- from an abstract heap in which nothing but the script may be tracked
  have core : ∀ H : Hp, Only H → SqL K H a (ns.map V.int) → HOk P w H s₁.heap → (∀ b, H b ≠ none → b = a) → (H a ≠ none → K.lookup a = none) →
      codeAny (model P w) callerA (.call (.ref fa) ⟨[.ref a], []⟩) (fun r s' => r = .ok (.ret (.bool true)) ∧ OldK s₁.heap s'.heap ∧ s'.os = s₁.os ∧ AllBare s'.gens) s₁ := by
    intro H hO hS hok hA hK
    have base_of : ∀ {b : Addr} {o : Obj}, s₁.heap.get? b = some o → H b = none → (hidT s₁.heap H).get? b = some o := fun e n => hidT_get e n
    have noA : ∀ {b : Addr} {o : Obj} {es : Array DictEntry} {ep : Nat}, s₁.heap.get? b = some o → o.data = .dict es ep → H b = none := fun {b o es ep} e d => by
      cases q : H b with
      | none => rfl
      | some u =>
        have e' : b = a := hA b (by rw [q]; simp)
        subst e'
        rw [ha] at e; cases e
        have d' : Data.seq vs.toArray _ = Data.dict es ep := d
        cases d'
    have nsK : ∀ {b : Addr} {m : Str → Option Value}, s₁.heap.Ns b m → (hidT s₁.heap H).Ns b m := fun {b m} ⟨o, es, ep, e, d, r⟩ => ⟨o, es, ep, base_of e (noA e d), d, r⟩
    have hKb : K.In (hidT s₁.heap H) := fun b o e => base_of (KX b o e) (by
      cases q : H b with
      | none => rfl
      | some u =>
        have e' : b = a := hA b (by rw [q]; simp)
        subst e'
        rw [hK (by rw [q]; simp)] at e; cases e)
    have hM : Mod K mg (hidT s₁.heap H) := ⟨hKb, nsK hns, ⟨mb, nsK hb, hbb⟩, let ⟨mc, h1, h2⟩ := hlim; ⟨mc, nsK h1, h2⟩⟩
    have e0 : Env0 P w K mg (hidT s₁.heap H) callerA [] s₁ H := ⟨rfl, hM, fun b o e => of_hidT e, Nat.le_of_eq (hidT_size _ _), trivial, fun b hb => absurd (show b ∈ ([] : List Addr) from hb) (by simp), hok, .of_eq hg⟩
    refine codeAny_mono ((F _ hKb (nsK hns)).run callerA [] s₁ H ⟨[.ref a], []⟩ [.ref a] [.ref a] _ _ hr e0 (hbind s₁ (.ref a)) (.cons rfl .nil) (hsp H hO hS)) fun r s' h => ?_
    cases r with
    | error e => exact (hCX H e s' h).elim
    | ok fl =>
      cases fl with
      | next => exact False.elim h
      | brk => exact False.elim h
      | cont => exact False.elim h
      | ret u =>
        obtain ⟨v, H', os, bare, un, hok', r', q⟩ := h
        have q' : v = .bl true := q
        subst q'
        obtain rfl : u = Value.bool true := r'
        refine ⟨rfl, OldK.of_keep fun b o e => ?_, os, bare⟩
        cases q : H b with
        | none => exact un.keep b o e q (by intro z; exact absurd (show b ∈ ([] : List Addr) from z) (by simp)) (by simp)
        | some u =>
          rcases hO b with z | ⟨ob, xs, z⟩
          · rw [q] at z; cases z
          · have z2 := un.frzs b ob _ z
            obtain ⟨e1, _⟩ := hok b _ z
            obtain ⟨e2, _⟩ := hok' b _ z2
            rw [e] at e1; cases e1
            exact e2
  cases hk : K.lookup a with
  | some o =>
    -- the script is one of the module's own objects
    have e := KX a o hk
    rw [ha] at e
    cases e
    refine core (fun _ => none) (fun _ => .inl rfl) (.inr ⟨_, vs.toArray, _, hk, rfl, rfl, rfl, by rw [List.size_toArray, lenV]; exact hl, by simpa using rv⟩) (fun b u z => by have z' : (none : Option HO) = some u := z; cases z') (fun b z => absurd rfl z) fun z => absurd rfl z
  | none =>
    refine core (fun b => if b = a then some (.frz { cls := .type "list", data := .seq vs.toArray } (.lst (ns.map V.int))) else none) (fun b => ?_) (.inl (.inr ⟨{ cls := .type "list", data := .seq vs.toArray }, if_pos rfl⟩)) (fun b u z => ?_) (fun b z => ?_) fun _ => hk
    · by_cases hb : b = a
      · exact .inr ⟨_, _, if_pos hb⟩
      · exact .inl (if_neg hb)
    · by_cases hb : b = a
      · have z' := (if_pos hb).symm.trans z
        cases z'
        subst hb
        exact ⟨ha, by rw [List.length_map]; exact hl, vs, _, rv, ha⟩
      · have z' := (if_neg hb).symm.trans z
        cases z'
    · by_cases hb : b = a
      · exact hb
      · exact absurd (if_neg hb) z
end L2

namespace L2
open PySem PySem.Spec PyProof.Rows

abbrev KOf {K : PySem.W.Frag} {h : Heap} (_ : K.In h) : PySem.W.Frag := K

/-- the goal that k_head leaves (case hc), from the law's promise. F gives the function object fd (K's own) once, then the promise over every base -/
theorem walk_of {l : PySem.W.OpenLaw} {n k : Nat} {q : Program} {loose : List Str} {XP : (Str → Option Value) → Heap → Prop} {YP : World → Heap → Prop} {d : DefRec} {K : Params → PySem.W.Frag} {CX : World → CXT} {sp : World → Sp} {x : Str}
    (hn : l.most = some n) (hn2 : n ≤ sizeLine) (hdf : d.params.defaults = []) (hr : Room k callerA)
    (hY : ∀ (w : World) (h : Heap), YP w h → (K w.params).In h)
    (F : ∀ (w : World) (mg : Str → Option Value) (fa : Addr) (h : Heap), (K w.params).In h → h.Ns mainGlobals mg → mg d.name = some (.ref fa) →
      ∃ fd : FuncData, (∀ (s : Shared) (u : Value), BindsTo s fd ⟨[u], []⟩ [(x, u)]) ∧
        ∀ base : Heap, (K w.params).In base → base.Ns mainGlobals mg → FnOk l.prog w (K w.params) mg base (CX w) k fa fd [x] (sp w))
    (hsp : ∀ (w : World) (H : Hp) (a : Addr) (ns : List Int), ns.length ≤ n → Only H → SqL (K w.params) H a (ns.map V.int) → sp w [.ref a] H (fun v _ => v = .bl true) fun _ _ _ => False)
    (hCX : ∀ (w : World) (H : Hp) (s : Shared) (e : Value) (s' : Shared), CX w [] H s (fun _ _ _ => False) e s' → False) :
    PySem.W.WalkO q loose XP YP l.row.toRowW d [] (fun f vs => PySem.call f vs) := by
  refine Att.attach_call hn hdf fun w s₀ s₁ mg mb fa o pm cd doc a vs ns G Y ho hd hcd hmg hobj hints hlen hg => ?_
  have KX := hY w _ Y
  obtain ⟨fd, hb, hF⟩ := F w mg fa _ KX G.T.g hmg
  exact law_call KX G.T.g G.T.b G.T.builtins G.T.nolimit hg hobj hints (Nat.le_trans hlen hn2) hr hF hb (fun H hO hS => hsp w H a ns hlen hO hS) fun H e s' => hCX w H s₁ e s'
end L2


/-! SHORT WORDS over the layer: a def of the text, its body, what a loop and a test want. -/
namespace L2
open PySem PySem.Spec PyProof.Rows

/-! ### the text by places -/
def defArgs (s : Stmt) : Arguments := match s with
  | .FunctionDef _ a _ _ _ _ _ _ _ _ => a
  | _ => { posonlyargs := [], args := [], vararg := none, kwonlyargs := [], kw_defaults := [], kwarg := none, defaults := [] }
def defBody (s : Stmt) : List Stmt := match s with
  | .FunctionDef _ _ b _ _ _ _ _ _ _ => b
  | _ => []
def defScope (s : Stmt) : Scope := match s with
  | .FunctionDef _ _ _ _ _ _ sc _ _ _ => sc
  | _ => { kind := .function, names := [], isGenerator := false, isCoroutine := false }

/-! ### no exception leaves a def -/
abbrev CX0 : CXT := fun _ _ _ _ _ _ => False
abbrev E0 : XK := fun _ _ _ => False
/-! ### a def (or method) of the text as it stands behind the top -/
structure Fun (K : PySem.W.Frag) (x qual : Str) (st : Stmt) (f : Addr) (fd : FuncData) : Prop where
  ex : ∃ (oc : Value) (od : Option Addr) (kV doc pm : Value) (an : Option Addr) (cdv ct : Value) (osl : Array (Option Value)),
    fd = PySem.W.fnOf x qual (defArgs st) (defBody st) (defScope st) .none kV doc pm an cdv ct ∧ K.lookup f = some ⟨oc, od, .func fd, osl⟩ ∧ PySem.W.codeIn K cdv qual = true
  kp : PySem.W.keepIn K (.ref f) = true
section
variable {P : Program} {w : World} {K : PySem.W.Frag} {mg : Str → Option Value} {base : Heap}
/-- THE RULE for a def: its body as a term of rules, and the reading of that term -/
theorem Fun.ok {x qual : Str} {st : Stmt} {f : Addr} {fd : FuncData} {N ps : List Str} {k : Nat} {sp : Sp} (F : Fun K x qual st f fd) (S : FnScope N ps (defScope st)) (len : ∀ vs H Q E, sp vs H Q E → vs.length = ps.length)
    (hbody : ∀ (cdv : Value) (A : Around) (outer : List Env) (s : Shared) (H : Hp) (vs : List V) (Q : VK) (E : XK), Room k (A.deeper (envOfC qual (defScope st) s.heap.objs.size f cdv)) → sp vs H Q E →
      ∃ t, PSs (cxOf CX0 P w K mg base N qual (defScope st) f cdv A outer s H E).nox (defBody st) t ∧ t { nx := fun _ H' => Q .non H', rt := Q } (start N vs) H) : FnOk P w K mg base CX0 (k + 1) f fd ps sp := by
  obtain ⟨oc, od, kV, doc, pm, an, cdv, ct, osl, rfl, lk, hcd⟩ := F.ex
  refine fn_of lk hcd S len fun A outer s H vs Q E hr hsp => ?_
  obtain ⟨t, h, q⟩ := hbody cdv A outer s H vs Q E hr hsp
  exact ⟨t, h.nox, q⟩
/-- how its arguments bind (no defaults): h is «fun _ _ _ _ _ _ us hl => match us, hl with | [_, _], _ => rfl», one _ a parameter -/
theorem Fun.binds {x qual : Str} {st : Stmt} {f : Addr} {fd : FuncData} {ps : List Str} (F : Fun K x qual st f fd)
    (h : ∀ (kV doc pm : Value) (an : Option Addr) (cdv ct : Value) (us : List Value), us.length = ps.length → bindArgs (PySem.W.fnOf x qual (defArgs st) (defBody st) (defScope st) .none kV doc pm an cdv ct) ⟨us, []⟩ = pure (ps.zip us)) : Binds K fd ps [] := by
  obtain ⟨oc, od, kV, doc, pm, an, cdv, ct, osl, rfl, lk, hcd⟩ := F.ex
  exact .all (h kV doc pm an cdv ct)
theorem fun_mk {x qual : Str} {st : Stmt} {f : Addr} {oc : Value} {od an : Option Addr} {osl : Array (Option Value)} {kV doc pm cdv ct : Value} (l : K.lookup f = some ⟨oc, od, .func (PySem.W.fnOf x qual (defArgs st) (defBody st) (defScope st) .none kV doc pm an cdv ct), osl⟩)
    (c : PySem.W.codeIn K cdv qual = true) (k : PySem.W.keepIn K (.ref f) = true) : Fun K x qual st f (PySem.W.fnOf x qual (defArgs st) (defBody st) (defScope st) .none kV doc pm an cdv ct) := ⟨⟨oc, od, kV, doc, pm, an, cdv, ct, osl, rfl, l, c⟩, k⟩
end
theorem hu_of {A : Around} {k : Nat} (hr : Room k A) : A.units + 1 < cLine := Nat.lt_of_le_of_lt (Nat.add_le_add_left (by decide : 1 ≤ 64) _) hr.units
theorem small1000 {n : Nat} (h : n ≤ 1000) : n < sizeLine := Nat.lt_of_le_of_lt h (by decide)

/-! ### expressions in short: the name that stands in the i-th slot -/
section
variable {X : Cx}
theorem pv (i : Nat) {x : Str} {pos : Pos} (hN : X.N[i]? = some x := by rfl) (hv : Vis X.env.scope x := by first | exact Or.inl rfl | exact Or.inr (Or.inl rfl) | exact Or.inr (Or.inr rfl)) (hd : (x == ("__debug__" : Str)) = false := by decide)
    (hcd : (x == ("__classdict__" : Str)) = false := by decide) : PE X (.Name x pos) (tVar i) := pe_var hN hv hd hcd
end

/-! ### tests -/
theorem iteF {A B : Prop} (h : B) : if false = true then A else B := by
  rw [if_neg Bool.false_ne_true]
  exact h
theorem iteT {A B : Prop} (h : A) : if true = true then A else B := by
  rw [if_pos rfl]
  exact h
theorem ite2 {c A B : Prop} [Decidable c] (h1 : c → A) (h2 : ¬ c → B) : if c then A else B := by
  by_cases h : c
  · rw [if_pos h]
    exact h1 h
  · rw [if_neg h]
    exact h2 h
/-! ### heaps -/
/-- all that was tracked is as it was -/
def Same (H H' : Hp) : Prop := ∀ b o, H b = some o → H' b = some o
theorem Same.refl (H : Hp) : Same H H := fun _ _ h => h
theorem Same.trans {H H1 H2 : Hp} (a : Same H H1) (b : Same H1 H2) : Same H H2 := fun c o h => b c o (a c o h)
theorem Same.free {H H' : Hp} (e : Same H H') {l : Addr} (h : H' l = Option.none) : H l = Option.none := by
  cases q : H l with
  | none => rfl
  | some o =>
    rw [e l o q] at h
    cases h
theorem Same.seq {K : PySem.W.Frag} {H H' : Hp} {a : Addr} {xs : List V} (e : Same H H') (h : SqL K H a xs) : SqL K H' a xs := by
  rcases h with (h | ⟨o, h⟩) | h
  · exact .inl (.inl (e _ _ h))
  · exact .inl (.inr ⟨o, e _ _ h⟩)
  · exact .inr h

end L2

-- CHANGE: your row's module here, as the last of these rows
set_option Elab.async false
set_option linter.all false
set_option maxRecDepth 100000
/-! THE HAND LAYER, for ints, bools, texts, own classes, DICTS (int and text keys), calls, loops. Paste it whole ahead of your own text; what your proof does not reach may be deleted. -/
namespace L2
open PySem PySem.Spec PyProof.Rows

end L2

namespace L2
open PySem PySem.Spec PyProof.Rows

section
variable (P : Program) (w : World)
end

section
variable {P : Program} {w : World} {H H' : Hp} {h h' : Heap} {a : Addr} {o : HO}
end

section
variable {P : Program} {w : World} {H : Hp} {h h' : Heap} {x e : Addr} {o' : HO}
end

/-! ### kept unless tracked; of the frames at fs (the callers') the slots may change (an exception that passes writes there); of the records at ex (iterators) nothing is said -/
section
variable {fs fs' ex ex' : List Addr} {H H1 H2 : Hp} {h h1 h2 h' : Heap} {a x e : Addr} {o : HO}
end

/-! ### the heap without what is tracked -/
/-! ### OpenK's ledger, filled with every new object but one -/
end L2

namespace L2
open PySem PySem.Spec PyProof.Rows

section
variable {X : Cx} {pins : List (Addr × Obj)} {σ : List (Option V)} {H H' : Hp} {s : Shared} {h' : Heap}

end

/-! ### the judgements -/
end L2

namespace L2
open PySem PySem.Spec PyProof.Rows
section
variable {X : Cx}

/-! ### names and constants -/
/-! ### arithmetic -/
variable {a b : Expr} {ta tb : TE} {pos : Pos}
/-! ### comparisons -/
/-! ### and, or, not -/
variable {tA tB' : TT} {rest : List Expr}
end
end L2

namespace L2
open PySem PySem.Spec PyProof.Rows

/-! ### a list, a tuple that is read: tracked, frozen, or an object of the module -/
section
variable {X : Cx} {pins : List (Addr × Obj)} {σ : St} {H : Hp} {s : Shared} {a : Addr} {xs ys : List V}
end

/-! ### another wish about exceptions -/
section
variable {X : Cx} {pins : List (Addr × Obj)} {σ : St} {H : Hp} {s : Shared} {E : Value → Shared → Prop}
end

/-! ### blocks and small statements -/
section
variable {X : Cx} {st : Stmt} {rest : List Stmt} {t u : TS} {e : Expr} {te : TE} {pos : Pos}
end

/-! ### targets -/
section
variable {X : Cx} {pos : Pos}
end

/-! ### while -/
section
variable {X : Cx} {pos : Pos}
end

/-! ### what a loop or a comprehension walks -/
end L2

namespace L2
open PySem PySem.Spec PyProof.Rows
section
variable {X : Cx} {tg : Expr}
/-! ### for -/
end

/-! ### the forms one uses -/
end L2

namespace L2
open PySem PySem.Spec PyProof.Rows

section
variable {X : Cx} {a b c : Expr} {ta tb tc : TE} {pos : Pos}

/-! ### ints -/
/-! ### bools among ints: n += (a < b) -/
end

/-! ### comparisons -/
section
variable {X : Cx} {a b c : Expr} {ta tb tc : TE} {pos : Pos}
/-! ### truth -/
/-! ### strs and bytes -/
/-! ### scalar builtins, by CallR -/
end
end L2

namespace L2
open PySem PySem.Spec PyProof.Rows

/-! ### an instance, its attributes a map -/
section
variable {prog : Program} {w : World} {A : Around} {E : Value → Shared → Prop} {s : Shared} {K : PySem.W.Frag} {x dx C f : Addr} {mA : Str → Option Value} {name : Str} {v : Value}

end

/-! ### the attributes as a list of pairs -/
section
variable {P : Program} {w : World} {H H' : Hp} {h h' : Heap} {a C dx : Addr} {fs fs' : List (Str × V)}
end

/-! ### what of the text a class must have -/
section
variable {X : Cx} {pins : List (Addr × Obj)} {σ : St} {H : Hp} {s : Shared} {a C dx : Addr} {fs : List (Str × V)} {f : Str} {v : V} {A : Around} {E : Value → Shared → Prop}

end

/-! ### readings and rules -/
section
variable {X : Cx} {o e value : Expr} {f : Str} {pos pos' tpos : Pos} {ta tv : TE}
end

/-! ### isinstance -/
section
variable {X : Cx} {pins : List (Addr × Obj)} {σ : St} {H : Hp} {s : Shared} {A : Around} {E : Value → Shared → Prop} {Q : Value → Shared → Prop} {c : Value} {b : Bool}
end
end L2

namespace L2
open PySem PySem.Spec PyProof.Rows

/-! ### room -/
/-! ### argument lists and displays -/
section
variable {X : Cx} {e : Expr} {es : List Expr} {te : TE} {t : TA} {pos : Pos}
end

/-! ### what a def promises -/
section
variable {X : Cx} {pins : List (Addr × Obj)} {σ : St} {H : Hp} {s s' : Shared}
end

/-! ### calls -/
section
variable {X : Cx} {CX : CXT} {k : Nat} {f C : Addr} {fd : FuncData} {ps : List Str} {sp : Sp} {dvs : List V} {ds : List Value} {E : XK} {x m : Str} {p pos apos : Pos} {e o : Expr} {es : List Expr} {ta : TE} {t : TA}

end

/-! ### keywords -/
section
variable {X : Cx} {CX : CXT} {k : Nat} {f C : Addr} {fd : FuncData} {ps ks : List Str} {sp : Sp} {E : XK} {x m : Str} {p pos apos kpos : Pos} {e o : Expr} {es : List Expr} {kws : List Keyword} {te ta : TE} {t tk : TA} {nm : Option Str}
variable {g : List Value → List Value → List Value} {gV : List V → List V → List V}
end

/-! ### a def's body keeps its promise -/
end L2

namespace L2
open PySem PySem.Spec PyProof.Rows
section
variable {X : Cx} {x : Str} {p pos : Pos} {e : Expr} {es : List Expr} {t : TA} {id T : String} {r : List V → Hp → VK → Prop}

end
end L2

namespace L2
open PySem PySem.Spec PyProof.Rows

/-! ### lists of pairs as tables -/
section
variable {κ : Type} [DecidableEq κ]
def valV (kvs : List (κ × V)) (k : κ) : Option V := (kvs.find? fun kv => decide (kv.1 = k)).map (·.2)
/-- in its place, or at the end -/
def putK (kvs : List (κ × V)) (k : κ) (v : V) : List (κ × V) :=
  if (kvs.any fun kv => decide (kv.1 = k)) = true then kvs.map (fun kv => if kv.1 = k then (kv.1, v) else kv) else kvs ++ [(k, v)]
def dropK (kvs : List (κ × V)) (k : κ) : List (κ × V) := kvs.filter fun kv => decide (kv.1 ≠ k)

theorem valV_pos {p : κ × V} {r : List (κ × V)} {k : κ} (e : p.1 = k) : valV (p :: r) k = some p.2 := by simp [valV, List.find?_cons, e]
theorem valV_neg {p : κ × V} {r : List (κ × V)} {k : κ} (e : ¬ p.1 = k) : valV (p :: r) k = valV r k := by simp [valV, List.find?_cons, e]
theorem valV_any (k : κ) : ∀ kvs : List (κ × V), (kvs.any fun kv => decide (kv.1 = k)) = (valV kvs k).isSome
  | [] => rfl
  | p :: r => by
    rw [List.any_cons]
    by_cases e : p.1 = k
    · simp only [valV_pos e, decide_eq_true e, Bool.true_or, Option.isSome_some]
    · rw [valV_neg e, decide_eq_false e, Bool.false_or]; exact valV_any k r
theorem valV_map (k j : κ) (y : V) : ∀ kvs : List (κ × V), valV (kvs.map fun kv => if kv.1 = k then (kv.1, y) else kv) j = (valV kvs j).map fun x => if j = k then y else x
  | [] => rfl
  | p :: r => by
    have ih := valV_map k j y r
    rw [List.map_cons]
    by_cases h : p.1 = k
    · rw [if_pos h]
      by_cases e : p.1 = j
      · rw [valV_pos (p := (p.1, y)) e, valV_pos e, Option.map_some, if_pos (e.symm.trans h)]
      · rw [valV_neg (p := (p.1, y)) e, valV_neg e, ih]
    · rw [if_neg h]
      by_cases e : p.1 = j
      · rw [valV_pos (p := p) e, valV_pos e, Option.map_some, if_neg (fun z => h (e.trans z))]
      · rw [valV_neg (p := p) e, valV_neg e, ih]
theorem valV_snoc (k j : κ) (y : V) : ∀ kvs : List (κ × V), valV kvs k = none → valV (kvs ++ [(k, y)]) j = if j = k then some y else valV kvs j
  | [], _ => by
    by_cases e : k = j
    · rw [if_pos e.symm]; exact valV_pos (p := (k, y)) e
    · rw [if_neg (fun z => e z.symm)]; exact valV_neg (p := (k, y)) e
  | p :: r, hn => by
    rw [List.cons_append]
    have hk : ¬ p.1 = k := fun z => by rw [valV_pos z] at hn; cases hn
    rw [valV_neg hk] at hn
    have ih := valV_snoc k j y r hn
    by_cases e : p.1 = j
    · rw [valV_pos e, valV_pos e, if_neg (fun z => hk (e.trans z))]
    · rw [valV_neg e, valV_neg e, ih]
theorem valV_put (kvs : List (κ × V)) (k j : κ) (y : V) : valV (putK kvs k y) j = if j = k then some y else valV kvs j := by
  unfold putK
  by_cases a : (kvs.any fun kv => decide (kv.1 = k)) = true
  · rw [if_pos a, valV_map]
    rw [valV_any] at a
    by_cases e : j = k
    · obtain ⟨x, hx⟩ := Option.isSome_iff_exists.mp a
      rw [if_pos e, e, hx, Option.map_some, if_pos rfl]
    · rw [if_neg e]
      cases valV kvs j with
      | none => rfl
      | some x => rw [Option.map_some, if_neg e]
  · rw [if_neg a]
    refine valV_snoc k j y kvs ?_
    rw [valV_any] at a
    cases q : valV kvs k with
    | none => rfl
    | some x => rw [q] at a; exact (a rfl).elim
theorem length_putK (kvs : List (κ × V)) (k : κ) (v : V) : (putK kvs k v).length ≤ kvs.length + 1 := by
  unfold putK
  split
  · rw [List.length_map]; omega
  · rw [List.length_append, List.length_cons, List.length_nil]; omega
theorem RelO.isSome_eq {o : Option V} {u : Option Value} (r : RelO o u) : o.isSome = u.isSome := by
  cases o with
  | none => cases u with
    | none => rfl
    | some _ => exact (show False from r).elim
  | some _ => cases u with
    | none => exact (show False from r).elim
    | some _ => rfl
theorem RelO.getD {o : Option V} {u : Option Value} {d : V} {d' : Value} (r : RelO o u) (rd : RelV d d') : RelV (o.getD d) (u.getD d') := by
  cases o with
  | none => cases u with
    | none => exact rd
    | some _ => exact (show False from r).elim
  | some _ => cases u with
    | none => exact (show False from r).elim
    | some _ => exact r

/-- raw tables of the same keys -/
theorem KV.val {kvs : List (κ × V)} {vs : List (κ × Value)} (r : KV kvs vs) (k : κ) : RelO (valV kvs k) (valueAt vs k) := by
  unfold KV at r
  induction r with
  | nil => exact True.intro
  | @cons p q ps qs h t ih =>
    obtain ⟨h1, h2⟩ := h
    by_cases e : p.1 = k
    · have e' : q.1 = k := h1.symm.trans e
      have b : valueAt (q :: qs) k = some q.2 := by simp [valueAt, List.find?_cons, e']
      rw [valV_pos e, b]; exact h2
    · have e' : ¬ q.1 = k := fun z => e (h1.trans z)
      have b : valueAt (q :: qs) k = valueAt qs k := by simp [valueAt, List.find?_cons, e']
      rw [valV_neg e, b]; exact ih
theorem KV.any {kvs : List (κ × V)} {vs : List (κ × Value)} (r : KV kvs vs) (k : κ) : (kvs.any fun kv => decide (kv.1 = k)) = vs.any fun kv => decide (kv.1 = k) := by
  unfold KV at r
  induction r with
  | nil => rfl
  | cons h t ih => rw [List.any_cons, List.any_cons, ih, h.1]
theorem KV.repl {kvs : List (κ × V)} {vs : List (κ × Value)} (r : KV kvs vs) (k : κ) {y : V} {u : Value} (ry : RelV y u) :
    KV (kvs.map fun kv => if kv.1 = k then (kv.1, y) else kv) (vs.map fun kv => if kv.1 = k then (kv.1, u) else kv) := by
  unfold KV at r ⊢
  induction r with
  | nil => exact .nil
  | @cons p q ps qs h t ih =>
    rw [List.map_cons, List.map_cons]
    refine .cons ?_ ih
    obtain ⟨h1, h2⟩ := h
    by_cases e : p.1 = k
    · rw [if_pos e, if_pos (h1.symm.trans e)]; exact ⟨h1, ry⟩
    · rw [if_neg e, if_neg (fun z => e (h1.trans z))]; exact ⟨h1, h2⟩
theorem KV.put {kvs : List (κ × V)} {vs : List (κ × Value)} (r : KV kvs vs) (k : κ) {y : V} {u : Value} (ry : RelV y u) : KV (putK kvs k y) (stored vs k u) := by
  unfold putK stored
  rw [r.any k]
  by_cases e : (vs.any fun kv => decide (kv.1 = k)) = true
  · rw [if_pos e, if_pos e]; exact r.repl k ry
  · rw [if_neg e, if_neg e]; exact Paired.snoc r ⟨rfl, ry⟩
theorem KV.drop {kvs : List (κ × V)} {vs : List (κ × Value)} (r : KV kvs vs) (k : κ) : KV (dropK kvs k) (without vs k) := by
  unfold KV at r ⊢
  unfold dropK without
  induction r with
  | nil => exact .nil
  | @cons p q ps qs h t ih =>
    obtain ⟨h1, h2⟩ := h
    rw [List.filter_cons, List.filter_cons]
    by_cases e : p.1 = k
    · have a : ¬ decide (p.1 ≠ k) = true := by simp [e]
      have b : ¬ decide (q.1 ≠ k) = true := by simp [h1.symm.trans e]
      rw [if_neg a, if_neg b]; exact ih
    · have e' : ¬ q.1 = k := fun z => e (h1.trans z)
      have a : decide (p.1 ≠ k) = true := by simp [e]
      have b : decide (q.1 ≠ k) = true := by simp [e']
      rw [if_pos a, if_pos b]; exact .cons ⟨h1, h2⟩ ih
theorem KV.keys {kvs : List (κ × V)} {vs : List (κ × Value)} (r : KV kvs vs) : kvs.map (·.1) = vs.map (·.1) := by
  unfold KV at r
  induction r with
  | nil => rfl
  | cons h t ih => rw [List.map_cons, List.map_cons, ih, h.1]
theorem KV.length {kvs : List (κ × V)} {vs : List (κ × Value)} (r : KV kvs vs) : kvs.length = vs.length := Paired.length r
end


/-! ### a tracked dict, its keys ints and texts or tuples of these -/
theorem kV_is {P : Program} {w : World} {k : Key} {u : Value} (r : RelV (kV k) u) : (mixKind P w).is k u = true := by
  cases k with
  | inl i => obtain ⟨t, e⟩ := (show ∃ t, u = Value.int i t from r); subst e; exact mixKind_int P w i t
  | inr x => obtain ⟨t, e⟩ := (show ∃ t, u = Value.str x t from r); subst e; exact mixKind_str P w x t
theorem items_are {P : Program} {w : World} : ∀ {ks : List Key} {us : List Value}, Vals (ks.map kV) us → ItemsAre (mixKind P w) ks us
  | [], _, r => by rw [List.map_nil] at r; cases r; exact .nil
  | k :: ks, _, r => by
    rw [List.map_cons] at r
    cases r with
    | cons h t => exact .cons (kV_is h) (items_are t)

/-- raw entries of a dict with tuple keys -/
abbrev KT (H : Hp) : List (List Key × V) → List (List Key × Addr × Value) → Prop := Paired fun p q => p.1 = q.1 ∧ H q.2.1 = some (.tup (p.1.map kV)) ∧ RelV p.2 q.2.2
theorem KT.val {H : Hp} {kvs : List (List Key × V)} {xs : List (List Key × Addr × Value)} (r : KT H kvs xs) (k : List Key) : RelO (valV kvs k) ((atKey xs k).map (·.2)) := by
  induction r with
  | nil => exact True.intro
  | @cons p q ps qs h t ih =>
    obtain ⟨h1, _, h2⟩ := h
    by_cases e : p.1 = k
    · have e' : q.1 = k := h1.symm.trans e
      have b : atKey (q :: qs) k = some q.2 := by simp [atKey, List.find?_cons, e']
      rw [valV_pos e, b]; exact h2
    · have e' : ¬ q.1 = k := fun z => e (h1.trans z)
      have b : atKey (q :: qs) k = atKey qs k := by simp [atKey, List.find?_cons, e']
      rw [valV_neg e, b]; exact ih
theorem KT.repl {H : Hp} {kvs : List (List Key × V)} {xs : List (List Key × Addr × Value)} (r : KT H kvs xs) (k : List Key) {y : V} {u : Value} (ry : RelV y u) :
    KT H (kvs.map fun kv => if kv.1 = k then (kv.1, y) else kv) (xs.map (putAt k u)) := by
  induction r with
  | nil => exact .nil
  | @cons p q ps qs h t ih =>
    rw [List.map_cons, List.map_cons]
    refine .cons ?_ ih
    obtain ⟨h1, h2, h3⟩ := h
    unfold putAt
    by_cases e : p.1 = k
    · rw [if_pos e, if_pos (h1.symm.trans e)]; exact ⟨h1, h2, ry⟩
    · rw [if_neg e, if_neg (fun z => e (h1.trans z))]; exact ⟨h1, h2, h3⟩
theorem KT.put {H : Hp} {kvs : List (List Key × V)} {xs : List (List Key × Addr × Value)} (r : KT H kvs xs) (k : List Key) {b : Addr} {y : V} {u : Value} (hb : H b = some (.tup (k.map kV))) (ry : RelV y u) :
    KT H (putK kvs k y) (storedH xs k b u) := by
  have e : (kvs.any fun kv => decide (kv.1 = k)) = (atKey xs k).isSome := by
    rw [valV_any, (r.val k).isSome_eq, Option.isSome_map]
  unfold putK storedH
  rw [e]
  by_cases q : (atKey xs k).isSome = true
  · rw [if_pos q, if_pos q]; exact r.repl k ry
  · rw [if_neg q, if_neg q]; exact Paired.snoc r ⟨rfl, hb, ry⟩
theorem KT.keeps {H H' : Hp} {kvs : List (List Key × V)} {xs : List (List Key × Addr × Value)} (r : KT H kvs xs) (ht : ∀ b ys, H b = some (.tup ys) → H' b = some (.tup ys)) : KT H' kvs xs :=
  Paired.mapP r fun _ _ z => ⟨z.1, ht _ _ z.2.1, z.2.2⟩

section
variable {P : Program} {w : World} {H : Hp} {h : Heap} {a : Addr}
theorem rd_of {u : HO} (ok : HOk P w H h) (e : Rd H a u) : ObjOk P w H h a u := e.ok ok
theorem dk_rd {kvs : List (Key × V)} (ok : HOk P w H h) (e : Rd H a (.dK kvs)) : kvs.length ≤ sizeLine ∧ (a == sysModules) = false ∧ ∃ vs, KV kvs vs ∧ h.DictOf (mixKind P w) a vs :=
  show ObjOk P w H h a (.dK kvs) from rd_of ok e
theorem dk_of {kvs : List (Key × V)} (ok : HOk P w H h) (e : H a = some (.dK kvs)) : kvs.length ≤ sizeLine ∧ (a == sysModules) = false ∧ ∃ vs, KV kvs vs ∧ h.DictOf (mixKind P w) a vs := dk_rd ok (.inl e)
/-- a tracked tuple of ints and texts is a key -/
theorem key_of {ks : List Key} (ok : HOk P w H h) (e : H a = some (.tup (ks.map kV))) : (tupleKind (mixKind P w)).is h ks a := by
  obtain ⟨_, its, r, o, h1, h2, n, h3⟩ := (show ObjOk P w H h a (.tup (ks.map kV)) from ok a _ e)
  exact ⟨o, its.toArray, n, h1, h2, congrArg Prod.fst h3, by simpa using items_are r⟩
theorem dt_rd {kvs : List (List Key × V)} (ok : HOk P w H h) (e : Rd H a (.dT kvs)) : kvs.length ≤ sizeLine ∧ (a == sysModules) = false ∧
    ∃ xs, KT H kvs xs ∧ h.DictOfH (tupleKind (mixKind P w)) a xs := by
  obtain ⟨z, y, xs, r, o, es, ep, h1, h2, h3, h4, h5⟩ := (show ObjOk P w H h a (.dT kvs) from rd_of ok e)
  refine ⟨z, y, xs, r, o, es, ep, h1, h2, h3, h4, fun x hx => ?_, h5⟩
  have all : ∀ {l : List (List Key × V)} {m : List (List Key × Addr × Value)}, KT H l m → ∀ x ∈ m, (tupleKind (mixKind P w)).is h x.1 x.2.1 := by
    intro l m q
    induction q with
    | nil => intro x hx; exact nomatch hx
    | @cons p q ps qs hq t ih =>
      intro x hx
      rcases List.mem_cons.mp hx with e | hx
      · subst e
        exact key_of ok (by rw [← hq.1]; exact hq.2.1)
      · exact ih x hx
  exact all r x hx
theorem dt_of {kvs : List (List Key × V)} (ok : HOk P w H h) (e : H a = some (.dT kvs)) : kvs.length ≤ sizeLine ∧ (a == sysModules) = false ∧
    ∃ xs, KT H kvs xs ∧ h.DictOfH (tupleKind (mixKind P w)) a xs := dt_rd ok (.inl e)
end

/-- what the dict at a holds at the key y -/
def DGet (H : Hp) (a : Addr) (y : V) (r : Option V) : Prop :=
  (∃ kvs k, Rd H a (.dK kvs) ∧ y = kV k ∧ r = valV kvs k) ∨ ∃ kvs k b, Rd H a (.dT kvs) ∧ y = .ref b ∧ H b = some (.tup (k.map kV)) ∧ r = valV kvs k
/-- the heap behind a[y] = v -/
def DPut (H : Hp) (a : Addr) (y v : V) (H' : Hp) : Prop :=
  (∃ kvs k, H a = some (.dK kvs) ∧ y = kV k ∧ kvs.length < sizeLine ∧ H' = upd H a (.dK (putK kvs k v))) ∨
  ∃ kvs k b, H a = some (.dT kvs) ∧ y = .ref b ∧ H b = some (.tup (k.map kV)) ∧ kvs.length < sizeLine ∧ H' = upd H a (.dT (putK kvs k v))
theorem DGet.k {H : Hp} {a : Addr} {kvs : List (Key × V)} {k : Key} (e : H a = some (.dK kvs)) : DGet H a (kV k) (valV kvs k) := .inl ⟨kvs, k, .inl e, rfl, rfl⟩
theorem DGet.t {H : Hp} {a b : Addr} {kvs : List (List Key × V)} {k : List Key} (e : H a = some (.dT kvs)) (eb : H b = some (.tup (k.map kV))) : DGet H a (.ref b) (valV kvs k) := .inr ⟨kvs, k, b, .inl e, rfl, eb, rfl⟩
theorem DPut.k {H : Hp} {a : Addr} {kvs : List (Key × V)} {k : Key} {v : V} (e : H a = some (.dK kvs)) (hl : kvs.length < sizeLine) : DPut H a (kV k) v (upd H a (.dK (putK kvs k v))) := .inl ⟨kvs, k, e, rfl, hl, rfl⟩
theorem DPut.t {H : Hp} {a b : Addr} {kvs : List (List Key × V)} {k : List Key} {v : V} (e : H a = some (.dT kvs)) (eb : H b = some (.tup (k.map kV))) (hl : kvs.length < sizeLine) :
    DPut H a (.ref b) v (upd H a (.dT (putK kvs k v))) := .inr ⟨kvs, k, b, e, rfl, eb, hl, rfl⟩


section
variable {X : Cx} {pins : List (Addr × Obj)} {σ : St} {H : Hp} {s : Shared} {a : Addr} {y v : V} {u r : Value} {o : Option V} {A : Around} {E : Value → Shared → Prop}

theorem Inv.big (I : Inv X pins σ H s) : sysModules < s.heap.objs.size := by
  have h : mainGlobals < s.heap.objs.size := (I.mod.glob.keeps I.bk).lt
  exact Nat.lt_trans (by decide) h

/-- d[y], there -/
theorem d_getItem {Q : Value → Shared → Prop} (hu : A.units + 1 < cLine) (I : Inv X pins σ H s) (g : DGet H a y (some v)) (ry : RelV y u) (h : ∀ w' s', Inv X pins σ H s' → RelV v w' → Q w' s') :
    wpAny (model X.prog X.w) A (getItem (.ref a) u) Q E s := by
  rcases g with ⟨kvs, k, e, ey, l⟩ | ⟨kvs, k, b, e, ey, eb, l⟩
  · subst ey
    obtain ⟨z, hd, vs, rel, dd⟩ := dk_rd I.hok e
    obtain ⟨w', hw, rw'⟩ := RelO.some_of (v := v) (o := valueAt vs k) (by rw [l]; exact rel.val k)
    exact wpAny_getItem_of (kV_is ry) dd.mapOf hw (h w' _ (I.tok _) rw')
  · subst ey
    cases (show u = Value.ref b from ry)
    obtain ⟨z, hd, xs, rel, dd⟩ := dt_rd I.hok e
    obtain ⟨w', hw, rw'⟩ := RelO.some_of (v := v) (o := (atKey xs k).map (·.2)) (by rw [l]; exact rel.val k)
    obtain ⟨p, hp, hp2⟩ := Option.map_eq_some_iff.mp hw
    refine wpAny_getItem_heap (tupleKind_room_in1 hu) (key_of I.hok eb) dd hp ?_
    rw [hp2]
    exact h w' _ (I.tok _) rw'
/-- a dict's object is replaced -/
theorem d_write {h' : Heap} {t' : Nat} {ob : HO} (I : Inv X pins σ H s) (mu : Mut (H a)) (hs : Heap.SameBut a s.heap h') (he : ∃ q, h'.get? a = some q) (new : ObjOk X.prog X.w (upd H a ob) h' a ob) :
    Inv X pins σ (upd H a ob) { s with heap := h', toks := t' } :=
  I.write (x := a) (e := a) mu (.inl rfl) (fun b q hb z => (hs.2 b hb).trans z) he new
theorem dk_new {P : Program} {w : World} {H' : Hp} {h' : Heap} {kvs : List (Key × V)} {vs : List (Key × Value)} (z : kvs.length ≤ sizeLine) (hd : (a == sysModules) = false) (rel : KV kvs vs) (dd : h'.DictOf (mixKind P w) a vs) :
    ObjOk P w H' h' a (.dK kvs) := ⟨z, hd, vs, rel, dd⟩
/-- d[y] = v -/
theorem d_setItem {H' : Hp} {Q : Unit → Shared → Prop} (hu : A.units + 1 < cLine) (I : Inv X pins σ H s) (g : DPut H a y v H') (ry : RelV y u) (rv : RelV v r) (h : ∀ s', Inv X pins σ H' s' → Q () s') :
    wpAny (model X.prog X.w) A (setItem (.ref a) u r) Q E s := by
  rcases g with ⟨kvs, k, e, ey, l, eH⟩ | ⟨kvs, k, b, e, ey, eb, l, eH⟩
  · subst ey eH
    obtain ⟨z, hd, vs, rel, dd⟩ := dk_of I.hok e
    have hz : vs.length ≤ sizeLine := by rw [← rel.length]; exact z
    have hl : (putK kvs k v).length ≤ sizeLine := by have := length_putK kvs k v; omega
    refine wpAny_setItem_pairs (hsz := hz) (kV_is ry) dd fun h' dd' hs => h _ ?_
    have he : ∃ q, h'.get? a = some q := let ⟨q, _, _, hq, _⟩ := dd'; ⟨q, hq⟩
    exact d_write I (by rw [e]; exact True.intro) hs he (dk_new hl hd (rel.put k rv) dd')
  · subst ey eH
    cases (show u = Value.ref b from ry)
    obtain ⟨z, hd, xs, rel, dd⟩ := dt_of I.hok e
    have hz : xs.length ≤ sizeLine := by rw [← Paired.length rel]; exact z
    have hl : (putK kvs k v).length ≤ sizeLine := by have := length_putK kvs k v; omega
    refine wpAny_setItem_heap (hsz := hz) (tupleKind_room_in1 hu) (key_of I.hok eb) dd fun h' dd' hs => h _ ?_
    obtain ⟨q, es, ep, hq, h2, h3, h4, _, h5⟩ := dd'
    refine d_write I (by rw [e]; exact True.intro) hs ⟨q, hq⟩ ⟨hl, hd, _, (rel.put k eb rv).keeps fun c ys ec => ?_, q, es, ep, hq, h2, h3, h4, h5⟩
    rw [upd_ne (ne_of ec e (fun z => nomatch z))]
    exact ec
end

section
variable {X : Cx} {pins : List (Addr × Obj)} {σ : St} {H : Hp} {s : Shared} {a : Addr} {kvs : List (Key × V)} {k : Key} {u : Value} {A : Around} {E : Value → Shared → Prop}
end


/-! ### readings and rules -/
/-- the element of a subscription, not a slice -/
def NoSl (i : Expr) : Prop := ∀ ov iv, subscripted i false ov iv = operate [ov, iv] (getItem ov iv)
theorem subD_of {prog : Program} {w : World} {A : Around} {E : Value → Shared → Prop} {s : Shared} {env : Env} {value slice : Expr} {pos : Pos} {T id : String} {Q : Value → Shared → Prop}
    (hl : typeLookup (.type T) "__getitem__" = pure (some (.builtin id))) (hs : NoSl slice)
    (h : wpAny (model prog w) A (eval value env) (fun o s₁ => wpAny (model prog w) A (eval slice env) (fun i s₂ => s₂.TypeIs o T ∧ wpAny (model prog w) A (getItem o i) Q E s₂) E s₁) E s) :
    wpAny (model prog w) A (eval (.Subscript value slice pos) env) Q E s := by
  refine Subscript_ (wpAny_mono h (fun o s₁ h₁ => wpAny_mono h₁ (fun i s₂ h₂ => ?_) fun _ _ x => x) fun _ _ x => x)
  obtain ⟨hT, h₂⟩ := h₂
  unfold subscriptTail
  refine wpAny_bind ?_
  rw [getitemInPython_of_ne hT.not_modules]
  refine wpAny_bind (wpAny_specialOf hT hl ?_)
  have fin : wpAny (model prog w) A (subscripted slice false o i) (fun r s₃ => wpAny (model prog w) A (letTemporaryGo value o r >>= fun _ => pure r) Q E s₃) E s₂ := by
    rw [hs o i]
    exact wpAny_operating (wpAny_mono h₂ (fun r s₃ h₃ => wpAny_bind (wpAny_letTemporaryGo (wpAny_pure h₃))) fun _ _ x => x)
  first
    | exact wpAny_pure (wpAny_bind fin)
    | exact wpAny_bind (wpAny_pure (wpAny_bind fin))
    | exact wpAny_bind fin

theorem dict_typeIs {X : Cx} {pins : List (Addr × Obj)} {σ : St} {H : Hp} {s : Shared} {a : Addr} {y : V} {o : Option V} (I : Inv X pins σ H s) (g : DGet H a y o) : s.TypeIs (.ref a) "dict" := by
  rcases g with ⟨kvs, k, e, _, _⟩ | ⟨kvs, k, b, e, _, _, _⟩
  · obtain ⟨_, _, vs, _, dd⟩ := dk_rd I.hok e
    exact dd.typeIs
  · obtain ⟨_, _, xs, _, dd⟩ := dt_rd I.hok e
    exact dd.typeIs
/-- d[y] -/
def tDGet (td ty : TE) : TE := fun σ H Q => td σ H fun x H1 => ty σ H1 fun y H2 => ∃ a v, x = .ref a ∧ DGet H2 a y (some v) ∧ Q v H2
/-- d[y] = v -/
def sDPut (td ty tv : TE) : TS := fun D σ H => tv σ H fun v H1 => td σ H1 fun x H2 => ty σ H2 fun y H3 => ∃ a H4, x = .ref a ∧ DPut H3 a y v H4 ∧ D.nx σ H4
section
variable {X : Cx} {o i e value : Expr} {pos pos' tpos : Pos} {td ty tv : TE}
theorem pe_dget (hu : X.A.units + 1 < cLine) (ho : PE X o td) (hi : PE X i ty) (hs : NoSl i) : PE X (.Subscript o i pos) (tDGet td ty) := by
  intro pins s σ H Q I h
  refine subD_of PySem.F.slot_dict_getitem.lookup hs (thn (ho pins s σ H _ I h) fun u s1 ⟨x, H1, I1, rx, q1⟩ => thn (hi pins s1 σ H1 _ I1 q1) fun iv s2 ⟨y, H2, I2, ry, a, v, ex, g, q2⟩ => ?_)
  subst ex
  obtain rfl : u = Value.ref a := rx
  exact ⟨dict_typeIs I2 g, d_getItem hu I2 g ry fun w' s3 I3 rw' => ⟨v, H2, I3, rw', q2⟩⟩
theorem ps_dput (hu : X.A.units + 1 < cLine) (ho : PE X o td) (hi : PE X i ty) (hv : PE X value tv) (hs : swapsWith value (some (.Subscript o i pos')) pos.line X.env = pure false) :
    PS X (.Assign [.Subscript o i pos'] value pos) (sDPut td ty tv) := by
  intro pins s σ H D I h
  refine wpAny_Assign_Subscript (thn (hv pins s σ H _ I h) fun r s1 ⟨v, H1, I1, rv, q1⟩ => thn (ho pins s1 σ H1 _ I1 q1) fun u s2 ⟨x, H2, I2, rx, q2⟩ => thn (hi pins s2 σ H2 _ I2 q2) fun iv s3 ⟨y, H3, I3, ry, a, H4, ex, g, q3⟩ => ?_) hs
  subst ex
  obtain rfl : u = Value.ref a := rx
  exact d_setItem hu I3 g ry rv fun s4 I4 => ⟨σ, H4, I4, q3⟩
end


/-! ### displays -/
theorem dk_empty {P : Program} {w : World} {H : Hp} (h : Heap) (hb : sysModules < h.objs.size) : ObjOk P w H (h.push { cls := .type "dict", data := .dict #[] }) h.objs.size (.dK []) :=
  ⟨Nat.zero_le _, beq_eq_false_iff_ne.mpr (Ne.symm (Nat.ne_of_lt hb)), [], .nil, Heap.DictOf.new h⟩
/-- {}, to be a dict of the kind that is wanted -/
def tDNewK : TE := fun _ H Q => ∀ p, H p = none → Q (.ref p) (upd H p (.dK []))
section
variable {X : Cx} {pos : Pos}
theorem pe_dnewK : PE X (.Dict [] [] pos) tDNewK := fun pins s σ H Q I h =>
  wpAny_Dict_empty ⟨.ref s.heap.objs.size, _, I.laid (a := s.heap.objs.size) (o := .dK []) (t' := s.toks) (fun _ _ q => Heap.get?_push_of_some _ q) (Nat.le_refl _) (dk_empty s.heap I.big), rfl, h _ (I.hok.fresh (Nat.le_refl _))⟩
end

/-! ### methods -/
section
variable {X : Cx} {pins : List (Addr × Obj)} {σ : St} {H : Hp} {s : Shared} {a : Addr} {y d : V} {u r : Value} {o : Option V} {A : Around} {E : Value → Shared → Prop}
end

section
variable {X : Cx} {o e f : Expr} {apos cpos : Pos} {td ty tx : TE}
end

/-! ### dict(d): a copy -/
section
variable {X : Cx} {pins : List (Addr × Obj)} {σ : St} {H : Hp} {s : Shared} {a : Addr} {kvs : List (Key × V)} {A : Around} {E : Value → Shared → Prop}
end


section
variable {X : Cx} {pins : List (Addr × Obj)} {σ : St} {H : Hp} {s : Shared} {a : Addr} {y : V} {u : Value} {A : Around} {E : Value → Shared → Prop}
end
end L2

namespace Att
open PySem PySem.W PySem.Calls PyProof.Rows

/-! ### the script -/
/-! ### the attachment: holds_open's last premise (the goal 'hc' behind k_head) from a wpAny of the law's body -/
/-! ### rules over ANY heap (no ledger) from facts about the written part K: the library's own take a ledger (News) for what they write -/
section
variable {prog : Program} {w : World} {A : Around} {E : Value → Shared → Prop} {s : Shared} {K : Frag}

/-! the whole heap as the ledger: makes every rule that writes through a ledger a rule over any heap -/
end
end Att

namespace L2
open PySem PySem.Spec PyProof.Rows

end L2

namespace L2
open PySem PySem.Spec PyProof.Rows

end L2


/-! SHORT WORDS over the layer: a def of the text, its body, what a loop and a test want. -/
namespace L2
open PySem PySem.Spec PyProof.Rows

/-! ### the text by places -/
/-! ### no exception leaves a def -/
/-! ### a def (or method) of the text as it stands behind the top -/
section
variable {P : Program} {w : World} {K : PySem.W.Frag} {mg : Str → Option Value} {base : Heap}
end
/-! ### expressions in short: the name that stands in the i-th slot -/
section
variable {X : Cx}
end

/-! ### tests -/
/-! ### heaps -/
/-! ### a dict's pairs: keys that differ -/
section
variable {κ : Type} [DecidableEq κ]
theorem nd_snoc : ∀ {l : List κ} {k : κ}, l.Nodup → ¬ k ∈ l → (l ++ [k]).Nodup
  | [], k, _, _ => by simp
  | a :: r, k, h, hk => by
    obtain ⟨h1, h2⟩ := List.nodup_cons.mp h
    show (a :: (r ++ [k])).Nodup
    refine List.nodup_cons.mpr ⟨fun m => ?_, nd_snoc h2 fun m => hk (List.mem_cons.mpr (Or.inr m))⟩
    rcases List.mem_append.mp m with q | q
    · exact h1 q
    · exact hk (List.mem_cons.mpr (Or.inl (List.mem_singleton.mp q).symm))
end
end L2

namespace L2
open PySem PySem.Spec PyProof.Rows

/-! ### the closure of a comprehension's block -/
theorem forIn_yield_fold {α β : Type} {l : List α} {f : α → β → Sem (ForInStep β)} (g : α → β → β) (c : β) (h : ∀ x ∈ l, ∀ c, f x c = pure (.yield (g x c))) :
    forIn l c f = (pure (l.foldl (fun c x => g x c) c) : Sem β) := by
  induction l generalizing c with
  | nil => rfl
  | cons x l ih =>
    rw [List.forIn_cons, h x List.mem_cons_self, pure_bind]
    exact ih (g x c) fun y hy => h y (List.mem_cons_of_mem _ hy)
def closeL (env : Env) (names : List (Str × NameKind)) : List (Str × Addr) :=
  names.foldl (fun c x => if x.2 == .free then (x.1, (env.cells.lookup x.1).getD 0) :: c else c) []
theorem closureFor_eq {scope : Scope} {env : Env} (h : ∀ y ∈ scope.names, y.2 = .free → ∃ c, env.cells.lookup y.1 = some c) : closureFor scope env = pure (closeL env scope.names) := by
  unfold closeL
  simp only [closureFor]
  rw [forIn_yield_fold (fun x c => if x.2 == .free then (x.1, (env.cells.lookup x.1).getD 0) :: c else c) [] (fun x hx c => by
    obtain ⟨n, kind⟩ := x
    by_cases e : kind = NameKind.free
    · subst e
      obtain ⟨a, ha⟩ := h _ hx rfl
      have ha' : env.cells.lookup n = some a := ha
      simp only [beq_self_eq_true, if_true, cellOf, ha', Option.getD_some, pure_bind]
    · have e' : (kind == NameKind.free) = false := by simpa using e
      simp only [e', Bool.false_eq_true, if_false])]
  rfl
theorem mem_closeL {env : Env} : ∀ {names : List (Str × NameKind)} {acc : List (Str × Addr)} {p : Str × Addr},
    p ∈ names.foldl (fun c x => if x.2 == .free then (x.1, (env.cells.lookup x.1).getD 0) :: c else c) acc ↔ p ∈ acc ∨ ∃ y ∈ names, y.2 = .free ∧ p = (y.1, (env.cells.lookup y.1).getD 0)
  | [], acc, p => by simp
  | x :: r, acc, p => by
    rw [List.foldl_cons, mem_closeL]
    by_cases e : x.2 = NameKind.free
    · rw [if_pos (by simpa using e)]
      constructor
      · rintro (h | ⟨y, hy, h1, h2⟩)
        · rcases List.mem_cons.mp h with h | h
          · exact .inr ⟨x, List.mem_cons_self, e, h⟩
          · exact .inl h
        · exact .inr ⟨y, List.mem_cons_of_mem _ hy, h1, h2⟩
      · rintro (h | ⟨y, hy, h1, h2⟩)
        · exact .inl (List.mem_cons_of_mem _ h)
        · rcases List.mem_cons.mp hy with rfl | hy
          · exact .inl (h2 ▸ List.mem_cons_self)
          · exact .inr ⟨y, hy, h1, h2⟩
    · rw [if_neg (by simpa using e)]
      constructor
      · rintro (h | ⟨y, hy, h1, h2⟩)
        · exact .inl h
        · exact .inr ⟨y, List.mem_cons_of_mem _ hy, h1, h2⟩
      · rintro (h | ⟨y, hy, h1, h2⟩)
        · exact .inl h
        · rcases List.mem_cons.mp hy with rfl | hy
          · exact absurd h1 e
          · exact .inr ⟨y, hy, h1, h2⟩
theorem mem_of_lookup {β : Type} : ∀ {l : List (Str × β)} {x : Str} {c : β}, l.lookup x = some c → (x, c) ∈ l
  | [], _, _, h => by simp at h
  | (n, d) :: r, x, c, h => by
    rw [List.lookup_cons] at h
    cases e : x == n with
    | true =>
      rw [e] at h
      have e' : x = n := by simpa using e
      subst e'
      cases h
      exact List.mem_cons_self
    | false =>
      rw [e] at h
      exact List.mem_cons_of_mem _ (mem_of_lookup h)
theorem lookup_of_mem {β : Type} : ∀ {l : List (Str × β)} {x : Str} {c : β}, (x, c) ∈ l → ∃ d, l.lookup x = some d
  | [], _, _, h => nomatch h
  | (n, d) :: r, x, c, h => by
    rw [List.lookup_cons]
    cases e : x == n with
    | true => exact ⟨d, rfl⟩
    | false =>
      rcases List.mem_cons.mp h with h | h
      · injection h with h1 _
        subst h1
        simp at e
      · exact lookup_of_mem h
theorem closeL_sub {env : Env} {names : List (Str × NameKind)} (h : ∀ y ∈ names, y.2 = .free → ∃ c, env.cells.lookup y.1 = some c) {x : Str} {c : Addr} (e : (closeL env names).lookup x = some c) : env.cells.lookup x = some c := by
  rcases mem_closeL.mp (mem_of_lookup e) with z | ⟨y, hy, h1, h2⟩
  · cases z
  · obtain ⟨d, hd⟩ := h y hy h1
    injection h2 with e1 e2
    subst e1
    rw [hd] at e2
    rw [hd, e2]
    rfl
theorem closeL_has {env : Env} {names : List (Str × NameKind)} {x : Str} (h : (x, NameKind.free) ∈ names) : ∃ c, (closeL env names).lookup x = some c :=
  lookup_of_mem (mem_closeL.mpr (.inr ⟨_, h, rfl, rfl⟩))
theorem relabel_lookup {env : Env} : ∀ {names : List (Str × NameKind)} {x : Str} {k : NameKind},
    (names.map fun (n, k) => if (k == NameKind.free && env.scope.kind == .function && env.kindOf n == some .cell) then (n, NameKind.cell) else (n, k)).lookup x = some k →
    ∃ k0, names.lookup x = some k0 ∧ (k = k0 ∨ (k0 = .free ∧ k = .cell))
  | [], _, _, h => by simp at h
  | (n, k) :: r, x, k', h => by
    have ih := @relabel_lookup env r x k'
    rw [List.map_cons] at h
    by_cases hc : (k == NameKind.free && env.scope.kind == .function && env.kindOf n == some .cell) = true
    · dsimp only at h
      rw [if_pos hc, List.lookup_cons] at h
      rw [List.lookup_cons]
      cases e : x == n with
      | true =>
        rw [e] at h
        cases h
        refine ⟨k, rfl, .inr ⟨?_, rfl⟩⟩
        simp only [Bool.and_eq_true, beq_iff_eq] at hc
        exact hc.1.1
      | false =>
        rw [e] at h
        exact ih h
    · dsimp only at h
      rw [if_neg hc, List.lookup_cons] at h
      rw [List.lookup_cons]
      cases e : x == n with
      | true =>
        rw [e] at h
        cases h
        exact ⟨k, rfl, .inl rfl⟩
      | false =>
        rw [e] at h
        exact ih h
theorem relabel_free {env : Env} : ∀ {names : List (Str × NameKind)} {x : Str}, names.lookup x = some .free →
    (names.map fun (n, k) => if (k == NameKind.free && env.scope.kind == .function && env.kindOf n == some .cell) then (n, NameKind.cell) else (n, k)).lookup x = some .cell ∨
    (names.map fun (n, k) => if (k == NameKind.free && env.scope.kind == .function && env.kindOf n == some .cell) then (n, NameKind.cell) else (n, k)).lookup x = some .free
  | [], _, h => by simp at h
  | (n, k) :: r, x, h => by
    have ih := @relabel_free env r x
    rw [List.map_cons]
    rw [List.lookup_cons] at h
    by_cases hc : (k == NameKind.free && env.scope.kind == .function && env.kindOf n == some .cell) = true
    · dsimp only
      rw [if_pos hc, List.lookup_cons]
      cases e : x == n with
      | true => exact .inl rfl
      | false =>
        rw [e] at h
        exact ih h
    · dsimp only
      rw [if_neg hc, List.lookup_cons]
      cases e : x == n with
      | true =>
        rw [e] at h
        cases h
        exact .inr rfl
      | false =>
        rw [e] at h
        exact ih h

/-! ### a comprehension's loop, no exception -/
theorem comp_loop {prog : Program} {w : World} {A : Around} {R : Result → Shared → Prop} {s : Shared} {elt target iter : Expr} {ifs : List Expr} {scope : Scope} {pos : Pos} {it acc : Value} {env : Env} (I : Nat → Shared → Prop)
    (turn : ∀ n s, I n s → wpAny (model prog w) A (pyNext it) (fun r s₁ => match r with
      | none => R (.ok .next) s₁
      | some v => wpAny (model prog w) A (letOwnedTupleGo target it v) (fun _ s₁' => wpAny (model prog w) A (assign target env v) (fun _ s₂ =>
          wpAny (model prog w) A (forIn ifs true fun c r => if r = true then do let ok ← isTrue c env (eval c env); pure (ForInStep.yield ok) else pure (ForInStep.yield r)) (fun ok s₃ =>
            if ok = true then wpAny (model prog w) A (eval elt env) (fun x s₄ =>
              wpAny (model prog w) A (call (.builtin "list.append") [acc, x]) (fun _ s₅ => ∃ m, m < n ∧ I m s₅) (fun _ _ => False) s₄) (fun _ _ => False) s₃
            else ∃ m, m < n ∧ I m s₃) (fun _ _ => False) s₂) (fun _ _ => False) s₁') (fun _ _ => False) s₁) (fun _ _ => False) s)
    (n : Nat) (h : I n s) :
    codeAny (model prog w) A (.compLoop (.ListComp elt [⟨target, iter, ifs, 0⟩] scope pos) 0 it acc env) R s := by
  refine codeAny_loop rfl I (fun n s hI => ?_) n h
  show wpAny _ A ((compTurn (.ListComp elt [⟨target, iter, ifs, 0⟩] scope pos) 0 it acc env).onRaise (fun x => do noteFrame x env; theTreesLotGoes x)) _ _ s
  refine wpAny_noted ?_
  rw [compTurn_list]
  refine wpAny_bind (wpAny_standAt (wpAny_bind (wpAny_mono (turn n s hI) (fun r s₁ h₁ => ?_) fun _ _ h' => h'.elim)))
  cases r with
  | none => exact wpAny_pure h₁
  | some v =>
    refine wpAny_bind (wpAny_mono h₁ (fun _ s₁' h₁' => ?_) fun _ _ h' => h'.elim)
    refine wpAny_bind (wpAny_mono h₁' (fun _ s₂ h₂ => wpAny_bind (wpAny_mono h₂ (fun ok s₃ h₃ => ?_) fun _ _ h' => h'.elim)) fun _ _ h' => h'.elim)
    cases ok with
    | false => exact wpAny_pure ⟨rfl, h₃⟩
    | true =>
      exact wpAny_bind (wpAny_bind (wpAny_mono h₃ (fun x s₄ h₄ => wpAny_bind (wpAny_mono h₄ (fun _ s₅ h₅ => wpAny_pure (wpAny_pure ⟨rfl, h₅⟩)) fun _ _ h' => h'.elim)) fun _ _ h' => h'.elim))

/-! ### the block's context -/
def Cx.blk (X : Cx) (pins : List (Addr × Obj)) (scope : Scope) (cl : List (Str × Addr)) (C : Addr) (N' : List Str) (fp : List Addr) (s : Shared) (H : Hp) : Cx :=
  { X with N := N', s₀ := s, H₀ := H, env := compEnvC scope cl C X.env, outer := X.stack, ex := fp, fn := fun _ => false, pn := X.pn ++ pins, xe := fun _ _ => False }
/-- the block's names at its entry: for each its slot ahead (none: the block's own) -/
def blkSt (ix : List (Option Nat)) (σ : St) : St := ix.map fun o => o.bind fun i => (σ[i]?).join
/-- what is known ahead is known behind -/
def Ext : St → St → Prop
  | [], [] => True
  | none :: a, _ :: b => Ext a b
  | some v :: a, o :: b => o = some v ∧ Ext a b
  | _, _ => False
theorem Ext.get : ∀ {a b : St}, Ext a b → ∀ (j : Nat) (v : V), a[j]? = some (some v) → b[j]? = some (some v)
  | [], [], _, j, v, h => by simp at h
  | none :: a, _ :: b, e, 0, v, h => by simp at h
  | none :: a, _ :: b, e, j + 1, v, h => by
    have e : Ext a b := e
    rw [List.getElem?_cons_succ] at h ⊢
    exact e.get j v h
  | some u :: a, o :: b, e, 0, v, h => by
    have e1 : o = some u := e.1
    rw [List.getElem?_cons_zero] at h ⊢
    rw [e1]
    exact h
  | some u :: a, o :: b, e, j + 1, v, h => by
    have e : Ext a b := e.2
    rw [List.getElem?_cons_succ] at h ⊢
    exact e.get j v h
  | [], _ :: _, e, _, _, _ => e.elim
  | none :: _, [], e, _, _, _ => e.elim
  | some _ :: _, [], e, _, _, _ => e.elim
theorem Ext.length : ∀ {a b : St}, Ext a b → a.length = b.length
  | [], [], _ => rfl
  | none :: a, _ :: b, e => by
    have e : Ext a b := e
    simp [e.length]
  | some u :: a, o :: b, e => by
    have e : Ext a b := e.2
    simp [e.length]
  | [], _ :: _, e => e.elim
  | none :: _, [], e => e.elim
  | some _ :: _, [], e => e.elim

def blkOk (sc : Scope) (N : List Str) (scope : Scope) (N' : List Str) (ix : List (Option Nat)) : Bool :=
  decide (scope.kind = .function) && decide (∀ y ∈ scope.names, y.2 ≠ .cell) && decide (∀ y ∈ scope.names, y.2 = .local → scope.names.lookup y.1 = some .local) &&
  decide (∀ y ∈ scope.names, y.2 = .free → sc.names.lookup y.1 = some .cell ∨ sc.names.lookup y.1 = some .free) && decide (ix.length = N'.length) &&
  ((N'.zip ix).all fun p => p.2.all fun i => decide (N[i]? = some p.1) && decide (scope.names.lookup p.1 = some .free))
structure BlkOk (sc : Scope) (N : List Str) (scope : Scope) (N' : List Str) (ix : List (Option Nat)) : Prop where
  kind : scope.kind = .function
  nocell : ∀ y ∈ scope.names, y.2 ≠ .cell
  names : ∀ y ∈ scope.names, y.2 = .local → scope.names.lookup y.1 = some .local
  free : ∀ y ∈ scope.names, y.2 = .free → sc.names.lookup y.1 = some .cell ∨ sc.names.lookup y.1 = some .free
  len : ix.length = N'.length
  at_ : ∀ (j : Nat) (x : Str) (i : Nat), N'[j]? = some x → ix[j]? = some (some i) → N[i]? = some x ∧ scope.names.lookup x = some .free
theorem BlkOk.of {sc : Scope} {N : List Str} {scope : Scope} {N' : List Str} {ix : List (Option Nat)} (h : blkOk sc N scope N' ix = true) : BlkOk sc N scope N' ix := by
  unfold blkOk at h
  simp only [Bool.and_eq_true, decide_eq_true_eq] at h
  obtain ⟨⟨⟨⟨⟨h1, h2⟩, h3⟩, h4⟩, h5⟩, h6⟩ := h
  refine ⟨h1, h2, h3, h4, h5, fun j x i e1 e2 => ?_⟩
  have hz : (N'.zip ix)[j]? = some (x, some i) := by
    rw [List.getElem?_zip_eq_some]
    exact ⟨e1, e2⟩
  have hm : (x, some i) ∈ N'.zip ix := List.mem_of_getElem? hz
  have q := List.all_eq_true.mp h6 _ hm
  simp only [Option.all_some, Bool.and_eq_true, decide_eq_true_eq] at q
  exact q

abbrev aL (its : List Value) : Obj := { cls := .type "list", data := .seq its.toArray its.length }

section
variable {X : Cx} {pins : List (Addr × Obj)} {σ : St} {H : Hp} {s : Shared} {sc : Scope} {N N' : List Str} {scope : Scope} {ix : List (Option Nat)} {fp : List Addr} {C : Addr}
theorem blk_cells (ok : X.Ok) (hsc : X.env.scope = sc) (B : BlkOk sc N scope N' ix) : ∀ y ∈ scope.names, y.2 = .free → ∃ c, X.env.cells.lookup y.1 = some c := fun y hy e => by
  have q := B.free y hy e
  rw [← hsc] at q
  exact ok.has y.1 q
theorem blk_ok (I : Inv X pins σ H s) (hsc : X.env.scope = sc) (B : BlkOk sc N scope N' ix) (hf : ∀ b ∈ fp, FpOk X pins H b) (hlt : ∀ b ∈ fp, b < s.heap.objs.size) (hC : s.heap.objs.size ≤ C) :
    (X.blk pins scope (closeL X.env scope.names) C N' fp s H).Ok where
  mod := I.ok.mod
  kind := B.kind
  glob := I.ok.glob
  blt := I.ok.blt
  above := hC
  inj := fun x y c a b => I.ok.inj x y c (closeL_sub (blk_cells I.ok hsc B) a) (closeL_sub (blk_cells I.ok hsc B) b)
  has := fun x h => by
    have z : ∃ k, (relabel scope X.env).names.lookup x = some k ∧ (k = .cell ∨ k = .free) := by
      rcases h with h | h
      · exact ⟨_, h, .inl rfl⟩
      · exact ⟨_, h, .inr rfl⟩
    obtain ⟨k, hk, hk'⟩ := z
    obtain ⟨k0, h0, h1⟩ := relabel_lookup (env := X.env) (names := scope.names) hk
    have hm := mem_of_lookup h0
    have e : k0 = .free := by
      rcases h1 with h1 | h1
      · subst h1
        rcases hk' with e | e
        · exact absurd e (B.nocell _ hm)
        · exact e
      · exact h1.1
    subst e
    exact closeL_has hm
  cab := fun x c h _ => by cases h
  hd := I.ok.hd
  frames := I.ok.frames
  stk := .inl rfl
  exf := fun b hb => ⟨fun e => by
      have := hlt b hb
      have e' : b = C := e
      subst e'
      exact absurd (Nat.lt_of_lt_of_le this hC) (Nat.lt_irrefl _), fun x c e => (hf b hb).2.2.2.2.1 x c (closeL_sub (blk_cells I.ok hsc B) e)⟩
  bs := I.bs
  bsz := Nat.le_trans I.ok.bsz I.sz
  noex := fun b o e hb => by
    rcases (hf b hb).2.2.2.1 with z | z
    · exact I.ok.noex b o e z
    · have q := Heap.lt_size (I.ok.bs b o e).1
      exact absurd (Nat.lt_of_lt_of_le q z) (Nat.lt_irrefl _)
  exfs := fun b hb z => by
    rcases List.mem_cons.mp (I.stkSub b z) with e | e
    · exact (hf b hb).2.1 e
    · exact (hf b hb).2.2.1 e
  funs := I.stack
  frf := I.stkFree

/-- the block is entered -/
theorem blk_inv {s1 : Shared} {h1 : Heap} {tk : Nat} {D : Addr} {its : List Value} (I : Inv X pins σ H s) (hsc : X.env.scope = sc) (hN : X.N = N) (B : BlkOk sc N scope N' ix) (hf : ∀ b ∈ fp, FpOk X pins H b) (hlt : ∀ b ∈ fp, b < s.heap.objs.size) (hC : s.heap.objs.size ≤ C)
    (hD : s.heap.objs.size ≤ D) (hDC : D ≠ C) (old : ∀ b o, s.heap.get? b = some o → h1.get? b = some o) (hns : h1.Ns C (fun _ => none)) (ho : h1.get? D = some (aL its)) (e : s1 = { s with heap := h1, toks := tk }) :
    Inv (X.blk pins scope (closeL X.env scope.names) C N' fp s H) [(D, aL its)] (blkSt ix σ) H s1 := by
  subst e
  have ok' := blk_ok (C := C) I hsc B hf hlt hC
  have cells := blk_cells I.ok hsc B
  have fresh : ∀ a, s.heap.objs.size ≤ a → H a = none := fun a ha => I.hok.fresh ha
  refine ⟨ok', rfl, I.bare, Un.kept old, ?_, ?_, fresh C hC, ?_, ?_, I.hok.kept old, ?_⟩
  · refine ⟨_, hns, fun j x v e1 e2 hv => ?_⟩
    have e2 : (blkSt ix σ)[j]? = some (some v) := e2
    unfold blkSt at e2
    rw [List.getElem?_map] at e2
    cases q : ix[j]? with
    | none => rw [q] at e2; cases e2
    | some o =>
      rw [q] at e2
      cases o with
      | none => cases e2
      | some i =>
        have e3 : (σ[i]?).join = some v := by simpa using e2
        have e4 : σ[i]? = some (some v) := by
          cases r : σ[i]? with
          | none => rw [r] at e3; cases e3
          | some o =>
            rw [r] at e3
            have e3 : o = some v := e3
            rw [e3]
        obtain ⟨n1, n2⟩ := B.at_ j x i e1 q
        have n3 := B.free _ (mem_of_lookup n2) rfl
        obtain ⟨m, hm, hl⟩ := I.loc
        have vis : Vis X.env.scope x := by
          rw [hsc]
          exact .inr n3
        obtain ⟨u, r, l⟩ := hl i x v (by rw [hN]; exact n1) e4 vis
        refine ⟨u, r, .inr ⟨relabel_free (env := X.env) n2, ?_⟩⟩
        obtain ⟨c, hc⟩ := closeL_has (env := X.env) (mem_of_lookup n2)
        refine ⟨c, hc, ?_⟩
        have hc' := closeL_sub cells hc
        rcases l with ⟨k, _⟩ | ⟨_, c', e5, o', z1, z2⟩
        · have k : X.env.scope.names.lookup x = some .local := k
          rw [hsc] at k
          rcases n3 with z | z
          · rw [k] at z; cases z
          · rw [k] at z; cases z
        · rw [hc'] at e5
          cases e5
          exact ⟨o', old _ _ z1, z2⟩
  · intro x c e
    obtain ⟨v, o, z1, z2⟩ := I.cell x c (closeL_sub cells e)
    exact ⟨v, o, old _ _ z1, z2⟩
  · intro x c e
    exact I.freeC x c (closeL_sub cells e)
  · intro p hp
    rcases List.mem_append.mp hp with hp | hp
    · obtain ⟨p1, p2, p3, p4, p5⟩ := I.pin p hp
      refine ⟨old _ _ p1, p2, fun z => ?_, fun z => ?_, p5⟩
      · have z : p.1 = C := z
        have := Heap.lt_size p1
        rw [z] at this
        exact absurd (Nat.lt_of_lt_of_le this hC) (Nat.lt_irrefl _)
      · rcases List.mem_cons.mp (I.stkSub p.1 z) with e | e
        · exact p3 e
        · exact p4 e
    · have hp : p = (D, aL its) := List.mem_singleton.mp hp
      subst hp
      refine ⟨ho, fresh D hD, hDC, fun z => ?_, fun v e => by cases e⟩
      have q : ∃ o, s.heap.get? D = some o := by
        obtain ⟨_, o, z, _⟩ := I.stack.mem z
        exact ⟨o, z⟩
      obtain ⟨o, q⟩ := q
      exact absurd (Nat.lt_of_lt_of_le (Heap.lt_size q) hD) (Nat.lt_irrefl _)
  · show (ix.map _).length = N'.length
    rw [List.length_map]
    exact B.len

/-- the block is left: its list is tracked -/
theorem blk_leave {s4 : Shared} {H4 : Hp} {σ' : St} {D : Addr} {its : List Value} {ys : List V} {cl : List (Str × Addr)} (I : Inv X pins σ H s) (hf : ∀ b ∈ fp, FpOk X pins H b) (hD : s.heap.objs.size ≤ D) (hC : s.heap.objs.size ≤ C)
    (J : Inv (X.blk pins scope cl C N' fp s H) [(D, aL its)] σ' H4 s4) (rv : Vals ys its) (hl : ys.length ≤ sizeLine) : Inv X pins σ (upd H4 D (.lst ys)) s4 := by
  have pD := J.pin (D, aL its) (List.mem_append_right _ List.mem_cons_self)
  have hD4 : H4 D = none := pD.2.1
  have neD : ∀ b o, s.heap.get? b = some o → b ≠ D := fun b o e z => by
    have := Heap.lt_size e
    rw [z] at this
    exact absurd (Nat.lt_of_lt_of_le this hD) (Nat.lt_irrefl _)
  have u := J.base
  have u : Un (frs X.stack) fp H H4 s.heap s4.heap := u
  refine I.call' (ch := fp) J.os ⟨u.keep, u.slot, fun b o e n hx => ?_, u.there, fun b xs e => ?_, fun b o x e => ?_, fun b ps e => ?_⟩ ?_ J.bare (fun b hb => ⟨(hf b hb).2.2.2.1, (hf b hb).2.1, (hf b hb).2.2.2.2.1, (hf b hb).2.2.2.2.2⟩)
  · rw [upd_ne (neD b o e)]
    exact u.free b o e n hx
  · have q := u.tups b xs e
    rw [upd_ne (ne_of_none q hD4)]
    exact q
  · have q := u.frzs b o x e
    rw [upd_ne (ne_of_none q hD4)]
    exact q
  · obtain ⟨more, q⟩ := u.tbls b ps e
    exact ⟨more, by rw [upd_ne (ne_of_none q hD4)]; exact q⟩
  · intro b o e
    by_cases hb : b = D
    · subst hb
      rw [upd_same] at e
      cases e
      exact ⟨hl, its, _, rv, pD.1⟩
    · rw [upd_ne hb] at e
      exact (J.hok b o e).stay (fun _ _ _ q => q) (fun c q => by rw [upd_ne (ne_of_none q hD4)]; exact q) fun c xs q => by rw [upd_ne (ne_of_none q hD4)]; exact q
end

/-! ### the tests of a comprehension -/
def PTs (X : Cx) (ifs : List Expr) (t : TT) : Prop :=
  ∀ (pins : List (Addr × Obj)) (s : Shared) (σ : St) (H : Hp) (Q : Bool → Hp → Prop), Inv X pins σ H s → t σ H Q →
    wpAny (model X.prog X.w) X.A (forIn ifs true fun c r => if r = true then do let ok ← isTrue c X.env (eval c X.env); pure (ForInStep.yield ok) else pure (ForInStep.yield r)) (TP X pins σ Q) X.xe s
def tTrue : TT := fun _ H Q => Q true H
theorem pts_nil {X : Cx} : PTs X [] tTrue := fun pins s σ H Q I h => wpAny_tests_nil ⟨H, I, h⟩
theorem pts_one {X : Cx} {c : Expr} {t : TT} (h : PT X c t) : PTs X [c] t := fun pins s σ H Q I q => wpAny_tests_one (h pins s σ H Q I q)

/-- [elt for target in iter if ..]: W: the turn, a measure, the items so far, the heap -/
def CompGo (J : It) (ix : List (Option Nat)) (g : TG) (tt : TT) (te : TE) (σ : St) (H : Hp) (Q : VK) : Prop :=
  ∃ W : Nat → Nat → List V → Hp → Prop, (∃ m, W 0 m [] H) ∧ ∀ i m ys H, W i m ys H → ys.length ≤ sizeLine ∧
    ((J.stop i H ∧ ∀ p, H p = none → Q (.ref p) (upd H p (.lst ys))) ∨
    (J.go i H ∧ ∃ N : List V → Hp → Prop, (∀ ys' H', N ys' H' → ∃ m', m' < m ∧ W (i + 1) m' ys' H') ∧
      ∀ x H', J.yld i H x H' → g x (blkSt ix σ) H' fun σ2 H2 => Ext (blkSt ix σ) σ2 ∧ tt σ2 H2 fun ok H3 => if ok = true then te σ2 H3 fun y H4 => N (ys ++ [y]) H4 else N ys H3))
def tComp (wi : TI) (ix : List (Option Nat)) (g : TG) (tt : TT) (te : TE) : TE := fun σ H Q => wi σ H fun J H1 => CompGo J ix g tt te σ H1 Q

section
variable {X : Cx} {sc : Scope} {N N' : List Str} {scope : Scope} {ix : List (Option Nat)} {tg iter elt : Expr} {ifs : List Expr} {pos : Pos} {wi : TI} {g : TG} {tt : TT} {te : TE}
theorem blk_run {use : Option (Value → Sem Unit)} {QQ : Value → Shared → Prop} {pins : List (Addr × Obj)} {σ : St} {H : Hp} {s : Shared} {Q : VK} {cpos : Pos} (hc : X.calm = true) (hi : PI X tg iter wi)
    (hsc : X.env.scope = sc) (hN : X.N = N) (B : BlkOk sc N scope N' ix)
    (hg : ∀ pins cl C fp s H, PG (X.blk pins scope cl C N' fp s H) tg g) (ht : ∀ pins cl C fp s H, PTs (X.blk pins scope cl C N' fp s H) ifs tt) (he : ∀ pins cl C fp s H, PE (X.blk pins scope cl C N' fp s H) elt te)
    (hs : ∀ x, foldedSetIterable iter X.env x = pure x) (I : Inv X pins σ H s) (h : tComp wi ix g tt te σ H Q)
    (fin : ∀ (D C : Addr) (s4 : Shared) (H4 : Hp) (m : Str → Option Value), Inv X pins σ H4 s4 → Q (.ref D) H4 → s4.heap.Ns C m → FpOk X pins H4 C →
      compPost (model X.prog X.w) X.A X.xe use QQ (.ref D) C (.ok .next) s4) :
    wpAny (model X.prog X.w) X.A (comprehension (.ListComp elt [⟨tg, iter, ifs, 0⟩] scope pos) scope X.env cpos (newList []) false (eval iter X.env) use) QQ X.xe s := by
  refine wpAny_comprehension_free (use := use) rfl hs (closureFor_eq (blk_cells I.ok hsc B)) B.kind B.names (thn (hi pins s σ H _ I h) fun v s1 h1 => thn h1 fun itv s2 h2 => ?_)
  obtain ⟨it, fp, tn, J, H2, e, I2, T, st2, f2, W, ⟨m0, w0⟩, turn⟩ := h2
  subst e
  refine wpAny_newObj_type (wpAny_newFunctionEnv B.nocell (by intro y hy; simp at hy) (fun h₁ hns₁ hsb₁ => ?_) B.kind)
  dsimp only at hns₁ hsb₁ ⊢
  generalize hH2 : s2.heap.push { cls := .type "list", dict := none, data := .seq ([] : List Value).toArray } = G2 at hns₁ hsb₁ ⊢
  have hC : G2.objs.size = s2.heap.objs.size + 1 := by rw [← hH2, Heap.size_push]
  have hCle : s2.heap.objs.size ≤ G2.objs.size := by rw [hC]; exact Nat.le_succ _
  have hDC : s2.heap.objs.size ≠ G2.objs.size := by rw [hC]; exact Nat.ne_of_lt (Nat.lt_succ_self _)
  have old : ∀ b o, s2.heap.get? b = some o → h₁.get? b = some o := fun b o e => hsb₁.extBut b o (by rw [hC]; exact Nat.ne_of_lt (Nat.lt_succ_of_lt (Heap.lt_size e))) (Heap.get?_push_of_some _ (hH2 ▸ Heap.get?_push_of_some _ e))
  have hacc : h₁.get? s2.heap.objs.size = some (aL []) := hsb₁.extBut _ _ hDC (Heap.get?_push_of_some _ (hH2 ▸ Heap.get?_push_size _ rfl))
  have hlt : ∀ b ∈ fp, b < s2.heap.objs.size := fun b hb => by
    obtain ⟨o, e, _⟩ := T.obj _ _ st2 b hb
    exact Heap.lt_size e
  have st1 : tn 0 h₁ := T.keep _ _ _ st2 fun b _ o e => old b o e
  have I1 := blk_inv (fp := fp) (C := G2.objs.size) (D := s2.heap.objs.size) (its := []) (h1 := h₁) (tk := s2.toks + ([] : List (Str × Value)).length) I2 hsc hN B f2 hlt hCle (Nat.le_refl _) hDC old hns₁ hacc rfl
  -- the loop
  have fpk : ∀ {H' : Hp} {pl : List (Addr × Obj)}, (∀ b ∈ fp, H' b = none) → (∀ p ∈ pl, p.1 = s2.heap.objs.size) → ∀ b ∈ fp, FpOk (X.blk pins scope (closeL X.env scope.names) G2.objs.size N' fp s2 H2) pl H' b := fun hn hpl b hb => by
    refine ⟨hn b hb, fun z => ?_, fun z => ?_, .inl hb, fun x c e => (f2 b hb).2.2.2.2.1 x c (closeL_sub (blk_cells I2.ok hsc B) e), fun p hp => ?_⟩
    · have z : b = G2.objs.size := z
      have := hlt b hb
      rw [z, hC] at this
      exact absurd (Nat.lt_of_succ_lt this) (Nat.lt_irrefl _)
    · rcases List.mem_cons.mp (I2.stkSub b z) with e | e
      · exact (f2 b hb).2.1 e
      · exact (f2 b hb).2.2.1 e
    · rcases List.mem_append.mp hp with hp | hp
      · exact (f2 b hb).2.2.2.2.2 p hp
      · rw [hpl p hp]
        exact Nat.ne_of_gt (hlt b hb)
  have hpl1 : ∀ (o : Obj), ∀ p ∈ [(s2.heap.objs.size, o)], p.1 = s2.heap.objs.size := fun o p hp => by
    rw [List.mem_singleton.mp hp]
  have loop : codeAny (model X.prog X.w) X.A (.compLoop (.ListComp elt [⟨tg, iter, ifs, 0⟩] scope pos) 0 (.ref it) (.ref s2.heap.objs.size) (compEnvC scope (closeL X.env scope.names) G2.objs.size X.env))
      (compPost (model X.prog X.w) X.A X.xe use QQ (.ref s2.heap.objs.size) G2.objs.size) { s2 with heap := h₁, toks := s2.toks + ([] : List (Str × Value)).length } := by
    refine comp_loop (fun n s' => ∃ i ys H' its, Inv (X.blk pins scope (closeL X.env scope.names) G2.objs.size N' fp s2 H2) [(s2.heap.objs.size, aL its)] (blkSt ix σ) H' s' ∧ Vals ys its ∧ tn i s'.heap ∧ (∀ b ∈ fp, H' b = none) ∧ W i n ys H') ?_ m0
      ⟨0, [], H2, [], I1, .nil, st1, fun b hb => (f2 b hb).1, w0⟩
    rintro n s3 ⟨i, ys, H3, its, I3, rv, st3, fr3, w3⟩
    obtain ⟨hl, tr⟩ := turn i n ys H3 w3
    rcases tr with ⟨stop, q⟩ | ⟨go, N, hN, step⟩
    · refine thn (T.done (X.blk pins scope (closeL X.env scope.names) G2.objs.size N' fp s2 H2) rfl rfl rfl hc i _ s3 _ H3 _ I3 (fpk fr3 (hpl1 _)) st3 stop) fun r s4 ⟨hr, I4⟩ => ?_
      subst hr
      have I5 := blk_leave I2 f2 (Nat.le_refl _) hCle I4 rv hl
      obtain ⟨m, hm, _⟩ := I4.loc
      have hD4 := (I4.pin (s2.heap.objs.size, aL its) (List.mem_append_right _ List.mem_cons_self)).2.1
      refine fin _ _ s4 _ m I5 (q _ hD4) hm ?_
      have hCn : H3 G2.objs.size = none := I4.free
      refine I2.fpOk hCle ?_
      rw [upd_ne (Ne.symm hDC)]
      exact hCn
    · refine thn (T.item (X.blk pins scope (closeL X.env scope.names) G2.objs.size N' fp s2 H2) rfl rfl rfl hc i _ s3 _ H3 _ I3 (fpk fr3 (hpl1 _)) st3 go) fun r s4 ⟨u, hr, h4⟩ => ?_
      subst hr
      refine thn h4 fun _ s5 ⟨x, H5, I5, r5, y5, st5, fr5⟩ => ?_
      have I5' := I5.pinned (fpk fr5 (hpl1 _)) (T.obj _ _ st5)
      refine thn (hg _ _ _ _ _ _ _ s5 _ H5 x u _ I5' r5 (step x H5 y5)) fun _ s6 ⟨σ6, H6, I6, ex6, q6⟩ => ?_
      refine thn (ht _ _ _ _ _ _ _ s6 σ6 H6 _ I6 q6) fun ok s7 ⟨H7, I7, q7⟩ => ?_
      have back : ∀ {s8 : Shared} {H8 : Hp} {its' : List Value} {ys' : List V}, Inv (X.blk pins scope (closeL X.env scope.names) G2.objs.size N' fp s2 H2) ([(s2.heap.objs.size, aL its')] ++ pinsAt fp s5.heap) σ6 H8 s8 → Vals ys' its' → N ys' H8 →
          ∃ m, m < n ∧ ∃ i ys H' its, Inv (X.blk pins scope (closeL X.env scope.names) G2.objs.size N' fp s2 H2) [(s2.heap.objs.size, aL its)] (blkSt ix σ) H' s8 ∧ Vals ys its ∧ tn i s8.heap ∧ (∀ b ∈ fp, H' b = none) ∧ W i m ys H' := fun {s8 H8 its' ys'} I8 rv8 n8 => by
        obtain ⟨m', hm, w8⟩ := hN ys' H8 n8
        refine ⟨m', hm, i + 1, ys', H8, its', (I8.weak ex6.length fun j v e => ex6.get j v e).unpinned, rv8, T.keep _ _ _ st5 fun b hb o e => (I8.pin (b, o) (List.mem_append_right _ (List.mem_append_right _ (mem_pinsAt hb e)))).1, fun b hb => ?_, w8⟩
        obtain ⟨o, e, d⟩ := T.obj _ _ st5 b hb
        exact (I8.pin (b, o) (List.mem_append_right _ (List.mem_append_right _ (mem_pinsAt hb e)))).2.1
      cases ok with
      | false =>
        rw [if_neg Bool.false_ne_true] at q7 ⊢
        exact back I7 rv q7
      | true =>
        rw [if_pos rfl] at q7 ⊢
        refine thn (he _ _ _ _ _ _ _ s7 σ6 H7 _ I7 q7) fun yv s8 ⟨y, H8, I8, r8, q8⟩ => ?_
        have pD := I8.pin (s2.heap.objs.size, aL its) (List.mem_append_right _ (List.mem_append_left _ List.mem_cons_self))
        refine append_at (hsz := by show its.toArray.size ≤ sizeLine; rw [List.size_toArray, ← rv.length]; exact hl) pD.1 fun h9 hs9 hD9 => ?_
        have e9 : h9.get? s2.heap.objs.size = some (aL (its ++ [yv])) := by
          rw [hD9]
          show some ({ cls := .type "list", data := .seq (its.toArray.push yv) (its.length + 1) } : Obj) = some { cls := .type "list", data := .seq (its ++ [yv]).toArray (its ++ [yv]).length }
          rw [List.length_append, List.length_singleton, List.push_toArray]
        have I8' : Inv (X.blk pins scope (closeL X.env scope.names) G2.objs.size N' fp s2 H2) (pinsAt fp s5.heap) σ6 H8 s8 := I8.pins_of fun p hp => I8.pin p (List.mem_append_right _ (List.mem_append_right _ hp))
        have hpn : ∀ p ∈ (X.blk pins scope (closeL X.env scope.names) G2.objs.size N' fp s2 H2).pn ++ pinsAt fp s5.heap, p.1 ≠ s2.heap.objs.size := fun p hp => by
          rcases List.mem_append.mp hp with hp | hp
          · exact Nat.ne_of_lt (Heap.lt_size (I2.pin p hp).1)
          · exact Nat.ne_of_lt (hlt _ (of_pinsAt hp).1)
        have I9 := I8'.turned (t' := s8.toks) (it := s2.heap.objs.size) (fun b o hb e => hs9.extBut b o hb e) pD.2.1 hDC (.inr (Nat.le_refl _)) (fun x c e z => by
          subst z
          obtain ⟨v, o, z1, z2⟩ := I8.cell x _ e
          rw [pD.1] at z1
          cases z1
          cases z2) hpn
        refine back (its' := its ++ [yv]) (ys' := ys ++ [y]) (I9.pins_of fun p hp => ?_) (rv.append (.cons r8 .nil)) q8
        rcases List.mem_append.mp hp with hp | hp
        · rw [List.mem_singleton.mp hp]
          exact ⟨e9, pD.2.1, pD.2.2.1, pD.2.2.2.1, fun v e => by cases e⟩
        · exact I9.pin p (List.mem_append_right _ hp)
  exact codeAny_compStart_list loop (T.self X.A 0 _ _ _ st1 loop)

/-- a list comprehension of one clause -/
theorem pe_comp (hc : X.calm = true) (N' : List Str) (ix : List (Option Nat)) (hi : PI X tg iter wi) (hB : blkOk X.env.scope X.N scope N' ix = true)
    (hg : ∀ pins cl C fp s H, PG (X.blk pins scope cl C N' fp s H) tg g) (ht : ∀ pins cl C fp s H, PTs (X.blk pins scope cl C N' fp s H) ifs tt) (he : ∀ pins cl C fp s H, PE (X.blk pins scope cl C N' fp s H) elt te)
    (hs : ∀ x, foldedSetIterable iter X.env x = pure x := by intro _; rfl) : PE X (.ListComp elt [⟨tg, iter, ifs, 0⟩] scope pos) (tComp wi ix g tt te) := by
  intro pins s σ H Q I h
  rw [eval_ListComp]
  refine blk_run (use := none) hc hi rfl rfl (BlkOk.of hB) hg ht he hs I h fun D C s4 H4 m I4 q4 hm hf => ?_
  refine ⟨m, hm, fun h' hs' => ?_⟩
  exact ⟨.ref D, H4, I4.turned (t' := s4.toks) (fun b o hb e => hs'.extBut b o hb e) hf.1 hf.2.1 hf.2.2.2.1 hf.2.2.2.2.1 hf.2.2.2.2.2, rfl, q4⟩
/-- name = [..], the name a plain local of the def on the same line -/
theorem ps_setComp {i : Nat} {x : Str} {pos' spos : Pos} (hc : X.calm = true) (N' : List Str) (ix : List (Option Nat)) (hNd : X.N.Nodup) (hxi : X.N[i]? = some x) (hx : X.env.scope.names.lookup x = some .local) (hi : PI X tg iter wi) (hB : blkOk X.env.scope X.N scope N' ix = true)
    (hg : ∀ pins cl C fp s H, PG (X.blk pins scope cl C N' fp s H) tg g) (ht : ∀ pins cl C fp s H, PTs (X.blk pins scope cl C N' fp s H) ifs tt) (he : ∀ pins cl C fp s H, PE (X.blk pins scope cl C N' fp s H) elt te)
    (hsw : swapsWith (.ListComp elt [⟨tg, iter, ifs, 0⟩] scope pos) (some (.Name x pos')) spos.line X.env = pure true := by rfl)
    (hs : ∀ x, foldedSetIterable iter X.env x = pure x := by intro _; rfl) : PS X (.Assign [.Name x pos'] (.ListComp elt [⟨tg, iter, ifs, 0⟩] scope pos) spos) (tAsg (tComp wi ix g tt te) (gName i)) := by
  intro pins s σ H D I h
  rw [exec_Assign_Name_used _ _ _ _ hsw]
  refine wpAny_bind (wpAny_standAt (wpAny_bind ?_))
  show wpAny _ X.A (do let _ ← comprehension (.ListComp elt [⟨tg, iter, ifs, 0⟩] scope pos) scope X.env _ (newList []) false (eval iter X.env) (some (assign (.Name x pos') X.env))) _ _ s
  refine wpAny_bind (wpAny_mono (blk_run (use := some (assign (.Name x pos') X.env)) (QQ := fun _ s' => SP X pins D .next s') hc hi rfl rfl (BlkOk.of hB) hg ht he hs I h fun Da C s4 H4 m I4 q4 hm hf => ?_) (fun _ s' hq => wpAny_pure (wpAny_pure hq)) fun _ _ e => e)
  show wpAny _ X.A (assign (.Name x pos') X.env (.ref Da)) _ _ _
  refine wpAny_assign_Name (store_ok2 (v := .ref Da) I4 hNd hxi (.inl hx) rfl (fun s5 I5 hsb => ?_) (.inr hx))
  obtain ⟨a, hsb, ha⟩ := hsb
  have hCa : C ≠ a := by
    rcases ha with z | z
    · rw [z]; exact hf.2.1
    · exact fun e => hf.2.2.2.2.1 x a z e.symm
  refine ⟨m, hm.sameBut hsb hCa, fun h' hs' => ?_⟩
  exact ⟨_, H4, I5.turned (t' := s5.toks) (fun b o hb e => hs'.extBut b o hb e) hf.1 hf.2.1 hf.2.2.2.1 hf.2.2.2.2.1 hf.2.2.2.2.2, q4⟩
end
end L2

namespace L2
open PySem PySem.Spec PyProof.Rows

/-! ### slices of texts -/
section
variable {X : Cx}
/-! ### lists of texts -/
theorem vals_strs : ∀ {ys : List Str} {us : List Value}, Vals (ys.map V.str) us → StrsAre us ys
  | [], _, h => by cases h; exact .nil
  | y :: ys, _, h => by
    cases h with
    | cons r t =>
      obtain ⟨t', rfl⟩ := r
      exact .cons _ _ (vals_strs t)
theorem strs_vals : ∀ {us : List Value} {ys : List Str}, StrsAre us ys → Vals (ys.map V.str) us
  | _, _, .nil => .nil
  | _, _, .cons x t h => .cons ⟨t, rfl⟩ (strs_vals h)
theorem kv_at : ∀ {l₁ : List (Key × V)} {l₂ : List (Key × Value)}, KV l₁ l₂ → ∀ (j : Nat) (k : Key) (x : Value), l₂[j]? = some (k, x) → ∃ v, l₁[j]? = some (k, v)
  | _, _, .nil, j, k, x, e => by simp at e
  | p :: _, _, .cons hr _, 0, k, x, e => by
    rw [List.getElem?_cons_zero] at e
    have e := Option.some.inj e
    subst e
    have h1 : p.1 = k := hr.1
    exact ⟨p.2, by rw [List.getElem?_cons_zero, ← h1]⟩
  | _ :: _, _, .cons _ t, j + 1, k, x, e => by
    rw [List.getElem?_cons_succ] at e
    obtain ⟨v, hv⟩ := kv_at t j k x e
    exact ⟨v, by rw [List.getElem?_cons_succ]; exact hv⟩
/-- sorted(dict whose keys are texts) -/
def rSortD : List V → Hp → VK → Prop := fun xs H Q => ∃ (p : Addr) (kvs : List (Key × V)) (ys : List Str), xs = [.ref p] ∧ H p = some (.dK kvs) ∧ kvs.map (·.1) = ys.map Sum.inr ∧ ys.length < 64 ∧
  ∀ l ys', H l = none → ys'.Perm ys → sortedS ys' = true → Q (.ref l) (upd H l (.lst (ys'.map V.str)))
theorem call_sortedD (hc : X.calm = true) : CallR X (.builtin "sorted") rSortD := by
  intro pins s σ H xs us Q I r h
  obtain ⟨p, kvs, ys, rfl, hp, hk, hl, q⟩ := h
  obtain ⟨u, rfl, ru⟩ := vals1 r
  cases ru
  obtain ⟨hz, lo, vs, rk, hD⟩ := I.hok p _ hp
  have hlk : kvs.length = ys.length := by
    have := congrArg List.length hk
    rwa [List.length_map, List.length_map] at this
  have hlv : kvs.length = vs.length := Paired.length rk
  obtain ⟨ep, hat⟩ := hD.dictAt
  have hh : X.A.handled = none := I.ok.hd hc
  refine Calls.call_function_entry kind_sorted plain_sorted entry_sorted (args_sorted1 _) ?_
  unfold Builtin.«sorted»
  refine wpAny_bind (m := checkCount "sorted" 1 1 _) (wpAny_pure ?_)
  refine wpAny_bind (PySem.W.kdu_collect (A := X.A.in1) (PySem.W.kdl_dict (knd := mixKind X.prog X.w) (kvs := vs) (ep := ep) lo) hh hat (Nat.le_trans (by omega : vs.length ≤ 64) (by decide)) fun h' tk acc hkp hacc => ?_)
  have hla : acc.toList.length = vs.length := by rw [Array.length_toList]; exact hacc.1
  have keys : ∀ (j : Nat) (kv : Key × V), kvs[j]? = some kv → ∃ y, ys[j]? = some y ∧ kv.1 = Sum.inr y := fun j kv e => by
    have e1 : (kvs.map (·.1))[j]? = some kv.1 := by rw [List.getElem?_map, e]; rfl
    rw [hk, List.getElem?_map] at e1
    cases e2 : ys[j]? with
    | none => rw [e2] at e1; cases e1
    | some y => rw [e2] at e1; exact ⟨y, rfl, (Option.some.inj e1).symm⟩
  have hstrs : Vals (ys.map V.str) acc.toList := by
    have gen : ∀ (us : List Value) (zs : List Str), us.length = zs.length → (∀ (j : Nat) u, us[j]? = some u → ∃ y t, zs[j]? = some y ∧ u = Value.str y t) → Vals (zs.map V.str) us := by
      intro us
      induction us with
      | nil => intro zs hl _; cases zs with
        | nil => exact .nil
        | cons _ _ => simp at hl
      | cons u us ih =>
        intro zs hl h
        cases zs with
        | nil => simp at hl
        | cons z zs =>
          obtain ⟨y, t, e1, e2⟩ := h 0 u rfl
          rw [List.getElem?_cons_zero] at e1
          cases e1
          subst e2
          exact .cons ⟨t, rfl⟩ (ih zs (by simpa using hl) fun j u' e => h (j + 1) u' e)
    refine gen _ _ (by omega) fun j u e => ?_
    obtain ⟨k, x, e1, e2⟩ := hacc.2 j u (by rw [← Array.getElem?_toList]; exact e)
    obtain ⟨v, e3⟩ := kv_at rk j k x e1
    obtain ⟨y, e4, e5⟩ := keys j _ e3
    have e5 : k = Sum.inr y := e5
    subst e5
    have e2 : keyIs (Sum.inr y) u = true := e2
    rcases keyIs_shape e2 with ⟨i, t, z1, _⟩ | ⟨y', t, z1, z2⟩
    · cases z1
    · cases z1
      exact ⟨y, t, e4, z2⟩
  have hS := vals_strs hstrs
  refine wpAny_bind (wpAny_newList ?_ (by rw [hla]; exact Nat.le_trans (by omega : vs.length ≤ 64) (by decide)))
  have hoL : (h'.push { cls := .type "list", data := .seq acc.toList.toArray }).get? h'.objs.size = some (seqObj "list" acc.toList.toArray 0) := Heap.get?_push_size _ rfl
  refine wpAny_bind (wpAny_holding (wpAny_call_entry slot_list_sort ⟨_, hoL, rfl⟩ entry_list_sort (list_sort_treeK strKind_oneLt hoL hS.keysOf (fun v₁ v₂ rest e => keyKind_strs (by rw [← e]; exact hS)) (by omega) fun st' a1 a2 => ⟨_, rfl, ?_⟩) (args_list_sort _)))
  obtain ⟨ys', h1, h2, h3⟩ := sorted_out_str hS a1 a2
  refine wpAny_pure ⟨_, rfl, ?_⟩
  obtain ⟨e, he⟩ := sortedHeap_at (out := (arrOf st').map (·.2)) hoL
  have I' : Inv X pins σ H { s with heap := h', toks := tk } := I.kept (t' := tk) hkp
  have old : ∀ b o, h'.get? b = some o → (sortedHeap (h'.push { cls := .type "list", data := .seq acc.toList.toArray }) h'.objs.size acc.toList ((arrOf st').map (·.2))).get? b = some o := fun b o eb' => by
    have hlt := Heap.lt_size eb'
    rw [sortedHeap_old (Nat.ne_of_lt hlt) (by rw [size_push']; exact Nat.lt_succ_of_lt hlt)]
    exact Heap.get?_push_of_some _ eb'
  refine ⟨.ref h'.objs.size, _, I'.laid (o := .lst (ys'.map V.str)) (t' := tk) old (Nat.le_refl _) ⟨?_, ((arrOf st').map (·.2)).toList, e, strs_vals h1, ?_⟩, rfl, q _ ys' (I'.hok.fresh (Nat.le_refl _)) h2 h3⟩
  · rw [List.length_map, h2.length_eq]
    exact Nat.le_trans (Nat.le_of_lt hl) (by decide)
  · rw [he]

/-! ### any, all of bools -/
theorem vals_bl : ∀ {bs : List Bool} {us : List Value}, Vals (bs.map V.bl) us → us = bs.map Value.bool
  | [], _, h => by cases h; rfl
  | b :: bs, _, h => by
    cases h with
    | cons r t =>
      have r : _ = Value.bool b := r
      rw [List.map_cons, r, vals_bl t]
theorem range_all (bs : List Bool) : (List.range bs.length).all (fun i => bs.getD i false) = bs.all id := by
  induction bs with
  | nil => rfl
  | cons b r ih =>
    rw [List.length_cons, List.range_succ_eq_map, List.all_cons, List.all_cons, List.all_map, ← ih]
    rfl
def rAll (K : PySem.W.Frag) : List V → Hp → VK → Prop := fun xs H Q => ∃ (p : Addr) (bs : List Bool), xs = [.ref p] ∧ SqL K H p (bs.map V.bl) ∧ Q (.bl (bs.all id)) H
theorem truth_bl {prog : Program} {w : World} {A : Around} (bs : List Bool) : TruthOf prog w A (fun i v => (bs.map Value.bool).toArray[i]? = some v) (fun i => bs.getD i false) := by
  intro i v s Q E hP hQ
  have hP : (bs.map Value.bool)[i]? = some v := by simpa using hP
  rw [List.getElem?_map] at hP
  cases e : bs[i]? with
  | none => rw [e] at hP; cases hP
  | some b =>
    rw [e] at hP
    have hP := Option.some.inj hP
    subst hP
    have : bs.getD i false = b := by simp [List.getD, e]
    have hQ : Q (bs.getD i false) s := hQ
    rw [this] at hQ
    exact wpAny_truthy_bool hQ
theorem call_allB (hc : X.calm = true) : CallR X (.builtin "all") (rAll X.K) := by
  intro pins s σ H xs us Q I r h
  obtain ⟨p, bs, rfl, hp, q⟩ := h
  obtain ⟨u, rfl, ru⟩ := vals1 r
  cases ru
  obtain ⟨its, rv, pl, hz⟩ := I.list hp
  have ei := vals_bl rv
  subst ei
  have hlt : p < s.heap.objs.size := by
    obtain ⟨_, _, e, _⟩ := pl
    exact Heap.lt_size e
  have hh : X.A.handled = none := I.ok.hd hc
  refine call_all_walk (wpAny_pyIter_list pl.isList ⟨s.heap.objs.size, _, _, _, _, _, fun i => bs.getD i false, rfl, Walks.list (A := X.A.in1) hh s.heap.objs.size p (Nat.ne_of_lt hlt) (bs.map Value.bool).toArray, ⟨⟨_, Heap.get?_push_size _ rfl, rfl, rfl⟩, pl.isList.push _⟩, truth_bl bs, fun h' tk hk => ?_⟩)
  have e : (List.range (bs.map Value.bool).toArray.size).all (fun i => bs.getD i false) = bs.all id := by
    rw [List.size_toArray, List.length_map]
    exact range_all bs
  rw [e]
  refine ⟨.bl (bs.all id), H, I.kept (t' := tk) fun b o eb => hk b o (fun hm => ?_) (Heap.get?_push_of_some _ eb), rfl, q⟩
  exact absurd (Heap.lt_size eb) (by rw [List.mem_singleton.mp hm]; exact Nat.lt_irrefl _)

/-! ### max of a list of ints -/
/-! ### isinstance -/
def clsV : V → Option Value
  | .ty n => some (.type n)
  | .ref a => some (.ref a)
  | _ => none
def rIsI (K : PySem.W.Frag) : List V → Hp → VK → Prop := fun xs H Q => ∃ x c t cv b, xs = [x, c] ∧ clsV c = some cv ∧ TyOf K H x t ∧ PySem.W.kitOne K t cv = some b ∧ Q (.bl b) H
theorem call_isI : CallR X (.builtin "isinstance") (rIsI X.K) := by
  intro pins s σ H xs us Q I r h
  obtain ⟨x, c, t, cv, b, rfl, hc, ty, hk, q⟩ := h
  obtain ⟨u, w', rfl, ru, rw'⟩ := vals2 r
  have e : w' = cv := by
    cases c with
    | ty n => have rw' : w' = Value.type n := rw'; rw [rw']; exact Option.some.inj hc
    | ref a => have rw' : w' = Value.ref a := rw'; rw [rw']; exact Option.some.inj hc
    | _ => cases hc
  subst e
  exact isinst_ok I ru ty hk fun tk => ⟨.bl b, H, I.tok tk, rfl, q⟩

/-! ### == of two lists of flat items -/
def eqL (xs ys : List V) : Bool := xs.length == ys.length && (List.range xs.length).all fun j => eqV (xs.getD j .non) (ys.getD j .non)
def rEqL (K : PySem.W.Frag) : R2 := fun x y H Q => ∃ a b xs ys, x = .ref a ∧ y = .ref b ∧ SqL K H a xs ∧ SqL K H b ys ∧ xs.all flatV = true ∧ ys.all flatV = true ∧ Q (.bl (eqL xs ys)) H
theorem getD_of {α : Type} {xs : List α} {j : Nat} {x d : α} (h : xs[j]? = some x) : xs.getD j d = x := by simp [List.getD, h]
theorem op_eqL (hu : X.A.units < cLine) : OpR X (compareOp .Eq) (rEqL X.K) := by
  intro pins s σ H x y v u Q I rx ry h
  obtain ⟨a, b, xs, ys, rfl, rfl, ha, hb, fx, fy, q⟩ := h
  cases rx
  cases ry
  obtain ⟨its, rv, pl, hz⟩ := I.list ha
  obtain ⟨its2, rv2, pl2, hz2⟩ := I.list hb
  have l1 := rv.length
  have l2 := rv2.length
  by_cases e : xs.length = ys.length
  · have key : eqL xs ys = (List.range its.toArray.size).all fun j => eqV (xs.getD j .non) (ys.getD j .non) := by
      unfold eqL
      rw [List.size_toArray, ← l1]
      simp [e]
    refine SeqAt.eq_listAt (e := fun j => eqV (xs.getD j .non) (ys.getD j .non)) pl.isList pl2.isList (by rw [List.size_toArray, List.size_toArray]; omega) hu (fun j h1 h2 => ?_) ?_
    · rw [List.size_toArray] at h1 h2
      obtain ⟨ux, e1, r1⟩ := rv.get (i := j) (x := xs[j]) (by simp [l1, h1])
      obtain ⟨uy, e2, r2⟩ := rv2.get (i := j) (x := ys[j]) (by simp [l2, h2])
      have z1 : its.toArray[j] = ux := by
        have : its[j]? = some its[j] := List.getElem?_eq_getElem h1
        rw [e1] at this
        simpa using (Option.some.inj this).symm
      have z2 : its2.toArray[j] = uy := by
        have : its2[j]? = some its2[j] := List.getElem?_eq_getElem h2
        rw [e2] at this
        simpa using (Option.some.inj this).symm
      rw [z1, z2, getD_of (x := xs[j]) (by simp [l1, h1]), getD_of (x := ys[j]) (by simp [l2, h2])]
      exact eqAt_V r1 r2 (List.all_eq_true.mp fx _ (List.getElem_mem _)) (List.all_eq_true.mp fy _ (List.getElem_mem _))
    · rw [← key]
      exact ⟨.bl _, H, I, rfl, q⟩
  · have key : eqL xs ys = false := by
      unfold eqL
      simp [e]
    rw [key] at q
    exact SeqAt.eq_list_lengthsAt pl.isList pl2.isList (by rw [List.size_toArray, List.size_toArray]; simp; omega) hu ⟨.bl false, H, I, rfl, q⟩
end
end L2

namespace L2
open PySem PySem.Spec PyProof.Rows
/-! ### comprehensions: the forms one uses -/
section
variable {ix : List (Option Nat)} {g : TG} {tt : TT} {te : TE} {σ : St} {H : Hp} {Q : VK} {K : PySem.W.Frag}
theorem comp_range {lo : Int} {n : Nat} (Pv : Nat → List V → Hp → Prop) (h0 : Pv 0 [] H) (hn : n ≤ sizeLine) (hl : ∀ i ys H, Pv i ys H → ys.length ≤ i)
    (hs : ∀ i ys H, i < n → Pv i ys H → g (.int (lo + i)) (blkSt ix σ) H fun σ2 H2 => Ext (blkSt ix σ) σ2 ∧ tt σ2 H2 fun ok H3 => if ok = true then te σ2 H3 fun y H4 => Pv (i + 1) (ys ++ [y]) H4 else Pv (i + 1) ys H3)
    (hd : ∀ ys H, Pv n ys H → ∀ p, H p = none → Q (.ref p) (upd H p (.lst ys))) : CompGo (Itr lo n) ix g tt te σ H Q := by
  refine ⟨fun i m ys H => m = n - i ∧ i ≤ n ∧ Pv i ys H, ⟨n, by simp, Nat.zero_le _, h0⟩, ?_⟩
  rintro i m ys H ⟨rfl, hi, p⟩
  refine ⟨Nat.le_trans (hl _ _ _ p) (Nat.le_trans hi hn), ?_⟩
  by_cases hlt : i < n
  · refine .inr ⟨hlt, Pv (i + 1), fun ys' H' p' => ⟨n - (i + 1), by omega, rfl, hlt, p'⟩, fun x H' y => ?_⟩
    obtain ⟨e, y⟩ := y
    subst e y
    exact hs i ys _ hlt p
  · have e : i = n := by omega
    subst e
    exact .inl ⟨Nat.le_refl _, hd ys H p⟩
theorem comp_list {a : Addr} {xs : List V} (Pv : Nat → List V → Hp → Prop) (h0 : Pv 0 [] H) (hn : xs.length ≤ sizeLine) (hl : ∀ i ys H, Pv i ys H → ys.length ≤ i) (hx : ∀ i ys H, Pv i ys H → SqL K H a xs)
    (hs : ∀ i x ys H, xs[i]? = some x → Pv i ys H → g x (blkSt ix σ) H fun σ2 H2 => Ext (blkSt ix σ) σ2 ∧ tt σ2 H2 fun ok H3 => if ok = true then te σ2 H3 fun y H4 => Pv (i + 1) (ys ++ [y]) H4 else Pv (i + 1) ys H3)
    (hd : ∀ ys H, Pv xs.length ys H → ∀ p, H p = none → Q (.ref p) (upd H p (.lst ys))) : CompGo (Itl K a) ix g tt te σ H Q := by
  refine ⟨fun i m ys H => m = xs.length - i ∧ i ≤ xs.length ∧ Pv i ys H, ⟨xs.length, by simp, Nat.zero_le _, h0⟩, ?_⟩
  rintro i m ys H ⟨rfl, hi, p⟩
  have q := hx i ys H p
  refine ⟨Nat.le_trans (hl _ _ _ p) (Nat.le_trans hi hn), ?_⟩
  by_cases hlt : i < xs.length
  · refine .inr ⟨⟨xs, xs[i], q, by simp [hlt]⟩, Pv (i + 1), fun ys' H' p' => ⟨xs.length - (i + 1), by omega, rfl, hlt, p'⟩, fun x H' y => ?_⟩
    obtain ⟨e, y⟩ := y
    subst e
    exact hs i x ys _ (y xs q) p
  · have e : i = xs.length := by omega
    subst e
    exact .inl ⟨⟨xs, q, Nat.le_refl _⟩, hd ys H p⟩
theorem comp_tup {a : Addr} {xs : List V} (Pv : Nat → List V → Hp → Prop) (h0 : Pv 0 [] H) (hn : xs.length ≤ sizeLine) (hl : ∀ i ys H, Pv i ys H → ys.length ≤ i) (hx : ∀ i ys H, Pv i ys H → SqT K H a xs)
    (hs : ∀ i x ys H, xs[i]? = some x → Pv i ys H → g x (blkSt ix σ) H fun σ2 H2 => Ext (blkSt ix σ) σ2 ∧ tt σ2 H2 fun ok H3 => if ok = true then te σ2 H3 fun y H4 => Pv (i + 1) (ys ++ [y]) H4 else Pv (i + 1) ys H3)
    (hd : ∀ ys H, Pv xs.length ys H → ∀ p, H p = none → Q (.ref p) (upd H p (.lst ys))) : CompGo (Itt K a) ix g tt te σ H Q := by
  refine ⟨fun i m ys H => m = xs.length - i ∧ i ≤ xs.length ∧ Pv i ys H, ⟨xs.length, by simp, Nat.zero_le _, h0⟩, ?_⟩
  rintro i m ys H ⟨rfl, hi, p⟩
  have q := hx i ys H p
  refine ⟨Nat.le_trans (hl _ _ _ p) (Nat.le_trans hi hn), ?_⟩
  by_cases hlt : i < xs.length
  · refine .inr ⟨⟨xs, xs[i], q, by simp [hlt]⟩, Pv (i + 1), fun ys' H' p' => ⟨xs.length - (i + 1), by omega, rfl, hlt, p'⟩, fun x H' y => ?_⟩
    obtain ⟨e, y⟩ := y
    subst e
    exact hs i x ys _ (y xs q) p
  · have e : i = xs.length := by omega
    subst e
    exact .inl ⟨⟨xs, q, Nat.le_refl _⟩, hd ys H p⟩
/-- [te for k in range(n)]: a value for each k, the heap stays -/
theorem comp_range_map {lo : Int} {n : Nat} (f : Nat → V) (hn : n ≤ sizeLine)
    (hs : ∀ i (R : VK), i < n → R (f i) H → Ext (blkSt ix σ) ((blkSt ix σ).set 0 (some (.int (lo + i)))) ∧ te ((blkSt ix σ).set 0 (some (.int (lo + i)))) H R)
    (hd : ∀ p, H p = none → Q (.ref p) (upd H p (.lst ((List.range n).map f)))) : CompGo (Itr lo n) ix (gName 0) tTrue te σ H Q := by
  refine comp_range (fun i ys H' => H' = H ∧ ys = (List.range i).map f) ⟨rfl, rfl⟩ hn (fun i ys H' ⟨_, e⟩ => by rw [e]; simp) ?_ (fun ys H' ⟨e1, e2⟩ p hp => by subst e1 e2; exact hd p hp)
  rintro i ys H' hi ⟨rfl, rfl⟩
  obtain ⟨h1, h2⟩ := hs i (fun y H4 => H4 = H' ∧ (List.range i).map f ++ [y] = (List.range (i + 1)).map f) hi ⟨rfl, by rw [List.range_succ, List.map_append]; rfl⟩
  exact ⟨h1, h2⟩
/-- [te for x in xs] -/
theorem comp_list_map {a : Addr} {xs : List V} (f : V → V) (hn : xs.length ≤ sizeLine) (hx : SqL K H a xs)
    (hs : ∀ x (R : VK), x ∈ xs → R (f x) H → Ext (blkSt ix σ) ((blkSt ix σ).set 0 (some x)) ∧ te ((blkSt ix σ).set 0 (some x)) H R)
    (hd : ∀ p, H p = none → Q (.ref p) (upd H p (.lst (xs.map f)))) : CompGo (Itl K a) ix (gName 0) tTrue te σ H Q := by
  refine comp_list (K := K) (a := a) (xs := xs) (fun i ys H' => H' = H ∧ ys = (xs.take i).map f) ⟨rfl, rfl⟩ hn (fun i ys H' ⟨_, e⟩ => by rw [e, List.length_map, List.length_take]; omega) (fun i ys H' ⟨e, _⟩ => by subst e; exact hx) ?_ (fun ys H' ⟨e1, e2⟩ p hp => by subst e1 e2; rw [List.take_length]; exact hd p hp)
  rintro i x ys H' hi ⟨rfl, rfl⟩
  obtain ⟨h1, h2⟩ := hs x (fun y H4 => H4 = H' ∧ (xs.take i).map f ++ [y] = (xs.take (i + 1)).map f) (List.mem_of_getElem? hi) ⟨rfl, by rw [List.take_add_one, hi, List.map_append]; rfl⟩
  exact ⟨h1, h2⟩
end
/-! ### places and slices -/
theorem atI_some {α : Type} {xs : List α} {i : Int} {v : α} (h0 : 0 ≤ i) (h : xs[i.toNat]? = some v) : atI xs i = some v := by
  have e : i = ((i.toNat : Nat) : Int) := by omega
  rw [e]
  exact atI_nat h
end L2

/-! ### the rules with K written (in a comprehension's block) -/
namespace L2
open PySem PySem.Spec PyProof.Rows
section
variable {X : Cx} {K : PySem.W.Frag} {tg l : Expr} {tl : TE} {pos : Pos} {es : List Expr} {t : TGs} {n : Nat}
theorem ix_tupK (h : X.K = K := by rfl) : IxR X (rIxT K) := h ▸ ix_tup
theorem pg_tupK {k : Nat} (hK : X.K = K) (hc : X.calm = true) (h : PGs X es t)
    (hn : (assignEach es X.env).length = n := by rfl) (hst : (assignEach es X.env).findIdx? (·.1) = none := by rfl) : PG X (.Tuple es k pos) (gTup K n t) := hK ▸ pg_tup hc h hn hst
variable {o e : Expr} {to : TE} {ta : TA} {name : Str} {apos cpos : Pos} {T id : String} {r : V → List V → Hp → VK → Prop}
end
end L2

namespace Bt
open PySem
theorem len : bootBuiltins "len" = some (.builtin "len") := by decide +kernel
theorem max : bootBuiltins "max" = some (.builtin "max") := by decide +kernel
theorem min : bootBuiltins "min" = some (.builtin "min") := by decide +kernel
theorem sum : bootBuiltins "sum" = some (.builtin "sum") := by decide +kernel
theorem sorted : bootBuiltins "sorted" = some (.builtin "sorted") := by decide +kernel
theorem any : bootBuiltins "any" = some (.builtin "any") := by decide +kernel
theorem all : bootBuiltins "all" = some (.builtin "all") := by decide +kernel
theorem isinstance : bootBuiltins "isinstance" = some (.builtin "isinstance") := by decide +kernel
theorem abs : bootBuiltins "abs" = some (.builtin "abs") := by decide +kernel
theorem ord : bootBuiltins "ord" = some (.builtin "ord") := by decide +kernel
theorem int : bootBuiltins "int" = some (.type "int") := by decide +kernel
theorem str : bootBuiltins "str" = some (.type "str") := by decide +kernel
theorem bool : bootBuiltins "bool" = some (.type "bool") := by decide +kernel
theorem list : bootBuiltins "list" = some (.type "list") := by decide +kernel
theorem tuple : bootBuiltins "tuple" = some (.type "tuple") := by decide +kernel
theorem dict : bootBuiltins "dict" = some (.type "dict") := by decide +kernel
theorem range : bootBuiltins "range" = some (.type "range") := by decide +kernel
theorem zip : bootBuiltins "zip" = some (.type "zip") := by decide +kernel
theorem enumerate : bootBuiltins "enumerate" = some (.type "enumerate") := by decide +kernel
end Bt

/-! ### the rules whose looks at names the kernel alone checks -/
namespace L2
open PySem PySem.Spec PyProof.Rows
section
variable {X : Cx} {CX : CXT} {k : Nat} {f C : Addr} {fd : FuncData} {ps : List Str} {sp : Sp} {dvs : List V} {ds : List Value} {E : XK} {x m : Str} {p pos apos pos' : Pos} {e o : Expr} {es : List Expr} {ta te : TE} {t : TA} {id T : String} {r : List V → Hp → VK → Prop}
/-- a name of the frame's own -/
theorem pvl (i : Nat) (hN : X.N[i]? = some x := by kernel_rfl) (hv : X.env.scope.names.lookup x = some .local := by kernel_rfl) (hd : (x == ("__debug__" : Str)) = false := by kernel_rfl) (hcd : (x == ("__classdict__" : Str)) = false := by kernel_rfl) :
    PE X (.Name x pos) (tVar i) := pe_var hN (.inl hv) hd hcd
/-- a name with a cell -/
theorem pvc (i : Nat) (hN : X.N[i]? = some x := by kernel_rfl) (hv : X.env.scope.names.lookup x = some .cell := by kernel_rfl) (hd : (x == ("__debug__" : Str)) = false := by kernel_rfl) (hcd : (x == ("__classdict__" : Str)) = false := by kernel_rfl) :
    PE X (.Name x pos) (tVar i) := pe_var hN (.inr (.inl hv)) hd hcd
theorem pgl (i : Nat) (hN : X.N.Nodup) (hi : X.N[i]? = some x := by kernel_rfl) (hx : X.env.scope.names.lookup x = some .local := by kernel_rfl) : PG X (.Name x pos) (gName i) := pg_name hN hi (.inl hx) (.inr hx)
theorem psl (i : Nat) (hN : X.N.Nodup) (he : PE X e te) (hi : X.N[i]? = some x := by kernel_rfl) (hx : X.env.scope.names.lookup x = some .local := by kernel_rfl) (hs : swapsWith e (some (.Name x pos')) pos.line X.env = pure false := by rfl) :
    PS X (.Assign [.Name x pos'] e pos) (tAsg te (gName i)) := ps_set hN hi (.inl hx) he hs (.inr hx)
theorem psc (i : Nat) (hN : X.N.Nodup) (he : PE X e te) (hi : X.N[i]? = some x := by kernel_rfl) (hx : X.env.scope.names.lookup x = some .cell := by kernel_rfl) (hf : X.fn x = true := by kernel_rfl) (hs : swapsWith e (some (.Name x pos')) pos.line X.env = pure false := by kernel_rfl) :
    PS X (.Assign [.Name x pos'] e pos) (tAsg te (gName i)) := ps_set hN hi (.inr hx) he hs (.inl hf)
theorem pcall (F : FnOk X.prog X.w X.K X.mg X.base CX k f fd ps sp) (hr : Room k X.A) (hm : X.mg x = some (.ref f)) (hk : PySem.W.keepIn X.K (.ref f) = true) (hb : Binds X.K fd ps []) (hx : Passes CX X E) (ha : PA X (e :: es) t)
    (hg : X.env.scope.names.lookup x = some .globalImplicit := by kernel_rfl) (hdb : (x == ("__debug__" : Str)) = false := by kernel_rfl) (he : starEach (e :: es) X.env = (false, eval e X.env) :: starEach es X.env := by rfl) (hpl : (backTo pos (starEach es X.env)).any (·.1) = false := by rfl) :
    PE X (.Call (.Name x p) (e :: es) [] pos) (tCall sp [] E t) := pe_call F hr hg hm hk hb .nil hx ha hdb he hpl
theorem pcallB (hc : CallR X (.builtin id) r) (hm : X.mg x = none) (hv : bootBuiltins x = some (.builtin id)) (ha : PA X (e :: es) t) (hg : X.env.scope.names.lookup x = some .globalImplicit := by kernel_rfl) (hn : (x == ("__name__" : Str)) = false := by kernel_rfl) (hdb : (x == ("__debug__" : Str)) = false := by kernel_rfl)
    (he : starEach (e :: es) X.env = (false, eval e X.env) :: starEach es X.env := by rfl) (hpl : (backTo pos (starEach es X.env)).any (·.1) = false := by rfl) : PE X (.Call (.Name x p) (e :: es) [] pos) (tCB r t) := pe_callB hc hg hm hv ha (by simpa using hn) hdb he hpl
theorem pcallT (hc : CallR X (.type T) r) (hm : X.mg x = none) (hv : bootBuiltins x = some (.type T)) (ha : PA X (e :: es) t) (hg : X.env.scope.names.lookup x = some .globalImplicit := by kernel_rfl) (hn : (x == ("__name__" : Str)) = false := by kernel_rfl) (hdb : (x == ("__debug__" : Str)) = false := by kernel_rfl)
    (he : starEach (e :: es) X.env = (false, eval e X.env) :: starEach es X.env := by rfl) (hpl : (backTo pos (starEach es X.env)).any (·.1) = false := by rfl) : PE X (.Call (.Name x p) (e :: es) [] pos) (tCB r t) := pe_callTy hc hg hm hv ha (by simpa using hn) hdb he hpl
theorem pbltn {v : V} {u : Value} (hm : X.mg x = none) (hv : bootBuiltins x = some u) (hr : RelV v u) (hg : X.env.scope.names.lookup x = some .globalImplicit := by kernel_rfl) (hn : (x == ("__name__" : Str)) = false := by kernel_rfl) (hdb : (x == ("__debug__" : Str)) = false := by kernel_rfl) :
    PE X (.Name x pos) (tC v) := pe_bltn hg hm hv hr (by simpa using hn) hdb
theorem prange1 {tg a : Expr} (hm : X.mg "range" = none) (ha : PA X [a] t) (hg : X.env.scope.names.lookup ("range" : Str) = some .globalImplicit := by kernel_rfl) (hs : starEach [a] X.env = [(false, eval a X.env)] := by rfl) : PI X tg (.Call (.Name "range" p) [a] [] pos) (iRng1 t) := pi_range1 hg hm ha hs
end
end L2

/-! ### exceptions of own classes: raised, passed on -/
namespace L2
open PySem PySem.Spec PyProof.Rows
/-- an exception of the class at C flies out of a call: s, H ahead of it, s', H' behind it -/
structure Fly (P : Program) (w : World) (outer : List Env) (H H' : Hp) (s s' : Shared) (a C : Addr) : Prop where
  os : s'.os = s.os
  bare : AllBare s'.gens
  un : Un (frs outer) [] H H' s.heap s'.heap
  hok : HOk P w H' s'.heap
  free : H' a = none
  fl : ∃ (B : Heap) (a0 : Value), Heap.FlyingW B outer a (.ref C) a0 s'.heap ∧ (∀ b o, s.heap.get? b = some o → H b = none → b ∉ frs outer → B.get? b = some o) ∧ (∀ b o, s.heap.get? b = some o → b ∉ frs outer → ∃ o', B.get? b = some o') ∧ ∀ b, H' b ≠ none → ∃ o, s'.heap.get? b = some o ∧ B.get? b = some o
/-- how an exception lies behind a call -/
def CX1 (P : Program) (w : World) : CXT := fun outer H s E e s' => ∃ a C H', e = .ref a ∧ Fly P w outer H H' s s' a C ∧ E (.ref C) none H'
theorem hok_there {P : Program} {w : World} {H : Hp} {h : Heap} (x : HOk P w H h) {b : Addr} (e : H b ≠ none) : ∃ o, h.get? b = some o := by
  cases q : H b with
  | none => exact absurd q e
  | some u =>
    have z := x b u q
    cases u with
    | lst xs => obtain ⟨_, _, _, _, e⟩ := z; exact ⟨_, e⟩
    | tup xs => obtain ⟨_, _, _, o, e, _⟩ := z; exact ⟨_, e⟩
    | dK kvs => obtain ⟨_, _, _, _, o, _, _, e, _⟩ := z; exact ⟨_, e⟩
    | dT kvs => obtain ⟨_, _, _, _, o, _, _, e, _⟩ := z; exact ⟨_, e⟩
    | set S n => obtain ⟨o, _, _, _, e, _⟩ := z; exact ⟨_, e⟩
    | ins C dx fs => obtain ⟨_, _, _, e, _⟩ := z; exact ⟨_, e⟩
    | own y => obtain ⟨_, e⟩ := z; exact ⟨_, e⟩
    | xd fs => obtain ⟨_, ⟨_, _, _, e, _⟩, _⟩ := z; exact ⟨_, e⟩
    | rng lo hi => obtain ⟨_, _, _, e⟩ := z; exact ⟨_, e⟩
    | frz ob v => obtain ⟨e, _⟩ := z; exact ⟨_, e⟩
    | tbl ps =>
      have z : h.get? b = some _ := z
      exact ⟨_, z⟩
    | met f y =>
      have z : h.get? b = some _ := z
      exact ⟨_, z⟩
    | ext φ => obtain ⟨_, ⟨_, e⟩, _⟩ := z; exact ⟨_, e⟩
/-- behind a step that keeps what is not hidden and the frames up to their slots -/
theorem un_after {fr : List Addr} {H0 H1 H2 : Hp} {h0 h1 h2 : Heap} (u : Un fr [] H0 H1 h0 h1) (keep : ∀ b o, h1.get? b = some o → H1 b = none → b ∉ fr → h0.get? b = some o → h2.get? b = some o)
    (slot : ∀ b o, h1.get? b = some o → H1 b = none → b ∈ fr → ∃ sl, h2.get? b = some { o with slots := sl }) (free : ∀ b, H1 b = none → (∃ o, h1.get? b = some o) → H2 b = none)
    (there : ∀ b o, h0.get? b = some o → ∃ o', h2.get? b = some o') (tups : ∀ b xs, H1 b = some (.tup xs) → H2 b = some (.tup xs)) (frzs : ∀ b o x, H1 b = some (.frz o x) → H2 b = some (.frz o x))
    (tbls : ∀ b ps, H1 b = some (.tbl ps) → ∃ more, H2 b = some (.tbl (ps ++ more))) : Un fr [] H0 H2 h0 h2 where
  keep := fun b o e n hb hx => keep b o (u.keep b o e n hb hx) (u.free b o e n hx) hb e
  slot := fun b o e n hb hx => by
    obtain ⟨sl, e1⟩ := u.slot b o e n hb hx
    obtain ⟨sl', e2⟩ := slot b _ e1 (u.free b o e n hx) hb
    exact ⟨sl', e2⟩
  free := fun b o e n hx => by
    obtain ⟨o', e1⟩ := u.there b o e hx
    exact free b (u.free b o e n hx) ⟨o', e1⟩
  there := fun b o e hx => there b o e
  tups := fun b xs e => tups b xs (u.tups b xs e)
  frzs := fun b o x e => frzs b o x (u.frzs b o x e)
  tbls := fun b ps e => by
    obtain ⟨m1, e1⟩ := u.tbls b ps e
    obtain ⟨m2, e2⟩ := tbls b _ e1
    exact ⟨m1 ++ m2, by rw [e2, Array.append_assoc]⟩
section
variable {P : Program} {w : World} {K : PySem.W.Frag} {mg : Str → Option Value} {base : Heap} {N : List Str} {qual : Str} {scope : Scope} {f : Addr} {cd : Value} {A : Around} {outer : List Env} {s : Shared} {H : Hp} {E : XK}
/-- raised in this frame -/
theorem fly_made {CX : CXT} {pins : List (Addr × Obj)} {σ : St} {H1 : Hp} {s1 : Shared} {h' : Heap} {e C : Addr} {vs : List Value} {Q : Unit → Shared → Prop} {EE : Value → Shared → Prop} (I : Inv (cxOf CX P w K mg base N qual scope f cd A outer s H E) pins σ H1 s1) (hx : Heap.MadeExcOf s1.heap h' e (.ref C) vs)
    (hQ : ∀ h2, Fly P w outer H H1 s { s1 with heap := h2 } e C → Q () { s1 with heap := h2 }) :
    wpAny (model P w) (cxOf CX P w K mg base N qual scope f cd A outer s H E).A (leaving (cxOf CX P w K mg base N qual scope f cd A outer s H E).env (.ref e)) Q EE { s1 with heap := h' } := by
  have fm : ∀ b ∈ frs (cxOf CX P w K mg base N qual scope f cd A outer s H E).stack, s1.heap.get? b ≠ none := fun b hb => by
    obtain ⟨_, o, ho, _⟩ := I.stack.mem hb
    rw [ho]
    exact fun z => by cases z
  have inB : ∀ b o, s1.heap.get? b = some o → b ∉ frs (cxOf CX P w K mg base N qual scope f cd A outer s H E).stack → (PySem.W.hideAll s1.heap (frs (cxOf CX P w K mg base N qual scope f cd A outer s H E).stack)).get? b = some o := fun b o e hb => PySem.W.hideAll_get _ e hb
  have hl : s1.heap.FunFrames (PySem.W.hideAll s1.heap (frs (cxOf CX P w K mg base N qual scope f cd A outer s H E).stack)) (cxOf CX P w K mg base N qual scope f cd A outer s H E).stack :=
    PySem.W.funFrames_hide I.stack fun env he b hb => List.mem_filterMap.mpr ⟨env, he, hb⟩
  refine wpAny_leaves_madeW (base := PySem.W.hideAll s1.heap (frs (cxOf CX P w K mg base N qual scope f cd A outer s H E).stack)) (h := s1.heap) I.ok.frames rfl (fun b o q => PySem.W.of_hideAll _ q) hl hx fun h2 t fl tup hnt hsm => hQ h2 ?_
  have keepB : ∀ b o, s1.heap.get? b = some o → b ∉ frs (cxOf CX P w K mg base N qual scope f cd A outer s H E).stack → h2.get? b = some o := fun b o e hb => fl.1 b o (inB b o e hb)
  have below : ∀ b o, s.heap.get? b = some o → b ∉ frs outer → b ∉ frs (cxOf CX P w K mg base N qual scope f cd A outer s H E).stack := fun b o e hb z => by
    rcases List.mem_cons.mp (I.stkSub b z) with q | q
    · have h1 := Heap.lt_size e
      rw [q] at h1
      exact absurd (Nat.lt_of_lt_of_le h1 I.ok.above) (Nat.lt_irrefl _)
    · exact hb q
  have frm : ∀ b ∈ frs (cxOf CX P w K mg base N qual scope f cd A outer s H E).stack, ∀ o, s1.heap.get? b = some o → ∃ sl, h2.get? b = some { o with slots := sl } := fun b hb o e => by
    obtain ⟨_, o', ho, hd⟩ := I.stack.mem hb
    rw [e] at ho
    cases ho
    exact hsm b o (hx.keeps b o e) hd
  have sub : ∀ b ∈ frs outer, b ∈ frs (cxOf CX P w K mg base N qual scope f cd A outer s H E).stack := fun b hb => by
    show b ∈ frs (_ :: outer)
    unfold frs at hb ⊢
    obtain ⟨env, he, hf⟩ := List.mem_filterMap.mp hb
    exact List.mem_filterMap.mpr ⟨env, List.mem_cons_of_mem _ he, hf⟩
  have trk : ∀ b, H1 b ≠ none → ∃ o, h2.get? b = some o ∧ (PySem.W.hideAll s1.heap (frs (cxOf CX P w K mg base N qual scope f cd A outer s H E).stack)).get? b = some o := fun b hb => by
    obtain ⟨o, ho⟩ := hok_there I.hok hb
    have nb : b ∉ frs (cxOf CX P w K mg base N qual scope f cd A outer s H E).stack := fun z => hb (I.stkFree b z)
    exact ⟨o, keepB b o ho nb, inB b o ho nb⟩
  refine ⟨I.os, I.bare, un_after I.base (fun b o e _ hb e0 => keepB b o e (below b o e0 hb)) (fun b o e _ hb => frm b (sub b hb) o e) (fun b n _ => n) (fun b o e => ?_) (fun _ _ q => q) (fun _ _ _ q => q) (fun b ps q => ⟨#[], by rw [q]; simp⟩), fun b o q => ?_, ?_, _, _, fl, fun b o e n hb => ?_, fun b o e hb => ?_, trk⟩
  · obtain ⟨o', e1⟩ := I.base.there b o e (by show b ∉ []; simp)
    by_cases hb : b ∈ frs (cxOf CX P w K mg base N qual scope f cd A outer s H E).stack
    · obtain ⟨sl, e2⟩ := frm b hb o' e1
      exact ⟨_, e2⟩
    · exact ⟨o', keepB b o' e1 hb⟩
  · refine (I.hok b o q).stay (fun c u hc e => ?_) (fun _ z => z) fun _ _ z => z
    have hc' : H1 c ≠ none := by
      rcases hc with rfl | hc
      · rw [q]; exact fun z => by cases z
      · rw [hc]; exact fun z => by cases z
    exact keepB c u e fun z => hc' (I.stkFree c z)
  · cases q : H1 e with
    | none => rfl
    | some u =>
      obtain ⟨o, ho⟩ := hok_there I.hok (b := e) (by rw [q]; exact fun z => by cases z)
      rw [hx.new] at ho
      cases ho
  · have e1 := I.base.keep b o e n hb (by show b ∉ []; simp)
    exact inB b o e1 (below b o e hb)
  · obtain ⟨o', e1⟩ := I.base.there b o e (by show b ∉ []; simp)
    exact ⟨o', inB b o' e1 (below b o e hb)⟩
/-- passed on from a callee -/
theorem fly_on {CX : CXT} {pins : List (Addr × Obj)} {σ : St} {H1 H2 : Hp} {s1 s2 : Shared} {e C : Addr} {Q : Unit → Shared → Prop} {EE : Value → Shared → Prop} (I : Inv (cxOf CX P w K mg base N qual scope f cd A outer s H E) pins σ H1 s1) (F : Fly P w (cxOf CX P w K mg base N qual scope f cd A outer s H E).stack H1 H2 s1 s2 e C)
    (hQ : ∀ h2, Fly P w outer H H2 s { s2 with heap := h2 } e C → Q () { s2 with heap := h2 }) :
    wpAny (model P w) (cxOf CX P w K mg base N qual scope f cd A outer s H E).A (leaving (cxOf CX P w K mg base N qual scope f cd A outer s H E).env (.ref e)) Q EE s2 := by
  obtain ⟨fos, fbare, fun_, fhok, ffree, B, a0, hfl, hst, hth, htr⟩ := F
  refine wpAny_leaves_onW I.ok.frames rfl hfl fun h2 fl hsm => hQ h2 ?_
  have below : ∀ b o, s.heap.get? b = some o → b ∉ frs outer → b ∉ frs (cxOf CX P w K mg base N qual scope f cd A outer s H E).stack := fun b o e hb z => by
    rcases List.mem_cons.mp (I.stkSub b z) with q | q
    · have h1 := Heap.lt_size e
      rw [q] at h1
      exact absurd (Nat.lt_of_lt_of_le h1 I.ok.above) (Nat.lt_irrefl _)
    · exact hb q
  have sub : ∀ b ∈ frs outer, b ∈ frs (cxOf CX P w K mg base N qual scope f cd A outer s H E).stack := fun b hb => by
    show b ∈ frs (_ :: outer)
    unfold frs at hb ⊢
    obtain ⟨env, he, hf⟩ := List.mem_filterMap.mp hb
    exact List.mem_filterMap.mpr ⟨env, List.mem_cons_of_mem _ he, hf⟩
  have frm : ∀ b ∈ frs (cxOf CX P w K mg base N qual scope f cd A outer s H E).stack, ∀ o, s1.heap.get? b = some o → ∃ sl, h2.get? b = some { o with slots := sl } := fun b hb o e => by
    obtain ⟨sl, e1⟩ := fun_.slot b o e (I.stkFree b hb) hb (by simp)
    obtain ⟨_, o', ho, hd⟩ := I.stack.mem hb
    rw [e] at ho
    cases ho
    obtain ⟨sl', e2⟩ := hsm b _ e1 hd
    exact ⟨sl', e2⟩
  have keepB : ∀ b o, s1.heap.get? b = some o → H1 b = none → b ∉ frs (cxOf CX P w K mg base N qual scope f cd A outer s H E).stack → h2.get? b = some o := fun b o e n hb => fl.1 b o (hst b o e n hb)
  have trk : ∀ b, H2 b ≠ none → ∃ o, s2.heap.get? b = some o ∧ h2.get? b = some o ∧ B.get? b = some o := fun b hb => by
    obtain ⟨o, e1, e2⟩ := htr b hb
    exact ⟨o, e1, fl.1 b o e2, e2⟩
  refine ⟨fos.trans I.os, fbare, un_after I.base (fun b o e n hb e0 => keepB b o e n (below b o e0 hb)) (fun b o e _ hb => frm b (sub b hb) o e) (fun b n ⟨o, e⟩ => fun_.free b o e n (by simp)) (fun b o e => ?_) (fun b xs q => fun_.tups b xs q) (fun b o x q => fun_.frzs b o x q) (fun b ps q => fun_.tbls b ps q), fun b o q => ?_, ffree, B, a0, fl, fun b o e n hb => ?_, fun b o e hb => ?_, fun b hb => ?_⟩
  · obtain ⟨o', e1⟩ := I.base.there b o e (by show b ∉ []; simp)
    by_cases hb : b ∈ frs (cxOf CX P w K mg base N qual scope f cd A outer s H E).stack
    · obtain ⟨sl, e2⟩ := frm b hb o' e1
      exact ⟨_, e2⟩
    · obtain ⟨o2, e2⟩ := hth b o' e1 hb
      exact ⟨o2, fl.1 b o2 e2⟩
  · refine (fhok b o q).stay (fun c u hc e => ?_) (fun _ z => z) fun _ _ z => z
    have hc' : H2 c ≠ none := by
      rcases hc with rfl | hc
      · rw [q]; exact fun z => by cases z
      · rw [hc]; exact fun z => by cases z
    obtain ⟨o', e1, e2, _⟩ := trk c hc'
    have e : s2.heap.get? c = some u := e
    rw [e1] at e
    cases e
    exact e2
  · have e1 := I.base.keep b o e n hb (by show b ∉ []; simp)
    exact hst b o e1 (I.base.free b o e n (by show b ∉ []; simp)) (below b o e hb)
  · obtain ⟨o', e1⟩ := I.base.there b o e (by show b ∉ []; simp)
    exact hth b o' e1 (below b o e hb)
  · obtain ⟨o, _, e2, e3⟩ := trk b hb
    exact ⟨o, e2, e3⟩
end
end L2

namespace L2
open PySem PySem.Spec PyProof.Rows
/-- what is raised in this frame reaches what is wanted of exceptions -/
def Raises (X : Cx) (E : XK) : Prop := ∀ (pins : List (Addr × Obj)) (σ : St) (H : Hp) (s : Shared) (h' : Heap) (e C : Addr) (vs : List Value), Inv X pins σ H s → Heap.MadeExcOf s.heap h' e (.ref C) vs → E (.ref C) none H → X.xe (.ref e) { s with heap := h' }
section
variable {P : Program} {w : World} {K : PySem.W.Frag} {mg : Str → Option Value} {base : Heap} {N : List Str} {qual : Str} {scope : Scope} {f : Addr} {cd : Value} {A : Around} {outer : List Env} {s : Shared} {H : Hp} {E : XK}
theorem raises1 : Raises (cxOf (CX1 P w) P w K mg base N qual scope f cd A outer s H E) E := fun pins σ H1 s1 h' e C vs I hx q => fly_made I hx fun h2 F => ⟨e, C, H1, rfl, F, q⟩
theorem passes1 : Passes (CX1 P w) (cxOf (CX1 P w) P w K mg base N qual scope f cd A outer s H E) E := fun pins σ H1 s1 e s2 I ⟨a, C, H2, ea, F, q⟩ => by
  subst ea
  exact fly_on I F fun h2 F2 => ⟨a, C, H2, rfl, F2, q⟩
theorem own1 : PassesOwn (model (cxOf (CX1 P w) P w K mg base N qual scope f cd A outer s H E).prog (cxOf (CX1 P w) P w K mg base N qual scope f cd A outer s H E).w) (cxOf (CX1 P w) P w K mg base N qual scope f cd A outer s H E).A (cxOf (CX1 P w) P w K mg base N qual scope f cd A outer s H E).env (cxOf (CX1 P w) P w K mg base N qual scope f cd A outer s H E).xe :=
  PassesOwn.leaving
end
/-- a callee that is shown not to raise -/
theorem never1 {P : Program} {w : World} {X : Cx} : Passes (CX1 P w) X E0 := fun _ _ _ _ _ _ _ ⟨_, _, _, _, _, q⟩ => q.elim
section
variable {P : Program} {w : World} {K : PySem.W.Frag} {mg : Str → Option Value} {base : Heap}
/-- THE RULE for a def that may raise -/
theorem Fun.ok1 {x qual : Str} {st : Stmt} {f : Addr} {fd : FuncData} {N ps : List Str} {k : Nat} {sp : Sp} (F : Fun K x qual st f fd) (S : FnScope N ps (defScope st)) (len : ∀ vs H Q E, sp vs H Q E → vs.length = ps.length)
    (hbody : ∀ (cdv : Value) (A : Around) (outer : List Env) (s : Shared) (H : Hp) (vs : List V) (Q : VK) (E : XK), Room k (A.deeper (envOfC qual (defScope st) s.heap.objs.size f cdv)) → sp vs H Q E →
      ∃ t, PSs (cxOf (CX1 P w) P w K mg base N qual (defScope st) f cdv A outer s H E) (defBody st) t ∧ t { nx := fun _ H' => Q .non H', rt := Q } (start N vs) H) : FnOk P w K mg base (CX1 P w) (k + 1) f fd ps sp := by
  obtain ⟨oc, od, kV, doc, pm, an, cdv, ct, osl, rfl, lk, hcd⟩ := F.ex
  exact fn_of lk hcd S len fun A outer s H vs Q E hr hsp => hbody cdv A outer s H vs Q E hr hsp
end
/-- the mro behind the own classes -/
abbrev bmV : List Value := [.type "ValueError", .type "Exception", .type "BaseException", .type "object"]
theorem own_obj {K : PySem.W.Frag} {h : Heap} {C : Addr} {bmB : List Value} {newId : String} (X : K.In h) (q : PySem.W.excIn K C bmB newId = true) :
    ∃ bm N nm qn bs hdct sn sub ab col dd k0 k1 k2 k3 k5 mN, h.get? C = some (excClassObj nm qn C N bs bm hdct sn sub ab col dd k0 k1 k2 k3 k5 newId) ∧ h.Ns N mN ∧ mN "__init__" = none ∧ OwnTail h bmB bm := by
  unfold PySem.W.excIn at q
  split at q
  · rename_i dd cd sl ho
    split at q
    · rename_i C' bm k0 k1 k2 k3 n k5 hm hs
      simp only [Bool.and_eq_true, beq_iff_eq, Bool.not_eq_true'] at q
      obtain ⟨⟨⟨⟨⟨e1, e2⟩, hdel⟩, ht⟩, hok⟩, hni⟩ := q
      subst e1 e2
      obtain ⟨nm, bs, mro, ns, qn, hd, sn, sub, ab, col, del⟩ := cd
      dsimp only at hm hdel hok hni
      subst hm hdel
      have hsl : sl = #[k0, k1, k2, k3, some (.builtin n), k5] := by
        obtain ⟨l⟩ := sl
        simp only at hs
        rw [hs]
      subst hsl
      exact ⟨bm, ns, nm, qn, bs, hd, sn, sub, ab, col, dd, k0, k1, k2, k3, k5, _, X _ _ ho, .of_isNs (PySem.W.isNs_of_in X hok), PySem.W.nsMap_none_of_in X hok hni, PySem.W.tail_of_in X ht⟩
    · cases q
  · cases q
/-- raise C(..) -/
def tRaise (C : Addr) (E : XK) (t : TA) : TS := fun _ σ H => t σ H fun vs H1 => vs.length ≤ sizeLine ∧ E (.ref C) none H1
section
variable {X : Cx} {E : XK} {C : Addr} {x : Str} {np cpos pos : Pos} {e : Expr} {es : List Expr} {t : TA}
theorem ps_raise (hR : Raises X E) (hc : X.calm = true) (hm : X.mg x = some (.ref C)) (q : PySem.W.excIn X.K C bmV "ValueError.__new__" = true) (ha : PA X (e :: es) t)
    (hg : X.env.scope.names.lookup x = some .globalImplicit := by kernel_rfl) (hdb : (x == ("__debug__" : Str)) = false := by kernel_rfl)
    (he : starEach (e :: es) X.env = (false, eval e X.env) :: starEach es X.env := by rfl) (hpl : (backTo cpos (starEach es X.env)).any (·.1) = false := by rfl) :
    PS X (.Raise (some (.Call (.Name x np) (e :: es) [] cpos)) none pos) (tRaise C E t) := by
  intro pins s σ H D I h
  obtain ⟨tl, N, nm, qn, bs, hdct, sn, sub, ab, col, dd, k0, k1, k2, k3, k5, mN, hC, hN, hni, T⟩ := own_obj I.mod.kin q
  refine wpAny_Raise_call_subT (C := C) (nm := nm) (q := qn) (N := N) (bs := bs) (bm := tl) (hdct := hdct) (sn := sn) (sub := sub) (ab := ab) (col := col) (dd := dd) (k0 := k0) (k1 := k1) (k2 := k2) (k3 := k3) (k5 := k5)
    PySem.F.excBase_ValueError (mN := mN) (T.hasType PySem.F.excBase_ValueError.hasBase) (I.ok.hd hc) (by rw [he]; show (false || (backTo cpos (starEach es X.env)).any (·.1)) = false; rw [hpl]; rfl) hni (ld_glob I hg hm ⟨rfl, ?_⟩ hdb)
  have ha' := ha cpos pins s σ H _ I h
  rw [he] at ha' ⊢
  refine Calls.evalArgs_plain (wpAny_mono ha' (fun us s2 h2 => ?_) fun _ _ y => y)
  obtain ⟨vs, H2, I2, rv, hl, hE⟩ := h2
  refine ⟨rfl, by rw [← rv.length]; exact hl, I2.bk _ _ hC, hN.keeps I2.bk, T.keeps I2.bk, fun h' e' hx => hR pins σ H2 s2 h' e' C us I2 hx hE⟩
end
end L2

/-! ### try: .. except C as n: .. -/
namespace L2
open PySem PySem.Spec PyProof.Rows
/-- an exception out of a callee, ahead of it the state with these locals -/
def XP (X : Cx) (pins : List (Addr × Obj)) (σ : St) (EX : XK) : Value → Shared → Prop := fun e s' => ∃ H1 s1, Inv X pins σ H1 s1 ∧ CX1 X.prog X.w X.stack H1 s1 EX e s'
section
variable {X : Cx} {k : Nat} {f C : Addr} {fd : FuncData} {ps : List Str} {sp : Sp} {dvs : List V} {ds : List Value} {x m : Str} {p pos apos : Pos} {e o : Expr} {es : List Expr} {ta : TE} {t : TA}
end
/-- a class of exceptions of one's own: the mro behind it -/
def ecls (K : PySem.W.Frag) (C : Addr) : Option (List Value) := match K.lookup C with
  | some ⟨.type "type", _, .cls cd, sl⟩ => (match cd.mro, sl.toList with
    | .ref C' :: bm, [_, _, _, _, some (.builtin _), _] => if (C' == C && !cd.hasDel) = true then some bm else none
    | _, _ => none)
  | _ => none
/-- the class at C is one of the class at M's -/
def under (K : PySem.W.Frag) (C M : Addr) : Bool := (ecls K C).any fun bm => (Value.ref C :: bm).contains (.ref M)
def catches (K : PySem.W.Frag) (M : Addr) : Bool := (ecls K M).any fun bm => bm.contains (.type "BaseException")
section
variable {M : Model} {A : Around} {E : Value → Shared → Prop}
variable {nm q nm' q' : Str} {C N C' N' : Addr} {bs bm bs' bm' : List Value} {hdct hdct' : Bool} {sn sn' : List Str} {sub sub' : List Value} {ab ab' : Bool} {col col' : Option Bool} {dd dd' : Option Addr} {k0 k1 k2 k3 k5 j0 j1 j2 j3 j5 : Option Value} {newId newId' : String}
end
end L2

namespace L2
open PySem PySem.Spec PyProof.Rows
/-- within the handler of the exception at e -/
abbrev Cx.caught (X : Cx) (e : Addr) : Cx := { X with A := X.A.mark (some (.ref e)), calm := false, xe := fun _ _ => False }
theorem Cx.Ok.caught {X : Cx} (ok : X.Ok) (e : Addr) : (X.caught e).Ok :=
  ⟨ok.mod, ok.kind, ok.glob, ok.blt, ok.above, ok.inj, ok.has, ok.cab, (fun z => by cases z), ok.frames, ok.stk, ok.exf, ok.bs, ok.bsz, ok.noex, ok.exfs, ok.funs, ok.frf⟩
section
variable {X : Cx} {pins : List (Addr × Obj)} {σ : St} {H : Hp} {s : Shared}
theorem Inv.caught (I : Inv X pins σ H s) (e : Addr) : Inv (X.caught e) pins σ H s := ⟨I.ok.caught e, I.os, I.bare, I.base, I.loc, I.cell, I.free, I.freeC, I.pin, I.hok, I.len⟩
end
section
variable {X : Cx} {pins : List (Addr × Obj)} {σ : St} {H : Hp} {s : Shared}
end
end L2

/-! ### the class of a caught exception -/
namespace L2
open PySem PySem.Spec PyProof.Rows PySem.W
section
open PySem.Builtin PySem.Builtin.ObjectAttr PySem.Builtin.Getset_descriptor
variable {prog : Program} {w : World} {A : Around} {E : Value → Shared → Prop} {s : Shared} {K : PySem.W.Frag} {x C : Addr} {R : Result → Shared → Prop} {ox : Obj}
variable (hg : PySem.W.findIn K (.ref C) "__getattribute__" = some (some (.builtin "BaseException.__getattribute__"))) (hh : PySem.W.findIn K (.ref C) "__getattr__" = some none)
  (ha : PySem.W.findIn K (.ref C) "__class__" = some (some (.builtin "object.__class__")))
  (hn : PySem.W.specialIn K (.builtin "object.__class__") "__get__" = some (some (.builtin "getset_descriptor.__get__"))) (ht : PySem.W.takesIn K (.builtin "object.__class__") = some true)
  (hm : PySem.W.mroIn K C (.type "object") = some true) (hB : PySem.W.mroIn K C (.type "BaseException") = some true)
include hg hh ha hn ht hm hB
end
/-- the facts of a class of exceptions -/
structure ExC (K : PySem.W.Frag) (C : Addr) : Prop where
  hg : PySem.W.findIn K (.ref C) "__getattribute__" = some (some (.builtin "BaseException.__getattribute__"))
  hh : PySem.W.findIn K (.ref C) "__getattr__" = some none
  ha : PySem.W.findIn K (.ref C) "__class__" = some (some (.builtin "object.__class__"))
  hn : PySem.W.specialIn K (.builtin "object.__class__") "__get__" = some (some (.builtin "getset_descriptor.__get__"))
  ht : PySem.W.takesIn K (.builtin "object.__class__") = some true
  hm : PySem.W.mroIn K C (.type "object") = some true
  hB : PySem.W.mroIn K C (.type "BaseException") = some true
  hcl : PySem.W.hasDictIn K C = true
section
variable {X : Cx} {pins : List (Addr × Obj)} {σ : St} {H : Hp} {s : Shared} {A : Around} {E : Value → Shared → Prop} {Q : Value → Shared → Prop} {c : Value} {b : Bool}
end
end L2

namespace L2
open PySem PySem.Spec PyProof.Rows
section
variable {X : Cx}
/-! ### min of a list of ints -/
def rMinL (K : PySem.W.Frag) : List V → Hp → VK → Prop := fun xs H Q => ∃ (p : Addr) (ns : List Int), xs = [.ref p] ∧ SqL K H p (ns.map V.int) ∧ 0 < ns.length ∧ ∀ M, M ∈ ns → (∀ a ∈ ns, M ≤ a) → Q (.int M) H
theorem call_minL (hc : X.calm = true) : CallR X (.builtin "min") (rMinL X.K) := by
  intro pins s σ H xs us Q I r h
  obtain ⟨p, ns, rfl, hp, hne, q⟩ := h
  obtain ⟨u, rfl, ru⟩ := vals1 r
  cases ru
  obtain ⟨its, rv, pl, hz⟩ := I.list hp
  have hi := intsAre_of rv
  have hh : X.A.handled = none := I.ok.hd hc
  obtain ⟨xs, e⟩ := hi.allInts.items
  have hns : ns = xs.toList.map (·.1) := by
    rw [← hi.numsOf, ← nums_intItems, ← e]
  have hsz : 0 < xs.size := by
    have h3 := hne; rw [hns, List.length_map, Array.length_toList] at h3; exact h3
  have hl := pl.isList
  rw [e] at hl
  refine min_intList hh hl hsz fun v h' tk hv hk => ?_
  obtain ⟨t, rfl⟩ := intItems_at hv
  obtain ⟨h1, h2⟩ := argBest_lt (numAt xs) (xs.size - 1)
  refine ⟨.int _, H, I.kept (t' := tk) hk, ⟨t, rfl⟩, q _ ?_ fun a ha => ?_⟩
  · rw [hns, numAt_eq]; exact getD_mem (by rw [List.length_map, Array.length_toList]; omega)
  · rw [hns] at ha
    obtain ⟨j, hj, rfl⟩ := mem_getD ha
    rw [List.length_map, Array.length_toList] at hj
    rw [← numAt_eq]; exact h2 j (by omega)
/-! ### sum of a list of small ints -/
theorem preSum_take (ns : List Int) : ∀ k, k ≤ ns.length → preSum (fun i => ns.getD i 0) k = (ns.take k).sum
  | 0, _ => by simp [preSum]
  | k + 1, h => by
    have h' : k < ns.length := by omega
    rw [preSum, preSum_take ns k (by omega), List.take_succ_eq_append_getElem h', List.sum_append]
    simp [List.getD, h']
/-! ### list.index, tuple.index -/
theorem idx_eqU {x : V} {xs : List V} {us : List Value} (r : Vals xs us) (f : xs.all flatV = true) {j : Nat} {u : Value} (e : us[j]? = some u) : eqU x u = eqV (xs.getD j .non) x := by
  induction r generalizing j with
  | nil => simp at e
  | @cons y v ys vs rv t ih =>
    rw [List.all_cons, Bool.and_eq_true] at f
    cases j with
    | zero => simp at e; subst e; simpa using eqU_of rv f.1
    | succ j => simpa using ih f.2 (by simpa using e)
theorem wpAny_rng {β : Type} {M : Model} {A : Around} {E : Value → Shared → Prop} {s : Shared} {Q : β → Shared → Prop} (f : Nat → β → Sem (ForInStep β)) (n : Nat) (J : Nat → β → Shared → Prop) (b : β)
    (turn : ∀ i b s, i < n → J i b s → wpAny M A (f i b) (fun r s' => match r with | .yield b' => J (i + 1) b' s' | .done b' => Q b' s') E s) (fin : ∀ b s, J n b s → Q b s) (h : J 0 b s) : wpAny M A (forIn [:n] b f) Q E s := by
  rw [Std.Legacy.Range.forIn_eq_forIn_range']
  have key : ∀ (k i : Nat) (b : β) (s : Shared), i + k = n → J i b s → wpAny M A (forIn (List.range' i k 1) b f) Q E s := by
    intro k
    induction k with
    | zero => intro i b s e hj; rw [List.range'_zero, List.forIn_nil]; obtain rfl : i = n := by omega
              exact wpAny_pure (fin _ _ hj)
    | succ k ih =>
      intro i b s e hj
      rw [List.range'_succ, List.forIn_cons]
      refine wpAny_bind (wpAny_mono (turn i b s (by omega) hj) (fun r s' hr => ?_) fun _ _ z => z)
      cases r with
      | done b' => exact wpAny_pure hr
      | yield b' => exact ih (i + 1) b' s' (by omega) hr
  have e : (Std.Legacy.Range.size [:n]) = n := by simp [Std.Legacy.Range.size]
  rw [e]
  exact key n 0 b s (by omega) h
theorem tuple_ixAt (l : Addr) (items : Array Value) (n : Nat) (dd : Option Addr) (sl : Array (Option Value)) (x : Value) (e : Value → Bool) (j : Nat) (hj : j < items.size)
    (hit : e items[j] = true) (hno : ∀ m (hm : m < items.size), m < j → e items[m] = false) :
    Meets (Builtin.«tuple.index» ⟨[.ref l, x], []⟩)
      (fun A R s => s.heap.get? l = some { cls := .type "tuple", dict := dd, data := .seq items n, slots := sl } ∧ (∀ y, y ∈ items → SeqAt.EqAt A.in1 s y x (e y)) ∧ R (.ok (.ret (.int j s.toks))) { s with toks := s.toks + 1 }) :=
  .of_wp fun prog w A R s h => by
    obtain ⟨hp, g, d, tk, os⟩ := s; obtain ⟨hl, he, h⟩ := h
    wp_walk using wpAny_loadPart' hl
    show wpAny _ _ (forIn [:min items.size items.size] _ _) _ _ _
    rw [Nat.min_self]
    refine wpAny_rng _ _ (fun i b s' => b.1 = none ∧ i ≤ j ∧ s' = ⟨hp, g, d, tk, os⟩) _ (fun i b s' hi ⟨hb, hij, hs⟩ => ?_) (fun b s' ⟨_, hij, _⟩ => absurd hj (by omega)) ⟨rfl, Nat.zero_le _, rfl⟩
    subst hs
    have hi' : items[i]? = some items[i] := Array.getElem?_eq_getElem hi
    simp only [hi']
    refine wpAny_bind (he _ (Array.getElem_mem hi) prog w _ _ ?_)
    by_cases hij' : i = j
    · subst hij'
      rw [hit]
      wp_walk
      exact ⟨_, rfl, h⟩
    · rw [hno i hi (by omega)]
      wp_walk
      exact ⟨rfl, by omega, rfl⟩
def rIndexT (K : PySem.W.Frag) : V → List V → Hp → VK → Prop := fun y vs H Q => ∃ (p : Addr) (xs : List V) (x : V) (j : Nat), y = .ref p ∧ vs = [x] ∧ SqT K H p xs ∧ flatV x = true ∧ xs.all flatV = true ∧ j < xs.length ∧ eqV (xs.getD j .non) x = true ∧ (∀ m, m < j → eqV (xs.getD m .non) x = false) ∧ Q (.int j) H
theorem mt_indexT : MtR X "tuple.index" (rIndexT X.K) := by
  intro pins s σ H y vs v us Q I ry r h
  obtain ⟨p, xs, x, j, rfl, rfl, hp, fx, fs, hj, hit, hno, q⟩ := h
  cases ry
  obtain ⟨u, rfl, ru⟩ := vals1 r
  obtain ⟨its, rv, pl, hz⟩ := I.tuple hp
  obtain ⟨⟨cls, dd, data, sl⟩, ho, hc, n, hd⟩ := pl
  simp only at hc hd
  subst hc hd
  have hlen := rv.length
  refine call_meets PySem.F.slot_tuple_index ⟨_, ho, rfl⟩ PySem.F.entry_tuple_index (PySem.F.args_tuple_index_2 _ _)
    (tuple_ixAt p its.toArray n dd sl u (eqU x) j (by simpa [hlen] using hj) ?_ ?_) ⟨ho, fun y hy => mem_eqAt ru fx rv fs y (by simpa using hy), ⟨.int j, H, I.tok _, ⟨_, rfl⟩, q⟩⟩
  · rw [idx_eqU (x := x) rv fs (j := j) (by simp)]; exact hit
  · intro m hm hlt
    rw [idx_eqU (x := x) rv fs (j := m) (by simp)]; exact hno m hlt
end
end L2

/-! ### for i, x in enumerate(list) -/
namespace L2
open PySem PySem.Spec PyProof.Rows
/-- the iterator's records have turned, a new thing stands at p -/
theorem Inv.turns {X : Cx} {pins : List (Addr × Obj)} {σ : St} {H : Hp} {s : Shared} {h' : Heap} {fp : List Addr} {p : Addr} {o : HO} {t' : Nat} (I : Inv X pins σ H s) (hf : ∀ b ∈ fp, FpOk X pins H b) (k : ∀ b u, b ∉ fp → s.heap.get? b = some u → h'.get? b = some u)
    (hp : s.heap.objs.size ≤ p) (new : ObjOk X.prog X.w (upd H p o) h' p o) : Inv X pins σ (upd H p o) { s with heap := h', toks := t' } := by
  have hn : H p = none := I.hok.fresh hp
  have ne : ∀ b u, H b = some u → b ≠ p := fun b u e z => by rw [z, hn] at e; cases e
  have nf : ∀ b u, H b = some u → b ∉ fp := fun b u e z => by rw [(hf b z).1] at e; cases e
  have old : ∀ b u, s.heap.get? b = some u → b ≠ p := fun b u e => Nat.ne_of_lt (Nat.lt_of_lt_of_le (Heap.lt_size e) hp)
  refine I.step (g' := s.gens) (d' := s.drawn) (ch := fp) (fun b hb => ?_) (fun b u _ _ hc e _ => k b u hc e) (fun b u _ _ hc e _ => ⟨u.slots, k b u hc e⟩) (fun b u _ e n => by rw [upd_ne (old b u e)]; exact n)
    (fun b u hc e => ⟨u, k b u hc e⟩) (fun b xs e => by rw [upd_ne (ne _ _ e)]; exact e) (fun b o' u e => by rw [upd_ne (ne _ _ e)]; exact e) (fun b ps e => ⟨#[], by rw [upd_ne (ne _ _ e), e]; simp⟩) (fun m hm => ?_) (fun b u e => ?_) I.bare
  · obtain ⟨_, f1, _, f3, f4, f5⟩ := hf b hb
    exact ⟨f3, f1, f4, f5⟩
  · obtain ⟨ob, es, ep, ho, r⟩ := hm
    exact ⟨ob, es, ep, k _ ob (fun z => (hf _ z).2.1 rfl) ho, r⟩
  · by_cases hb : b = p
    · subst hb
      rw [upd_same] at e
      cases e
      exact new
    · rw [upd_ne hb] at e
      refine (I.hok b u e).stay (fun c v hc q => k c v ?_ q) (fun c q => by rw [upd_ne (ne _ _ q)]; exact q) fun c xs q => by rw [upd_ne (ne _ _ q)]; exact q
      rcases hc with z | z
      · rw [z]; exact nf b u e
      · exact nf c _ z
/-- (0, x0), (1, x1), .. of the list at a: each a new tuple -/
def Ite (K : PySem.W.Frag) (a : Addr) : It :=
  ⟨fun i H => ∃ xs x, SqL K H a xs ∧ xs[i]? = some x, fun i H x H' => ∃ p y, x = .ref p ∧ H p = none ∧ (∀ xs, SqL K H a xs → xs[i]? = some y) ∧ H' = upd H p (.tup [.int i, y]), fun i H => ∃ xs, SqL K H a xs ∧ xs.length ≤ i⟩
theorem turn_enum {P : Program} {w : World} {K : PySem.W.Frag} {elts : List Expr} {x1} {pos : Pos} (a e it : Addr) (hne : e ≠ it) : Turn P w K (.Tuple elts x1 pos) (Ite K a) [e, it] e (fun i h => (∃ old, IsEnum h e it (i : Nat) old) ∧ h.IsListIter it a i) where
  mem := by simp
  obj := fun i h st b hb => by
    obtain ⟨⟨old, s1⟩, o, e1, c, d⟩ := st
    rcases List.mem_cons.mp hb with rfl | hb
    · exact ⟨_, s1, fun v z => by
        have z' : Data.fields _ = Data.cell v := z
        cases z'⟩
    · have q : b = it := by simpa using hb
      subst q
      exact ⟨o, e1, fun v z => by rw [d] at z; cases z⟩
  keep := fun i h h' st k => ⟨⟨st.1.choose, k e (by simp) _ st.1.choose_spec⟩, st.2.at fun o q => k it (by simp) o q⟩
  item := by
    intro X hP hw hK hc i pins s σ H E I hf st hg
    subst hP hw hK
    obtain ⟨xs, x, hq, hx⟩ := hg
    obtain ⟨its, rv, p, hz⟩ := I.list hq
    obtain ⟨u, hu, ru⟩ := rv.get hx
    obtain ⟨⟨old, he⟩, hit⟩ := st
    refine wpAny_pyNext_enum_item he hit p.isList (x := u) (by simpa using hu) hne fun h' ho li tp sz kk => ?_
    refine ⟨_, rfl, wpAny_letOwnedTupleGo_enum (s := { s with heap := h', toks := s.toks + 1 }) ho fun h2 he2 sb => ?_⟩
    have hlt : ∀ b ∈ [e, it], b < s.heap.objs.size := fun b hb => by
      rcases List.mem_cons.mp hb with rfl | hb
      · exact Heap.lt_size he
      · have q : b = it := by simpa using hb
        subst q
        obtain ⟨_, e1, _⟩ := hit
        exact Heap.lt_size e1
    have ptn : ∀ b ∈ [e, it], b ≠ s.heap.objs.size := fun b hb => Nat.ne_of_lt (hlt b hb)
    have tp2 : h2.get? s.heap.objs.size = some { cls := .type "tuple", data := .seq #[.int i s.toks, u] } := (sb.2 _ (Ne.symm (ptn e (by simp)))).trans tp
    have I2 : Inv X pins σ (upd H s.heap.objs.size (.tup [.int i, x])) { s with heap := h2, toks := s.toks + 1 } := by
      refine I.turns (fp := [e, it]) hf (fun b v hb q => ?_) (Nat.le_refl _) ⟨(by show 2 ≤ sizeLine; decide), [.int i s.toks, u], .cons ⟨_, rfl⟩ (.cons ru .nil), ⟨_, tp2, rfl, _, rfl⟩⟩
      have b1 : b ≠ e := fun z => hb (by simp [z])
      have b2 : b ≠ it := fun z => hb (by simp [z])
      exact (sb.2 b b1).trans (kk b v b1 b2 q)
    refine ⟨.ref s.heap.objs.size, _, I2, rfl, ⟨_, x, rfl, I.hok.fresh (Nat.le_refl _), (fun ys hy => by rw [I.list_inj hy hq]; exact hx), rfl⟩, ⟨⟨u, ?_⟩, ?_⟩, fun b hb => ?_⟩
    · have q : ((i + 1 : Nat) : Int) = (i : Int) + 1 := by omega
      rw [q]; exact he2
    · exact li.at fun o q => (sb.2 it (Ne.symm hne)).trans q
    · rw [upd_ne (ptn b hb)]; exact (hf b hb).1
  done := by
    intro X hP hw hK hc i pins s σ H E I hf st hg
    subst hP hw hK
    obtain ⟨xs, hq, hx⟩ := hg
    obtain ⟨its, rv, p, hz⟩ := I.list hq
    obtain ⟨⟨old, he⟩, hit⟩ := st
    obtain ⟨f0, f1, f2, f3, f4, f5⟩ := hf it (by simp)
    have hl := rv.length
    exact wpAny_pyNext_enum_end (I.ok.hd hc) he hit p.isList (by simp; omega) fun h' eb => ⟨rfl, I.turned (t' := s.toks) (fun b o hb q => eb b o hb q) f0 f1 f3 f4 f5⟩
  self := fun _ _ _ _ _ st h => wpAny_pyIter_enum st.1.choose_spec h
def iEnum (K : PySem.W.Frag) (tl : TE) : TI := fun σ H R => tl σ H fun x H1 => ∃ a, x = .ref a ∧ (∃ xs, SqL K H1 a xs) ∧ R (Ite K a) H1
theorem pi_enum {X : Cx} {elts : List Expr} {x1} {pt p cpos : Pos} {l : Expr} {tl : TE} (hl : PE X l tl) (hg : Gl X "enumerate") (hm : X.mg "enumerate" = none)
    (he : starEach [l] X.env = (false, eval l X.env) :: starEach [] X.env := by rfl) (hpl : (backTo cpos (starEach [] X.env)).any (·.1) = false := by rfl) :
    PI X (.Tuple elts x1 pt) (.Call (.Name "enumerate" p) [l] [] cpos) (iEnum X.K tl) := by
  intro pins s σ H R I h
  refine wpAny_Call_Name_kw (ld_blt I hg hm Bt.enumerate ?_ (by decide) (by decide))
  have h' : tCons tl tNil σ H (fun vs H1 => match vs with | [x] => ∃ a, x = .ref a ∧ (∃ xs, SqL X.K H1 a xs) ∧ R (Ite X.K a) H1 | _ => False) := h
  refine PyProof.Rows.callWith_type1 (thn ((pa_cons hl pa_nil he) cpos pins s σ H _ I h') fun us s1 ⟨vs, H1, I1, r1, q1⟩ => ?_) he hpl
  obtain ⟨x, rfl⟩ : ∃ x, vs = [x] := by
    match vs, q1 with
    | [x], _ => exact ⟨x, rfl⟩
  obtain ⟨a, rfl, ⟨xs, hq⟩, q⟩ := q1
  obtain ⟨u, rfl, ru⟩ := vals1 r1
  cases ru
  obtain ⟨its, rv, p, hz⟩ := I1.list hq
  refine call_enumerate_list p.isList fun h' he' li sz kk => ?_
  refine wpAny_pyIter_enum he' ?_
  refine ⟨s1.heap.objs.size + 1, [s1.heap.objs.size + 1, s1.heap.objs.size], _, _, H1, rfl, I1.kept (t' := s1.toks) kk, turn_enum a (s1.heap.objs.size + 1) s1.heap.objs.size (Nat.succ_ne_self _), ⟨⟨_, he'⟩, li⟩, fun b hb => ?_, q⟩
  rcases List.mem_cons.mp hb with rfl | hb
  · exact I1.fpOk (by omega) (I1.hok.fresh (by omega))
  · have e : b = s1.heap.objs.size := by simpa using hb
    subst e
    exact I1.fpOk (Nat.le_refl _) (I1.hok.fresh (Nat.le_refl _))
end L2

/-! ### for c in text -/
namespace L2
open PySem PySem.Spec PyProof.Rows
/-! ### the loops' and the comprehensions' ends -/
section
variable {K : PySem.W.Frag} {g : TG} {tb : TS} {D : Ends} {σ : St} {H : Hp} {ix : List (Option Nat)} {tt : TT} {te : TE} {Q : VK}
theorem comp_enum {a : Addr} {xs : List V} (Pv : Nat → List V → Hp → Prop) (h0 : Pv 0 [] H) (hn : xs.length ≤ sizeLine) (hl : ∀ i ys H, Pv i ys H → ys.length ≤ i) (hx : ∀ i ys H, Pv i ys H → SqL K H a xs)
    (hs : ∀ i x ys H, xs[i]? = some x → Pv i ys H → ∀ p, H p = none → g (.ref p) (blkSt ix σ) (upd H p (.tup [.int i, x])) fun σ2 H2 => Ext (blkSt ix σ) σ2 ∧ tt σ2 H2 fun ok H3 => if ok = true then te σ2 H3 fun y H4 => Pv (i + 1) (ys ++ [y]) H4 else Pv (i + 1) ys H3)
    (hd : ∀ ys H, Pv xs.length ys H → ∀ p, H p = none → Q (.ref p) (upd H p (.lst ys))) : CompGo (Ite K a) ix g tt te σ H Q := by
  refine ⟨fun i m ys H => m = xs.length - i ∧ i ≤ xs.length ∧ Pv i ys H, ⟨xs.length, by simp, Nat.zero_le _, h0⟩, ?_⟩
  rintro i m ys H ⟨rfl, hi, p⟩
  have q := hx i ys H p
  refine ⟨Nat.le_trans (hl _ _ _ p) (Nat.le_trans hi hn), ?_⟩
  by_cases hlt : i < xs.length
  · refine .inr ⟨⟨xs, xs[i], q, by simp [hlt]⟩, Pv (i + 1), fun ys' H' p' => ⟨xs.length - (i + 1), by omega, rfl, hlt, p'⟩, fun x H' y => ?_⟩
    obtain ⟨r, z, rfl, hn', hz, rfl⟩ := y
    exact hs i z ys _ (hz xs q) p r hn'
  · have e : i = xs.length := by omega
    subst e
    exact .inl ⟨⟨xs, q, Nat.le_refl _⟩, hd ys H p⟩
end
end L2

/-! ### f-strings of two parts -/
namespace L2
open PySem PySem.Spec PyProof.Rows
/-- {e!r} of a text -/
def tRepr (te : TE) : TE := fun σ H Q => te σ H fun v H1 => ∃ x, v = .str x ∧ (reprText x).length ≤ sizeLine ∧ Q (.str (reprText x)) H1
section
variable {X : Cx} {e a b : Expr} {te ta tb : TE} {pos : Pos}
theorem pe_fmtR (he : PE X e te) : PE X (.FormattedValue e 114 none pos) (tRepr te) := by
  intro pins s σ H Q I h
  refine wpAny_FormattedValue_repr (thn (he pins s σ H _ I h) fun v s1 ⟨y, H1, I1, r1, q1⟩ => ?_)
  obtain ⟨x, rfl, hx, q⟩ := q1
  obtain ⟨t, rfl⟩ := r1
  refine wpAny_pyReprObj_gives (T := "str") (id := "str.__repr__") rfl PySem.F.slot_str_repr PySem.F.entry_str_repr (PySem.F.args_str_repr_1 _) (gives_str_repr x t) (hx := hx) ?_
  exact formatField_str (hsz := hx) fun t' tk => ⟨.str _, H1, I1.tok _, ⟨t', rfl⟩, q⟩
theorem empty_app (x : Str) : Str.empty ++ x = x := by
  show Str.mk (#[] ++ x.cps) = x
  simp
end
theorem repr_fits {x : Str} (hx : ∀ c ∈ x.cps.toList, c < 16 ^ 8) (hl : x.length ≤ 1000) : (reprText x).length ≤ sizeLine := by
  have := PySem.StrLaws.reprText_len x hx
  unfold sizeLine
  omega
end L2

/-! ### a module's dict of texts and ints: read alone -/
namespace L2
open PySem PySem.Spec PyProof.Rows
/-- the dict that the module has written at a -/
def MdK (P : Program) (w : World) (K : PySem.W.Frag) (a : Addr) (kvs : List (Key × V)) : Prop :=
  (a == sysModules) = false ∧ ∃ o es ep vs, K.lookup a = some o ∧ o.ExactDict ∧ o.data = .dict es ep ∧ KeysOf (mixKind P w) es ∧ Pairs (mixKind P w) es.toList vs ∧ (vs.map (·.1)).Nodup ∧ KV kvs vs
section
variable {X : Cx} {pins : List (Addr × Obj)} {σ : St} {H : Hp} {s : Shared} {a : Addr} {kvs : List (Key × V)} {o i : Expr} {td ty : TE} {pos : Pos}
theorem MdK.at (M : MdK X.prog X.w X.K a kvs) (I : Inv X pins σ H s) : ∃ vs, KV kvs vs ∧ s.heap.DictOf (mixKind X.prog X.w) a vs := by
  obtain ⟨_, o, es, ep, vs, h1, h2, h3, h4, h5, h6, h7⟩ := M
  exact ⟨vs, h7, o, es, ep, I.kIn a o h1, h2, h3, h4, h5, h6⟩
end
/-- a dict as the module has written it: its entries, one by one -/
def MdE (w : World) : List DictEntry → List (Key × V) → Prop
  | e :: es, (.inr x, v) :: r => e.hash = hashStr w x ∧ (∃ t, e.key = .str x t) ∧ RelV v e.val ∧ MdE w es r
  | e :: es, (.inl i, v) :: r => e.hash = hashInt i ∧ (∃ t, e.key = .int i t) ∧ RelV v e.val ∧ MdE w es r
  | [], [] => True
  | _, _ => False
theorem MdE.out {P : Program} {w : World} : ∀ {es : List DictEntry} {kvs : List (Key × V)}, MdE w es kvs → ∃ vs, (∀ e ∈ es, ∃ k, (mixKind P w).is k e.key = true ∧ e.hash = (mixKind P w).hash k) ∧ Pairs (mixKind P w) es vs ∧ vs.map (·.1) = kvs.map (·.1) ∧ KV kvs vs
  | [], [], _ => ⟨[], (fun _ z => nomatch z), .nil, rfl, .nil⟩
  | e :: es, (.inr x, v) :: r, ⟨h1, ⟨t, h2⟩, h3, h4⟩ => by
    obtain ⟨vs, a1, a2, a3, a4⟩ := MdE.out (P := P) h4
    have q : (mixKind P w).is (.inr x) e.key = true := by rw [h2]; exact mixKind_str P w x t
    refine ⟨(.inr x, e.val) :: vs, fun e' he => ?_, .cons q rfl a2, by simp [a3], .cons ⟨rfl, h3⟩ a4⟩
    rcases List.mem_cons.mp he with rfl | he
    · exact ⟨.inr x, q, h1⟩
    · exact a1 e' he
  | e :: es, (.inl i, v) :: r, ⟨h1, ⟨t, h2⟩, h3, h4⟩ => by
    obtain ⟨vs, a1, a2, a3, a4⟩ := MdE.out (P := P) h4
    have q : (mixKind P w).is (.inl i) e.key = true := by rw [h2]; exact mixKind_int P w i t
    refine ⟨(.inl i, e.val) :: vs, fun e' he => ?_, .cons q rfl a2, by simp [a3], .cons ⟨rfl, h3⟩ a4⟩
    rcases List.mem_cons.mp he with rfl | he
    · exact ⟨.inl i, q, h1⟩
    · exact a1 e' he
end L2

/-! ### texts compared; short words for calls in programs with refusals -/
namespace L2
open PySem PySem.Spec PyProof.Rows
section
variable {X : Cx}
end
namespace Bt
theorem ValueError : bootBuiltins "ValueError" = some (.type "ValueError") := by decide +kernel
end Bt
section
variable {X : Cx} {CX : CXT} {k : Nat} {f C : Addr} {fd : FuncData} {ps : List Str} {sp : Sp} {E : XK} {x m : Str} {p pos apos : Pos} {e o : Expr} {es : List Expr} {ta : TE} {t : TA}
end
/-- the walk of a law whose defs may raise -/
theorem walk_ofX {l : PySem.W.OpenLaw} {n k : Nat} {q : Program} {loose : List Str} {XP : (Str → Option Value) → Heap → Prop} {YP : World → Heap → Prop} {d : DefRec} {K : Params → PySem.W.Frag} {sp : PySem.W.Frag → Sp} {x : Str}
    (hn : l.most = some n) (hn2 : n ≤ sizeLine) (hdf : d.params.defaults = []) (hr : Room k callerA)
    (hY : ∀ (w : World) (h : Heap), YP w h → (K w.params).In h)
    (F : ∀ (w : World) (mg : Str → Option Value) (fa : Addr) (h : Heap), (K w.params).In h → h.Ns mainGlobals mg → mg d.name = some (.ref fa) →
      ∃ fd : FuncData, (∀ (s : Shared) (u : Value), BindsTo s fd ⟨[u], []⟩ [(x, u)]) ∧
        ∀ base : Heap, (K w.params).In base → base.Ns mainGlobals mg → FnOk l.prog w (K w.params) mg base (CX1 l.prog w) k fa fd [x] (sp (K w.params)))
    (hsp : ∀ (K : PySem.W.Frag) (H : Hp) (a : Addr) (ns : List Int), ns.length ≤ n → Only H → SqL K H a (ns.map V.int) → sp K [.ref a] H (fun v _ => v = .bl true) fun _ _ _ => False) :
    PySem.W.WalkO q loose XP YP l.row.toRowW d [] (fun f vs => PySem.call f vs) :=
  walk_of (K := K) (CX := fun w => CX1 l.prog w) (sp := fun w => sp (K w.params)) hn hn2 hdf hr hY F (fun w H a ns h1 h2 h3 => hsp (K w.params) H a ns h1 h2 h3) fun _ _ _ _ _ ⟨_, _, _, _, _, z⟩ => z
end L2

/-! ### f-strings of three parts, plain fields -/
namespace L2
open PySem PySem.Spec PyProof.Rows
def tFstr3 (ta tb tc : TE) : TE := fun σ H Q => ta σ H fun v H1 => ∃ x, v = .str x ∧ x.length ≤ sizeLine ∧ tb σ H1 fun u H2 => ∃ y, u = .str y ∧ (x ++ y).length ≤ sizeLine ∧ tc σ H2 fun r H3 => ∃ z, r = .str z ∧ (x ++ y ++ z).length ≤ sizeLine ∧ Q (.str (x ++ y ++ z)) H3
section
variable {X : Cx} {e a b c : Expr} {te ta tb tc : TE} {pos : Pos}
theorem pe_fstr3 (ha : PE X a ta) (hb : PE X b tb) (hc : PE X c tc) : PE X (.JoinedStr [a, b, c] pos) (tFstr3 ta tb tc) := by
  intro pins s σ H Q I h
  refine JoinedStr_many (joinParts_cons (thn (ha pins s σ H _ I h) fun v s1 ⟨z, H1, I1, r1, q1⟩ => ?_))
  obtain ⟨x, rfl, hx, q⟩ := q1
  obtain ⟨t, rfl⟩ := r1
  show (Str.empty ++ x).length ≤ sizeLine ∧ _
  rw [empty_app]
  refine ⟨hx, joinParts_cons (thn (hb pins s1 σ H1 _ I1 q) fun v s2 ⟨z, H2, I2, r2, q2⟩ => ?_)⟩
  obtain ⟨y, rfl, hy, q⟩ := q2
  obtain ⟨t', rfl⟩ := r2
  refine ⟨hy, joinParts_cons (thn (hc pins s2 σ H2 _ I2 q) fun v s3 ⟨z, H3, I3, r3, q3⟩ => ?_)⟩
  obtain ⟨z, rfl, hz, q⟩ := q3
  obtain ⟨t'', rfl⟩ := r3
  exact ⟨hz, joinParts_nil (hsz := hz) ⟨.str _, H3, I3.tok _, ⟨_, rfl⟩, q⟩⟩
end
end L2

/-! ### sum of ints of any size -/
namespace L2
open PySem PySem.Spec PyProof.Rows
section
variable {X : Cx}
def rSumG (K : PySem.W.Frag) : List V → Hp → VK → Prop := fun xs H Q => ∃ (p : Addr) (ns : List Int), xs = [.ref p] ∧ SqL K H p (ns.map V.int) ∧ Q (.int ns.sum) H
theorem call_sumG (hc : X.calm = true) : CallR X (.builtin "sum") (rSumG X.K) := by
  intro pins s σ H xs us Q I r h
  obtain ⟨p, ns, rfl, hp, q⟩ := h
  obtain ⟨u, rfl, ru⟩ := vals1 r
  cases ru
  obtain ⟨its, rv, pl, hz⟩ := I.list hp
  have hi := intsAre_of rv
  have hh : X.A.handled = none := I.ok.hd hc
  obtain ⟨xs, e⟩ := hi.allInts.items
  have hns : ns = xs.toList.map (·.1) := by
    rw [← hi.numsOf, ← nums_intItems, ← e]
  have hlen : ns.length = xs.size := by rw [hns, List.length_map, Array.length_toList]
  have hn : numAt xs = fun i => ns.getD i 0 := by
    funext i; rw [hns]; exact numAt_eq _ _
  have hl := pl.isList
  rw [e] at hl
  refine sum_intListG hh hl fun h' tk t' hk => ?_
  rw [hn, preSum_take ns xs.size (by omega), ← hlen, List.take_length]
  exact ⟨.int _, H, I.kept (t' := tk) hk, ⟨t', rfl⟩, q⟩
end
end L2
/-! ### enumerate(tuple) -/
namespace PySem
open AutoSeq1 (wpAny_loadPart')
theorem enumNewT (c0 : Addr) (its : Array Value) (n : Nat) (dct : Option Addr) (sl : Array (Option Value)) :
    Meets (Builtin.«enumerate.__new__» ⟨[.type "enumerate", .ref c0], []⟩) (fun _ R z => z.heap.get? c0 = some { cls := .type "tuple", dict := dct, data := .seq its n, slots := sl } ∧
      R (.ok (.ret (.ref (z.heap.push { cls := .type "tuple_iterator", data := .fields #[.ref c0, .int 0 0] }).objs.size)))
        { z with heap := (z.heap.push { cls := .type "tuple_iterator", data := .fields #[.ref c0, .int 0 0] }).push { cls := .type "enumerate", data := .fields #[.none, .bool false, .ref z.heap.objs.size, rawInt 0, .none, .none] } }) :=
  .of_wp fun P w A R z h => by
    obtain ⟨hp, g, d, tk, os⟩ := z; obtain ⟨q0, h⟩ := h
    have hsub := sub_enumerate
    have qT : Heap.IsTuple (Shared.heap ⟨hp, g, d, tk, os⟩) c0 its := ⟨_, q0, rfl, n, rfl⟩
    wp_walk using wpAny_loadPart' q0
    refine wpAny_stack_any fun st => wpAny_pure ?_
    split
    · rename_i c _ _ _ _ _
      cases (c == Value.type "enumerate")
      · wp_walk using wpAny_loadPart' q0, wpAny_pyIter_tuple qT
        exact ⟨_, rfl, h⟩
      · wp_walk using wpAny_loadPart' q0, wpAny_pyIter_tuple qT
        exact ⟨_, rfl, h⟩
    · wp_walk using wpAny_loadPart' q0, wpAny_pyIter_tuple qT
      exact ⟨_, rfl, h⟩
section
variable {P : Program} {w : World} {A : Around} {E : Value → Shared → Prop} {z : Shared}
theorem enumCallT {c0 : Addr} {its : Array Value} {Q : Value → Shared → Prop} (hL : z.heap.IsTuple c0 its)
    (h : ∀ h', IsEnum h' (z.heap.objs.size + 1) z.heap.objs.size 0 .none → h'.IsTupleIter z.heap.objs.size c0 0 → h'.objs.size = z.heap.objs.size + 2 →
      (∀ b o, z.heap.get? b = some o → h'.get? b = some o) → Q (.ref (z.heap.objs.size + 1)) { z with heap := h' }) :
    wpAny (model P w) A (call (.type "enumerate") [.ref c0]) Q E z := by
  obtain ⟨⟨c, dct, dt, sl⟩, hl, hc, n, hd⟩ := hL
  obtain rfl : c = .type "tuple" := hc
  obtain rfl : dt = .seq its n := hd
  refine callType_new F.called_enumerate (by decide) (F.typeCall_enumerate_1 _) (F.newCall_enumerate_1 _) (fun obj => F.args_object_init_2 obj _) F.entry_enumerate_new (enumNewT c0 its n dct sl) ⟨hl, ?_⟩
  have hz : (z.heap.push { cls := .type "tuple_iterator", data := .fields #[.ref c0, .int 0 0] }).objs.size = z.heap.objs.size + 1 := Heap.size_push ..
  show _ ∧ _
  rw [hz]
  have he : IsEnum ((z.heap.push { cls := .type "tuple_iterator", data := .fields #[.ref c0, .int 0 0] }).push
      { cls := .type "enumerate", data := .fields #[.none, .bool false, .ref z.heap.objs.size, rawInt 0, .none, .none] }) (z.heap.objs.size + 1) z.heap.objs.size 0 .none := by
    have := Heap.get?_push_size (z.heap.push { cls := .type "tuple_iterator", data := .fields #[.ref c0, .int 0 0] })
      (o := { cls := .type "enumerate", data := .fields #[.none, .bool false, .ref z.heap.objs.size, rawInt 0, .none, .none] }) rfl
    rw [hz] at this
    exact this
  exact ⟨⟨_, he, rfl⟩, h _ he ⟨_, Heap.get?_push_of_some _ (Heap.get?_push_size _ rfl), rfl, rfl⟩ (by rw [Heap.size_push, hz]) fun b o y => Heap.get?_push_of_some _ (Heap.get?_push_of_some _ y)⟩
theorem nextT_item {it c0 : Addr} {i : Nat} {its : Array Value} {x : Value} {Q : Value → Shared → Prop} (hit : z.heap.IsTupleIter it c0 i) (ht : z.heap.IsTuple c0 its) (hx : its[i]? = some x)
    (hQ : ∀ h', h'.IsTupleIter it c0 (i + 1) → Heap.SameBut it z.heap h' → Q x { z with heap := h' }) : wpAny (model P w) A (Builtin.SmallTypes.nextOf (.ref it)) Q E z := by
  obtain ⟨o, q1, hc, hd⟩ := id hit
  obtain ⟨ol, q2, _, nl, q3⟩ := ht
  unfold Builtin.SmallTypes.nextOf
  refine wpAny_bind (wpAny_callSpecial?_slot (name := Str.ofString "__next__") hit.typeIs F.slot_tuple_iterator_next (wpAny_call_entry F.slot_tuple_iterator_next hit.typeIs F.entry_tuple_iterator_next ?_ (F.args_tuple_iterator_next_1 _)))
  show wpAny _ _ (field (.ref it) 0 >>= _) _ _ z
  refine wpAny_bind (wpAny_field q1 hd (x := .ref c0) rfl ?_)
  show wpAny _ _ (if (Value.ref c0 == Value.none) = true then _ else _) _ _ z
  rw [if_neg (show ¬ ((Value.ref c0 == Value.none) = true) from Bool.false_ne_true)]
  show wpAny _ _ (field (.ref it) 1 >>= _) _ _ z
  refine wpAny_bind (wpAny_field q1 hd (x := .int i 0) rfl ?_)
  show wpAny _ _ (seqItems? (.ref c0) >>= _) _ _ z
  refine wpAny_bind (wpAny_seqItems q2 q3 ?_)
  simp only [Int.toNat_natCast, hx]
  refine wpAny_bind (wpAny_setField q1 hd (by simp) (wpAny_pure ⟨x, rfl, wpAny_pure (hQ _ ?_ (Heap.SameBut.update ..))⟩))
  exact ⟨_, Heap.get?_update_self _ q1 (Obj.isFreed_of_fields (Obj.data_mapFields hd _)), (Obj.cls_mapFields ..).trans hc, by rw [Obj.data_mapFields hd]; simp [rawInt]⟩
theorem nextT_end {it c0 : Addr} {i : Nat} {its : Array Value} {Q : Value → Shared → Prop} (hh : A.handled = none) (hit : z.heap.IsTupleIter it c0 i) (ht : z.heap.IsTuple c0 its) (hx : its[i]? = none)
    (hE : ∀ h' e, Heap.ExtBut it z.heap h' → (∃ o, h'.get? e = some o ∧ o.cls = .type "StopIteration") → E (.ref e) { z with heap := h' }) : wpAny (model P w) A (Builtin.SmallTypes.nextOf (.ref it)) Q E z := by
  obtain ⟨o, q1, hc, hd⟩ := id hit
  obtain ⟨ol, q2, _, nl, q3⟩ := ht
  unfold Builtin.SmallTypes.nextOf
  refine wpAny_bind (wpAny_callSpecial?_slot (name := Str.ofString "__next__") hit.typeIs F.slot_tuple_iterator_next (wpAny_call_entry F.slot_tuple_iterator_next hit.typeIs F.entry_tuple_iterator_next ?_ (F.args_tuple_iterator_next_1 _)))
  show wpAny _ _ (field (.ref it) 0 >>= _) _ _ z
  refine wpAny_bind (wpAny_field q1 hd (x := .ref c0) rfl ?_)
  show wpAny _ _ (if (Value.ref c0 == Value.none) = true then _ else _) _ _ z
  rw [if_neg (show ¬ ((Value.ref c0 == Value.none) = true) from Bool.false_ne_true)]
  show wpAny _ _ (field (.ref it) 1 >>= _) _ _ z
  refine wpAny_bind (wpAny_field q1 hd (x := .int i 0) rfl ?_)
  show wpAny _ _ (seqItems? (.ref c0) >>= _) _ _ z
  refine wpAny_bind (wpAny_seqItems q2 q3 ?_)
  simp only [Int.toNat_natCast, hx]
  refine wpAny_bind (wpAny_rule (wpAny_bind (wpAny_setField q1 hd (by simp) ?_)))
  show wpAny _ _ (newExc (.type "StopIteration") [] >>= _) _ _ _; refine wpAny_bind ?_
  simp only [newExc, newTuple]; refine wpAny_bind (wpAny_newObj_type ?_ (by size_fits))
  refine wpAny_bind (m := firstArgMember _ _) (wpAny_of_eq (a := Value.none) (by first | rfl | (simp only [firstArgMember]; rfl)) ?_); refine wpAny_newObj_type ?_ (by size_fits)
  simp only [raiseNew]; refine wpAny_bind (wpAny_handled ?_)
  first | rw [show A.in1.handled = none from hh] | rw [hh]
  refine wpAny_bind (wpAny_pure (wpAny_throw ?_)); exact hE _ _ (((Heap.SameBut.update ..).extBut.push _).push _) ⟨_, Heap.get?_push_size _ rfl, rfl⟩
end
theorem Heap.IsTuple.on {h h' : Heap} {c0 : Addr} {its : Array Value} (y : h.IsTuple c0 its) (k : ∀ o, h.get? c0 = some o → h'.get? c0 = some o) : h'.IsTuple c0 its := let ⟨o, e, r⟩ := y; ⟨o, k o e, r⟩
theorem Heap.IsTupleIter.on {h h' : Heap} {it c0 : Addr} {i : Nat} (y : h.IsTupleIter it c0 i) (k : ∀ o, h.get? it = some o → h'.get? it = some o) : h'.IsTupleIter it c0 i := let ⟨o, e, r⟩ := y; ⟨o, k o e, r⟩
theorem drawsT {P : Program} {w : World} {A : Around} (hh : A.handled = none) (it c0 : Addr) (hne : c0 ≠ it) (its : Array Value) :
    Draws P w A it [it, c0] its.size (fun i v => its[i]? = some v) (fun i h => h.IsTupleIter it c0 i ∧ h.IsTuple c0 its) where
  live := fun _ _ st => by obtain ⟨o, e, _⟩ := st.1; exact ⟨o, e⟩
  frame := fun _ _ _ st hk => ⟨st.1.on fun o e => hk it (by simp) o e, st.2.on fun o e => hk c0 (by simp) o e⟩
  item := fun i z Q E hi st hQ => nextT_item st.1 st.2 (x := its[i]) (by simp [hi]) fun h' hit' hs' => hQ _ h' z.toks (by simp [hi]) ⟨hit', st.2.extBut hs'.extBut hne⟩ hs'
  done := fun z Q E st hE => nextT_end hh st.1 st.2 (by simp) hE
end PySem
namespace L2
open PySem PySem.Spec PyProof.Rows
/-- (0, x0), (1, x1), .. of the tuple at a: each a new tuple -/
def IteT (K : PySem.W.Frag) (a : Addr) : It :=
  ⟨fun i H => ∃ xs x, SqT K H a xs ∧ xs[i]? = some x, fun i H x H' => ∃ p y, x = .ref p ∧ H p = none ∧ (∀ xs, SqT K H a xs → xs[i]? = some y) ∧ H' = upd H p (.tup [.int i, y]), fun i H => ∃ xs, SqT K H a xs ∧ xs.length ≤ i⟩
theorem turn_enumT {P : Program} {w : World} {K : PySem.W.Frag} {elts : List Expr} {x1} {pos : Pos} (a e it : Addr) (hne : e ≠ it) (hea : e ≠ a) (hia : a ≠ it) :
    Turn P w K (.Tuple elts x1 pos) (IteT K a) [e, it] e (fun i h => (∃ old, IsEnum h e it (i : Nat) old) ∧ h.IsTupleIter it a i) where
  mem := by simp
  obj := fun i h st b hb => by
    obtain ⟨⟨old, s1⟩, o, e1, c, d⟩ := st
    rcases List.mem_cons.mp hb with rfl | hb
    · exact ⟨_, s1, fun v z => by
        have z' : Data.fields _ = Data.cell v := z
        cases z'⟩
    · have q : b = it := by simpa using hb
      subst q
      exact ⟨o, e1, fun v z => by rw [d] at z; cases z⟩
  keep := fun i h h' st k => ⟨⟨st.1.choose, k e (by simp) _ st.1.choose_spec⟩, st.2.on fun o q => k it (by simp) o q⟩
  item := by
    intro X hP hw hK hc i pins s σ H E I hf st hg
    subst hP hw hK
    obtain ⟨xs, x, hq, hx⟩ := hg
    obtain ⟨its, rv, p, hz⟩ := I.tuple hq
    obtain ⟨u, hu, ru⟩ := rv.get hx
    obtain ⟨⟨old, he⟩, hit⟩ := st
    have D := drawsT (P := X.prog) (w := X.w) (A := X.A.in1) (I.ok.hd hc) it a hia its.toArray
    have hlt : i < its.toArray.size := by
      have := (List.getElem?_eq_some_iff.mp hu).1
      simpa using this
    refine wpAny_pyNext_enum_itemD D he ⟨hit, (show s.heap.IsTuple a its.toArray from p)⟩ hlt hne (by simp [hne, hea]) fun x' h' tk hP ho stn tp sz kk => ?_
    obtain rfl : x' = u := by
      have h1 : its.toArray[i]? = some u := by simpa using hu
      rw [hP] at h1
      exact Option.some.inj h1
    refine ⟨_, rfl, wpAny_letOwnedTupleGo_enum (s := { s with heap := h', toks := tk + 1 }) ho fun h2 he2 sb => ?_⟩
    have hlt : ∀ b ∈ [e, it], b < s.heap.objs.size := fun b hb => by
      rcases List.mem_cons.mp hb with rfl | hb
      · exact Heap.lt_size he
      · have q : b = it := by simpa using hb
        subst q
        obtain ⟨_, e1, _⟩ := hit
        exact Heap.lt_size e1
    have ptn : ∀ b ∈ [e, it], b ≠ s.heap.objs.size := fun b hb => Nat.ne_of_lt (hlt b hb)
    have tp2 : h2.get? s.heap.objs.size = some { cls := .type "tuple", data := .seq #[.int i tk, x'] } := (sb.2 _ (Ne.symm (ptn e (by simp)))).trans tp
    have I2 : Inv X pins σ (upd H s.heap.objs.size (.tup [.int i, x])) { s with heap := h2, toks := tk + 1 } := by
      refine I.turns (fp := [e, it]) hf (fun b v hb q => ?_) (Nat.le_refl _) ⟨(by show 2 ≤ sizeLine; decide), [.int i tk, x'], .cons ⟨_, rfl⟩ (.cons ru .nil), ⟨_, tp2, rfl, _, rfl⟩⟩
      have b1 : b ≠ e := fun z => hb (by simp [z])
      have b2 : b ≠ it := fun z => hb (by simp [z])
      exact (sb.2 b b1).trans (kk b v b1 b2 q)
    refine ⟨.ref s.heap.objs.size, _, I2, rfl, ⟨_, x, rfl, I.hok.fresh (Nat.le_refl _), (fun ys hy => by rw [I.tuple_inj hy hq]; exact hx), rfl⟩, ⟨⟨x', ?_⟩, ?_⟩, fun b hb => ?_⟩
    · have q : ((i + 1 : Nat) : Int) = (i : Int) + 1 := by omega
      rw [q]; exact he2
    · exact stn.1.on fun o q => (sb.2 it (Ne.symm hne)).trans q
    · rw [upd_ne (ptn b hb)]; exact (hf b hb).1
  done := by
    intro X hP hw hK hc i pins s σ H E I hf st hg
    subst hP hw hK
    obtain ⟨xs, hq, hx⟩ := hg
    obtain ⟨its, rv, p, hz⟩ := I.tuple hq
    obtain ⟨⟨old, he⟩, hit⟩ := st
    obtain ⟨f0, f1, f2, f3, f4, f5⟩ := hf it (by simp)
    have hl := rv.length
    have D := drawsT (P := X.prog) (w := X.w) (A := X.A.in1) (I.ok.hd hc) it a hia its.toArray
    have hT : s.TypeIs (.ref e) "enumerate" := ⟨_, he, rfl⟩
    unfold pyNext
    refine wpAny_bind (wpAny_attempt (wpAny_callSpecial?_slot (name := Str.ofString "__next__") hT F.slot_enumerate_next (wpAny_call_entry F.slot_enumerate_next hT F.entry_enumerate_next ?_ (F.args_enumerate_next_1 _))))
    show wpAny _ _ (field (.ref e) 2 >>= _) _ _ _
    refine wpAny_bind (wpAny_field he rfl (x := .ref it) rfl ?_)
    refine wpAny_bind (nextT_end (I.ok.hd hc) hit (show s.heap.IsTuple a its.toArray from p) (by simp; omega) fun h' y eb hx' => ?_)
    obtain ⟨o, q1, q2⟩ := hx'
    refine wpAny_bind (wpAny_isInstance (T := "StopIteration") (b := true) ⟨o, q1, q2⟩ isSubtype_stop ?_)
    exact wpAny_pure ⟨rfl, I.turned (t' := s.toks) (fun b o hb q => eb b o hb q) f0 f1 f3 f4 f5⟩
  self := fun _ _ _ _ _ st h => wpAny_pyIter_enum st.1.choose_spec h
def iEnumT (K : PySem.W.Frag) (tl : TE) : TI := fun σ H R => tl σ H fun x H1 => ∃ a, x = .ref a ∧ (∃ xs, SqT K H1 a xs) ∧ R (IteT K a) H1
theorem pi_enumT {X : Cx} {elts : List Expr} {x1} {pt p cpos : Pos} {l : Expr} {tl : TE} (hl : PE X l tl) (hg : Gl X "enumerate") (hm : X.mg "enumerate" = none)
    (he : starEach [l] X.env = (false, eval l X.env) :: starEach [] X.env := by rfl) (hpl : (backTo cpos (starEach [] X.env)).any (·.1) = false := by rfl) :
    PI X (.Tuple elts x1 pt) (.Call (.Name "enumerate" p) [l] [] cpos) (iEnumT X.K tl) := by
  intro pins s σ H R I h
  refine wpAny_Call_Name_kw (ld_blt I hg hm Bt.enumerate ?_ (by decide) (by decide))
  have h' : tCons tl tNil σ H (fun vs H1 => match vs with | [x] => ∃ a, x = .ref a ∧ (∃ xs, SqT X.K H1 a xs) ∧ R (IteT X.K a) H1 | _ => False) := h
  refine PyProof.Rows.callWith_type1 (thn ((pa_cons hl pa_nil he) cpos pins s σ H _ I h') fun us s1 ⟨vs, H1, I1, r1, q1⟩ => ?_) he hpl
  obtain ⟨x, rfl⟩ : ∃ x, vs = [x] := by
    match vs, q1 with
    | [x], _ => exact ⟨x, rfl⟩
  obtain ⟨a, rfl, ⟨xs, hq⟩, q⟩ := q1
  obtain ⟨u, rfl, ru⟩ := vals1 r1
  cases ru
  obtain ⟨its, rv, p, hz⟩ := I1.tuple hq
  have pT : s1.heap.IsTuple a its.toArray := p
  have hlt : a < s1.heap.objs.size := by
    obtain ⟨_, e1, _⟩ := pT
    exact Heap.lt_size e1
  refine enumCallT pT fun h' he' li sz kk => ?_
  refine wpAny_pyIter_enum he' ?_
  refine ⟨s1.heap.objs.size + 1, [s1.heap.objs.size + 1, s1.heap.objs.size], _, _, H1, rfl, I1.kept (t' := s1.toks) kk, turn_enumT a (s1.heap.objs.size + 1) s1.heap.objs.size (Nat.succ_ne_self _) (Nat.ne_of_gt (Nat.lt_succ_of_lt hlt)) (Nat.ne_of_lt hlt), ⟨⟨_, he'⟩, li⟩, fun b hb => ?_, q⟩
  rcases List.mem_cons.mp hb with rfl | hb
  · exact I1.fpOk (by omega) (I1.hok.fresh (by omega))
  · have e : b = s1.heap.objs.size := by simpa using hb
    subst e
    exact I1.fpOk (Nat.le_refl _) (I1.hok.fresh (Nat.le_refl _))
section
variable {X : Cx} {elts : List Expr} {x1 : Nat} {pt p cpos : Pos} {l : Expr} {tl : TE}
theorem penum (hl : PE X l tl) (hm : X.mg "enumerate" = none) (hg : X.env.scope.names.lookup ("enumerate" : Str) = some .globalImplicit := by kernel_rfl)
    (he : starEach [l] X.env = (false, eval l X.env) :: starEach [] X.env := by rfl) (hpl : (backTo cpos (starEach [] X.env)).any (·.1) = false := by rfl) :
    PI X (.Tuple elts x1 pt) (.Call (.Name "enumerate" p) [l] [] cpos) (iEnum X.K tl) := pi_enum hl hg hm he hpl
theorem penumT (hl : PE X l tl) (hm : X.mg "enumerate" = none) (hg : X.env.scope.names.lookup ("enumerate" : Str) = some .globalImplicit := by kernel_rfl)
    (he : starEach [l] X.env = (false, eval l X.env) :: starEach [] X.env := by rfl) (hpl : (backTo cpos (starEach [] X.env)).any (·.1) = false := by rfl) :
    PI X (.Tuple elts x1 pt) (.Call (.Name "enumerate" p) [l] [] cpos) (iEnumT X.K tl) := pi_enumT hl hg hm he hpl
end
section
variable {K : PySem.W.Frag} {g : TG} {tb : TS} {D : Ends} {σ : St} {H : Hp} {ix : List (Option Nat)} {tt : TT} {te : TE} {Q : VK}
theorem for_enumT {a : Addr} {xs : List V} (Pv : Nat → St → Hp → Prop) (h0 : Pv 0 σ H) (hx : ∀ i σ H, i ≤ xs.length → Pv i σ H → SqT K H a xs)
    (hs : ∀ i x σ H, xs[i]? = some x → Pv i σ H → ∀ p, H p = none → g (.ref p) σ (upd H p (.tup [.int i, x])) fun σ2 H2 => tb { D with nx := Pv (i + 1), ct := Pv (i + 1), bk := D.nx } σ2 H2)
    (hd : ∀ σ H, Pv xs.length σ H → D.nx σ H) : ∃ W : Nat → Nat → St → Hp → Prop, (∃ m, W 0 m σ H) ∧ ∀ i m σ H, W i m σ H →
      ((IteT K a).stop i H ∧ D.nx σ H) ∨ ((IteT K a).go i H ∧ ∃ N : St → Hp → Prop, (∀ σ' H', N σ' H' → ∃ m', m' < m ∧ W (i + 1) m' σ' H') ∧ ∀ x H', (IteT K a).yld i H x H' → g x σ H' fun σ2 H2 => tb { D with nx := N, ct := N, bk := D.nx } σ2 H2) := by
  refine ⟨fun i m σ H => m = xs.length - i ∧ i ≤ xs.length ∧ Pv i σ H, ⟨xs.length, by simp, Nat.zero_le _, h0⟩, ?_⟩
  rintro i m σ H ⟨rfl, hi, p⟩
  have q := hx i σ H hi p
  by_cases hlt : i < xs.length
  · refine .inr ⟨⟨xs, xs[i], q, by simp [hlt]⟩, Pv (i + 1), fun σ' H' p' => ⟨xs.length - (i + 1), by omega, rfl, hlt, p'⟩, fun x H' y => ?_⟩
    obtain ⟨r, z, rfl, hn, hz, rfl⟩ := y
    exact hs i z σ _ (hz xs q) p r hn
  · have e : i = xs.length := by omega
    subst e
    exact .inl ⟨⟨xs, q, Nat.le_refl _⟩, hd σ H p⟩
theorem comp_enumT {a : Addr} {xs : List V} (Pv : Nat → List V → Hp → Prop) (h0 : Pv 0 [] H) (hn : xs.length ≤ sizeLine) (hl : ∀ i ys H, Pv i ys H → ys.length ≤ i) (hx : ∀ i ys H, Pv i ys H → SqT K H a xs)
    (hs : ∀ i x ys H, xs[i]? = some x → Pv i ys H → ∀ p, H p = none → g (.ref p) (blkSt ix σ) (upd H p (.tup [.int i, x])) fun σ2 H2 => Ext (blkSt ix σ) σ2 ∧ tt σ2 H2 fun ok H3 => if ok = true then te σ2 H3 fun y H4 => Pv (i + 1) (ys ++ [y]) H4 else Pv (i + 1) ys H3)
    (hd : ∀ ys H, Pv xs.length ys H → ∀ p, H p = none → Q (.ref p) (upd H p (.lst ys))) : CompGo (IteT K a) ix g tt te σ H Q := by
  refine ⟨fun i m ys H => m = xs.length - i ∧ i ≤ xs.length ∧ Pv i ys H, ⟨xs.length, by simp, Nat.zero_le _, h0⟩, ?_⟩
  rintro i m ys H ⟨rfl, hi, p⟩
  have q := hx i ys H p
  refine ⟨Nat.le_trans (hl _ _ _ p) (Nat.le_trans hi hn), ?_⟩
  by_cases hlt : i < xs.length
  · refine .inr ⟨⟨xs, xs[i], q, by simp [hlt]⟩, Pv (i + 1), fun ys' H' p' => ⟨xs.length - (i + 1), by omega, rfl, hlt, p'⟩, fun x H' y => ?_⟩
    obtain ⟨r, z, rfl, hn', hz, rfl⟩ := y
    exact hs i z ys _ (hz xs q) p r hn'
  · have e : i = xs.length := by omega
    subst e
    exact .inl ⟨⟨xs, q, Nat.le_refl _⟩, hd ys H p⟩
end
end L2

/-! ### t[a:b], also the whole -/
namespace HT
open PySem PySem.Spec PyProof.Rows
section
variable {P : Program} {w : World} {A : Around} {E : Value → Shared → Prop} {z : Shared}
end
end HT
namespace L2
open PySem PySem.Spec PyProof.Rows
section
variable {X : Cx}
/-- the whole slice -/
def Whole (n : Nat) (lo hi : Option Int) : Prop := HT.sIx n 0 lo = 0 ∧ HT.sIx n n hi = n
instance (n : Nat) (lo hi : Option Int) : Decidable (Whole n lo hi) := by unfold Whole; infer_instance
/-! ### t.m(..) of a tuple that was made -/
def tBMT (r : V → List V → Hp → VK → Prop) (to : TE) (t : TA) : TE := fun σ H Q => to σ H fun x H1 => ∃ p ys, x = .ref p ∧ H1 p = some (.tup ys) ∧ t σ H1 fun xs H2 => r x xs H2 Q
variable {o e : Expr} {es : List Expr} {to : TE} {t : TA} {name : Str} {apos cpos : Pos} {id : String} {r : V → List V → Hp → VK → Prop}
theorem pe_bmT (slot : Slot "tuple" name id) (hty : typeOf (.builtin id) = pure (.type "method_descriptor")) (hm : MtR X id r) (ho : PE X o to) (ha : PA X (e :: es) t) (hbase : attributeBase o name X.env (eval o X.env) = eval o X.env := by rfl)
    (hfew : ((backTo cpos (starEach (e :: es) X.env)).all (fun x => !x.1) && (backToKw cpos (keywordEach [] X.env)).all (fun x => x.1.isSome) && decide ((e :: es).length + ([] : List Keyword).length + (if ([] : List Keyword).isEmpty then 0 else 1) < 30)) = true := by rfl)
    (hline : (apos.endLine == cpos.line) = true := by rfl) (hs : starEach (e :: es) X.env = (false, eval e X.env) :: starEach es X.env := by rfl) (hplain : (backTo cpos (starEach es X.env)).any (·.1) = false := by rfl) :
    PE X (.Call (.Attribute o name apos) (e :: es) [] cpos) (tBMT r to t) := by
  intro pins s σ H Q I h
  refine wpAny_Call_method_late hbase hfew hline rfl (thn (ho pins s σ H _ I h) fun v s1 ⟨x, H1, I1, r1, p, ys, ex, hp, q1⟩ => ?_)
  subst ex
  have ev : v = Value.ref p := r1
  subst ev
  obtain ⟨_, its, _, ob, e1, c1, n, d1⟩ := (show ObjOk X.prog X.w H1 s1.heap p (.tup ys) from I1.hok p _ hp)
  refine ⟨"tuple", id, PySem.F.plainAttrs_tuple, slot, hty, ⟨ob, e1, c1⟩, fun a ea => ?_, ?_⟩
  · cases ea
    exact ⟨ob, e1, congrArg Prod.snd d1⟩
  have hA := ha cpos pins s1 σ H1 _ I1 q1
  rw [hs] at hA ⊢
  refine Calls.callWith_builtin (by show (false || (backTo cpos (starEach es X.env)).any (·.1)) = false; rw [hplain] <;> rfl) (Calls.evalArgs_plain ?_)
  exact thn hA fun us s2 ⟨vs, H2, I2, r2, q2⟩ => hm pins s2 σ H2 _ vs _ us Q I2 r1 r2 q2
end
end L2

/-! ### min(list, default=d) -/
namespace PySem
section
variable {P0 : Program} {w : World} {A : Around} {R : Result → Shared → Prop} {I : Addr} {fp wr : List Addr} {n : Nat} {P : Nat → Value → Prop} {St : Nat → Heap → Prop}
end
section
variable {P0 : Program} {w : World} {A : Around} {E : Value → Shared → Prop} {z : Shared} {l : Addr} {xs : Array (Int × Tok)}
end
end PySem
namespace L2
open PySem PySem.Spec PyProof.Rows
/-- a text times an int -/
theorem op_mul_str {X : Cx} : OpR X (binaryOp .Mult) (fun x y H Q => ∃ z n, x = .str z ∧ y = .int n ∧ z.length ≤ 1000 ∧ -1000 ≤ n ∧ n ≤ 1000 ∧ Q (.str (Txt.mul z n)) H) := by
  intro pins s σ H x y v u Q I rx ry h
  obtain ⟨z, n, rfl, rfl, hz, h1, h2, q⟩ := h
  obtain ⟨t, rfl⟩ := rx
  obtain ⟨t', rfl⟩ := ry
  exact SB.mul (mulOk_of 1000 1000 hz h2 (by omega) (by decide) (by decide)) fun t' k => ⟨.str _, H, I.tok _, ⟨t', rfl⟩, q⟩
/-- great ints shifted -/
theorem bits_fit {a n : Int} (ha : a.natAbs < 2 ^ 1024) (hn : n ≤ 1000000) : (Builtin.Int.intBits a : Int) + n ≤ 2 ^ 27 := by
  have h : Builtin.Int.intBits a ≤ 1024 := intBits_le ha
  omega
def CShl (i j : Int) : Prop := 0 ≤ j ∧ j ≤ 1000000 ∧ i.natAbs < 2 ^ 1024
theorem op_shlB {X : Cx} : OpR X (binaryOp .LShift) (rI CShl fun i j => .int (i * 2 ^ j.toNat)) := opI fun _ _ _ _ _ _ _ hc q => lshift_int hc.1 (bits_fit hc.2.2 hc.2.1) q
end L2

/-! ### a list of objects beside another one of the same -/
namespace L2
open PySem
variable {X : Cx}
end L2

/-! ### tuples beside one another; a list beside another one of the same objects, == -/
namespace L2
open PySem PyProof.Rows
variable {X : Cx}
/-- the same tuple -/
def rNeTS (K : PySem.W.Frag) : R2 := fun x y H Q => ∃ a xs, x = .ref a ∧ y = .ref a ∧ SqT K H a xs ∧ Q (.bl false) H
theorem op_neTS (hu : X.A.units < cLine) : OpR X (compareOp .NotEq) (rNeTS X.K) := by
  intro pins s σ H x y v u Q I rx ry h
  obtain ⟨a, xs, rfl, rfl, ha, q⟩ := h
  cases rx
  cases ry
  obtain ⟨its, r1, p1, _⟩ := I.tuple ha
  refine SeqAt.RcNeAt.tuples (e := fun _ => true) p1 p1 hu (fun j _ _ => SeqAt.EqAt.same _) _ _ _ _ ?_
  have e : (!((List.range (min its.toArray.size its.toArray.size)).all (fun _ => true) && its.toArray.size == its.toArray.size)) = false := by simp
  rw [e]
  exact ⟨.bl false, H, I, rfl, q⟩
theorem ints_at : ∀ {us : List Value} {ns : List Int}, IntsAre us ns → us.length = ns.length ∧ ∀ (j : Nat) (h : j < us.length), ∃ t, us[j] = .int (ns.getD j 0) t
  | _, _, .nil => ⟨rfl, fun j h => absurd h (by simp)⟩
  | _, _, .cons n t r => by
    obtain ⟨h1, h2⟩ := ints_at r
    refine ⟨by rw [List.length_cons, List.length_cons, h1], fun j h => ?_⟩
    cases j with
    | zero => exact ⟨t, rfl⟩
    | succ j =>
      obtain ⟨t', e⟩ := h2 j (by simpa using h)
      exact ⟨t', by simpa using e⟩
theorem all_ints : ∀ (ns ms : List Int), ((List.range (min ns.length ms.length)).all (fun j => ns.getD j 0 == ms.getD j 0) && ns.length == ms.length) = decide (ns = ms) := by
  intro ns ms
  by_cases h : ns = ms
  · subst h
    rw [decide_eq_true rfl]
    simp
  · rw [decide_eq_false h]
    cases hl : (ns.length == ms.length) with
    | false => simp
    | true =>
      have hl : ns.length = ms.length := by simpa using hl
      rw [Bool.and_true]
      refine Bool.eq_false_iff.mpr fun z => h (List.ext_getElem hl fun j h1 h2 => ?_)
      have := List.all_eq_true.mp z j (List.mem_range.mpr (by omega))
      have this : ns.getD j 0 = ms.getD j 0 := by simpa using this
      rw [List.getD, List.getD, List.getElem?_eq_getElem h1, List.getElem?_eq_getElem h2] at this
      exact this
/-- two tuples of numbers -/
def rNeTI (K : PySem.W.Frag) : R2 := fun x y H Q => ∃ (a b : Addr) (ns ms : List Int), x = .ref a ∧ y = .ref b ∧ SqT K H a (ns.map V.int) ∧ SqT K H b (ms.map V.int) ∧ Q (.bl (!decide (ns = ms))) H
theorem op_neTI (hu : X.A.units < cLine) : OpR X (compareOp .NotEq) (rNeTI X.K) := by
  intro pins s σ H x y v u Q I rx ry h
  obtain ⟨a, b, ns, ms, rfl, rfl, ha, hb, q⟩ := h
  cases rx
  cases ry
  obtain ⟨its, r1, p1, _⟩ := I.tuple ha
  obtain ⟨its2, r2, p2, _⟩ := I.tuple hb
  obtain ⟨l1, i1⟩ := ints_at (intsAre_of r1)
  obtain ⟨l2, i2⟩ := ints_at (intsAre_of r2)
  refine SeqAt.RcNeAt.tuples (e := fun j => ns.getD j 0 == ms.getD j 0) p1 p2 hu (fun j h1 h2 => ?_) _ _ _ _ ?_
  · obtain ⟨t1, e1⟩ := i1 j (by simpa using h1)
    obtain ⟨t2, e2⟩ := i2 j (by simpa using h2)
    have e1' : its.toArray[j] = .int (ns.getD j 0) t1 := by simpa using e1
    have e2' : its2.toArray[j] = .int (ms.getD j 0) t2 := by simpa using e2
    rw [e1', e2']
    exact SeqAt.EqAt.int_int _ _ _ _
  · rw [show its.toArray.size = ns.length by simpa using l1, show its2.toArray.size = ms.length by simpa using l2, all_ints]
    exact ⟨.bl (!decide (ns = ms)), H, I, rfl, q⟩
end L2

namespace PySem
open Sem (wp)
open Builtin
open AutoSeq1 (wpAny_loadPart')
end PySem
namespace L2
open PySem PyProof.Rows
variable {X : Cx}
end L2

/-! ### two minds beside one another: the same names, ranks of their own -/
namespace L2
open PySem PyProof.Rows
variable {X : Cx}
end L2

/-! ### zip(list, tuple) -/
namespace PySem
open AutoSeq1 (wpAny_loadPart')
section
variable {P : Program} {w : World} {A : Around} {E : Value → Shared → Prop} {z : Shared}
/-- the five records of zip(list, tuple), as they lie one behind the other -/
structure ZipSt (n a b : Nat) (i : Nat) (f : Value) (h : Heap) : Prop where
  out : IsZip h (n + 4) (n + 2) (n + 3) f
  its : IsPair h (n + 2) (.ref n) (.ref (n + 1))
  own : ∃ x y, IsPair h (n + 3) x y
  fst : h.IsListIter n a i
  snd : h.IsTupleIter (n + 1) b i
theorem ZipSt.on {n a b : Nat} {i : Nat} {f : Value} {h h' : Heap} (x : ZipSt n a b i f h) (k : ∀ c : Nat, n ≤ c → c ≤ n + 4 → ∀ o, h.get? c = some o → h'.get? c = some o) : ZipSt n a b i f h' :=
  ⟨k (n + 4) (Nat.le_add_right _ _) (Nat.le_refl _) _ x.out, k (n + 2) (Nat.le_add_right _ _) (Nat.add_le_add_left (by decide) _) _ x.its, let ⟨u, v, q⟩ := x.own; ⟨u, v, k (n + 3) (Nat.le_add_right _ _) (Nat.add_le_add_left (by decide) _) _ q⟩, x.fst.at fun o q => k n (Nat.le_refl _) (Nat.le_add_right _ _) o q, x.snd.on fun o q => k (n + 1) (Nat.le_add_right _ _) (Nat.add_le_add_left (by decide) _) o q⟩
end
end PySem
namespace L2
open PySem PySem.Spec PyProof.Rows
section
variable {K : PySem.W.Frag} {g : TG} {σ : St} {H : Hp} {ix : List (Option Nat)} {tt : TT} {te : TE} {Q : VK}
end
/-! ### great products -/
/-! ### two tuples of texts -/
end L2

/-! ### two lists of the same numbers -/
namespace L2
open PySem PyProof.Rows
variable {X : Cx}
theorem all_congr {α : Type} {l : List α} {f g : α → Bool} (h : ∀ x ∈ l, f x = g x) : l.all f = l.all g := by
  induction l with
  | nil => rfl
  | cons x r ih => rw [List.all_cons, List.all_cons, h x List.mem_cons_self, ih fun y hy => h y (List.mem_cons_of_mem _ hy)]
theorem eqL_ints (ns ms : List Int) : eqL (ns.map V.int) (ms.map V.int) = decide (ns = ms) := by
  have h := all_ints ns ms
  unfold eqL
  rw [List.length_map, List.length_map]
  cases hl : (ns.length == ms.length) with
  | false =>
    rw [Bool.false_and]
    refine (decide_eq_false fun e => ?_).symm
    rw [e] at hl
    simp at hl
  | true =>
    rw [hl, Bool.and_true] at h
    have hl : ns.length = ms.length := by simpa using hl
    rw [Bool.true_and, ← h, ← hl, Nat.min_self]
    refine all_congr fun j hj => ?_
    have hj := List.mem_range.mp hj
    have g : ∀ {zs : List Int}, j < zs.length → (zs.map V.int).getD j .non = .int (zs.getD j 0) := fun {zs} hz => by
      rw [List.getD, List.getElem?_map, List.getElem?_eq_getElem hz, List.getD, List.getElem?_eq_getElem hz]
      rfl
    rw [g hj, g (by omega)]
    rfl
end L2

/-! ### a list turned about, and something put into one -/
namespace L2
open PySem PyProof.Rows
variable {X : Cx}
def rInsert : V → List V → Hp → VK → Prop := fun x vs H Q => ∃ (l : Addr) (xs : List V) (i : Int) (y : V), x = .ref l ∧ vs = [.int i, y] ∧ H l = some (.lst xs) ∧ 0 ≤ i ∧ i ≤ xs.length ∧ xs.length ≤ 1000 ∧ Q .non (upd H l (.lst (xs.take i.toNat ++ [y] ++ xs.drop i.toNat)))
theorem mt_insert : MtM X "list.insert" rInsert := by
  intro pins s σ H x vs v us Q I rx rv h
  obtain ⟨l, xs, i, y, rfl, rfl, hH, h0, h1, hz, q⟩ := h
  cases rx
  obtain ⟨u1, u2, rfl, ⟨t, rfl⟩, ru⟩ := vals2 rv
  obtain ⟨z, its, n, r, hl, e⟩ := I.lstM hH
  have hn : its.length = xs.length := hl.symm
  refine call_meets F.slot_list_insert ⟨_, e, rfl⟩ F.entry_list_insert (F.args_list_insert_3 _ _ _) (AutoListH.list_insert_list_int_val_1 l its.toArray n i t u2 (by rw [fitsIndex_both (by omega) (by omega)]; decide) (by rw [List.size_toArray]; unfold sizeLine; omega)) ⟨e, ?_⟩
  refine ⟨.non, _, I.lset (its' := its.take i.toNat ++ [u2] ++ its.drop i.toNat) hH e ?_ (((r.take i.toNat).append (.cons ru .nil)).append (r.drop i.toNat)) ?_, rfl, q⟩
  · have hk : (if i < 0 then (i + ((its.toArray.size : Nat) : Int)).toNat else min i.toNat its.toArray.size) = i.toNat := by
      rw [if_neg (by omega), List.size_toArray]
      omega
    show ((its.toArray.extract 0 (if i < 0 then (i + ((its.toArray.size : Nat) : Int)).toNat else min i.toNat its.toArray.size)).push u2 ++ its.toArray.extract (if i < 0 then (i + ((its.toArray.size : Nat) : Int)).toNat else min i.toNat its.toArray.size)) = _
    rw [hk]
    have e3 : List.take (its.length - i.toNat) (List.drop i.toNat its) = List.drop i.toNat its := List.take_of_length_le (by rw [List.length_drop]; exact Nat.le_refl _)
    simp [e3]
  · simp only [List.length_append, List.length_take, List.length_drop, List.length_singleton]
    unfold sizeLine
    omega
end L2

/-! ### max of a tuple -/
namespace L2
open PySem PySem.Spec PyProof.Rows
variable {X : Cx}
end L2

namespace L2
open PySem PySem.Spec PyProof.Rows
/-! ### sorted(dict whose keys are ints, reverse=True) -/
def tSortDR (tl : TE) : TE := fun σ H Q => tl σ H fun x H1 => ∃ (p : Addr) (kvs : List (Key × V)) (ys : List Int), x = .ref p ∧ H1 p = some (.dK kvs) ∧ kvs.map (·.1) = ys.map Sum.inl ∧ ys.length < 64 ∧
  ∀ (l : Addr) (ys' : List Int), H1 l = none → ys'.Perm ys → ys'.Pairwise (· ≥ ·) → Q (.ref l) (upd H1 l (.lst (ys'.map V.int)))
theorem pe_sortDR {X : Cx} {p cpos kp dp : Pos} {j : Nat} {l : Expr} {tl : TE} (hc : X.calm = true) (hl : PE X l tl) (hm : X.mg "sorted" = none) (hg : X.env.scope.names.lookup ("sorted" : Str) = some .globalImplicit := by kernel_rfl)
    (he : starEach [l] X.env = (false, eval l X.env) :: starEach [] X.env := by rfl) :
    PE X (.Call (.Name "sorted" p) [l] [⟨some "reverse", .Constant (.bool true) j dp, kp⟩] cpos) (tSortDR tl) := by
  intro pins s σ H Q I h
  refine wpAny_Call_Name_kw (ld_blt I hg hm Bt.sorted ?_ (by decide) (by decide))
  refine callWith_kw ?_ (by rw [he]; rfl) (by rw [he]; rfl) rfl rfl
  have h' : tCons tl tNil σ H (fun vs H1 => match vs with | [x] => ∃ (p : Addr) (kvs : List (Key × V)) (ys : List Int), x = .ref p ∧ H1 p = some (.dK kvs) ∧ kvs.map (·.1) = ys.map Sum.inl ∧ ys.length < 64 ∧ ∀ (l : Addr) (ys' : List Int), H1 l = none → ys'.Perm ys → ys'.Pairwise (· ≥ ·) → Q (.ref l) (upd H1 l (.lst (ys'.map V.int))) | _ => False) := h
  refine thn ((pa_cons hl pa_nil he) cpos pins s σ H _ I h') fun us s1 ⟨vs, H1, I1, r1, q1⟩ => ?_
  obtain ⟨x, rfl⟩ : ∃ x, vs = [x] := by
    match vs, q1 with
    | [x], _ => exact ⟨x, rfl⟩
  obtain ⟨p, kvs, ys, rfl, hp, hk, hl, q⟩ := q1
  obtain ⟨u, rfl, ru⟩ := vals1 r1
  cases ru
  refine kws_cons (thn (pe_bl pins s1 σ H1 (fun x H2 => x = .bl true ∧ H2 = H1) I1 ⟨rfl, rfl⟩) fun dv s2 ⟨x, H2, I2, r2, ex, eH⟩ => kws_nil ?_)
  subst ex eH
  cases r2
  have I := I2
  obtain ⟨hz, lo, vs, rk, hD⟩ := I.hok p _ hp
  have hlk : kvs.length = ys.length := by
    have := congrArg List.length hk
    rwa [List.length_map, List.length_map] at this
  have hlv : kvs.length = vs.length := Paired.length rk
  obtain ⟨ep, hat⟩ := hD.dictAt
  have hh : X.A.handled = none := I.ok.hd hc
  refine call_function_entry_kw kind_sorted plain_sorted entry_sorted (args_sorted_rev _ _) ?_
  unfold Builtin.«sorted»
  refine wpAny_bind (m := checkCount "sorted" 1 1 _) (wpAny_pure ?_)
  refine wpAny_bind (PySem.W.kdu_collect (A := X.A.in1) (PySem.W.kdl_dict (knd := mixKind X.prog X.w) (kvs := vs) (ep := ep) lo) hh hat (Nat.le_trans (by omega : vs.length ≤ 64) (by decide)) fun h' tk acc hkp hacc => ?_)
  have hla : acc.toList.length = vs.length := by rw [Array.length_toList]; exact hacc.1
  have keys : ∀ (j : Nat) (kv : Key × V), kvs[j]? = some kv → ∃ y, ys[j]? = some y ∧ kv.1 = Sum.inl y := fun j kv e => by
    have e1 : (kvs.map (·.1))[j]? = some kv.1 := by rw [List.getElem?_map, e]; rfl
    rw [hk, List.getElem?_map] at e1
    cases e2 : ys[j]? with
    | none => rw [e2] at e1; cases e1
    | some y => rw [e2] at e1; exact ⟨y, rfl, (Option.some.inj e1).symm⟩
  have hints : Vals (ys.map V.int) acc.toList := by
    have gen : ∀ (us : List Value) (zs : List Int), us.length = zs.length → (∀ (j : Nat) u, us[j]? = some u → ∃ y t, zs[j]? = some y ∧ u = Value.int y t) → Vals (zs.map V.int) us := by
      intro us
      induction us with
      | nil => intro zs hl _; cases zs with
        | nil => exact .nil
        | cons _ _ => simp at hl
      | cons u us ih =>
        intro zs hl h
        cases zs with
        | nil => simp at hl
        | cons z zs =>
          obtain ⟨y, t, e1, e2⟩ := h 0 u rfl
          rw [List.getElem?_cons_zero] at e1
          cases e1
          subst e2
          exact .cons ⟨t, rfl⟩ (ih zs (by simpa using hl) fun j u' e => h (j + 1) u' e)
    refine gen _ _ (by omega) fun j u e => ?_
    obtain ⟨k, x, e1, e2⟩ := hacc.2 j u (by rw [← Array.getElem?_toList]; exact e)
    obtain ⟨v, e3⟩ := kv_at rk j k x e1
    obtain ⟨y, e4, e5⟩ := keys j _ e3
    have e5 : k = Sum.inl y := e5
    subst e5
    have e2 : keyIs (Sum.inl y) u = true := e2
    rcases keyIs_shape e2 with ⟨i, t, z1, z2⟩ | ⟨y', t, z1, _⟩
    · cases z1
      exact ⟨y, t, e4, z2⟩
    · cases z1
  have hS := intsAre_of hints
  refine wpAny_bind (wpAny_newList ?_ (by rw [hla]; exact Nat.le_trans (by omega : vs.length ≤ 64) (by decide)))
  have hoL : (h'.push { cls := .type "list", data := .seq acc.toList.toArray }).get? h'.objs.size = some (seqObj "list" acc.toList.toArray 0) := Heap.get?_push_size _ rfl
  refine wpAny_bind (wpAny_holding (wpAny_call_entry_kw slot_list_sort ⟨_, hoL, rfl⟩ entry_list_sort (list_sort_tree_rev hoL hS (by omega) fun out ys' a1 a2 a3 => ⟨_, rfl, ?_⟩) (args_list_sort_rev _ _)))
  refine wpAny_pure ⟨_, rfl, ?_⟩
  obtain ⟨e, he⟩ := sortedHeap_at (out := out) hoL
  have I' : Inv X pins σ H2 { s2 with heap := h', toks := tk } := I.kept (t' := tk) hkp
  have old : ∀ b o, h'.get? b = some o → (sortedHeap (h'.push { cls := .type "list", data := .seq acc.toList.toArray }) h'.objs.size acc.toList out).get? b = some o := fun b o eb' => by
    have hlt := Heap.lt_size eb'
    rw [sortedHeap_old (Nat.ne_of_lt hlt) (by rw [size_push']; exact Nat.lt_succ_of_lt hlt)]
    exact Heap.get?_push_of_some _ eb'
  refine ⟨.ref h'.objs.size, _, I'.laid (o := .lst (ys'.map V.int)) (t' := tk) old (Nat.le_refl _) ⟨?_, out.toList, e, vals_ints a1, ?_⟩, rfl, q _ ys' (I'.hok.fresh (Nat.le_refl _)) a2 a3⟩
  · rw [List.length_map, a2.length_eq]
    exact Nat.le_trans (Nat.le_of_lt hl) (by decide)
  · rw [he]
/-! ### a list against the empty one -/
/-! ### list(range(n)) -/
end L2

/-! ### (list of ints, list) against (list of ints, []) -/
namespace L2
open PySem PyProof.Rows
variable {X : Cx}
end L2
namespace L2
open PySem PyProof.Rows
variable {X : Cx}
end L2

/-! ### a module's dict whose keys are ints and None -/
namespace L2
open PySem PySem.Spec PyProof.Rows
section
variable {X : Cx} {pins : List (Addr × Obj)} {σ : St} {H : Hp} {s : Shared} {a : Addr} {kvs : List (Option Int × V)} {o i : Expr} {td ty : TE} {pos : Pos}
end
/-! ### two dicts of the same content -/
/-! ### so many arguments -/
theorem us0 {P : List Value → Prop} (h : P []) : ∀ us : List Value, us.length = 0 → P us
  | [], _ => h
theorem usS {n : Nat} {P : List Value → Prop} (h : ∀ (a : Value) (us : List Value), us.length = n → P (a :: us)) : ∀ us : List Value, us.length = n + 1 → P us
  | a :: us, e => h a us (Nat.succ.inj e)
theorem us1 {P : List Value → Prop} (h : ∀ a, P [a]) : ∀ us : List Value, us.length = 1 → P us := usS fun a => us0 (P := fun us => P (a :: us)) (h a)
theorem us2 {P : List Value → Prop} (h : ∀ a b, P [a, b]) : ∀ us : List Value, us.length = 2 → P us := usS fun a => us1 (P := fun us => P (a :: us)) (h a)
theorem us3 {P : List Value → Prop} (h : ∀ a b c, P [a, b, c]) : ∀ us : List Value, us.length = 3 → P us := usS fun a => us2 (P := fun us => P (a :: us)) (h a)
end L2

/-! ### an exception that flies out of a comprehension -/
namespace L2
open PySem PySem.Spec PyProof.Rows
/-- a heap less one object -/
def less (B : Heap) (c : Addr) : Heap := B.update c fun o => { o with data := .freed }
section
variable {P : Program} {w : World} {K : PySem.W.Frag} {mg : Str → Option Value} {base : Heap} {N : List Str} {qual : Str} {scope : Scope} {f : Addr} {cd : Value} {A : Around} {outer : List Env} {s : Shared} {H : Hp} {E : XK}
end
/-! ### a comprehension's loop; the item may raise -/
section
variable {X : Cx} {E : XK} {pins : List (Addr × Obj)} {scope : Scope} {cl : List (Str × Addr)} {C : Addr} {N' : List Str} {fp : List Addr} {s : Shared} {H : Hp}
end
section
variable {X : Cx} {E : XK} {sc : Scope} {N N' : List Str} {scope : Scope} {ix : List (Option Nat)} {tg iter elt : Expr} {ifs : List Expr} {pos : Pos} {wi : TI} {g : TG} {tt : TT} {te : TE}
end
end L2

/-! ### methods in a try; a class made with arguments -/
namespace L2
open PySem PySem.Spec PyProof.Rows
section
variable {X : Cx} {CX : CXT} {k : Nat} {f C : Addr} {fd : FuncData} {ps : List Str} {sp : Sp} {E : XK} {x m : Str} {p pos apos : Pos} {e o : Expr} {es : List Expr} {ta : TE} {t : TA}
end
/-! ### isinstance of a caught one, by a tuple of classes -/
end L2

/-! ### what is deeply equal: lists and tuples of one another -/
namespace L2
open PySem PyProof.Rows
variable {X : Cx}
/-- equal, to a depth of n -/
inductive DEq (K : PySem.W.Frag) (H : Hp) : Nat → V → V → Prop
  | same (n : Nat) (a : Addr) : DEq K H n (.ref a) (.ref a)
  | int (n : Nat) (i : Int) : DEq K H n (.int i) (.int i)
  | str (n : Nat) (x : Str) : DEq K H n (.str x) (.str x)
  | tup {n : Nat} {a b : Addr} {xs ys : List V} (h1 : SqT K H a xs) (h2 : SqT K H b ys) (hl : xs.length = ys.length) (h : ∀ (j : Nat) (x y : V), xs[j]? = some x → ys[j]? = some y → DEq K H n x y) : DEq K H (n + 1) (.ref a) (.ref b)
  | lst {n : Nat} {a b : Addr} {xs ys : List V} (h1 : SqL K H a xs) (h2 : SqL K H b ys) (hl : xs.length = ys.length) (h : ∀ (j : Nat) (x y : V), xs[j]? = some x → ys[j]? = some y → DEq K H n x y) : DEq K H (n + 1) (.ref a) (.ref b)
/-- it is enough for a lesser depth -/
theorem DEq.more {K : PySem.W.Frag} {H : Hp} {n : Nat} {x y : V} (h : DEq K H n x y) : ∀ {m : Nat}, n ≤ m → DEq K H m x y := by
  induction h with
  | same n a => exact fun {m} _ => .same m a
  | int n i => exact fun {m} _ => .int m i
  | str n i => exact fun {m} _ => .str m i
  | tup h1 h2 hl h ih =>
    intro m hm
    cases m with
    | zero => omega
    | succ m => exact .tup h1 h2 hl fun j x y e1 e2 => ih j x y e1 e2 (by omega)
  | lst h1 h2 hl h ih =>
    intro m hm
    cases m with
    | zero => omega
    | succ m => exact .lst h1 h2 hl fun j x y e1 e2 => ih j x y e1 e2 (by omega)
end L2

/-! ### min of a tuple -/
namespace L2
open PySem PySem.Spec PyProof.Rows
variable {X : Cx}
end L2

/-! ### products of still greater numbers -/
namespace L2
open PySem PyProof.Rows
end L2

/-! ### zip(tuple, tuple) -/
namespace PySem
open AutoSeq1 (wpAny_loadPart')
section
variable {P : Program} {w : World} {A : Around} {E : Value → Shared → Prop} {z : Shared}
/-- the five records of zip(list, tuple), as they lie one behind the other -/
structure ZipTT (n a b : Nat) (i : Nat) (f : Value) (h : Heap) : Prop where
  out : IsZip h (n + 4) (n + 2) (n + 3) f
  its : IsPair h (n + 2) (.ref n) (.ref (n + 1))
  own : ∃ x y, IsPair h (n + 3) x y
  fst : h.IsTupleIter n a i
  snd : h.IsTupleIter (n + 1) b i
theorem ZipTT.on {n a b : Nat} {i : Nat} {f : Value} {h h' : Heap} (x : ZipTT n a b i f h) (k : ∀ c : Nat, n ≤ c → c ≤ n + 4 → ∀ o, h.get? c = some o → h'.get? c = some o) : ZipTT n a b i f h' :=
  ⟨k (n + 4) (Nat.le_add_right _ _) (Nat.le_refl _) _ x.out, k (n + 2) (Nat.le_add_right _ _) (Nat.add_le_add_left (by decide) _) _ x.its, let ⟨u, v, q⟩ := x.own; ⟨u, v, k (n + 3) (Nat.le_add_right _ _) (Nat.add_le_add_left (by decide) _) _ q⟩, x.fst.on fun o q => k n (Nat.le_refl _) (Nat.le_add_right _ _) o q, x.snd.on fun o q => k (n + 1) (Nat.le_add_right _ _) (Nat.add_le_add_left (by decide) _) o q⟩
end
end PySem
namespace L2
open PySem PySem.Spec PyProof.Rows
section
variable {K : PySem.W.Frag} {g : TG} {σ : St} {H : Hp} {ix : List (Option Nat)} {tt : TT} {te : TE} {Q : VK}
end
end L2

/-! ### a list walked from its end: reversed(list) -/
namespace L2
open PySem PySem.Spec PyProof.Rows
namespace Bt
theorem reversed : bootBuiltins "reversed" = some (.type "reversed") := by decide +kernel
end Bt
/-- the list at a from its end, of n items -/
def Itlr (K : PySem.W.Frag) (a : Addr) (n : Nat) : It :=
  ⟨fun i H => ∃ xs, SqL K H a xs ∧ xs.length = n ∧ i < n, fun i H x H' => H' = H ∧ ∀ xs, SqL K H a xs → xs[n - 1 - i]? = some x, fun i _ => n ≤ i⟩
theorem turn_listR {P : Program} {w : World} {K : PySem.W.Frag} {tg : Expr} (a it : Addr) (n : Nat) : Turn P w K tg (Itlr K a n) [it] it (fun i h => i ≤ n ∧ h.IsRevIter it a ((n : Int) - 1 - (i : Int))) where
  mem := by simp
  obj := fun i h st b hb => by
    have e : b = it := by simpa using hb
    subst e
    obtain ⟨_, o, e, c, d⟩ := st
    exact ⟨o, e, fun v z => by rw [d] at z; cases z⟩
  keep := fun i h h' st k => ⟨st.1, st.2.at fun o e => k it (by simp) o e⟩
  item := by
    intro X hP hw hK hc i pins s σ H E I hf st hg
    subst hP hw hK
    obtain ⟨xs, hq, hn, hx⟩ := hg
    obtain ⟨its, rv, p, hz⟩ := I.list hq
    have hlt : n - 1 - i < xs.length := by omega
    obtain ⟨u, hu, ru⟩ := rv.get (List.getElem?_eq_getElem hlt)
    obtain ⟨f0, f1, f2, f3, f4, f5⟩ := hf it (by simp)
    obtain ⟨_, st⟩ := st
    have e : (n : Int) - 1 - (i : Int) = ((n - 1 - i : Nat) : Int) := by omega
    rw [e] at st
    refine wpAny_pyNext_rev_item st p.isList (x := u) (by simpa using hu) fun h' st' sb => ?_
    have e2 : ((n - 1 - i : Nat) : Int) - 1 = (n : Int) - 1 - ((i + 1 : Nat) : Int) := by omega
    rw [e2] at st'
    have I1 : Inv X pins σ H { s with heap := h' } := I.turned (t' := s.toks) (fun b o hb e => (sb.2 b hb).trans e) f0 f1 f3 f4 f5
    obtain ⟨o, e, c, d⟩ := id st'
    exact ⟨u, rfl, go_of (s := { s with heap := h' }) e c d (by decide) ⟨_, H, I1, ru, ⟨rfl, fun ys hy => by rw [I.list_inj hy hq]; exact List.getElem?_eq_getElem hlt⟩, ⟨hx, st'⟩, fun b hb => (hf b hb).1⟩⟩
  done := by
    intro X hP hw hK hc i pins s σ H E I hf st hg
    subst hP hw hK
    have hx : n ≤ i := hg
    obtain ⟨f0, f1, f2, f3, f4, f5⟩ := hf it (by simp)
    obtain ⟨hi, st⟩ := st
    have e : (n : Int) - 1 - (i : Int) = -1 := by omega
    rw [e] at st
    exact wpAny_pyNext_rev_end (I.ok.hd hc) st fun h' eb => ⟨rfl, I.turned (t' := s.toks) (fun b o hb e => eb b o hb e) f0 f1 f3 f4 f5⟩
  self := fun _ _ _ _ _ st h => wpAny_pyIter_revIter st.2 h
def iListR (K : PySem.W.Frag) (tl : TE) : TI := fun σ H R => tl σ H fun x H1 => ∃ a xs, x = .ref a ∧ SqL K H1 a xs ∧ R (Itlr K a xs.length) H1
theorem pi_listR {X : Cx} {tg : Expr} {p cpos : Pos} {l : Expr} {tl : TE} (hl : PE X l tl) (hg : Gl X "reversed") (hm : X.mg "reversed" = none)
    (he : starEach [l] X.env = (false, eval l X.env) :: starEach [] X.env := by rfl) (hpl : (backTo cpos (starEach [] X.env)).any (·.1) = false := by rfl) :
    PI X tg (.Call (.Name "reversed" p) [l] [] cpos) (iListR X.K tl) := by
  intro pins s σ H R I h
  refine wpAny_Call_Name_kw (ld_blt I hg hm Bt.reversed ?_ (by decide) (by decide))
  have h' : tCons tl tNil σ H (fun vs H1 => match vs with | [x] => ∃ a xs, x = .ref a ∧ SqL X.K H1 a xs ∧ R (Itlr X.K a xs.length) H1 | _ => False) := h
  refine PyProof.Rows.callWith_type1 (thn ((pa_cons hl pa_nil he) cpos pins s σ H _ I h') fun us s1 ⟨vs, H1, I1, r1, q1⟩ => ?_) he hpl
  obtain ⟨x, rfl⟩ : ∃ x, vs = [x] := by
    match vs, q1 with
    | [x], _ => exact ⟨x, rfl⟩
  obtain ⟨a, xs, rfl, hq, q⟩ := q1
  obtain ⟨u, rfl, ru⟩ := vals1 r1
  cases ru
  obtain ⟨its, rv, p, hz⟩ := I1.list hq
  have hl' := rv.length
  refine call_reversed_list p.isList ?_
  have st : Heap.IsRevIter (s1.heap.push (revObj a ((its.toArray.size : Int) - 1))) s1.heap.objs.size a ((xs.length : Int) - 1 - ((0 : Nat) : Int)) := by
    refine ⟨_, Heap.get?_push_size _ rfl, rfl, ?_⟩
    have e : (its.toArray.size : Int) - 1 = (xs.length : Int) - 1 - ((0 : Nat) : Int) := by simp; omega
    rw [e]
    rfl
  refine wpAny_pyIter_revIter st ?_
  refine ⟨s1.heap.objs.size, [s1.heap.objs.size], _, _, H1, rfl, I1.kept (t' := s1.toks) fun b o e => Heap.get?_push_of_some _ e, turn_listR a _ xs.length, ⟨Nat.zero_le _, st⟩, fun b hb => ?_, q⟩
  have e : b = s1.heap.objs.size := by simpa using hb
  subst e
  exact I1.fpOk (Nat.le_refl _) (I1.hok.fresh (Nat.le_refl _))
theorem plistR {X : Cx} {tg : Expr} {p cpos : Pos} {l : Expr} {tl : TE} (hl : PE X l tl) (hm : X.mg "reversed" = none) (hg : X.env.scope.names.lookup ("reversed" : Str) = some .globalImplicit := by kernel_rfl)
    (he : starEach [l] X.env = (false, eval l X.env) :: starEach [] X.env := by rfl) (hpl : (backTo cpos (starEach [] X.env)).any (·.1) = false := by rfl) :
    PI X tg (.Call (.Name "reversed" p) [l] [] cpos) (iListR X.K tl) := pi_listR hl hg hm he hpl
end L2

/-! ### tuple(reversed(tuple)) -/
namespace PySem
open Sem (wp)
open AutoSeq1 (wpAny_loadPart')
namespace RvT
theorem owner_rv : Manifest.owners.lookup (String.ofList ['d', 'e', 's', 'r', 'e', 'v', 'e', 'r'].reverse) = some Manifest.sig_reversed := by kernel_rfl
theorem slot_next : Slot "reversed" "__next__" "reversed.__next__" :=
  .of (owner := "reversed") (n := "__next__") (by rw [typeLookup_type, builtinLookup_eq_fast]; kernel_rfl) (by decide +kernel) (by decide +kernel) (by decide +kernel)
    (by first | exact .inl (by decide +kernel) | exact .inr (by decide +kernel)) (by rw [isSubtype_type]; kernel_rfl)
theorem entry_next : entryFor table "reversed.__next__" = some Builtin.«reversed.__next__» := entryFor_of_tree (by kernel_rfl)
theorem args_next_1 (a : Value) : argsOk "reversed.__next__" ⟨[a], []⟩ := by
  unfold argsOk; rw [signature?_of (id := "reversed.__next__") (n := ['_', '_', 't', 'x', 'e', 'n', '_', '_']) (o := ['d', 'e', 's', 'r', 'e', 'v', 'e', 'r']) (by kernel_rfl) owner_rv]; kernel_rfl
theorem slot_iter : Slot "reversed" "__iter__" "reversed.__iter__" :=
  .of (owner := "reversed") (n := "__iter__") (by rw [typeLookup_type, builtinLookup_eq_fast]; kernel_rfl) (by decide +kernel) (by decide +kernel) (by decide +kernel)
    (by first | exact .inl (by decide +kernel) | exact .inr (by decide +kernel)) (by rw [isSubtype_type]; kernel_rfl)
theorem args_iter_1 (a : Value) : argsOk "reversed.__iter__" ⟨[a], []⟩ := by
  unfold argsOk; rw [signature?_of (id := "reversed.__iter__") (n := ['_', '_', 'r', 'e', 't', 'i', '_', '_']) (o := ['d', 'e', 's', 'r', 'e', 'v', 'e', 'r']) (by kernel_rfl) owner_rv]; kernel_rfl
theorem entry_iter : entryFor table "reversed.__iter__" = some Builtin.«dict_keyiterator.__iter__» :=
  entryFor_alias (id' := "dict_keyiterator.__iter__") (by kernel_rfl) (by first | rfl | decide +kernel | (unfold String.splitOn; simp +decide [String.splitOnAux])) (by decide +kernel) (by kernel_rfl)
theorem nolen : typeLookup (.type "reversed") "__len__" = pure none := by rw [typeLookup_type, builtinLookup_eq_fast]; kernel_rfl
theorem hint : typeLookup (.type "reversed") "__length_hint__" = pure (some (.builtin "reversed.__length_hint__")) := by rw [typeLookup_type, builtinLookup_eq_fast]; kernel_rfl
theorem slot_hint : Slot "reversed" "__length_hint__" "reversed.__length_hint__" :=
  .of (owner := "reversed") (n := "__length_hint__") (by rw [typeLookup_type, builtinLookup_eq_fast]; kernel_rfl) (by decide +kernel) (by decide +kernel) (by decide +kernel)
    (by first | exact .inl (by decide +kernel) | exact .inr (by decide +kernel)) (by rw [isSubtype_type]; kernel_rfl)
theorem entry_hint : entryFor table "reversed.__length_hint__" = some Builtin.«reversed.__length_hint__» := entryFor_of_tree (by kernel_rfl)
theorem args_hint_1 (a : Value) : argsOk "reversed.__length_hint__" ⟨[a], []⟩ := by
  unfold argsOk; rw [signature?_of (id := "reversed.__length_hint__") (n := ['_', '_', 't', 'n', 'i', 'h', '_', 'h', 't', 'g', 'n', 'e', 'l', '_', '_']) (o := ['d', 'e', 's', 'r', 'e', 'v', 'e', 'r']) (by kernel_rfl) owner_rv]; kernel_rfl
theorem slot_init : Slot "reversed" "__init__" "object.__init__" :=
  .of (owner := "object") (n := "__init__") (by rw [typeLookup_type, builtinLookup_eq_fast]; kernel_rfl) (by decide +kernel) (by decide +kernel) (by decide +kernel)
    (by first | exact .inl (by decide +kernel) | exact .inr (by decide +kernel)) (by rw [isSubtype_type]; kernel_rfl)
theorem called : TypeCalled "reversed" "reversed.__new__" "object.__init__" :=
  ⟨by decide +kernel, by decide +kernel, ⟨_, _, F.mro_reversed⟩, F.made_reversed, by decide +kernel, F.sub_reversed_self, slot_init⟩
theorem norev_tuple : typeLookup (.type "tuple") "__reversed__" = pure none := by rw [typeLookup_type, builtinLookup_eq_fast]; kernel_rfl
theorem item_tuple : typeLookup (.type "tuple") "__getitem__" = pure (some (.builtin "tuple.__getitem__")) := by rw [typeLookup_type, builtinLookup_eq_fast]; kernel_rfl
theorem tuple_dict : isSubtype (.type "tuple") (.type "dict") = pure false := by rw [isSubtype_type]; kernel_rfl
def obj (l : Addr) (i : Int) : Obj := { cls := .type "reversed", data := .fields #[.ref l, rawInt i] }
def At (h : Heap) (a l : Addr) (i : Int) : Prop := ∃ o, h.get? a = some o ∧ o.cls = .type "reversed" ∧ o.data = .fields #[.ref l, rawInt i]
end RvT
section
variable {prog : Program} {w : World} {A : Around} {E : Value → Shared → Prop} {s : Shared}
theorem RvT.At.typeIs {a l : Addr} {i : Int} (x : RvT.At s.heap a l i) : s.TypeIs (.ref a) "reversed" := let ⟨o, ho, hc, _⟩ := x; ⟨o, ho, hc⟩
theorem RvT.At.on {h h' : Heap} {a l : Addr} {i : Int} (x : RvT.At h a l i) (e : ∀ o, h.get? a = some o → h'.get? a = some o) : RvT.At h' a l i := let ⟨o, ho, r⟩ := x; ⟨o, e _ ho, r⟩
open PyProof.Rows in
theorem RvT.new_meets (l : Addr) (items : Array Value) (hz : (items.size : Int) < 2 ^ 62) :
    Meets (Builtin.«reversed.__new__» ⟨[.type "reversed", .ref l], []⟩) (fun _ R z => IsTup z.heap l items ∧ ∀ tk, R (.ok (.ret (.ref z.heap.objs.size))) { z with heap := z.heap.push (RvT.obj l ((items.size : Int) - 1)), toks := tk }) :=
  .of_wp fun P w A R z h => by
    obtain ⟨ht, h⟩ := h
    unfold Builtin.«reversed.__new__»
    refine wpAny_bind (wpAny_of_eq (newClass_reversed _) ?_)
    try dsimp only
    refine wpAny_bind (wpAny_of_eq (a := ()) (by first | rfl | kernel_rfl) ?_)
    refine wpAny_bind (wpAny_of_eq (a := ()) (by first | rfl | kernel_rfl) ?_)
    try dsimp only
    refine wpAny_bind (wpAny_specialOf ht.typeIs RvT.norev_tuple ?_)
    try dsimp only
    refine wpAny_bind ?_
    show wpAny _ _ (isInstance (Value.ref l) (Value.type "dict") >>= _) _ _ _
    refine wpAny_bind (wpAny_isInstance (b := false) ht.typeIs RvT.tuple_dict ?_)
    try dsimp only
    rw [if_neg Bool.false_ne_true]
    show wpAny _ _ (specialOf (Value.ref l) (Str.ofString "__getitem__") >>= _) _ _ _
    refine wpAny_bind (wpAny_specialOf ht.typeIs RvT.item_tuple ?_)
    try dsimp only
    rw [if_pos (by decide +kernel)]
    refine wpAny_pure ?_
    rw [if_neg (by decide)]
    refine wpAny_bind (len_tuple ht (by omega) ?_)
    refine wpAny_bind (m := asInt? (.int items.size (z.toks + 1))) (wpAny_pure ?_)
    dsimp only
    unfold Builtin.SmallTypes.newRecord
    refine wpAny_bind (wpAny_newObj_type ?_)
    exact wpAny_pure ⟨_, rfl, h _⟩
open PyProof.Rows in
theorem RvT.call {l : Addr} {items : Array Value} {Q : Value → Shared → Prop} (hz : (items.size : Int) < 2 ^ 62) (ht : IsTup s.heap l items)
    (h : ∀ tk, Q (.ref s.heap.objs.size) { s with heap := s.heap.push (RvT.obj l ((items.size : Int) - 1)), toks := tk }) : wpAny (model prog w) A (call (.type "reversed") [.ref l]) Q E s := by
  refine callType_new RvT.called (by decide) (F.typeCall_reversed_1 _) (F.newCall_reversed_1 _) (fun obj => F.args_object_init_2 obj _) F.entry_reversed_new (RvT.new_meets l items hz) ⟨ht, fun tk => ?_⟩
  exact ⟨⟨_, Heap.get?_push_size _ rfl, rfl⟩, h tk⟩
open PyProof.Rows in
theorem RvT.item {it l : Addr} {i : Nat} {items : Array Value} {x : Value} {Q : Option Value → Shared → Prop} (hit : RvT.At s.heap it l (i : Int)) (ht : IsTup s.heap l items) (hx : items[i]? = some x) (hz : items.size ≤ 1000)
    (hQ : ∀ h' tk, RvT.At h' it l ((i : Int) - 1) → Heap.SameBut it s.heap h' → Q (some x) { s with heap := h', toks := tk }) : wpAny (model prog w) A (pyNext (.ref it)) Q E s := by
  obtain ⟨o, ho, hc, hd⟩ := id hit
  have hlt : i < items.size := (Array.getElem?_eq_some_iff.mp hx).1
  unfold pyNext
  refine wpAny_bind (wpAny_attempt (wpAny_callSpecial?_slot (name := Str.ofString "__next__") hit.typeIs RvT.slot_next
    (wpAny_call_entry RvT.slot_next hit.typeIs RvT.entry_next ?_ (RvT.args_next_1 _))))
  unfold Builtin.«reversed.__next__»
  refine wpAny_bind (wpAny_of_eq (a := (Value.ref it, [])) rfl ?_)
  try dsimp only
  refine wpAny_bind (wpAny_field ho hd (x := .ref l) rfl ?_)
  refine wpAny_bind (wpAny_field ho hd (x := rawInt (i : Int)) rfl ?_)
  show wpAny _ _ (if (i : Int) < 0 then _ else _) _ _ s
  rw [if_neg (by omega)]
  refine wpAny_bind (wpAny_specialOf ht.typeIs RvT.item_tuple ?_)
  rw [if_neg (by decide)]
  refine wpAny_bind (wpAny_mkInt ?_)
  have ht2 : IsTup ({ s with toks := s.toks + 1 } : Shared).heap l items := ht
  refine wpAny_bind (wpAny_attempt (getItem_tuple (j := i) ht2 (by omega) (by omega) ?_ hx ?_))
  · unfold seqIndex?
    have h0 : ¬ ((i : Int) < 0) := by omega
    simp [h0, hlt]
  try dsimp only
  refine wpAny_bind (wpAny_field ho hd (x := rawInt (i : Int)) rfl ?_)
  refine wpAny_bind (wpAny_setField ho hd (by simp) ?_)
  refine wpAny_pure ⟨x, rfl, wpAny_pure (hQ _ _ ?_ (Heap.SameBut.update ..))⟩
  exact ⟨_, Heap.get?_update_self _ ho (Obj.isFreed_of_fields (Obj.data_mapFields hd _)), (Obj.cls_mapFields ..).trans hc, by
    rw [Obj.data_mapFields hd]; simp⟩
theorem RvT.end {it l : Addr} {Q : Option Value → Shared → Prop} (hh : A.handled = none) (hit : RvT.At s.heap it l (-1))
    (hQ : ∀ h', Heap.ExtBut it s.heap h' → Q none { s with heap := h' }) : wpAny (model prog w) A (pyNext (.ref it)) Q E s := by
  obtain ⟨o, ho, hc, hd⟩ := id hit
  unfold pyNext
  refine wpAny_bind (wpAny_attempt (wpAny_callSpecial?_slot (name := Str.ofString "__next__") hit.typeIs RvT.slot_next
    (wpAny_call_entry RvT.slot_next hit.typeIs RvT.entry_next ?_ (RvT.args_next_1 _))))
  unfold Builtin.«reversed.__next__»
  refine wpAny_bind (wpAny_of_eq (a := (Value.ref it, [])) rfl ?_)
  try dsimp only
  refine wpAny_bind (wpAny_field ho hd (x := .ref l) rfl ?_)
  refine wpAny_bind (wpAny_field ho hd (x := rawInt (-1)) rfl ?_)
  show wpAny _ _ (if (-1 : Int) < 0 then _ else _) _ _ s
  rw [if_pos (by decide)]
  refine wpAny_bind (wpAny_rule ?_)
  refine wpAny_bind ?_
  show wpAny _ _ (setField (Value.ref it) 1 (rawInt (-1)) >>= fun _ => setField (Value.ref it) 0 Value.none) _ _ _
  refine wpAny_bind (wpAny_setField ho hd (by simp) ?_)
  have ho2 := Heap.get?_update_self (Obj.mapFields fun vs => vs.set! 1 (rawInt (-1))) ho (Obj.isFreed_of_fields (Obj.data_mapFields hd _))
  refine wpAny_setField ho2 (Obj.data_mapFields hd _) (by simp) ?_
  unfold Builtin.SmallTypes.stopIteration
  refine wpAny_bind ?_
  first
  | show wpAny _ _ (newExc (.type "StopIteration") [] >>= _) _ _ _
  | (refine wpAny_bind ?_; show wpAny _ _ (newExc (.type "StopIteration") [] >>= _) _ _ _)
  refine wpAny_bind ?_
  simp only [newExc, newTuple]
  refine wpAny_bind (wpAny_newObj_type ?_ (by size_fits))
  refine wpAny_bind (m := firstArgMember _ _) (wpAny_of_eq (a := Value.none) (by first | rfl | (simp only [firstArgMember]; rfl)) ?_)
  refine wpAny_newObj_type ?_ (by size_fits)
  simp only [raiseNew]
  refine wpAny_bind (wpAny_handled ?_)
  first | rw [show A.in1.handled = none from hh] | rw [hh]
  refine wpAny_bind (wpAny_pure (wpAny_throw ?_))
  refine wpAny_bind (wpAny_isInstance (T := "StopIteration") (b := true) ⟨_, Heap.get?_push_size _ rfl, rfl⟩ isSubtype_stop ?_)
  exact wpAny_pure (hQ _ ((((Heap.SameBut.update ..).extBut.trans (Heap.SameBut.update ..).extBut).push _).push _))
theorem RvT.iter {it l : Addr} {i : Int} {Q : Value → Shared → Prop} (hit : RvT.At s.heap it l i) (h : Q (.ref it) s) : wpAny (model prog w) A (pyIter (.ref it)) Q E s := by
  refine wpAny_pyIter_slot hit.typeIs RvT.slot_iter (wpAny_call_entry RvT.slot_iter hit.typeIs RvT.entry_iter ?_ (RvT.args_iter_1 _))
  show wpAny _ _ (ret (.ref it)) _ _ s
  exact wpAny_pure ⟨_, rfl, "reversed", _, hit.typeIs, RvT.slot_next.lookup, h⟩
end
open PyProof.Rows in
theorem RvT.walks {prog : Program} {w : World} {A : Around} (hh : A.handled = none) (I l : Addr) (hne : l ≠ I) (items : Array Value) (hz : items.size ≤ 1000) :
    Walks prog w A I [I, l] [I] items.size (fun i v => items[items.size - 1 - i]? = some v) (fun i h => i ≤ items.size ∧ RvT.At h I l ((items.size : Int) - 1 - (i : Int)) ∧ IsTup h l items) where
  sub := fun b hb => by simp at hb; simp [hb]
  frame := fun _ _ _ x hk => ⟨x.1, x.2.1.on fun o e => hk I (by simp) o e, by
    obtain ⟨o, e, r⟩ := x.2.2
    exact ⟨o, hk l (by simp) o e, r⟩⟩
  item := fun i s Q E hi x hQ => by
    have e : (items.size : Int) - 1 - (i : Int) = ((items.size - 1 - i : Nat) : Int) := by omega
    have hit := x.2.1
    rw [e] at hit
    have hx : items[items.size - 1 - i]? = some (items[items.size - 1 - i]'(by omega)) := Array.getElem?_eq_getElem (by omega)
    refine RvT.item hit x.2.2 hx hz fun h' tk hit' hs' => ?_
    have e2 : ((items.size - 1 - i : Nat) : Int) - 1 = (items.size : Int) - 1 - ((i + 1 : Nat) : Int) := by omega
    rw [e2] at hit'
    exact hQ _ h' tk hx ⟨hi, hit', by
      obtain ⟨o, e, r⟩ := x.2.2
      exact ⟨o, (hs'.2 l hne).trans e, r⟩⟩ fun b o hb eo => hs'.extBut b o (fun h => hb (by simp [h])) eo
  done := fun s Q E x hQ => by
    have e : (items.size : Int) - 1 - (items.size : Int) = -1 := by omega
    have hit := x.2.1
    rw [e] at hit
    exact RvT.end hh hit fun h' he' => hQ h' s.toks fun b o hb eo => he' b o (fun h => hb (by simp [h])) eo
  self := fun _ _ _ _ x hQ => RvT.iter x.2.1 hQ
section
variable {prog : Program} {w : World} {A : Around} {E : Value → Shared → Prop} {s : Shared}
open PyProof.Rows in
theorem RvT.hintOf {I l : Addr} {items : Array Value} {Q : Bool → Shared → Prop} (hit : RvT.At s.heap I l ((items.size : Int) - 1)) (ht : IsTup s.heap l items) (h1 : 1 ≤ items.size) (hz : items.size ≤ 1000)
    (hQ : ∀ tk, s.toks ≤ tk → Q true { s with toks := tk }) : wpAny (model prog w) A (Builtin.List.listLengthHint (.ref I)) Q E s := by
  obtain ⟨o, ho, hc, hd⟩ := id hit
  unfold Builtin.List.listLengthHint
  refine wpAny_bind (wpAny_specialOf hit.typeIs RvT.nolen ?_)
  show wpAny _ _ (specialOf (Value.ref I) (Str.ofString "__length_hint__") >>= _) _ _ _
  refine wpAny_bind (wpAny_specialOf hit.typeIs RvT.hint ?_)
  (generalize hid : ("reversed.__length_hint__" : String) = id0; (fail_if_success (clear hid id0)); wp_delta; rw [show splitId id0 = some ("reversed", "__length_hint__") from by subst hid; decide +kernel]; subst hid)
  refine wpAny_bind (wpAny_isInstance (b := true) hit.typeIs F.sub_reversed_self ?_)
  rw [if_neg (by decide)]
  show wpAny _ _ (if _ then _ else _) _ _ _
  rw [if_neg (by decide +kernel)]
  refine wpAny_bind (wpAny_rule ?_)
  refine wpAny_bind (wpAny_of_eq (RvT.slot_hint.bind _) ?_)
  try dsimp only
  refine wpAny_bind (wpAny_attempt (wpAny_call_entry RvT.slot_hint hit.typeIs RvT.entry_hint ?_ (RvT.args_hint_1 _)))
  unfold Builtin.«reversed.__length_hint__»
  refine wpAny_bind (wpAny_of_eq (a := Value.ref I) rfl ?_)
  refine wpAny_bind (wpAny_field ho hd (x := .ref l) rfl ?_)
  rw [if_neg (show ¬ ((Value.ref l == Value.none) = true) from Bool.false_ne_true)]
  refine wpAny_bind (len_tuple ht (by omega) ?_)
  refine wpAny_bind (m := asInt? (.int items.size (s.toks + 1))) (wpAny_pure ?_)
  dsimp only
  refine wpAny_bind (wpAny_field (s := { s with toks := s.toks + 1 + 1 }) ho hd (x := rawInt ((items.size : Int) - 1)) rfl ?_)
  show wpAny _ _ (if (items.size : Int) < (items.size : Int) - 1 + 1 then _ else _) _ _ _
  rw [if_neg (by omega)]
  unfold retInt
  refine wpAny_bind (wpAny_mkInt (wpAny_pure ⟨_, rfl, ?_⟩))
  dsimp only
  refine wpAny_bind (m := asInt? (.int ((items.size : Int) - 1 + 1) _)) (wpAny_pure ?_)
  dsimp only
  have e1 : (!Builtin.List.listFitsIndex ((items.size : Int) - 1 + 1)) = false := by
    unfold Builtin.List.listFitsIndex
    simp
    omega
  have e2 : Builtin.List.listTooLong ((items.size : Int) - 1 + 1).toNat = false := by
    unfold Builtin.List.listTooLong
    have : (1000 : Nat) ≤ sizeLine := by decide
    simp
    omega
  rw [e1, if_neg Bool.false_ne_true, if_neg (by omega), e2, if_neg Bool.false_ne_true]
  have e3 : ((items.size : Int) - 1 + 1 != 0) = true := by
    rw [bne_iff_ne]
    omega
  rw [e3]
  exact wpAny_pure (hQ _ (by show s.toks ≤ _; omega))
open PyProof.Rows in
theorem RvT.collect {Q : List Value → Shared → Prop} {I l : Addr} {items : Array Value} (hh : A.handled = none) (hit : RvT.At s.heap I l ((items.size : Int) - 1)) (ht : IsTup s.heap l items) (hne : l ≠ I) (h1 : 1 ≤ items.size) (hz : items.size ≤ 1000)
    (hQ : ∀ s' acc, Moved [I] (fun a b => b = a) s s' → ItemsOf (fun i v => items[items.size - 1 - i]? = some v) acc items.size → Q acc.toList s') : wpAny (model prog w) A (collect (.ref I)) Q E s := by
  have W := (RvT.walks (prog := prog) (w := w) (A := A.in1) hh I l hne items hz).toS
  have hn : items.size ≤ sizeLine := Nat.le_trans hz (by decide)
  obtain ⟨oI, hoI, _⟩ := id hit
  obtain ⟨oL, hoL, _⟩ := id ht
  have hfp : ∀ b ∈ [I, l], b < s.heap.objs.size := fun b hb => by
    rcases List.mem_cons.mp hb with rfl | hb
    · exact Heap.lt_size hoI
    · rw [List.mem_singleton.mp hb]
      exact Heap.lt_size hoL
  have hSf : s.heap.objs.size ∉ [I, l] := fun hm => Nat.lt_irrefl _ (hfp _ hm)
  have hSI : s.heap.objs.size ≠ I := fun e => hSf (by rw [e]; exact List.mem_cons_self)
  have hit0 : RvT.At s.heap I l ((items.size : Int) - 1 - ((0 : Nat) : Int)) := by
    have e : (items.size : Int) - 1 - ((0 : Nat) : Int) = (items.size : Int) - 1 := by omega
    rw [e]
    exact hit
  unfold PySem.collect
  refine wpAny_bind (wpAny_runValue (codeAny_builtin F.entry_proto_collect ?_))
  rw [Around.under_plainId F.plain_proto_collect _]
  show wpAny _ A.in1 (newList [] >>= fun l => again (.builtin "list.__iadd__" ⟨[l, .ref I], []⟩)) _ _ s
  refine wpAny_bind (wpAny_newObj_type ?_)
  refine wpAny_pure ⟨plainId_quiet F.plain_list_iadd _, codeAny_builtin F.entry_list_iadd ?_⟩
  rw [Around.under_plainId F.plain_list_iadd _]
  have hst₁ := W.frame 0 s (s.heap.push { cls := .type "list", data := .seq ([] : List Value).toArray }) s.toks ⟨Nat.zero_le _, hit0, ht⟩ (Nat.le_refl _) fun b _ o e => Heap.get?_push_of_some _ e
  have hit1 : RvT.At (s.heap.push { cls := .type "list", data := .seq ([] : List Value).toArray }) I l ((items.size : Int) - 1) := hit.on fun o e => Heap.get?_push_of_some _ e
  have ht1 : IsTup (s.heap.push { cls := .type "list", data := .seq ([] : List Value).toArray }) l items := by
    obtain ⟨o, e, r⟩ := id ht
    exact ⟨o, Heap.get?_push_of_some _ e, r⟩
  show wpAny _ A.in1 (Builtin.List.listExtendWith (.ref s.heap.objs.size) (.ref I) (.ref s.heap.objs.size)) _ _ _
  unfold Builtin.List.listExtendWith
  refine wpAny_bind (wpAny_typeOf (RvT.At.typeIs (s := { s with heap := s.heap.push { cls := .type "list", data := .seq ([] : List Value).toArray } }) hit1) ?_)
  have e1 : Builtin.List.listSameRef (.ref s.heap.objs.size) (.ref I) = false := by simp [Builtin.List.listSameRef, hSI]
  have e2 : (Value.type "reversed" == Value.type "list") = false := by decide
  have e3 : (Value.type "reversed" == Value.type "tuple") = false := by decide
  simp only [e1, e2, e3, Bool.or_false, Bool.false_eq_true, if_false]
  refine wpAny_bind (W.self 0 _ _ _ hst₁ ?_)
  refine wpAny_bind (wpAny_holding ?_)
  refine RvT.hintOf (s := { s with heap := s.heap.push { cls := .type "list", data := .seq ([] : List Value).toArray } }) hit1 ht1 h1 hz fun tk htk => ?_
  have hst₂ := W.frame 0 _ _ tk hst₁ htk fun b _ o e => e
  show wpAny _ A.in1 (rule "list.extend.makes-room" >>= fun _ => Builtin.List.listTouch (.ref s.heap.objs.size) >>= fun _ =>
    again (.builtin "list.extend.loop" ⟨[.ref s.heap.objs.size, .ref I, .ref s.heap.objs.size], []⟩)) _ _ _
  refine wpAny_bind (wpAny_rule ?_)
  have hS₁ : (s.heap.push { cls := .type "list", data := .seq ([] : List Value).toArray }).get? s.heap.objs.size = some { cls := .type "list", data := .seq ([] : List Value).toArray } := Heap.get?_push_size _ rfl
  refine wpAny_bind ?_
  show wpAny _ A.in1 (updateSeq s.heap.objs.size (·.push .none) >>= fun _ => updateSeq s.heap.objs.size (·.pop)) _ _ _
  refine wpAny_bind (wpAny_updateSeq hS₁ rfl ?_)
  have hS₂ := Heap.get?_update_self (Obj.mapSeq (·.push Value.none)) hS₁ rfl
  refine wpAny_updateSeq hS₂ rfl ?_
  have hS₃ := Heap.get?_update_self (Obj.mapSeq (·.pop)) hS₂ rfl
  have oth : ∀ b o, b ≠ s.heap.objs.size → (s.heap.push { cls := .type "list", data := .seq ([] : List Value).toArray }).get? b = some o →
      (((s.heap.push { cls := .type "list", data := .seq ([] : List Value).toArray }).update s.heap.objs.size (Obj.mapSeq (·.push Value.none))).update s.heap.objs.size (Obj.mapSeq (·.pop))).get? b = some o :=
    fun b o hb e => (Heap.get?_update_other _ _ (Ne.symm hb)).trans ((Heap.get?_update_other _ _ (Ne.symm hb)).trans e)
  refine wpAny_pure ⟨plainId_quiet F.plain_extend_loop _, codeAny_extend_loopS W hn _ hSf _ items.size 0 _ _ _ rfl (Nat.zero_le _)
    (W.frame 0 ({ s with heap := s.heap.push { cls := .type "list", data := .seq ([] : List Value).toArray }, toks := tk } : Shared) _ tk hst₂ (Nat.le_refl _) fun b hb o e => oth b o (fun h => hSf (h ▸ hb)) e) hS₃ (ItemsOf.nil _) fun s' acc' c' hm hS' hacc => ?_⟩
  show wpAny _ A (load s.heap.objs.size >>= _) _ _ s'
  refine wpAny_bind (wpAny_load hS' ?_)
  refine wpAny_pure (hQ s' acc' ⟨fun b o hb e => hm.heap b o (fun hb2 => ?_) (oth b o (Nat.ne_of_lt (Heap.lt_size e)) (Heap.get?_push_of_some _ e)), hm.gens, hm.drawn, hm.os, Nat.le_trans htk hm.toks⟩ hacc)
  rcases List.mem_cons.mp hb2 with h | h
  · exact absurd h (Nat.ne_of_lt (Heap.lt_size e))
  · exact hb h
open PyProof.Rows in
theorem RvT.code {Q₁ : Value → Shared → Prop} {I l : Addr} {items : Array Value} (hh : A.handled = none) (hit : RvT.At s.heap I l ((items.size : Int) - 1)) (ht : IsTup s.heap l items) (hne : l ≠ I) (h1 : 1 ≤ items.size) (hz : items.size ≤ 1000)
    (h : ∀ s' acc, Moved [I] (fun a b => b = a) s s' → ItemsOf (fun i v => items[items.size - 1 - i]? = some v) acc items.size → Q₁ (.ref s'.heap.objs.size) { s' with heap := s'.heap.push { cls := .type "tuple", data := .seq acc } }) :
    codeAny (model prog w) A (.call (.builtin "tuple.__new__") ⟨[.type "tuple", .ref I], []⟩) (wants Q₁ E) s := by
  refine codeAny_of_tree ?_
  show wpAny _ A.in1 (do checkBuiltinCall "tuple.__new__" ⟨[.type "tuple", .ref I], []⟩; again (.builtin "tuple.__new__" ⟨[.type "tuple", .ref I], []⟩)) _ _ s
  refine wpAny_bind (wpAny_of_eq (F.newCall_tuple_1 _) (wpAny_pure ⟨plainId_quiet F.plain_tuple_new _, codeAny_builtin F.entry_tuple_new ?_⟩))
  rw [Around.under_plainId F.plain_tuple_new _]
  have hsub := sub_tuple_self
  have hinit := init_tuple_lookup
  have hmh := madeHere_tuple
  have hTI := hit.typeIs
  wp_walk using wpAny_typeOf hTI, RvT.collect (A := A.in1) hh hit ht hne h1 hz
  intro s' acc hm hacc
  show wpAny _ _ (Builtin.Tuple.tupleExact acc.toList.toArray >>= fun v => ret v) _ _ _
  unfold Builtin.Tuple.tupleExact
  refine wpAny_bind (wpAny_newObj_type ?_ (by show acc.toList.toArray.size ≤ sizeLine; simp only [Array.toArray_toList]; rw [hacc.1]; exact Nat.le_trans hz (by decide)))
  refine wpAny_pure ?_
  have e : acc.toList.toArray = acc := by simp
  rw [e]
  exact h s' acc hm hacc
open PyProof.Rows in
theorem RvT.tuple {Q : Value → Shared → Prop} {I l : Addr} {items : Array Value} (hh : A.handled = none) (hit : RvT.At s.heap I l ((items.size : Int) - 1)) (ht : IsTup s.heap l items) (hne : l ≠ I) (h1 : 1 ≤ items.size) (hz : items.size ≤ 1000)
    (hQ : ∀ s' acc, Moved [I] (fun a b => b = a) s s' → ItemsOf (fun i v => items[items.size - 1 - i]? = some v) acc items.size → Q (.ref s'.heap.objs.size) { s' with heap := s'.heap.push { cls := .type "tuple", data := .seq acc } }) :
    wpAny (model prog w) A (PySem.call (.type "tuple") [.ref I]) Q E s := by
  refine callType_codes (Q₁ := fun obj s₁ => s₁.TypeIs obj "tuple" ∧ Q obj s₁) F.called_tuple (F.typeCall_tuple_1 _) F.entry_object_init
    (RvT.code hh hit ht hne h1 hz fun s' acc hm hacc => ⟨⟨_, Heap.get?_push_size _ rfl, rfl⟩, hQ s' acc hm hacc⟩) fun obj s₁ h₁ => ?_
  exact ⟨h₁.1, F.args_object_init_2 obj _, object_init_meets F.called_tuple.init.lookup F.called_tuple.made (by decide) prog w A.in1 _ s₁ ⟨h₁.1, rfl, h₁.2⟩⟩
end
end PySem
namespace L2
open PySem PySem.Spec PyProof.Rows
end L2

/-! ### islower, a text in a text, None in a list of trees -/
namespace L2
open PySem PyProof.Rows
variable {X : Cx} {K : PySem.W.Frag}
end L2

/-! ### list.count -/
namespace L2
open PySem PyProof.Rows
variable {X : Cx} {K : PySem.W.Frag}
end L2

/-! ### tables of sets: their places rise -/
namespace PySem
namespace StB
open SetTable
def Ris (xs : Array Nat) : Prop := xs.toList.Pairwise (· < ·)
theorem Ris.lt {xs : Array Nat} (h : Ris xs) {a b : Nat} (hab : a < b) (hb : b < xs.size) : xs[a]'(by omega) < xs[b] := by
  have := List.pairwise_iff_getElem.mp h a b (by simpa using (by omega : a < xs.size)) (by simpa using hb) hab
  simpa using this
theorem getD_at {xs : Array Nat} {i j : Nat} (h : i < xs.size) : xs.getD i j = xs[i] := by
  simp [Array.getD, h]
theorem go_spec {xs : Array Nat} {j : Nat} (hr : Ris xs) : ∀ (fuel lo hi : Nat), hi - lo ≤ fuel → lo ≤ hi → hi ≤ xs.size → (∀ i (h : i < xs.size), i < lo → xs[i] < j) → (∀ i (h : i < xs.size), hi ≤ i → j ≤ xs[i]) →
    below.go xs j fuel lo hi ≤ xs.size ∧ (∀ i (h : i < xs.size), i < below.go xs j fuel lo hi → xs[i] < j) ∧ (∀ i (h : i < xs.size), below.go xs j fuel lo hi ≤ i → j ≤ xs[i])
  | 0, lo, hi, h1, h2, h3, h4, h5 => by
    have e : lo = hi := by omega
    subst e
    exact ⟨h3, h4, h5⟩
  | fuel + 1, lo, hi, h1, h2, h3, h4, h5 => by
    unfold below.go
    by_cases hlt : lo < hi
    · rw [if_pos hlt]
      dsimp only
      have hm : (lo + hi) / 2 < xs.size := by omega
      rw [getD_at hm]
      by_cases hc : xs[(lo + hi) / 2] < j
      · rw [if_pos hc]
        refine go_spec hr fuel _ _ (by omega) (by omega) h3 (fun i h hi' => ?_) h5
        by_cases e : i = (lo + hi) / 2
        · subst e; exact hc
        · exact Nat.lt_trans (hr.lt (by omega) hm) hc
      · rw [if_neg hc]
        refine go_spec hr fuel _ _ (by omega) (by omega) (by omega) h4 (fun i h hi' => ?_)
        by_cases e : i = (lo + hi) / 2
        · subst e; omega
        · have := hr.lt (show (lo + hi) / 2 < i by omega) h
          omega
    · rw [if_neg hlt]
      have e : lo = hi := by omega
      subst e
      exact ⟨h3, h4, h5⟩
theorem below_spec {xs : Array Nat} {j : Nat} (hr : Ris xs) : below xs j ≤ xs.size ∧ (∀ i (h : i < xs.size), i < below xs j → xs[i] < j) ∧ (∀ i (h : i < xs.size), below xs j ≤ i → j ≤ xs[i]) :=
  go_spec hr xs.size 0 xs.size (by omega) (Nat.zero_le _) (Nat.le_refl _) (fun i h h' => absurd h' (Nat.not_lt_zero _)) (fun i h h' => absurd h (by omega))
/-- behind the i-th place: the next one -/
theorem below_next {xs : Array Nat} (hr : Ris xs) {i : Nat} (hi : i ≤ xs.size) : below xs (if h : 0 < i ∧ i - 1 < xs.size then xs[i - 1]'h.2 + 1 else 0) = i := by
  obtain ⟨b1, b2, b3⟩ := below_spec (xs := xs) (j := if h : 0 < i ∧ i - 1 < xs.size then xs[i - 1]'h.2 + 1 else 0) hr
  generalize hj : (if h : 0 < i ∧ i - 1 < xs.size then xs[i - 1]'h.2 + 1 else 0) = j at b1 b2 b3
  by_cases h0 : i = 0
  · subst h0
    rw [dif_neg (by omega)] at hj
    subst hj
    cases hb : below xs 0 with
    | zero => rfl
    | succ k =>
      have := b2 0 (by omega) (by omega)
      omega
  · have hh : 0 < i ∧ i - 1 < xs.size := ⟨by omega, by omega⟩
    rw [dif_pos hh] at hj
    rcases Nat.lt_trichotomy (below xs j) i with h | h | h
    · have h1 := b3 (i - 1) hh.2 (by omega)
      omega
    · exact h
    · have h1 := b2 i (by omega) h
      have h2 := hr.lt (show i - 1 < i by omega) (by omega)
      omega
theorem insert_ris {xs : Array Nat} {j : Nat} (hr : Ris xs) (hj : xs[below xs j]? ≠ some j) : Ris (insertAt xs (below xs j) j) := by
  obtain ⟨b1, b2, b3⟩ := below_spec (xs := xs) (j := j) hr
  unfold Ris
  rw [SetTable.toList_insertAt]
  have e : xs.toList = xs.toList.take (below xs j) ++ xs.toList.drop (below xs j) := (List.take_append_drop _ _).symm
  have hp := hr
  unfold Ris at hp
  rw [e, List.pairwise_append] at hp
  obtain ⟨p1, p2, p3⟩ := hp
  rw [List.pairwise_append, List.pairwise_cons]
  have up : ∀ y ∈ xs.toList.drop (below xs j), j < y := fun y hy => by
    obtain ⟨k, hk, rfl⟩ := List.getElem_of_mem hy
    rw [List.length_drop, Array.length_toList] at hk
    have hlt : below xs j + k < xs.size := by omega
    have e1 : (xs.toList.drop (below xs j))[k] = xs[below xs j + k] := by simp
    rw [e1]
    have h1 := b3 _ hlt (by omega)
    by_cases h0 : k = 0
    · subst h0
      refine Nat.lt_of_le_of_ne h1 fun e => hj ?_
      rw [Array.getElem?_eq_getElem (by omega)]
      exact congrArg some e.symm
    · have h2 := b3 _ (show below xs j < xs.size by omega) (Nat.le_refl _)
      have := hr.lt (show below xs j < below xs j + k by omega) hlt
      omega
  have down : ∀ y ∈ xs.toList.take (below xs j), y < j := fun y hy => by
    obtain ⟨k, hk, rfl⟩ := List.getElem_of_mem hy
    rw [List.length_take, Array.length_toList] at hk
    have e1 : (xs.toList.take (below xs j))[k] = xs[k]'(by omega) := by simp
    rw [e1]
    exact b2 k (by omega) (by omega)
  refine ⟨p1, ⟨up, p2⟩, fun a ha b hb => ?_⟩
  rcases List.mem_cons.mp hb with rfl | hb
  · exact down a ha
  · exact Nat.lt_trans (down a ha) (up b hb)
/-- a slot that is free is no place -/
theorem slot_free {t : SetTable} {j : Nat} (h : t.slot j = .empty ∨ t.slot j = .dummy) : t.place[below t.place j]? ≠ some j := fun e => by
  unfold SetTable.slot at h
  dsimp only at h
  rw [e, if_pos (by simp)] at h
  rcases h with h | h <;> cases h
theorem probe_free {t : SetTable} {f : Nat → Int} {h : Int} : ∀ (fuel : Nat) (p : Probe) (j : Nat) (d : Option Nat), (∀ x, p.dummy = some x → t.slot x = .dummy) → probe.go t f h fuel p = some (.empty j d) → t.slot j = .empty ∧ ∀ x, d = some x → t.slot x = .dummy
  | 0, p, j, d, hp, e => by cases e
  | fuel + 1, p, j, d, hp, e => by
    unfold probe.go at e
    cases hs : t.slot p.j with
    | empty =>
      rw [hs] at e
      cases e
      exact ⟨hs, hp⟩
    | dummy =>
      rw [hs] at e
      refine probe_free fuel _ j d (fun x hx => ?_) e
      unfold advance at hx
      split at hx
      · cases hx
        exact hs
      · cases hx
        exact hs
    | live i =>
      rw [hs] at e
      dsimp only at e
      split at e
      · cases e
      · refine probe_free fuel _ j d (fun x hx => ?_) e
        unfold advance at hx
        split at hx
        · exact hp x hx
        · exact hp x hx
theorem free_free {t : SetTable} {h : Int} {j : Nat} {b : Bool} (e : t.freeSlot h = some (j, b)) : t.place[below t.place j]? ≠ some j := by
  unfold SetTable.freeSlot at e
  cases hp : t.probe (fun _ => h + 1) h (t.probeStart h) with
  | none => rw [hp] at e; cases e
  | some m =>
    rw [hp] at e
    cases m with
    | candidate _ _ _ => cases e
    | empty j' d =>
      have e := Option.some.inj e
      obtain ⟨h1, h2⟩ := probe_free _ _ j' d (fun x hx => by cases hx) hp
      have ej : d.getD j' = j := (Prod.mk.inj e).1
      cases d with
      | none =>
        have ej : j' = j := ej
        subst ej
        exact slot_free (.inl h1)
      | some x =>
        have ej : x = j := ej
        subst ej
        exact slot_free (.inr (h2 x rfl))
theorem range_ris (n : Nat) : Ris (Array.range n) := by
  unfold Ris
  rw [Array.toList_range]
  exact List.pairwise_lt_range
theorem orStandIn_ris {t : SetTable} {n : Nat} (h : Ris t.place) : Ris (t.orStandIn n).place ∧ (t.orStandIn n).led = t.led := by
  unfold SetTable.orStandIn
  split
  · exact ⟨h, rfl⟩
  · exact ⟨range_ris _, rfl⟩
theorem sub_places {β : Type} (f : Nat → Option β) : ∀ l : List Nat, ((l.filterMap fun j => (f j).map (j, ·)).map (·.1)).Sublist l
  | [] => .slnil
  | j :: l => by
    have ih := sub_places f l
    rw [List.filterMap_cons]
    cases f j with
    | none => exact .cons _ ih
    | some x => exact .cons₂ _ ih
theorem layNew_ris {t : SetTable} {es : Array (Int × Value)} {h : Int} {x : Value} (hr : Ris t.place) : Ris (layNew t es h x).2.1.place ∧ (layNew t es h x).2.1.led = t.led := by
  unfold layNew
  cases e : t.freeSlot h with
  | none => exact ⟨range_ris _, rfl⟩
  | some jb =>
    obtain ⟨j, b⟩ := jb
    dsimp only
    have hi := insert_ris hr (free_free e)
    exact orStandIn_ris (t := (t.put j).1) hi
theorem relayAll_ris {t : SetTable} {es : Array (Int × Value)} {n : Nat} : Ris (relayAll t es n).2.1.place ∧ (relayAll t es n).2.1.led = t.led := by
  unfold relayAll
  cases e : t.relaid (es.map (·.1)) n with
  | none => exact ⟨range_ris _, rfl⟩
  | some to =>
    obtain ⟨t', order⟩ := to
    dsimp only
    split
    · unfold SetTable.relaid SetTable.laid at e
      dsimp only
      cases hl : layClean (sizeAbove n - 1) (es.map (·.1)) with
      | none => rw [hl] at e; cases e
      | some owner =>
        rw [hl] at e
        have e := Option.some.inj e
        have e1 := (Prod.mk.inj e).1
        rw [← e1]
        refine ⟨?_, rfl⟩
        unfold Ris
        dsimp only
        exact List.pairwise_lt_range.sublist (sub_places _ _)
    · exact ⟨range_ris _, rfl⟩
def vOf : Value → Int
  | .int i _ => i
  | _ => 0
/-- a set of these ints, its table in order -/
def At (prog : Program) (w : World) (h : Heap) (a : Addr) (led : Bool) (l : List Int) : Prop :=
  ∃ o es ep t, h.get? a = some o ∧ o.ExactSet ∧ o.data = .set es ep t ∧ ElemsOf (intKind prog w) es.toList ∧ (es.toList.map fun e => vOf e.2).Perm l ∧ es.size < scanBound ∧ t.fits es.size = true ∧ Ris t.place ∧ t.led = led
section
variable {prog : Program} {w : World} {A : Around} {E : Value → Shared → Prop} {s : Shared}
theorem find_iff {es : List (Int × Value)} (h : ElemsOf (intKind prog w) es) (k : Int) : (∃ j, es.findIdx? (fun e => (intKind prog w).is k e.2) = some j) ↔ k ∈ es.map (fun e => vOf e.2) := by
  constructor
  · rintro ⟨j, e⟩
    obtain ⟨hj, hpj, _⟩ := List.findIdx?_eq_some_iff_getElem.mp e
    obtain ⟨t, et⟩ := Value.isInt_shape hpj
    refine List.mem_map.mpr ⟨es[j], List.getElem_mem hj, ?_⟩
    rw [et]
    rfl
  · intro hk
    obtain ⟨e, he, hv⟩ := List.mem_map.mp hk
    cases hf : es.findIdx? (fun e => (intKind prog w).is k e.2) with
    | some j => exact ⟨j, rfl⟩
    | none =>
      have h1 := List.findIdx?_eq_none_iff.mp hf e he
      obtain ⟨⟨k', hk', _⟩, _⟩ := h e he
      obtain ⟨t, et⟩ := Value.isInt_shape hk'
      rw [et] at hv h1
      have hv : k' = k := hv
      subst hv
      rw [show (intKind prog w).is k' (.int k' t) = true from intKind_is _ _ _ _] at h1
      cases h1
theorem store {h : Heap} {a : Addr} {o : Obj} {es : Array (Int × Value)} {ep : Nat} {t : SetTable} (ho : h.get? a = some o) (hex : o.ExactSet) (hd : o.data = .set es ep t)
    {es' : Array (Int × Value)} {t' : SetTable} {led : Bool} {l : List Int} (hel : ElemsOf (intKind prog w) es'.toList) (hp : (es'.toList.map fun e => vOf e.2).Perm l) (hb : es'.size < scanBound) (hf : t'.fits es'.size = true) (hr : Ris t'.place) (hl : t'.led = led) :
    (h.update a (Obj.putSet es' t')).get? a = some { o with data := .set es' (ep + 1) t' } ∧ At prog w (h.update a (Obj.putSet es' t')) a led l := by
  have hg : (h.update a (Obj.putSet es' t')).get? a = some { o with data := .set es' (ep + 1) t' } := by
    have := Heap.get?_update_self (Obj.putSet es' t') ho (by rw [putSet_of es' t' hd]; rfl)
    rw [putSet_of es' t' hd] at this
    exact this
  exact ⟨hg, _, es', ep + 1, t', hg, hex, rfl, hel, hp, hb, hf, hr, hl⟩
theorem tail {g : Bool → Sem Unit} (hg : ∀ (b : Bool) (s₁ : Shared) (Q' : Unit → Shared → Prop), Q' () s₁ → wpAny (model prog w) A (g b) Q' E s₁)
    {a : Addr} {o : Obj} {es : Array (Int × Value)} {ep : Nat} {t : SetTable} (ho : s.heap.get? a = some o) (hex : o.ExactSet) (hd : o.data = .set es ep t)
    {es1 : Array (Int × Value)} {t2 : SetTable} {led : Bool} {l : List Int} (hel1 : ElemsOf (intKind prog w) es1.toList) (hp1 : (es1.toList.map fun e => vOf e.2).Perm l)
    (hb1 : es1.size < scanBound) (hf2 : t2.fits es1.size = true) (hr2 : Ris t2.place) (hl2 : t2.led = led) {wasDummy : Bool} {R : Option Bool → Shared → Prop}
    (h : ∀ h', Heap.SameBut a s.heap h' → At prog w h' a led l → R (some true) { s with heap := h' }) :
    wpAny (model prog w) A (do
        storeSet a es1 t2
        if (!wasDummy && t2.tooFull) = true then do
            g (relayAll t2 es1 (SetTable.grown es1.size)).2.2
            storeSet a (relayAll t2 es1 (SetTable.grown es1.size)).1 (relayAll t2 es1 (SetTable.grown es1.size)).2.1
            pure (some true)
          else pure (some true)) R E s := by
  refine wpAny_bind (wpAny_storeSet_of ho hd ?_ (fits_of_scanBound hb1))
  obtain ⟨ho1, hS1⟩ := store (prog := prog) (w := w) ho hex hd hel1 hp1 hb1 hf2 hr2 hl2
  have hsb1 := Heap.SameBut.update s.heap a (Obj.putSet es1 t2)
  split
  · have hp := relayAll_perm t2 es1 (SetTable.grown es1.size)
    have hfr := relayAll_fits t2 es1 (SetTable.grown es1.size)
    have hrr := relayAll_ris (t := t2) (es := es1) (n := SetTable.grown es1.size)
    generalize hRl : relayAll t2 es1 (SetTable.grown es1.size) = Rl at hp hfr hrr ⊢
    obtain ⟨es2, t3, gave2⟩ := Rl
    dsimp only at hp hfr hrr ⊢
    have hsz : es2.size = es1.size := by rw [← Array.length_toList, hp.length_eq, Array.length_toList]
    have hb2 : es2.size < scanBound := by rw [hsz]; exact hb1
    refine wpAny_bind (hg _ _ _ ?_)
    refine wpAny_bind (wpAny_storeSet_of ho1 rfl ?_ (fits_of_scanBound hb2))
    obtain ⟨_, hS2⟩ := store (prog := prog) (w := w) ho1 hex rfl (hel1.perm hp) ((hp.map _).trans hp1) hb2 hfr hrr.1 (hrr.2.trans hl2)
    exact wpAny_pure (h _ (hsb1.trans (Heap.SameBut.update _ a _)) hS2)
  · exact wpAny_pure (h _ hsb1 hS1)
theorem add {a : Addr} {led : Bool} {l : List Int} {k : Int} {tk : Tok} {Q : Bool → Shared → Prop} (hS : At prog w s.heap a led l) (hroom : l.length + 1 < scanBound)
    (h : ∀ (b : Bool) h', Heap.SameBut a s.heap h' → At prog w h' a led (if k ∈ l then l else l ++ [k]) → Q b { s with heap := h' }) :
    wpAny (model prog w) A (setAddHashed a (.int k tk) ((intKind prog w).hash k)) Q E s := by
  obtain ⟨o, es, ep, t, ho, hex, hd, hel, hpm, hb, hf, hr, hled⟩ := hS
  have hkey : (intKind prog w).is k (.int k tk) = true := intKind_is _ _ _ _
  have hsc : (Value.int k tk).scannable = true := rfl
  have hn : es.size = l.length := by rw [← hpm.length_eq, List.length_map, Array.length_toList]
  have hmem : k ∈ l ↔ k ∈ es.toList.map (fun e => vOf e.2) := hpm.mem_iff.symm
  unfold setAddHashed setAddHashedIn
  refine wpAny_holding (wpAny_bind (wpAny_setState_of ho hd hf ?_))
  dsimp only
  rw [byScan_of hsc hb hel]
  simp only [↓reduceIte]
  unfold setAddByScan
  refine wpAny_bind ?_
  refine wpAny_bind (wpAny_rule ?_)
  refine wpAny_bind (wpAny_setScan_of hkey ho hd hf hel ?_)
  cases hr' : List.findIdx? (fun e => (intKind prog w).is k e.2) es.toList with
  | some j =>
    dsimp only
    have hk : k ∈ l := hmem.mpr ((find_iff hel k).mp ⟨j, hr'⟩)
    refine wpAny_pure (wpAny_pure ?_)
    have := h false s.heap (Heap.SameBut.refl a s.heap) (by rw [if_pos hk]; exact ⟨o, es, ep, t, ho, hex, hd, hel, hpm, hb, hf, hr, hled⟩)
    have e : s = { s with heap := s.heap } := by cases s; rfl
    rw [e]
    exact this
  | none =>
    dsimp only
    have hk : ¬ k ∈ l := fun z => by
      obtain ⟨j, e⟩ := (find_iff hel k).mpr (hmem.mp z)
      rw [e] at hr'
      cases hr'
    have hgw : ∀ (b : Bool) {s₁ : Shared} {Q' : Unit → Shared → Prop}, Q' () s₁ → wpAny (model prog w) A (match b with | true => rule "set.scan.the-table-gave-way" | false => pure ()) Q' E s₁ :=
      fun b s₁ Q' hq => by cases b <;> first | exact wpAny_pure hq | exact wpAny_rule hq
    have hperm := layNew_perm t es ((intKind prog w).hash k) (.int k tk)
    have hfits := layNew_fits t es ((intKind prog w).hash k) (.int k tk)
    have hris := layNew_ris (t := t) (es := es) (h := (intKind prog w).hash k) (x := .int k tk) hr
    generalize hL : layNew t es ((intKind prog w).hash k) (.int k tk) = L at hperm hfits hris ⊢
    obtain ⟨es1, t1, wasDummy, gave⟩ := L
    dsimp only at hperm hfits hris ⊢
    rw [Array.toList_push] at hperm
    have hel1 : ElemsOf (intKind prog w) es1.toList := (hel.push hkey hsc).perm hperm
    have hp1 : (es1.toList.map fun e => vOf e.2).Perm (l ++ [k]) := by
      refine (hperm.map _).trans ?_
      rw [List.map_append]
      exact hpm.append (.refl _)
    have hb1 : es1.size < scanBound := by rw [← Array.length_toList, hperm.length_eq, List.length_append, Array.length_toList, hn]; simpa using hroom
    refine wpAny_bind (hgw _ ?_)
    have hend : ∀ h', Heap.SameBut a s.heap h' → At prog w h' a led (l ++ [k]) → Q true { s with heap := h' } := fun h' hsb hS' => h true h' hsb (by rw [if_neg hk]; exact hS')
    split
    · refine wpAny_bind ?_
      rw [hashByValue_scannable 8 hsc]
      refine wpAny_pure ?_
      refine tail ?_ ho hex hd hel1 hp1 hb1 ?_ ?_ ?_ ?_ (led := led)
      · intro b s₁ Q' hq; cases b <;> first | exact wpAny_pure hq | exact wpAny_rule hq
      · split
        · exact hfits
        · exact SetTable.fits_plain_off hfits
      · split <;> exact hris.1
      · split <;> exact hris.2.trans hled
      · intro h' hsb hS'; dsimp only; exact wpAny_pure (hend h' hsb hS')
    · refine wpAny_bind (wpAny_pure ?_)
      simp only [↓reduceIte]
      refine tail ?_ ho hex hd hel1 hp1 hb1 hfits hris.1 (hris.2.trans hled) ?_
      · intro b s₁ Q' hq; cases b <;> first | exact wpAny_pure hq | exact wpAny_rule hq
      · intro h' hsb hS'; dsimp only; exact wpAny_pure (hend h' hsb hS')
end
end StB
end PySem

/-! ### set(list of ints) -/
namespace PySem
open PyProof.Rows
namespace StB
/-- each of them once, in the order in which they are met -/
def once (l : List Int) (k : Int) : List Int := if k ∈ l then l else l ++ [k]
def firsts (val : Nat → Int) : Nat → List Int
  | 0 => []
  | i + 1 => once (firsts val i) (val i)
theorem firsts_len (val : Nat → Int) : ∀ i, (firsts val i).length ≤ i
  | 0 => Nat.le_refl 0
  | i + 1 => by
    have := firsts_len val i
    unfold firsts once
    split
    · omega
    · rw [List.length_append, List.length_singleton]
      omega
section
variable {prog : Program} {w : World} {A : Around} {R : Result → Shared → Prop} {I : Addr} {fp wr : List Addr} {G : Array GenState → Array GenState → Prop} {n : Nat} {P : Nat → Value → Prop} {St : Nat → Shared → Prop}
theorem loop (W : WalksS prog w A.in1 I fp wr G n P St) (S : Addr) (hSf : S ∉ fp) (led : Bool)
    (val : Nat → Int) (hval : ∀ i v, P i v → ∃ t, v = .int (val i) t) (hb : n + 1 < scanBound) :
    ∀ (k i : Nat) (s : Shared), n - i = k → i ≤ n → St i s → At prog w s.heap S led (firsts val i) →
      (∀ s', Moved (S :: wr) G s s' → At prog w s'.heap S led (firsts val n) → R (.ok (.ret .none)) s') →
      codeAny (model prog w) A (.builtin "set.update.loop" ⟨[.ref S, .ref I], []⟩) R s := by
  have hSw : S ∉ wr := fun h => hSf (W.sub _ h)
  have hsub : ∀ b ∈ wr, b ∈ S :: wr := fun b hb => List.mem_cons_of_mem _ hb
  intro k
  induction k with
  | zero =>
    intro i s hk hi hst hS hR
    have hin : i = n := by omega
    subst hin
    refine codeAny_builtin F.entry_set_update_loop ?_
    rw [Around.under_plainId F.plain_set_update_loop _]
    show wpAny _ A.in1 (pyNext (.ref I) >>= _) _ _ s
    refine wpAny_bind (W.done s _ _ hst fun s' hm => ?_)
    show wpAny _ A.in1 (ret Value.none) _ _ s'
    exact wpAny_pure (hR s' (hm.mono hsub) (by
      obtain ⟨o, es, ep, t, ho, rest⟩ := hS
      exact ⟨o, es, ep, t, hm.heap S _ hSw ho, rest⟩))
  | succ k ih =>
    intro i s hk hi hst hS hR
    have hlt : i < n := by omega
    refine codeAny_builtin F.entry_set_update_loop ?_
    rw [Around.under_plainId F.plain_set_update_loop _]
    show wpAny _ A.in1 (pyNext (.ref I) >>= _) _ _ s
    refine wpAny_bind (W.item i s _ _ hlt hst fun v s' hP hst' hm => ?_)
    obtain ⟨t, rfl⟩ := hval i v hP
    have hS' : At prog w s'.heap S led (firsts val i) := by
      obtain ⟨o, es, ep, tb, ho, rest⟩ := hS
      exact ⟨o, es, ep, tb, hm.heap S _ hSw ho, rest⟩
    show wpAny _ A.in1 (holding [Value.int (val i) t] (setAdd S (.int (val i) t)) >>= _) _ _ s'
    refine wpAny_bind (wpAny_holding ?_)
    unfold setAdd
    refine wpAny_holding ?_
    refine wpAny_bind ((intKind prog w).pyHash (k := val i) (intKind_is _ _ _ _) ?_)
    have hroom : (firsts val i).length + 1 < scanBound := by have := firsts_len val i; omega
    refine add (s := { s' with toks := s'.toks + 1 }) hS' hroom fun b h' hsb hS2 => ?_
    refine wpAny_pure ⟨plainId_quiet F.plain_set_update_loop _, ih (i + 1) _ (by omega) hlt (W.frame _ s' _ _ hst' (Nat.le_succ _) fun b hb o e => ?_) hS2 fun s'' hm'' hS'' => ?_⟩
    · rw [hsb.2 b (fun h : b = S => hSf (by rw [← h]; exact hb))]; exact e
    · refine hR s'' (Moved.trans W.gtrans ((hm.mono hsub).then_heap (Nat.le_succ _) fun b o hb e => ?_) hm'') hS''
      rw [hsb.2 b (fun h : b = S => hb (by rw [h]; exact List.mem_cons_self))]; exact e
end
section
variable {prog : Program} {w : World} {A : Around} {E : Value → Shared → Prop} {s : Shared}
def obj0 (led : Bool) : Obj := { cls := .type "set", dict := none, data := .set #[] 0 (.fresh 0 0 led) }
theorem new_1 (a : Value) {Q₁ : Value → Shared → Prop} (h : Q₁ (.ref s.heap.objs.size) { s with heap := s.heap.push (obj0 (!w.params.followText "set-order")) }) :
    codeAny (model prog w) A (.call (.builtin "set.__new__") ⟨[.type "set", a], []⟩) (wants Q₁ E) s := by
  refine codeAny_of_tree ?_
  show wpAny _ A.in1 (do checkBuiltinCall "set.__new__" ⟨[.type "set", a], []⟩; again (.builtin "set.__new__" ⟨[.type "set", a], []⟩)) _ _ s
  refine wpAny_bind (wpAny_of_eq (F.newCall_set_1 a) (wpAny_pure ⟨plainId_quiet F.plain_set_new _, codeAny_builtin F.entry_set_new ?_⟩))
  rw [Around.under_plainId F.plain_set_new _]
  unfold Builtin.«set.__new__» Builtin.Frozenset.newClass
  have hsub := sub_set_self
  obtain ⟨hp, g, d, tk, os⟩ := s
  dsimp only
  wp_walk
  refine wpAny_askSetting (wpAny_pure ?_)
  dsimp only
  simp only [newObj]
  refine wpAny_bind (wpAny_alloc (wpAny_pure ?_))
  exact wpAny_pure h
theorem at0 {h : Heap} {a : Addr} {led : Bool} (e : h.get? a = some (obj0 led)) : At prog w h a led [] :=
  ⟨_, #[], 0, _, e, ⟨rfl, rfl, rfl⟩, rfl, fun e he => (by simp at he), .refl _, by decide, by rfl, List.Pairwise.nil, rfl⟩
end
end StB
end PySem

/-! ### a set walked -/
namespace PySem
open PyProof.Rows
namespace StB
theorem owner_it : Manifest.owners.lookup (String.ofList ['r', 'o', 't', 'a', 'r', 'e', 't', 'i', '_', 't', 'e', 's'].reverse) = some Manifest.sig_set_iterator := by kernel_rfl
theorem slot_next : Slot "set_iterator" "__next__" "set_iterator.__next__" :=
  .of (owner := "set_iterator") (n := "__next__") (by rw [typeLookup_type, builtinLookup_eq_fast]; kernel_rfl) (by decide +kernel) (by decide +kernel) (by decide +kernel)
    (by first | exact .inl (by decide +kernel) | exact .inr (by decide +kernel)) (by rw [isSubtype_type]; kernel_rfl)
theorem entry_next : entryFor table "set_iterator.__next__" = some Builtin.«set_iterator.__next__» := entryFor_of_tree (by kernel_rfl)
theorem args_next_1 (a : Value) : argsOk "set_iterator.__next__" ⟨[a], []⟩ := by
  unfold argsOk; rw [signature?_of (id := "set_iterator.__next__") (n := ['_', '_', 't', 'x', 'e', 'n', '_', '_']) (o := ['r', 'o', 't', 'a', 'r', 'e', 't', 'i', '_', 't', 'e', 's']) (by kernel_rfl) owner_it]; kernel_rfl
theorem slot_iter : Slot "set_iterator" "__iter__" "set_iterator.__iter__" :=
  .of (owner := "set_iterator") (n := "__iter__") (by rw [typeLookup_type, builtinLookup_eq_fast]; kernel_rfl) (by decide +kernel) (by decide +kernel) (by decide +kernel)
    (by first | exact .inl (by decide +kernel) | exact .inr (by decide +kernel)) (by rw [isSubtype_type]; kernel_rfl)
theorem args_iter_1 (a : Value) : argsOk "set_iterator.__iter__" ⟨[a], []⟩ := by
  unfold argsOk; rw [signature?_of (id := "set_iterator.__iter__") (n := ['_', '_', 'r', 'e', 't', 'i', '_', '_']) (o := ['r', 'o', 't', 'a', 'r', 'e', 't', 'i', '_', 't', 'e', 's']) (by kernel_rfl) owner_it]; kernel_rfl
theorem entry_iter : entryFor table "set_iterator.__iter__" = some Builtin.«dict_keyiterator.__iter__» :=
  entryFor_alias (id' := "dict_keyiterator.__iter__") (by kernel_rfl) (by first | rfl | decide +kernel | (unfold String.splitOn; simp +decide [String.splitOnAux])) (by decide +kernel) (by kernel_rfl)
theorem entry_set_iter : entryFor table "set.__iter__" = some Builtin.«frozenset.__iter__» :=
  entryFor_alias (id' := "frozenset.__iter__") (by kernel_rfl) (by first | rfl | decide +kernel | (unfold String.splitOn; simp +decide [String.splitOnAux])) (by decide +kernel) (by kernel_rfl)
/-- the walker's record -/
def It (h : Heap) (I : Addr) (first : Value) (i : Nat) (S : Addr) (n ep : Nat) : Prop := ∃ o, h.get? I = some o ∧ o.cls = .type "set_iterator" ∧ o.data = .fields #[first, rawInt (i : Int), .ref S, rawInt (n : Int), rawInt (ep : Int)]
section
variable {prog : Program} {w : World} {A : Around} {E : Value → Shared → Prop} {s : Shared}
theorem It.typeIs {I S : Addr} {f : Value} {i n ep : Nat} (x : It s.heap I f i S n ep) : s.TypeIs (.ref I) "set_iterator" := let ⟨o, ho, hc, _⟩ := x; ⟨o, ho, hc⟩
theorem It.on {h h' : Heap} {I S : Addr} {f : Value} {i n ep : Nat} (x : It h I f i S n ep) (e : ∀ o, h.get? I = some o → h'.get? I = some o) : It h' I f i S n ep := let ⟨o, ho, r⟩ := x; ⟨o, e _ ho, r⟩
/-- a set's record, whole -/
def Rec (h : Heap) (S : Addr) (es : Array (Int × Value)) (ep : Nat) (t : SetTable) : Prop := ∃ o, h.get? S = some o ∧ o.ExactSet ∧ o.data = .set es ep t
theorem Rec.on {h h' : Heap} {S : Addr} {es : Array (Int × Value)} {ep : Nat} {t : SetTable} (x : Rec h S es ep t) (e : ∀ o, h.get? S = some o → h'.get? S = some o) : Rec h' S es ep t := let ⟨o, ho, r⟩ := x; ⟨o, e _ ho, r⟩
theorem wpAny_choose {src : Source} {n : Nat} {Q : Nat → Shared → Prop} (hn : n ≠ 0) (h : Q (w.draws src (s.drawn.get src) % n) { s with drawn := s.drawn.bump src }) : wpAny (model prog w) A (choose src n) Q E s := fun _ _ _ => ⟨hn, h⟩
/-- __next__, in the mode where the first field is an int -/
theorem next_int {I S : Addr} {slot i n ep : Nat} {es : Array (Int × Value)} {t : SetTable} {x : Value} {nx : Nat} {Q : Option Value → Shared → Prop} (hit : It s.heap I (rawInt (slot : Int)) i S n ep) (hS : Rec s.heap S es ep t) (hf : t.fits es.size = true) (hn : es.size = n)
    (hnext : ∀ (A : Around) (E : Value → Shared → Prop) (Q' : Option (Value × Nat) → Shared → Prop), Q' (some (x, nx)) s → wpAny (model prog w) A (setNext S slot i ep) Q' E s)
    (hQ : ∀ h', It h' I (rawInt (nx : Int)) (i + 1) S n ep → Heap.SameBut I s.heap h' → Q (some x) { s with heap := h' }) : wpAny (model prog w) A (pyNext (.ref I)) Q E s := by
  obtain ⟨o, ho, hc, hd⟩ := id hit
  obtain ⟨oS, hoS, hex, hdS⟩ := id hS
  unfold pyNext
  refine wpAny_bind (wpAny_attempt (wpAny_callSpecial?_slot (name := Str.ofString "__next__") hit.typeIs slot_next
    (wpAny_call_entry slot_next hit.typeIs entry_next ?_ (args_next_1 _))))
  unfold Builtin.«set_iterator.__next__»
  refine wpAny_bind (wpAny_of_eq (a := (Value.ref I, [])) rfl ?_)
  try dsimp only
  refine wpAny_bind (wpAny_fieldsOf ho hd ?_)
  show wpAny _ _ (setEntries S >>= fun _ => _) _ _ _
  refine wpAny_bind (wpAny_setEntries_of hoS hdS hf ?_)
  rw [if_neg (by simp [hn])]
  show wpAny _ _ (setNext S slot i ep >>= fun _ => _) _ _ _
  refine wpAny_bind (hnext _ _ _ ?_)
  dsimp only
  refine wpAny_bind (wpAny_setField ho hd (by simp) ?_)
  have ho2 := Heap.get?_update_self (Obj.mapFields fun vs => vs.set! 0 (rawInt (nx : Int))) ho (Obj.isFreed_of_fields (Obj.data_mapFields hd _))
  refine wpAny_bind (wpAny_setField (s := { s with heap := s.heap.update I (Obj.mapFields fun vs => vs.set! 0 (rawInt (nx : Int))) }) ho2 (Obj.data_mapFields hd _) (by simp) ?_)
  refine wpAny_pure ⟨x, rfl, wpAny_pure (hQ _ ?_ ((Heap.SameBut.update ..).trans (Heap.SameBut.update ..)))⟩
  refine ⟨_, Heap.get?_update_self _ ho2 (Obj.isFreed_of_fields (Obj.data_mapFields (Obj.data_mapFields hd _) _)), (Obj.cls_mapFields ..).trans ((Obj.cls_mapFields ..).trans hc), ?_⟩
  rw [Obj.data_mapFields (Obj.data_mapFields hd _)]
  simp
theorem stop_tail {I : Addr} {h : Heap} {Q : Option Value → Shared → Prop} (hh : A.handled = none) (hQ : ∀ h', (∀ b o, h.get? b = some o → h'.get? b = some o) → Q none { s with heap := h' }) :
    wpAny (model prog w) A.in1 (newExc (.type "StopIteration") [] >>= fun e => (raiseNew e : Sem Fin)) (fun fin s' => ∃ v, fin = Fin.done (Flow.ret v) ∧ wpAny (model prog w) A (pure (some v)) Q E s')
      (fun e s' => wpAny (model prog w) A (isInstance e (.type "StopIteration") >>= fun b => if b = true then pure none else throw e) Q E s') { s with heap := h } := by
  refine wpAny_bind ?_
  simp only [newExc, newTuple]
  refine wpAny_bind (wpAny_newObj_type ?_ (by size_fits))
  refine wpAny_bind (m := firstArgMember _ _) (wpAny_of_eq (a := Value.none) (by first | rfl | (simp only [firstArgMember]; rfl)) ?_)
  refine wpAny_newObj_type ?_ (by size_fits)
  simp only [raiseNew]
  refine wpAny_bind (wpAny_handled ?_)
  first | rw [show A.in1.handled = none from hh] | rw [hh]
  refine wpAny_bind (wpAny_pure (wpAny_throw ?_))
  refine wpAny_bind (wpAny_isInstance (T := "StopIteration") (b := true) ⟨_, Heap.get?_push_size _ rfl, rfl⟩ isSubtype_stop ?_)
  exact wpAny_pure (hQ _ fun b o e => Heap.get?_push_of_some _ (Heap.get?_push_of_some _ e))
theorem end_int {I S : Addr} {slot i n ep : Nat} {es : Array (Int × Value)} {t : SetTable} {Q : Option Value → Shared → Prop} (hh : A.handled = none) (hit : It s.heap I (rawInt (slot : Int)) i S n ep) (hS : Rec s.heap S es ep t) (hf : t.fits es.size = true) (hn : es.size = n)
    (hnext : ∀ (A : Around) (E : Value → Shared → Prop) (Q' : Option (Value × Nat) → Shared → Prop), Q' none s → wpAny (model prog w) A (setNext S slot i ep) Q' E s)
    (hQ : ∀ h', Heap.ExtBut I s.heap h' → Q none { s with heap := h' }) : wpAny (model prog w) A (pyNext (.ref I)) Q E s := by
  obtain ⟨o, ho, hc, hd⟩ := id hit
  obtain ⟨oS, hoS, hex, hdS⟩ := id hS
  unfold pyNext
  refine wpAny_bind (wpAny_attempt (wpAny_callSpecial?_slot (name := Str.ofString "__next__") hit.typeIs slot_next
    (wpAny_call_entry slot_next hit.typeIs entry_next ?_ (args_next_1 _))))
  unfold Builtin.«set_iterator.__next__»
  refine wpAny_bind (wpAny_of_eq (a := (Value.ref I, [])) rfl ?_)
  try dsimp only
  refine wpAny_bind (wpAny_fieldsOf ho hd ?_)
  show wpAny _ _ (setEntries S >>= fun _ => _) _ _ _
  refine wpAny_bind (wpAny_setEntries_of hoS hdS hf ?_)
  rw [if_neg (by simp [hn])]
  show wpAny _ _ (setNext S slot i ep >>= fun _ => _) _ _ _
  refine wpAny_bind (hnext _ _ _ ?_)
  dsimp only
  refine wpAny_bind (wpAny_setField ho hd (by simp) ?_)
  exact stop_tail (I := I) hh fun h' hk => hQ h' fun b o' hb e => hk b o' ((Heap.get?_update_other _ _ (Ne.symm hb)).trans e)
end
end StB
end PySem

/-! ### the orders in which a set is walked -/
namespace PySem
open PyProof.Rows
namespace StB
theorem erase_perm {α : Type} : ∀ (l : List α) (i : Nat) (x : α), l[i]? = some x → (x :: l.eraseIdx i).Perm l
  | [], i, x, h => by simp at h
  | y :: l, 0, x, h => by
    have h : y = x := Option.some.inj h
    subst h
    exact .refl _
  | y :: l, i + 1, x, h => by
    have ih := erase_perm l i x h
    exact (List.Perm.swap y x _).trans (ih.cons y)
theorem pick_go {α : Type} (next : Nat → Nat) : ∀ (fuel k : Nat) (left : List α) (out : Array α), left.length = fuel → (pickOrder.go next fuel k left out).toList.Perm (out.toList ++ left)
  | 0, k, left, out, h => by
    have : left = [] := List.length_eq_zero_iff.mp h
    subst this
    unfold pickOrder.go
    rw [List.append_nil]
  | fuel + 1, k, left, out, h => by
    unfold pickOrder.go
    have hlt : next k % left.length < left.length := Nat.mod_lt _ (by omega)
    rw [List.getElem?_eq_getElem hlt]
    dsimp only
    have e := List.getElem?_eq_getElem hlt
    refine (pick_go next fuel (k + 1) _ _ (by rw [List.length_eraseIdx_of_lt hlt]; omega)).trans ?_
    rw [Array.toList_push, List.append_assoc]
    exact (erase_perm left _ _ e).append_left _
theorem pick_perm {α : Type} (next : Nat → Nat) (xs : Array α) : (pickOrder next xs).toList.Perm xs.toList := by
  have := pick_go next xs.size 0 xs.toList #[] (by simp)
  unfold pickOrder
  simpa using this
section
variable {prog : Program} {w : World} {A : Around} {E : Value → Shared → Prop} {s : Shared}
theorem draw_order {α : Type} : ∀ (n : Nat) (xs : List α) (s : Shared) (Q : List α → Shared → Prop), xs.length = n → (∀ ys d, ys.Perm xs → Q ys { s with drawn := d }) → wpAny (model prog w) A (drawOrder n xs) Q E s
  | 0, xs, s, Q, hl, h => by
    have : xs = [] := List.length_eq_zero_iff.mp hl
    subst this
    unfold drawOrder
    exact wpAny_pure (h [] s.drawn (.refl _))
  | n + 1, [], s, Q, hl, h => by cases hl
  | n + 1, x :: xs, s, Q, hl, h => by
    unfold drawOrder
    refine wpAny_bind (wpAny_choose (by simp) ?_)
    have hlt : w.draws Source.order (s.drawn.get Source.order) % (x :: xs).length < (x :: xs).length := Nat.mod_lt _ (by simp)
    generalize w.draws Source.order (s.drawn.get Source.order) % (x :: xs).length = i at hlt ⊢
    have e := List.getElem?_eq_getElem hlt
    rw [e]
    dsimp only
    refine wpAny_bind (draw_order n _ _ _ (by rw [List.length_eraseIdx_of_lt hlt]; omega) fun ys d hp => ?_)
    exact wpAny_pure (h _ d ((hp.cons _).trans (erase_perm _ _ _ e)))
theorem byText {Q : Bool → Shared → Prop} (h : Q (w.params.followText "set-order") s) : wpAny (model prog w) A setsByText Q E s := by
  unfold setsByText
  exact wpAny_bind (wpAny_askSetting (wpAny_pure h))
theorem setNext_text {S : Addr} {slot i ep : Nat} {es : Array (Int × Value)} {t : SetTable} {Q : Option (Value × Nat) → Shared → Prop} (hS : Rec s.heap S es ep t) (hf : t.fits es.size = true) (hb : w.params.followText "set-order" = true)
    (h : Q (((pickOrder (w.params.setOrder S ep) es)[i]?).map fun e => (e.2, slot)) s) : wpAny (model prog w) A (setNext S slot i ep) Q E s := by
  obtain ⟨o, ho, _, hd⟩ := hS
  unfold setNext
  refine wpAny_bind (wpAny_setState_of ho hd hf ?_)
  dsimp only
  refine wpAny_bind (byText ?_)
  rw [hb, if_pos rfl]
  rw [if_neg (by simp)]
  refine wpAny_bind ?_
  unfold setWalk
  refine wpAny_bind (wpAny_setState_of ho hd hf ?_)
  dsimp only
  refine wpAny_bind (byText ?_)
  rw [hb, if_pos rfl]
  refine wpAny_bind (wpAny_askSetting (wpAny_pure ?_))
  exact wpAny_pure h
theorem setNext_plain {S : Addr} {slot i ep : Nat} {es : Array (Int × Value)} {t : SetTable} {Q : Option (Value × Nat) → Shared → Prop} (hS : Rec s.heap S es ep t) (hf : t.fits es.size = true) (hb : w.params.followText "set-order" = false) (hp : (!t.plain && decide (es.size > 1)) = false) (hl : t.led = true)
    (h : Q (match es[SetTable.below t.place slot]?, t.place[SetTable.below t.place slot]? with | some (_, x), some j => some (x, j + 1) | _, _ => none) s) : wpAny (model prog w) A (setNext S slot i ep) Q E s := by
  obtain ⟨o, ho, _, hd⟩ := hS
  unfold setNext
  refine wpAny_bind (wpAny_setState_of ho hd hf ?_)
  dsimp only
  refine wpAny_bind (byText ?_)
  rw [hb, if_neg Bool.false_ne_true]
  show wpAny _ _ (if (!t.plain && decide (es.size > 1)) = true then _ else _) _ _ _
  rw [hp, if_neg Bool.false_ne_true]
  refine wpAny_bind ?_
  show wpAny _ _ (if (!t.led && !es.isEmpty) = true then unsupported "set:maker-not-led" else pure ()) _ _ _
  rw [hl, if_neg (by simp)]
  exact wpAny_pure (wpAny_pure h)
/-- the walk's order and its mode -/
theorem drawn_is {S : Addr} {es : Array (Int × Value)} {ep : Nat} {t : SetTable} {Q : Bool → Shared → Prop} (hS : Rec s.heap S es ep t) (hf : t.fits es.size = true)
    (h : Q (!w.params.followText "set-order" && (!t.plain && decide (es.size > 1))) s) : wpAny (model prog w) A (setDrawn S) Q E s := by
  obtain ⟨o, ho, _, hd⟩ := hS
  unfold setDrawn
  refine wpAny_bind (wpAny_setState_of ho hd hf ?_)
  dsimp only
  refine wpAny_bind (byText ?_)
  exact wpAny_pure h
open SetTable in
/-- walked by text -/
theorem walks_text (hh : A.handled = none) (I S : Addr) (hne : S ≠ I) {es : Array (Int × Value)} {ep : Nat} {t : SetTable} (hf : t.fits es.size = true) (hb : w.params.followText "set-order" = true) :
    Walks prog w A I [I, S] [I] es.size (fun i v => ∃ h, (pickOrder (w.params.setOrder S ep) es)[i]? = some (h, v)) (fun i h => It h I (rawInt 0) i S es.size ep ∧ Rec h S es ep t) where
  sub := fun b hb => by simp at hb; simp [hb]
  frame := fun _ _ _ x hk => ⟨x.1.on fun o e => hk I (by simp) o e, x.2.on fun o e => hk S (by simp) o e⟩
  item := fun i s Q E hi x hQ => by
    have hlen : (pickOrder (w.params.setOrder S ep) es).size = es.size := by
      have := (pick_perm (w.params.setOrder S ep) es).length_eq
      simpa using this
    obtain ⟨hv, hx⟩ : ∃ hv, (pickOrder (w.params.setOrder S ep) es)[i]? = some hv := ⟨_, Array.getElem?_eq_getElem (by omega)⟩
    refine next_int (slot := 0) (x := hv.2) (nx := 0) x.1 x.2 hf rfl (fun A E Q' hq => setNext_text x.2 hf hb (by rw [hx]; exact hq)) fun h' hit' hs' => ?_
    exact hQ _ h' s.toks ⟨hv.1, hx⟩ ⟨hit', x.2.on fun o e => (hs'.2 S hne).trans e⟩ fun b o hb eo => hs'.extBut b o (fun h => hb (by simp [h])) eo
  done := fun s Q E x hQ => by
    have hlen : (pickOrder (w.params.setOrder S ep) es).size = es.size := by
      have := (pick_perm (w.params.setOrder S ep) es).length_eq
      simpa using this
    have hx : (pickOrder (w.params.setOrder S ep) es)[es.size]? = none := Array.getElem?_eq_none (by omega)
    exact end_int (slot := 0) hh x.1 x.2 hf rfl (fun A E Q' hq => setNext_text x.2 hf hb (by rw [hx]; exact hq)) fun h' he' => hQ h' s.toks fun b o hb eo => he' b o (fun h => hb (by simp [h])) eo
  self := fun _ _ _ _ x hQ => by
    refine wpAny_pyIter_slot x.1.typeIs slot_iter (wpAny_call_entry slot_iter x.1.typeIs entry_iter ?_ (args_iter_1 _))
    show wpAny _ _ (ret (.ref I)) _ _ _
    exact wpAny_pure ⟨_, rfl, "set_iterator", _, x.1.typeIs, slot_next.lookup, hQ⟩
/-- the slot from which the walk goes on -/
def slotAt (t : SetTable) (i : Nat) : Nat := if h : 0 < i ∧ i - 1 < t.place.size then t.place[i - 1]'h.2 + 1 else 0
/-- walked by its places -/
theorem walks_plain (hh : A.handled = none) (I S : Addr) (hne : S ≠ I) {es : Array (Int × Value)} {ep : Nat} {t : SetTable} (hf : t.fits es.size = true) (hr : Ris t.place) (hb : w.params.followText "set-order" = false) (hp : (!t.plain && decide (es.size > 1)) = false) (hl : t.led = true) :
    Walks prog w A I [I, S] [I] es.size (fun i v => ∃ h, es[i]? = some (h, v)) (fun i h => i ≤ es.size ∧ It h I (rawInt (slotAt t i : Int)) i S es.size ep ∧ Rec h S es ep t) where
  sub := fun b hb => by simp at hb; simp [hb]
  frame := fun _ _ _ x hk => ⟨x.1, x.2.1.on fun o e => hk I (by simp) o e, x.2.2.on fun o e => hk S (by simp) o e⟩
  item := fun i s Q E hi x hQ => by
    have hps : t.place.size = es.size := by
      simp only [SetTable.fits, Bool.and_eq_true, beq_iff_eq] at hf
      exact hf.1
    have hbl : SetTable.below t.place (slotAt t i) = i := below_next hr (by omega)
    have e1 : es[i]? = some es[i] := Array.getElem?_eq_getElem hi
    have e2 : t.place[i]? = some (t.place[i]'(by omega)) := Array.getElem?_eq_getElem (by omega)
    have e3 : slotAt t (i + 1) = t.place[i]'(by omega) + 1 := by
      unfold slotAt
      rw [dif_pos ⟨by omega, by show i < _; omega⟩]
      rfl
    refine next_int (x := es[i].2) (nx := t.place[i]'(by omega) + 1) x.2.1 x.2.2 hf rfl (fun A E Q' hq => setNext_plain x.2.2 hf hb hp hl (by rw [hbl, e1, e2]; exact hq)) fun h' hit' hs' => ?_
    rw [← e3] at hit'
    exact hQ _ h' s.toks ⟨es[i].1, e1⟩ ⟨hi, hit', x.2.2.on fun o e => (hs'.2 S hne).trans e⟩ fun b o hb eo => hs'.extBut b o (fun h => hb (by simp [h])) eo
  done := fun s Q E x hQ => by
    have hps : t.place.size = es.size := by
      simp only [SetTable.fits, Bool.and_eq_true, beq_iff_eq] at hf
      exact hf.1
    have hbl : SetTable.below t.place (slotAt t es.size) = es.size := below_next hr (by omega)
    have e1 : es[es.size]? = none := Array.getElem?_eq_none (Nat.le_refl _)
    exact end_int hh x.2.1 x.2.2 hf rfl (fun A E Q' hq => setNext_plain x.2.2 hf hb hp hl (by rw [hbl, e1]; exact hq)) fun h' he' => hQ h' s.toks fun b o hb eo => he' b o (fun h => hb (by simp [h])) eo
  self := fun _ _ _ _ x hQ => by
    refine wpAny_pyIter_slot x.2.1.typeIs slot_iter (wpAny_call_entry slot_iter x.2.1.typeIs entry_iter ?_ (args_iter_1 _))
    show wpAny _ _ (ret (.ref I)) _ _ _
    exact wpAny_pure ⟨_, rfl, "set_iterator", _, x.2.1.typeIs, slot_next.lookup, hQ⟩
end
end StB
end PySem

/-! ### a set walked by drawn places -/
namespace PySem
open PyProof.Rows
namespace StB
def Plc (h : Heap) (T : Addr) (ord : List Nat) : Prop := ∃ o, h.get? T = some o ∧ ∃ n, o.data = .seq (ord.map fun (i : Nat) => rawInt (i : Int)).toArray n
theorem Plc.on {h h' : Heap} {T : Addr} {ord : List Nat} (x : Plc h T ord) (e : ∀ o, h.get? T = some o → h'.get? T = some o) : Plc h' T ord := let ⟨o, ho, r⟩ := x; ⟨o, e _ ho, r⟩
section
variable {prog : Program} {w : World} {A : Around} {E : Value → Shared → Prop} {s : Shared}
theorem next_tup {I S T : Addr} {i n ep : Nat} {ord : List Nat} {es : Array (Int × Value)} {t : SetTable} {x : Int × Value} {pl : Nat} {Q : Option Value → Shared → Prop} (hit : It s.heap I (.ref T) i S n ep) (hS : Rec s.heap S es ep t) (hT : Plc s.heap T ord) (hf : t.fits es.size = true) (hn : es.size = n)
    (hpl : ord[i]? = some pl) (hx : es[pl]? = some x)
    (hQ : ∀ h', It h' I (.ref T) (i + 1) S n ep → Heap.SameBut I s.heap h' → Q (some x.2) { s with heap := h' }) : wpAny (model prog w) A (pyNext (.ref I)) Q E s := by
  obtain ⟨o, ho, hc, hd⟩ := id hit
  obtain ⟨oS, hoS, hex, hdS⟩ := id hS
  obtain ⟨oT, hoT, nT, hdT⟩ := id hT
  unfold pyNext
  refine wpAny_bind (wpAny_attempt (wpAny_callSpecial?_slot (name := Str.ofString "__next__") hit.typeIs slot_next
    (wpAny_call_entry slot_next hit.typeIs entry_next ?_ (args_next_1 _))))
  unfold Builtin.«set_iterator.__next__»
  refine wpAny_bind (wpAny_of_eq (a := (Value.ref I, [])) rfl ?_)
  try dsimp only
  refine wpAny_bind (wpAny_fieldsOf ho hd ?_)
  show wpAny _ _ (setEntries S >>= fun _ => _) _ _ _
  refine wpAny_bind (wpAny_setEntries_of hoS hdS hf ?_)
  rw [if_neg (by simp [hn])]
  show wpAny _ _ (seqItems? (Value.ref T) >>= fun _ => _) _ _ _
  refine wpAny_bind ?_
  unfold seqItems?
  refine wpAny_bind (wpAny_load hoT ?_)
  rw [hdT]
  refine wpAny_pure ?_
  have e1 : (ord.map fun (i : Nat) => rawInt (i : Int)).toArray[(i : Int).toNat]? = some (.int (pl : Int) 0) := by
    rw [List.getElem?_toArray, List.getElem?_map]
    show (ord[i]?).map _ = _
    rw [hpl]
    rfl
  dsimp only
  rw [e1]
  dsimp only
  show wpAny _ _ (setNextDrawn S pl ep >>= fun _ => _) _ _ _
  refine wpAny_bind ?_
  unfold setNextDrawn
  refine wpAny_bind (wpAny_setState_of hoS hdS hf ?_)
  dsimp only
  rw [if_neg (by simp), hx]
  refine wpAny_pure ?_
  refine wpAny_bind (wpAny_setField ho hd (by simp) ?_)
  refine wpAny_pure ⟨x.2, rfl, wpAny_pure (hQ _ ?_ (Heap.SameBut.update ..))⟩
  refine ⟨_, Heap.get?_update_self _ ho (Obj.isFreed_of_fields (Obj.data_mapFields hd _)), (Obj.cls_mapFields ..).trans hc, ?_⟩
  rw [Obj.data_mapFields hd]
  simp
theorem end_tup {I S T : Addr} {i n ep : Nat} {ord : List Nat} {es : Array (Int × Value)} {t : SetTable} {Q : Option Value → Shared → Prop} (hh : A.handled = none) (hit : It s.heap I (.ref T) i S n ep) (hS : Rec s.heap S es ep t) (hT : Plc s.heap T ord) (hf : t.fits es.size = true) (hn : es.size = n)
    (hpl : ord[i]? = none) (hQ : ∀ h', Heap.ExtBut I s.heap h' → Q none { s with heap := h' }) : wpAny (model prog w) A (pyNext (.ref I)) Q E s := by
  obtain ⟨o, ho, hc, hd⟩ := id hit
  obtain ⟨oS, hoS, hex, hdS⟩ := id hS
  obtain ⟨oT, hoT, nT, hdT⟩ := id hT
  unfold pyNext
  refine wpAny_bind (wpAny_attempt (wpAny_callSpecial?_slot (name := Str.ofString "__next__") hit.typeIs slot_next
    (wpAny_call_entry slot_next hit.typeIs entry_next ?_ (args_next_1 _))))
  unfold Builtin.«set_iterator.__next__»
  refine wpAny_bind (wpAny_of_eq (a := (Value.ref I, [])) rfl ?_)
  try dsimp only
  refine wpAny_bind (wpAny_fieldsOf ho hd ?_)
  show wpAny _ _ (setEntries S >>= fun _ => _) _ _ _
  refine wpAny_bind (wpAny_setEntries_of hoS hdS hf ?_)
  rw [if_neg (by simp [hn])]
  show wpAny _ _ (seqItems? (Value.ref T) >>= fun _ => _) _ _ _
  refine wpAny_bind ?_
  unfold seqItems?
  refine wpAny_bind (wpAny_load hoT ?_)
  rw [hdT]
  refine wpAny_pure ?_
  have e1 : (ord.map fun (i : Nat) => rawInt (i : Int)).toArray[(i : Int).toNat]? = none := by
    rw [List.getElem?_toArray, List.getElem?_map]
    show (ord[i]?).map _ = _
    rw [hpl]
    rfl
  dsimp only
  rw [e1]
  dsimp only
  refine wpAny_bind (wpAny_setField ho hd (by simp) ?_)
  have ho2 := Heap.get?_update_self (Obj.mapFields fun vs => vs.set! 0 (rawInt 0)) ho (Obj.isFreed_of_fields (Obj.data_mapFields hd _))
  refine wpAny_bind (wpAny_setField (s := { s with heap := s.heap.update I (Obj.mapFields fun vs => vs.set! 0 (rawInt 0)) }) ho2 (Obj.data_mapFields hd _) (by simp) ?_)
  exact stop_tail (I := I) hh fun h' hk => hQ h' fun b o' hb e => hk b o' ((Heap.get?_update_other _ _ (Ne.symm hb)).trans ((Heap.get?_update_other _ _ (Ne.symm hb)).trans e))
theorem walks_drawn (hh : A.handled = none) (I S T : Addr) (hne : S ≠ I) (hnt : T ≠ I) {es : Array (Int × Value)} {ep : Nat} {t : SetTable} {ord : List Nat} (hf : t.fits es.size = true) (ho : ord.Perm (List.range es.size)) :
    Walks prog w A I [I, S, T] [I] es.size (fun i v => ∃ h pl, ord[i]? = some pl ∧ es[pl]? = some (h, v)) (fun i h => It h I (.ref T) i S es.size ep ∧ Rec h S es ep t ∧ Plc h T ord) where
  sub := fun b hb => by simp at hb; simp [hb]
  frame := fun _ _ _ x hk => ⟨x.1.on fun o e => hk I (by simp) o e, x.2.1.on fun o e => hk S (by simp) o e, x.2.2.on fun o e => hk T (by simp) o e⟩
  item := fun i s Q E hi x hQ => by
    have hl : ord.length = es.size := by rw [ho.length_eq, List.length_range]
    obtain ⟨pl, hpl⟩ : ∃ pl, ord[i]? = some pl := ⟨_, List.getElem?_eq_getElem (by omega)⟩
    have hlt : pl < es.size := List.mem_range.mp (ho.mem_iff.mp (List.mem_of_getElem? hpl))
    have hx : es[pl]? = some es[pl] := Array.getElem?_eq_getElem hlt
    refine next_tup x.1 x.2.1 x.2.2 hf rfl hpl hx fun h' hit' hs' => ?_
    exact hQ _ h' s.toks ⟨es[pl].1, pl, hpl, hx⟩ ⟨hit', x.2.1.on fun o e => (hs'.2 S hne).trans e, x.2.2.on fun o e => (hs'.2 T hnt).trans e⟩ fun b o hb eo => hs'.extBut b o (fun h => hb (by simp [h])) eo
  done := fun s Q E x hQ => by
    have hl : ord.length = es.size := by rw [ho.length_eq, List.length_range]
    have hx : ord[es.size]? = none := List.getElem?_eq_none (by omega)
    exact end_tup hh x.1 x.2.1 x.2.2 hf rfl hx fun h' he' => hQ h' s.toks fun b o hb eo => he' b o (fun h => hb (by simp [h])) eo
  self := fun _ _ _ _ x hQ => by
    refine wpAny_pyIter_slot x.1.typeIs slot_iter (wpAny_call_entry slot_iter x.1.typeIs entry_iter ?_ (args_iter_1 _))
    show wpAny _ _ (ret (.ref I)) _ _ _
    exact wpAny_pure ⟨_, rfl, "set_iterator", _, x.1.typeIs, slot_next.lookup, hQ⟩
end
end StB
end PySem

/-! ### a set gathered into a list -/
namespace PySem
open PyProof.Rows
namespace StB
theorem Rec.typeIs {s : Shared} {S : Addr} {es : Array (Int × Value)} {ep : Nat} {t : SetTable} (x : Rec s.heap S es ep t) : s.TypeIs (.ref S) "set" := let ⟨o, ho, hx, _⟩ := x; ⟨o, ho, hx.1⟩
section
variable {prog : Program} {w : World} {A : Around} {E : Value → Shared → Prop} {s : Shared}
/-- what iter(set) gives: a walk in some order -/
def Walked (prog : Program) (w : World) (A : Around) (n0 : Nat) (S I : Addr) (es : Array (Int × Value)) (s2 : Shared) : Prop :=
  ∃ (fp : List Addr) (P : Nat → Value → Prop) (St : Nat → Heap → Prop), Walks prog w A I fp [I] es.size P St ∧ St 0 s2.heap ∧ (∀ b ∈ fp, b = S ∨ n0 ≤ b) ∧ ∀ acc, ItemsOf P acc es.size → acc.toList.Perm (es.toList.map (·.2))
theorem items_eq {P : Nat → Value → Prop} {acc : Array Value} {l : List Value} (h : ItemsOf P acc l.length) (hP : ∀ i v, P i v → l[i]? = some v) : acc.toList = l := by
  refine List.ext_getElem? fun i => ?_
  by_cases hi : i < acc.size
  · have e := Array.getElem?_eq_getElem hi
    rw [Array.getElem?_toList, e]
    exact (hP i _ (h.2 i _ e)).symm
  · rw [List.getElem?_eq_none (by rw [Array.length_toList]; omega), List.getElem?_eq_none (by rw [← h.1]; omega)]
theorem iter_set (hh : A.handled = none) {S : Addr} {es : Array (Int × Value)} {ep : Nat} {t : SetTable} {Q : Value → Shared → Prop} (hS : Rec s.heap S es ep t) (hf : t.fits es.size = true) (hr : Ris t.place) (hl : t.led = !w.params.followText "set-order") (hb : es.size ≤ sizeLine)
    (h : ∀ (I : Addr) (h' : Heap) (d : Drawn), s.heap.objs.size ≤ I → (∀ b o, s.heap.get? b = some o → h'.get? b = some o) → Walked prog w A s.heap.objs.size S I es { s with heap := h', drawn := d } → Q (.ref I) { s with heap := h', drawn := d }) :
    wpAny (model prog w) A (pyIter (.ref S)) Q E s := by
  obtain ⟨o, ho, hex, hd⟩ := id hS
  have hSl := Heap.lt_size ho
  refine wpAny_pyIter_slot hS.typeIs F.slot_set_iter (wpAny_call_entry F.slot_set_iter hS.typeIs entry_set_iter ?_ (F.args_set_iter_1 _))
  unfold Builtin.«frozenset.__iter__»
  refine wpAny_bind (wpAny_of_eq (a := S) rfl ?_)
  refine wpAny_bind ?_
  unfold Builtin.Frozenset.sizeOf
  refine wpAny_bind (wpAny_setEntries_of ho hd hf (wpAny_pure ?_))
  refine wpAny_bind (drawn_is hS hf ?_)
  dsimp only
  have fin : ∀ (T : Option Addr) (f : Value) (h1 : Heap) (d : Drawn), (∀ b o, s.heap.get? b = some o → h1.get? b = some o) → s.heap.objs.size ≤ h1.objs.size →
      (∀ oI : Obj, oI.cls = .type "set_iterator" → oI.data = .fields #[f, rawInt (0 : Nat), .ref S, rawInt (es.size : Int), rawInt (ep : Int)] → Walked prog w A s.heap.objs.size S h1.objs.size es { s with heap := h1.push oI, drawn := d }) →
      wpAny (model prog w) A.in1 (setEpoch S >>= fun e => newFields "set_iterator" [f, rawInt 0, .ref S, rawInt (es.size : Int), rawInt (e : Int)] >>= fun v => (ret v : Sem Fin))
        (fun fin s' => ∃ v, fin = Fin.done (Flow.ret v) ∧ ∃ T' r, s'.TypeIs v T' ∧ typeLookup (.type T') (Str.ofString "__next__") = pure (some r) ∧ Q v s') E { s with heap := h1, drawn := d } := by
    intro T f h1 d hk hsz hw
    have ho1 := hk _ _ ho
    refine wpAny_bind (wpAny_setEpoch_of (s := { s with heap := h1, drawn := d }) ho1 hd hf ?_)
    refine wpAny_bind (wpAny_newObj_type ?_ (by size_fits))
    refine wpAny_pure ⟨_, rfl, "set_iterator", _, ⟨_, Heap.get?_push_size _ rfl, rfl⟩, slot_next.lookup, ?_⟩
    exact h _ _ d hsz (fun b o e => Heap.get?_push_of_some _ (hk b o e)) (hw _ rfl rfl)
  cases hbt : w.params.followText "set-order" with
  | true =>
    rw [Bool.not_true, Bool.false_and, if_neg Bool.false_ne_true]
    refine wpAny_bind (wpAny_pure ?_)
    refine fin none (rawInt 0) s.heap s.drawn (fun b o e => e) (Nat.le_refl _) fun oI hc hdI => ?_
    have hI : (s.heap.push oI).get? s.heap.objs.size = some oI := Heap.get?_push_size _ (Obj.isFreed_of_fields hdI)
    refine ⟨_, _, _, walks_text hh s.heap.objs.size S (Nat.ne_of_lt hSl) (es := es) (ep := ep) (t := t) hf hbt, ⟨⟨oI, hI, hc, hdI⟩, hS.on fun o e => Heap.get?_push_of_some _ e⟩, fun b hb => ?_, fun acc hacc => ?_⟩
    · rcases List.mem_cons.mp hb with rfl | hb
      · exact .inr (Nat.le_refl _)
      · exact .inl (List.mem_singleton.mp hb)
    · have hp := pick_perm (w.params.setOrder S ep) es
      have hl2 : ((pickOrder (w.params.setOrder S ep) es).toList.map (·.2)).length = es.size := by
        rw [List.length_map, hp.length_eq, Array.length_toList]
      have e := items_eq (acc := acc) (l := (pickOrder (w.params.setOrder S ep) es).toList.map (·.2)) (by rw [hl2]; exact hacc) (fun i v hP => by obtain ⟨hh', hv⟩ := hP; rw [List.getElem?_map, Array.getElem?_toList, hv]; rfl)
      rw [e]
      exact hp.map _
  | false =>
    rw [hbt] at hl
    rw [Bool.not_false, Bool.true_and]
    cases hdr : (!t.plain && decide (es.size > 1)) with
    | false =>
      rw [if_neg Bool.false_ne_true]
      refine wpAny_bind (wpAny_pure ?_)
      refine fin none (rawInt 0) s.heap s.drawn (fun b o e => e) (Nat.le_refl _) fun oI hc hdI => ?_
      have hI : (s.heap.push oI).get? s.heap.objs.size = some oI := Heap.get?_push_size _ (Obj.isFreed_of_fields hdI)
      refine ⟨_, _, _, walks_plain hh s.heap.objs.size S (Nat.ne_of_lt hSl) (es := es) (ep := ep) (t := t) hf hr hbt hdr hl, ⟨Nat.zero_le _, ⟨oI, hI, hc, hdI⟩, hS.on fun o e => Heap.get?_push_of_some _ e⟩, fun b hb => ?_, fun acc hacc => ?_⟩
      · rcases List.mem_cons.mp hb with rfl | hb
        · exact .inr (Nat.le_refl _)
        · exact .inl (List.mem_singleton.mp hb)
      · have e := items_eq (acc := acc) (l := es.toList.map (·.2)) (by rw [List.length_map, Array.length_toList]; exact hacc) (fun i v hP => by obtain ⟨hh', hv⟩ := hP; rw [List.getElem?_map, Array.getElem?_toList, hv]; rfl)
        rw [e]
    | true =>
      rw [if_pos rfl]
      refine wpAny_bind (draw_order es.size (List.range es.size) _ _ (List.length_range) fun ord d hord => ?_)
      have hol : ord.length = es.size := by rw [hord.length_eq, List.length_range]
      refine wpAny_bind (wpAny_newTuple ?_ (by rw [List.length_map, hol]; exact hb))
      refine fin (some s.heap.objs.size) (.ref s.heap.objs.size) (s.heap.push { cls := .type "tuple", data := .seq (ord.map fun (i : Nat) => rawInt (i : Int)).toArray }) d (fun b o e => Heap.get?_push_of_some _ e) (by rw [Heap.size_push]; exact Nat.le_succ _) fun oI hc hdI => ?_
      have hT0 : (s.heap.push { cls := .type "tuple", data := .seq (ord.map fun (i : Nat) => rawInt (i : Int)).toArray }).get? s.heap.objs.size = some { cls := .type "tuple", data := .seq (ord.map fun (i : Nat) => rawInt (i : Int)).toArray } := Heap.get?_push_size _ rfl
      have hsz : (s.heap.push { cls := .type "tuple", data := .seq (ord.map fun (i : Nat) => rawInt (i : Int)).toArray }).objs.size = s.heap.objs.size + 1 := Heap.size_push ..
      have hS1 : Rec (s.heap.push { cls := .type "tuple", data := .seq (ord.map fun (i : Nat) => rawInt (i : Int)).toArray }) S es ep t := hS.on fun o e => Heap.get?_push_of_some _ e
      generalize s.heap.push { cls := .type "tuple", data := .seq (ord.map fun (i : Nat) => rawInt (i : Int)).toArray } = h1 at hT0 hsz hS1 ⊢
      have hI : (h1.push oI).get? h1.objs.size = some oI := Heap.get?_push_size _ (Obj.isFreed_of_fields hdI)
      refine ⟨_, _, _, walks_drawn hh h1.objs.size S s.heap.objs.size (Nat.ne_of_lt (by rw [hsz]; exact Nat.lt_succ_of_lt hSl)) (Nat.ne_of_lt (by rw [hsz]; exact Nat.lt_succ_self _)) (es := es) (ep := ep) (t := t) hf hord, ⟨⟨oI, hI, hc, hdI⟩, hS1.on fun o e => Heap.get?_push_of_some _ e, ⟨_, Heap.get?_push_of_some _ hT0, _, rfl⟩⟩, fun b hb => ?_, fun acc hacc => ?_⟩
      · rcases List.mem_cons.mp hb with rfl | hb
        · exact .inr (by rw [hsz]; exact Nat.le_succ _)
        · rcases List.mem_cons.mp hb with rfl | hb
          · exact .inl rfl
          · rw [List.mem_singleton.mp hb]
            exact .inr (Nat.le_refl _)
      · have e := items_eq (acc := acc) (l := ord.map fun pl => (es.getD pl (0, .none)).2) (by rw [List.length_map, hol]; exact hacc) (fun i v hP => by
          obtain ⟨hh', pl, h1, h2⟩ := hP
          rw [List.getElem?_map, h1]
          show some (es.getD pl (0, .none)).2 = some v
          rw [Array.getD_eq_getD_getElem?, h2]
          rfl)
        rw [e]
        have e2 : es.toList.map (·.2) = (List.range es.size).map fun pl => (es.getD pl (0, .none)).2 := by
          refine List.ext_getElem? fun i => ?_
          rw [List.getElem?_map, List.getElem?_map, Array.getElem?_toList]
          by_cases hi : i < es.size
          · rw [Array.getElem?_eq_getElem hi, List.getElem?_range hi]
            show some _ = some (es.getD i (0, .none)).2
            rw [Array.getD_eq_getD_getElem?, Array.getElem?_eq_getElem hi]
            rfl
          · rw [Array.getElem?_eq_none (by omega), List.getElem?_eq_none (by rw [List.length_range]; omega)]
            rfl
        rw [e2]
        exact hord.map _
end
end StB
end PySem

namespace PySem
open PyProof.Rows
open Sem (wp)
namespace StB
section
variable {prog : Program} {w : World} {A : Around} {E : Value → Shared → Prop} {s : Shared}
theorem hint_set {r : Addr} {Q : Bool → Shared → Prop} (hT : s.TypeIs (.ref r) "set") (h : Q false s) : wpAny (model prog w) A (Builtin.List.listLengthHint (.ref r)) Q E s := by
  unfold Builtin.List.listLengthHint
  refine wpAny_bind (wpAny_specialOf hT PySem.F.slot_set_len.lookup ?_)
  (generalize hid : ("set.__len__" : String) = id0; (fail_if_success (clear hid id0)); wp_delta; rw [show splitId id0 = some ("set", "__len__") from by subst hid; decide +kernel]; subst hid)
  refine wpAny_bind (wpAny_isInstance (T := "set") (b := true) hT (by rw [isSubtype_type]; kernel_rfl) ?_)
  refine wpAny_ite_split (fun hab => absurd hab (by decide)) (fun _ => ?_)
  refine wpAny_ite_split (fun _ => ?_) (fun hab => absurd (by decide +kernel) hab)
  refine wpAny_bind (wpAny_typeOf hT ?_)
  exact wpAny_pure h
theorem collect_set {S : Addr} {l : List Int} {Q : List Value → Shared → Prop} (hh : A.handled = none) (hA : At prog w s.heap S (!w.params.followText "set-order") l)
    (hQ : ∀ h' tk d (acc : Array Value) (ns : List Int), (∀ b o, s.heap.get? b = some o → h'.get? b = some o) → IntsAre acc.toList ns → ns.Perm l → Q acc.toList { s with heap := h', toks := tk, drawn := d }) :
    wpAny (model prog w) A (collect (.ref S)) Q E s := by
  obtain ⟨o, es, ep, t, ho, hex, hd, hel, hpm, hb, hf, hr, hl⟩ := hA
  have hS : Rec s.heap S es ep t := ⟨o, ho, hex, hd⟩
  have hSl := Heap.lt_size ho
  have hn : es.size ≤ sizeLine := fits_of_scanBound hb
  unfold PySem.collect
  refine wpAny_bind (wpAny_runValue (codeAny_builtin F.entry_proto_collect ?_))
  rw [Around.under_plainId F.plain_proto_collect _]
  show wpAny _ A.in1 (newList [] >>= fun l => again (.builtin "list.__iadd__" ⟨[l, .ref S], []⟩)) _ _ s
  refine wpAny_bind (wpAny_newObj_type ?_)
  refine wpAny_pure ⟨plainId_quiet F.plain_list_iadd _, codeAny_builtin F.entry_list_iadd ?_⟩
  rw [Around.under_plainId F.plain_list_iadd _]
  have hS1 : Rec (s.heap.push { cls := .type "list", data := .seq ([] : List Value).toArray }) S es ep t := hS.on fun o e => Heap.get?_push_of_some _ e
  have hSL : (s.heap.push { cls := .type "list", data := .seq ([] : List Value).toArray }).get? s.heap.objs.size = some { cls := .type "list", data := .seq ([] : List Value).toArray } := Heap.get?_push_size _ rfl
  show wpAny _ A.in1 (Builtin.List.listExtendWith (.ref s.heap.objs.size) (.ref S) (.ref s.heap.objs.size)) _ _ _
  unfold Builtin.List.listExtendWith
  refine wpAny_bind (wpAny_typeOf (Rec.typeIs (s := { s with heap := s.heap.push { cls := .type "list", data := .seq ([] : List Value).toArray } }) hS1) ?_)
  have e1 : Builtin.List.listSameRef (.ref s.heap.objs.size) (.ref S) = false := by simp [Builtin.List.listSameRef, Nat.ne_of_gt hSl]
  have e2 : (Value.type "set" == Value.type "list") = false := by decide
  have e3 : (Value.type "set" == Value.type "tuple") = false := by decide
  simp only [e1, e2, e3, Bool.or_false, Bool.false_eq_true, if_false]
  refine wpAny_bind (iter_set (A := A.in1) (s := { s with heap := s.heap.push { cls := .type "list", data := .seq ([] : List Value).toArray } }) hh hS1 hf hr hl hn fun I h1 d hI hk1 hW => ?_)
  obtain ⟨fp, P, St, W, st, hfp, hacc⟩ := hW
  have hS2 := hS1.on (h' := h1) fun o e => hk1 _ _ e
  refine wpAny_bind (wpAny_holding (hint_set (s := { s with heap := h1, drawn := d }) (Rec.typeIs (s := { s with heap := h1, drawn := d }) hS2) ?_))
  have hsz : (s.heap.push { cls := .type "list", data := .seq ([] : List Value).toArray }).objs.size = s.heap.objs.size + 1 := Heap.size_push ..
  have hI : s.heap.objs.size + 1 ≤ I := by rw [← hsz]; exact hI
  have hSf : s.heap.objs.size ∉ fp := fun hm => by
    rcases hfp _ hm with h | h
    · exact absurd h (Nat.ne_of_gt hSl)
    · have h : (s.heap.push { cls := .type "list", data := .seq ([] : List Value).toArray }).objs.size ≤ s.heap.objs.size := h
      rw [hsz] at h
      exact absurd h (Nat.not_succ_le_self _)
  have hSL1 := hk1 _ _ hSL
  have intsA : ∀ acc : Array Value, ItemsOf P acc es.size → ∃ ns, IntsAre acc.toList ns ∧ ns.Perm l := fun acc ha => by
    have hp := hacc acc ha
    refine ⟨acc.toList.map vOf, ?_, ?_⟩
    · have all : ∀ v ∈ acc.toList, ∃ k t, v = .int k t := fun v hv => by
        obtain ⟨e, he, rfl⟩ := List.mem_map.mp (hp.mem_iff.mp hv)
        obtain ⟨⟨k, hk, _⟩, _⟩ := hel e he
        obtain ⟨t, et⟩ := Value.isInt_shape hk
        exact ⟨k, t, et⟩
      generalize acc.toList = vs at all
      induction vs with
      | nil => exact .nil
      | cons v vs ih =>
        obtain ⟨k, t, rfl⟩ := all v List.mem_cons_self
        exact .cons k t (ih fun u hu => all u (List.mem_cons_of_mem _ hu))
    · have e : (acc.toList.map vOf).Perm ((es.toList.map (·.2)).map vOf) := hp.map _
      refine e.trans ?_
      rw [List.map_map]
      exact hpm
  have key : ∀ (h : Heap) (c₁ tk : Nat), St 0 h → (∀ b o, b ≠ s.heap.objs.size → h1.get? b = some o → h.get? b = some o) → h.get? s.heap.objs.size = some { cls := .type "list", data := .seq #[] c₁ } →
      codeAny (model prog w) A (.builtin "list.extend.loop" ⟨[.ref s.heap.objs.size, .ref I, .ref s.heap.objs.size], []⟩) (fun r s' => match r with
        | .ok (.ret v) => wpAny (model prog w) A (match v with | .ref a => (do match (← load a).data with | .seq xs _ => pure xs.toList | _ => unsupported "internal:collect") | _ => unsupported "internal:collect") Q E s'
        | .ok _ => False
        | .error e => E e s') { s with heap := h, toks := tk, drawn := d } := by
    intro h c₁ tk hst hk hSh
    refine codeAny_extend_loopS W.toS hn s.heap.objs.size hSf (.ref s.heap.objs.size) es.size 0 _ #[] c₁ rfl (Nat.zero_le _) hst hSh (ItemsOf.nil _) fun s' acc' c' hm hS' ha => ?_
    show wpAny _ A (load s.heap.objs.size >>= _) _ _ s'
    refine wpAny_bind (wpAny_load hS' ?_)
    refine wpAny_pure ?_
    obtain ⟨ns, hi1, hi2⟩ := intsA acc' ha
    obtain ⟨h', g', d', tk', os'⟩ := s'
    have eg : g' = s.gens := hm.gens
    have ed : d' = d := hm.drawn
    have eo : os' = s.os := hm.os
    subst eg ed eo
    refine hQ h' tk' d' acc' ns (fun b o e => hm.heap b o (fun hb2 => ?_) (hk b o (Nat.ne_of_lt (Heap.lt_size e)) (hk1 b o (Heap.get?_push_of_some _ e)))) hi1 hi2
    rcases List.mem_cons.mp hb2 with h | h
    · exact absurd h (Nat.ne_of_lt (Heap.lt_size e))
    · have h1 := Heap.lt_size e
      rw [List.mem_singleton.mp h] at h1
      exact absurd (Nat.lt_of_lt_of_le h1 (Nat.le_of_succ_le hI)) (Nat.lt_irrefl _)
  refine wpAny_ite_split (fun _ => ?_) (fun _ => wpAny_pure ⟨plainId_quiet F.plain_extend_loop _, key h1 _ s.toks st (fun b o _ e => e) hSL1⟩)
  refine wpAny_bind (wpAny_rule ?_)
  refine wpAny_bind ?_
  show wpAny _ A.in1 (updateSeq s.heap.objs.size (·.push .none) >>= fun _ => updateSeq s.heap.objs.size (·.pop)) _ _ _
  refine wpAny_bind (wpAny_updateSeq hSL1 rfl ?_)
  have hS₂ := Heap.get?_update_self (Obj.mapSeq (·.push Value.none)) hSL1 rfl
  refine wpAny_updateSeq hS₂ rfl ?_
  have hS₃ := Heap.get?_update_self (Obj.mapSeq (·.pop)) hS₂ rfl
  have oth : ∀ b o, b ≠ s.heap.objs.size → h1.get? b = some o → ((h1.update s.heap.objs.size (Obj.mapSeq (·.push Value.none))).update s.heap.objs.size (Obj.mapSeq (·.pop))).get? b = some o :=
    fun b o hb e => (Heap.get?_update_other _ _ (Ne.symm hb)).trans ((Heap.get?_update_other _ _ (Ne.symm hb)).trans e)
  refine wpAny_pure ⟨plainId_quiet F.plain_extend_loop _, key _ _ s.toks (W.frame 0 _ _ st fun b hb o e => oth b o (fun h => hSf (h ▸ hb)) e) oth hS₃⟩
end
end StB
end PySem

/-! ### sorted(set(list of ints)) -/
namespace L2
open PySem PySem.Spec PyProof.Rows
namespace Bt
theorem set : bootBuiltins "set" = some (.type "set") := by decide +kernel
end Bt
theorem Inv.draw {X : Cx} {pins : List (Addr × Obj)} {σ : St} {H : Hp} {s : Shared} (I : Inv X pins σ H s) (d : Drawn) : Inv X pins σ H { s with drawn := d } :=
  ⟨I.ok, I.os, I.bare, I.base, I.loc, I.cell, I.free, I.freeC, I.pin, I.hok, I.len⟩
end L2

/-! ### sorted(set(tuple of ints)); a comprehension over reversed(list) -/
namespace PySem
open PyProof.Rows
namespace StB
section
variable {prog : Program} {w : World} {A : Around} {E : Value → Shared → Prop} {s : Shared}
/-- set(tuple of ints) -/
theorem makeT {l : Addr} {items : Array Value} {ns : List Int} {Q : Value → Shared → Prop}
    (hh : A.handled = none) (hl : s.heap.IsTuple l items) (hi : IntsAre items.toList ns) (hb : items.size + 1 < scanBound)
    (h : ∀ (h' : Heap) (tk : Nat), At prog w h' s.heap.objs.size (!w.params.followText "set-order") (firsts (fun i => ns.getD i 0) items.size) →
      (∀ b o, b < s.heap.objs.size → s.heap.get? b = some o → h'.get? b = some o) → Q (.ref s.heap.objs.size) { s with heap := h', toks := tk }) :
    wpAny (model prog w) A (call (.type "set") [.ref l]) Q E s := by
  obtain ⟨c, tl, hmro⟩ := F.called_set.mro
  have hmade := F.called_set.made
  have hsub := F.called_set.sub
  refine wpAny_call (codeAny_of_tree ?_)
  show wpAny _ _ (callAny (.type "set") _) _ _ _
  refine wpAny_pure ⟨Code.quiet_builtin _ (by decide +kernel), codeAny_builtin F.entry_type_call ?_⟩
  rw [Around.under_plain (weight_type_call_type "set" [.ref l] []) rfl]
  have h1 := F.called_set.notType
  have h2 := F.called_set.canCreate
  have hct := F.typeCall_set_1 (.ref l)
  repeat (any_goals (first | assumption | wp_step))
  generalize hled : (!w.params.followText "set-order") = led at h
  refine codeAny_mono (new_1 (.ref l) (E := E) (Q₁ := fun obj s₁ => obj = .ref s.heap.objs.size ∧ s₁ = { s with heap := s.heap.push (obj0 led) }) (by rw [hled]; exact ⟨rfl, rfl⟩)) fun r s₁ hr => ?_
  cases r with
  | error e => exact hr
  | ok fl =>
    cases fl with
    | ret obj =>
      obtain ⟨rfl, rfl⟩ := hr
      have hS : (s.heap.push (obj0 led)).get? s.heap.objs.size = some (obj0 led) := Heap.get?_push_size _ rfl
      have hT : Shared.TypeIs { s with heap := s.heap.push (obj0 led) } (.ref s.heap.objs.size) "set" := ⟨_, hS, rfl⟩
      have hli := F.called_set.init.lookup
      have hbi := F.called_set.init.bind (.ref s.heap.objs.size)
      repeat (any_goals (first | assumption | wp_step))
      refine codeAny_mono (codeAny_call_builtin (R := wants (fun r s₂ => r = .none ∧ ∃ h' tk, s₂ = { s with heap := h', toks := tk } ∧ At prog w h' s.heap.objs.size led (firsts (fun i => ns.getD i 0) items.size) ∧
          (∀ b o, b < s.heap.objs.size → s.heap.get? b = some o → h'.get? b = some o)) E) F.called_set.init.plain F.entry_set_init (check_set_init_1 hT ?_)) fun r₂ s₂ hr₂ => ?_
      · obtain ⟨ol, hol, hcl, nl, hdl⟩ := hl
        obtain ⟨ocls, odict, odata, oslots⟩ := ol
        simp only at hcl hdl
        subst hcl; subst hdl
        have hol' : (s.heap.push (obj0 led)).get? l = some { cls := .type "tuple", dict := odict, data := .seq items nl, slots := oslots } := Heap.get?_push_of_some _ hol
        have hsls := F.sub_tuple_set
        have hslf := F.sub_tuple_frozenset
        have hne : (Value.type "tuple" == Value.type "dict") = false := by decide
        have hl1 : (s.heap.push (obj0 led)).IsTuple l items := ⟨_, hol', rfl, nl, rfl⟩
        have hS' := hS
        unfold obj0 at hS'
        unfold Builtin.«set.__init__» noKeywords Builtin.Frozenset.updateFrom
        generalize hPI : pyIter = PI
        unfold obj0 at *
        wp_walk
        subst hPI
        refine wpAny_pyIter_tuple hl1 ?_
        refine wpAny_bind (wpAny_runValue ?_)
        have hlS : l < s.heap.objs.size := Heap.lt_size hol
        have hh3 : A.in1.in1.in1.handled = none := by simp [hh]
        generalize hOB : ({ cls := .type "set", dict := none, data := .set #[] 0 (.fresh 0 0 led) } : Obj) = OB at *
        have hneI : l ≠ (s.heap.push OB).objs.size := by
          rw [Heap.size_push]; exact Nat.ne_of_lt (Nat.lt_succ_of_lt hlS)
        have hSf : s.heap.objs.size ∉ [(s.heap.push OB).objs.size, l] := by
          rw [Heap.size_push]; simp only [List.mem_cons, List.mem_singleton, List.not_mem_nil, or_false, not_or]
          exact ⟨Nat.ne_of_lt (Nat.lt_succ_self _), Nat.ne_of_gt hlS⟩
        have hval : ∀ (i : Nat) (v : Value), items[i]? = some v → ∃ t, v = .int ((fun i => ns.getD i 0) i) t := fun i v hv =>
          IntsAre.int_at hi i v (by rw [Array.getElem?_toList]; exact hv)
        refine loop ((Walks.tuple hh3 _ l hneI items).toS) s.heap.objs.size hSf led (fun i => ns.getD i 0) hval hb (items.size - 0) 0 _ (by omega) (Nat.zero_le _)
          ⟨⟨_, Heap.get?_push_size _ rfl, rfl, rfl⟩, (hl1.push _)⟩ ?hS0 ?hR
        case hS0 =>
          have hget : ((s.heap.push OB).push { cls := .type "tuple_iterator", data := .fields #[.ref l, .int 0 0] }).get? s.heap.objs.size = some OB := Heap.get?_push_of_some _ hS
          exact at0 (by rw [hget, ← hOB]; rfl)
        case hR =>
          intro s' hm hS'
          obtain ⟨h', g', d', tk', os'⟩ := s'
          have eg : g' = s.gens := hm.gens
          have ed : d' = s.drawn := hm.drawn
          have eo : os' = s.os := hm.os
          subst eg; subst ed; subst eo
          show wpAny _ _ _ _ _ _
          refine wpAny_pure ?_
          show wpAny _ _ (ret Value.none) _ _ _
          refine wpAny_pure ⟨rfl, h', tk', rfl, hS', fun b o hb e => ?_⟩
          have hb1 : b ≠ s.heap.objs.size := Nat.ne_of_lt hb
          have hb2 : b ≠ (s.heap.push OB).objs.size := by
            rw [Heap.size_push]; exact Nat.ne_of_lt (Nat.lt_succ_of_lt hb)
          exact hm.heap b o (by simp only [List.mem_cons, List.mem_singleton, List.not_mem_nil, or_false, not_or]; exact ⟨hb1, hb2⟩) (Heap.get?_push_of_some _ (Heap.get?_push_of_some _ e))
      · cases r₂ with
        | error e => exact hr₂
        | ok fl₂ =>
          cases fl₂ with
          | ret r =>
            obtain ⟨rfl, h', tk, rfl, hS', hk'⟩ := hr₂
            repeat (any_goals (first | assumption | wp_step))
            exact h _ _ hS' hk'
          | _ => exact hr₂.elim
    | _ => exact hr.elim
end
end StB
end PySem
namespace L2
open PySem PySem.Spec PyProof.Rows
def tSortSetT (K : PySem.W.Frag) (tl : TE) : TE := fun σ H Q => tl σ H fun x H1 => ∃ (a : Addr) (ns : List Int), x = .ref a ∧ SqT K H1 a (ns.map V.int) ∧ ns.length ≤ 256 ∧ (StB.firsts (fun i => ns.getD i 0) ns.length).length < 64 ∧
  ∀ (q : Addr) (ys : List Int), H1 q = none → ys.Perm (StB.firsts (fun i => ns.getD i 0) ns.length) → ys.Pairwise (· ≤ ·) → Q (.ref q) (upd H1 q (.lst (ys.map V.int)))
theorem pe_sortSetT {X : Cx} {p cpos p2 cpos2 : Pos} {l : Expr} {tl : TE} (hc : X.calm = true) (hl : PE X l tl) (hm : X.mg "sorted" = none) (hm2 : X.mg "set" = none)
    (hg : X.env.scope.names.lookup ("sorted" : Str) = some .globalImplicit := by kernel_rfl) (hg2 : X.env.scope.names.lookup ("set" : Str) = some .globalImplicit := by kernel_rfl)
    (he : starEach [l] X.env = (false, eval l X.env) :: starEach [] X.env := by rfl) (hpl : (backTo cpos (starEach [] X.env)).any (·.1) = false := by rfl)
    (he2 : starEach [Expr.Call (.Name "set" p) [l] [] cpos] X.env = (false, eval (.Call (.Name "set" p) [l] [] cpos) X.env) :: starEach [] X.env := by rfl) (hpl2 : (backTo cpos2 (starEach [] X.env)).any (·.1) = false := by rfl) :
    PE X (.Call (.Name "sorted" p2) [.Call (.Name "set" p) [l] [] cpos] [] cpos2) (tSortSetT X.K tl) := by
  intro pins s σ H Q I h
  refine wpAny_Call_Name_kw (ld_blt I hg hm Bt.sorted ?_ (by decide) (by decide))
  refine PyProof.Rows.callWith_builtin1 ?_ he2 hpl2
  rw [he2]
  show wpAny _ _ (spliced ((false, eval (.Call (.Name "set" p) [l] [] cpos) X.env) :: backTo cpos2 (starEach [] X.env))) _ _ s
  refine Calls.spliced_cons ?_
  refine wpAny_Call_Name_kw (ld_blt I hg2 hm2 Bt.set ?_ (by decide) (by decide))
  have h' : tCons tl tNil σ H (fun vs H1 => match vs with | [x] => ∃ (a : Addr) (ns : List Int), x = .ref a ∧ SqT X.K H1 a (ns.map V.int) ∧ ns.length ≤ 256 ∧ (StB.firsts (fun i => ns.getD i 0) ns.length).length < 64 ∧ ∀ (q : Addr) (ys : List Int), H1 q = none → ys.Perm (StB.firsts (fun i => ns.getD i 0) ns.length) → ys.Pairwise (· ≤ ·) → Q (.ref q) (upd H1 q (.lst (ys.map V.int))) | _ => False) := h
  refine PyProof.Rows.callWith_type1 (thn ((pa_cons hl pa_nil he) cpos pins s σ H _ I h') fun us s1 ⟨vs, H1, I1, r1, q1⟩ => ?_) he hpl
  obtain ⟨x, rfl⟩ : ∃ x, vs = [x] := by
    match vs, q1 with
    | [x], _ => exact ⟨x, rfl⟩
  obtain ⟨a, ns, rfl, hq, hz, hz2, q⟩ := q1
  obtain ⟨u, rfl, ru⟩ := vals1 r1
  cases ru
  obtain ⟨its, rv, pL, hzz⟩ := I1.tuple hq
  have hl' := rv.length
  rw [List.length_map] at hl'
  have hh := I1.ok.hd hc
  refine StB.makeT (ns := ns) hh pL (by simpa using intsAre_of rv) (by rw [List.size_toArray]; unfold scanBound; omega) fun h1 tk hA hk => ?_
  refine Calls.spliced_nil ?_
  have I2 : Inv X pins σ H1 { s1 with heap := h1, toks := tk } := I1.kept fun b o e => hk b o (Heap.lt_size e) e
  have hsz0 : its.toArray.size = ns.length := by rw [List.size_toArray, ← hl']
  rw [hsz0] at hA
  have hfl := StB.firsts_len (fun i => ns.getD i 0) ns.length
  refine Calls.call_function_entry kind_sorted plain_sorted entry_sorted (args_sorted1 _) ?_
  unfold Builtin.«sorted»
  refine wpAny_bind (m := checkCount "sorted" 1 1 _) (wpAny_pure ?_)
  refine wpAny_bind (StB.collect_set (A := X.A.in1) (s := { s1 with heap := h1, toks := tk }) hh hA fun h2 tk2 d acc ms hk2 hints hperm => ?_)
  have hml : ms.length < 64 := by rw [hperm.length_eq]; exact hz2
  have hla : acc.toList.length = ms.length := hints.length
  refine wpAny_bind (wpAny_newList ?_ (by rw [hla]; exact Nat.le_trans (by omega : ms.length ≤ 64) (by decide)))
  have hoL : (h2.push { cls := .type "list", data := .seq acc.toList.toArray }).get? h2.objs.size = some (seqObj "list" acc.toList.toArray 0) := Heap.get?_push_size _ rfl
  refine wpAny_bind (wpAny_holding (wpAny_call_entry slot_list_sort ⟨_, hoL, rfl⟩ entry_list_sort (list_sort_tree hoL hints (by omega) fun out ys' a1 a2 a3 => ⟨_, rfl, ?_⟩) (args_list_sort _)))
  refine wpAny_pure ⟨_, rfl, ?_⟩
  obtain ⟨e, he⟩ := sortedHeap_at (out := out) hoL
  have I3 : Inv X pins σ H1 { s1 with heap := h2, toks := tk2 } := I2.kept (t' := tk2) hk2
  have I' := I3.draw d
  have old : ∀ b o, h2.get? b = some o → (sortedHeap (h2.push { cls := .type "list", data := .seq acc.toList.toArray }) h2.objs.size acc.toList out).get? b = some o := fun b o eb' => by
    have hlt := Heap.lt_size eb'
    rw [sortedHeap_old (Nat.ne_of_lt hlt) (by rw [size_push']; exact Nat.lt_succ_of_lt hlt)]
    exact Heap.get?_push_of_some _ eb'
  refine ⟨.ref h2.objs.size, _, I'.laid (o := .lst (ys'.map V.int)) (t' := tk2) old (Nat.le_refl _) ⟨?_, out.toList, e, vals_ints a1, ?_⟩, rfl, q _ ys' (I'.hok.fresh (Nat.le_refl _)) (a2.trans hperm) a3⟩
  · rw [List.length_map, a2.length_eq]
    exact Nat.le_trans (by omega : ms.length ≤ 64) (by decide)
  · rw [he]
theorem comp_listR {K : PySem.W.Frag} {ix : List (Option Nat)} {g : TG} {tt : TT} {te : TE} {σ : St} {H : Hp} {Q : VK} {a : Addr} {xs : List V} (Pv : Nat → List V → Hp → Prop) (h0 : Pv 0 [] H) (hn : xs.length ≤ sizeLine) (hl : ∀ i ys H, Pv i ys H → ys.length ≤ i) (hx : ∀ i ys H, Pv i ys H → SqL K H a xs)
    (hs : ∀ i x ys H, i < xs.length → xs[xs.length - 1 - i]? = some x → Pv i ys H → g x (blkSt ix σ) H fun σ2 H2 => Ext (blkSt ix σ) σ2 ∧ tt σ2 H2 fun ok H3 => if ok = true then te σ2 H3 fun y H4 => Pv (i + 1) (ys ++ [y]) H4 else Pv (i + 1) ys H3)
    (hd : ∀ ys H, Pv xs.length ys H → ∀ p, H p = none → Q (.ref p) (upd H p (.lst ys))) : CompGo (Itlr K a xs.length) ix g tt te σ H Q := by
  refine ⟨fun i m ys H => m = xs.length - i ∧ i ≤ xs.length ∧ Pv i ys H, ⟨xs.length, by simp, Nat.zero_le _, h0⟩, ?_⟩
  rintro i m ys H ⟨rfl, hi, p⟩
  have q := hx i ys H p
  refine ⟨Nat.le_trans (hl _ _ _ p) (Nat.le_trans hi hn), ?_⟩
  by_cases hlt : i < xs.length
  · refine .inr ⟨⟨xs, q, rfl, hlt⟩, Pv (i + 1), fun ys' H' p' => ⟨xs.length - (i + 1), by omega, rfl, hlt, p'⟩, fun x H' y => ?_⟩
    obtain ⟨e, y⟩ := y
    subst e
    exact hs i x ys _ hlt (y xs q) p
  · have e : i = xs.length := by omega
    subst e
    exact .inl ⟨Nat.le_refl xs.length, hd ys H p⟩
/-- what stands in the sorted list of a set -/
theorem firsts_mem (val : Nat → Int) : ∀ n x, x ∈ StB.firsts val n ↔ ∃ i, i < n ∧ val i = x
  | 0, x => ⟨fun h => (nomatch h), fun ⟨i, h, _⟩ => absurd h (Nat.not_lt_zero i)⟩
  | n + 1, x => by
    have ih := firsts_mem val n x
    have key : x ∈ StB.firsts val (n + 1) ↔ x ∈ StB.firsts val n ∨ x = val n := by
      show x ∈ StB.once (StB.firsts val n) (val n) ↔ _
      unfold StB.once
      split
      · rename_i h
        exact ⟨.inl, fun z => z.elim id fun e => e ▸ h⟩
      · rw [List.mem_append, List.mem_singleton]
    rw [key, ih]
    constructor
    · rintro (⟨i, hi, e⟩ | e)
      · exact ⟨i, by omega, e⟩
      · exact ⟨n, by omega, e.symm⟩
    · rintro ⟨i, hi, e⟩
      by_cases h : i = n
      · exact .inr (by rw [← e, h])
      · exact .inl ⟨i, by omega, e⟩
theorem firsts_nodup (val : Nat → Int) : ∀ n, (StB.firsts val n).Nodup
  | 0 => List.nodup_nil
  | n + 1 => by
    show (StB.once (StB.firsts val n) (val n)).Nodup
    unfold StB.once
    split
    · exact firsts_nodup val n
    · rename_i h
      exact List.nodup_append.mpr ⟨firsts_nodup val n, by simp, fun a ha b hb => by
        rw [List.mem_singleton.mp hb]
        exact fun e => h (e ▸ ha)⟩
end L2

namespace Mc
open PySem PySem.Spec PyProof.Rows

/-! ### sentences -/
inductive Op where
  | and | or | thn | same
  deriving DecidableEq
def Op.str : Op → Str
  | .and => "and"
  | .or => "or"
  | .thn => "then"
  | .same => "same"
inductive Tr where
  | nm (x : Str) | yes | no | not (t : Tr) | bin (o : Op) (a b : Tr)
def Tr.tag : Tr → Str
  | .nm _ => "name"
  | .yes => "yes"
  | .no => "no"
  | .not _ => "not"
  | .bin o _ _ => o.str
def Tr.kids : Tr → List Tr
  | .not t => [t]
  | .bin _ a b => [a, b]
  | _ => []
def Tr.depth : Tr → Nat
  | .not t => t.depth + 1
  | .bin _ a b => max a.depth b.depth + 1
  | _ => 1
def Tr.size : Tr → Nat
  | .not t => t.size + 1
  | .bin _ a b => a.size + b.size + 1
  | _ => 1
def Tr.names : Tr → List Str
  | .nm x => [x]
  | .not t => t.names
  | .bin _ a b => a.names ++ b.names
  | _ => []
def Tr.isNm : Tr → Bool
  | .nm _ => true
  | _ => false
theorem Tr.size_pos (t : Tr) : 1 ≤ t.size := by cases t <;> simp [Tr.size]
theorem Tr.depth_pos (t : Tr) : 1 ≤ t.depth := by cases t <;> simp [Tr.depth]
theorem tag_name (t : Tr) : (t.tag = ("name" : Str)) ↔ t.isNm = true := by
  cases t with
  | nm x => simp [Tr.tag, Tr.isNm]
  | yes => simp only [Tr.tag, Tr.isNm]; decide +kernel
  | no => simp only [Tr.tag, Tr.isNm]; decide +kernel
  | not t => simp only [Tr.tag, Tr.isNm]; decide +kernel
  | bin o a b => cases o <;> (simp only [Tr.tag, Tr.isNm, Op.str]; decide +kernel)

/-! ### rows of sentences -/
def fsize (ts : List Tr) : Nat := (ts.map Tr.size).sum
theorem fsize_app (a b : List Tr) : fsize (a ++ b) = fsize a + fsize b := by simp [fsize]
theorem fsize_kids (t : Tr) : t.size = fsize t.kids + 1 := by
  cases t <;> simp [Tr.kids, fsize, Tr.size]
theorem fsize_below (ts : List Tr) : fsize ts = fsize (ts.flatMap Tr.kids) + ts.length := by
  induction ts with
  | nil => rfl
  | cons t r ih =>
    rw [List.flatMap_cons, fsize_app]
    show t.size + fsize r = _
    have := fsize_kids t
    simp only [List.length_cons]
    omega
theorem length_le_fsize (ts : List Tr) : ts.length ≤ fsize ts := by rw [fsize_below]; omega
def fnames (ts : List Tr) : List Str := ts.flatMap Tr.names
theorem names_kids (t : Tr) (x : Str) : x ∈ t.names ↔ t = .nm x ∨ x ∈ fnames t.kids := by
  cases t with
  | nm y =>
    simp only [Tr.names, Tr.kids, fnames, List.flatMap_nil, List.mem_singleton, List.not_mem_nil, or_false, Tr.nm.injEq]
    exact eq_comm
  | yes => simp [Tr.names, Tr.kids, fnames]
  | no => simp [Tr.names, Tr.kids, fnames]
  | not t => simp [Tr.names, Tr.kids, fnames]
  | bin o a b => simp [Tr.names, Tr.kids, fnames]
theorem fnames_below (ts : List Tr) (x : Str) : x ∈ fnames ts ↔ Tr.nm x ∈ ts ∨ x ∈ fnames (ts.flatMap Tr.kids) := by
  induction ts with
  | nil => simp [fnames]
  | cons t r ih =>
    have e1 : fnames (t :: r) = t.names ++ fnames r := rfl
    have e2 : fnames ((t :: r).flatMap Tr.kids) = fnames t.kids ++ fnames (r.flatMap Tr.kids) := by simp [fnames]
    rw [e1, e2, List.mem_append, List.mem_append, names_kids, ih, List.mem_cons]
    constructor
    · rintro ((h | h) | (h | h))
      · exact .inl (.inl h.symm)
      · exact .inr (.inl h)
      · exact .inl (.inr h)
      · exact .inr (.inr h)
    · rintro ((h | h) | (h | h))
      · exact .inl (.inl h.symm)
      · exact .inr (.inl h)
      · exact .inl (.inr h)
      · exact .inr (.inr h)

/-! ### sorted rows of texts -/
theorem length_le_of_sub {α : Type} [DecidableEq α] : ∀ {a b : List α}, a.Nodup → (∀ x ∈ a, x ∈ b) → a.length ≤ b.length
  | [], _, _, _ => Nat.zero_le _
  | x :: r, b, ha, h => by
    have hx := h x List.mem_cons_self
    have h1 := length_le_of_sub (b := b.erase x) (List.nodup_cons.mp ha).2 fun y hy => (List.mem_erase_of_ne (fun e => by subst e; exact (List.nodup_cons.mp ha).1 hy)).mpr (h y (List.mem_cons_of_mem _ hy))
    have h2 := List.length_erase_of_mem hx
    have h3 : 0 < b.length := List.length_pos_of_mem hx
    simp only [List.length_cons]
    omega
end Mc
namespace Mc
open PySem

abbrev Str.l (x : Str) : List Nat := x.cps.toList
theorem str_ext {a b : Str} (h : a.cps.toList = b.cps.toList) : a = b := by
  have e2 : a.cps = b.cps := Array.toList_inj.mp h
  cases a; cases b; exact congrArg Str.mk e2
theorem app_l (a b : Str) : (a ++ b).cps.toList = a.cps.toList ++ b.cps.toList := by
  show (a.cps ++ b.cps).toList = _
  simp
theorem len_l (a : Str) : a.length = a.cps.toList.length := by
  show a.cps.size = _
  simp
/-! ### names -/
abbrev letters : Str := "abcdefghijklmnopqrstuvwxyz"
theorem letters_at (i : Nat) (h : i < 26) : letters.cps.toList[i]? = some (97 + i) := by
  have : ∀ i : _root_.Fin 26, letters.cps.toList[i.val]? = some (97 + i.val) := by decide +kernel
  exact this ⟨i, h⟩
theorem letters_len : letters.length = 26 := by decide +kernel
/-- a name of point 3 -/
structure IsName (y : Str) : Prop where
  pos : 1 ≤ y.cps.toList.length
  le : y.cps.toList.length ≤ 8
  ok : ∀ c ∈ y.cps.toList, 97 ≤ c ∧ c ≤ 122
end Mc
/-! ### sentences in the heap -/
namespace Mc
open PySem PySem.Spec PyProof.Rows L2

inductive TrAt (H : Hp) : V → Tr → Prop where
  | nm {a : Addr} {x : Str} : H a = some (.tup [.str "name", .str x]) → TrAt H (.ref a) (.nm x)
  | yes {a : Addr} : H a = some (.tup [.str "yes"]) → TrAt H (.ref a) .yes
  | no {a : Addr} : H a = some (.tup [.str "no"]) → TrAt H (.ref a) .no
  | not {a : Addr} {v : V} {t : Tr} : H a = some (.tup [.str "not", v]) → TrAt H v t → TrAt H (.ref a) (.not t)
  | bin {a : Addr} {o : Op} {v u : V} {t t' : Tr} : H a = some (.tup [.str o.str, v, u]) → TrAt H v t → TrAt H u t' → TrAt H (.ref a) (.bin o t t')
/-- the tuples stay -/
def Tups (H H' : Hp) : Prop := ∀ b xs, H b = some (.tup xs) → H' b = some (.tup xs)
theorem Tups.refl (H : Hp) : Tups H H := fun _ _ h => h
theorem Tups.trans {H H1 H2 : Hp} (a : Tups H H1) (b : Tups H1 H2) : Tups H H2 := fun c o h => b c o (a c o h)
theorem _root_.L2.Same.tups {H H' : Hp} (s : Same H H') : Tups H H' := fun b xs h => s b _ h
theorem TrAt.mono {H H' : Hp} (k : Tups H H') {v : V} {t : Tr} (h : TrAt H v t) : TrAt H' v t := by
  induction h with
  | nm e => exact .nm (k _ _ e)
  | yes e => exact .yes (k _ _ e)
  | no e => exact .no (k _ _ e)
  | not e _ ih => exact .not (k _ _ e) ih
  | bin e _ _ ih1 ih2 => exact .bin (k _ _ e) ih1 ih2
theorem TrAt.open {H : Hp} {v : V} {t : Tr} (h : TrAt H v t) : ∃ a rest, v = .ref a ∧ H a = some (.tup (.str t.tag :: rest)) ∧ (t.isNm = true → ∃ x, t = .nm x ∧ rest = [.str x]) ∧ (t.isNm = false → Paired (TrAt H) rest t.kids) := by
  cases h with
  | nm e => exact ⟨_, _, rfl, e, fun _ => ⟨_, rfl, rfl⟩, fun z => by cases z⟩
  | yes e => exact ⟨_, _, rfl, e, (fun z => by cases z), fun _ => .nil⟩
  | no e => exact ⟨_, _, rfl, e, (fun z => by cases z), fun _ => .nil⟩
  | not e h1 => exact ⟨_, _, rfl, e, (fun z => by cases z), fun _ => .cons h1 .nil⟩
  | bin e h1 h2 => exact ⟨_, _, rfl, e, (fun z => by cases z), fun _ => .cons h1 (.cons h2 .nil)⟩
theorem paired_mono {H H' : Hp} (k : Tups H H') {us : List V} {ts : List Tr} (h : Paired (TrAt H) us ts) : Paired (TrAt H') us ts := Paired.mapP h fun _ _ q => q.mono k
theorem paired_app {α β : Type} {F : α → β → Prop} : ∀ {a c : List α} {b d : List β}, Paired F a b → Paired F c d → Paired F (a ++ c) (b ++ d)
  | _, _, _, _, .nil, s => s
  | _, _, _, _, .cons r t, s => .cons r (paired_app t s)
theorem paired_get {α β : Type} {F : α → β → Prop} : ∀ {a : List α} {b : List β}, Paired F a b → ∀ (i : Nat) x, a[i]? = some x → ∃ y, b[i]? = some y ∧ F x y
  | _, _, .nil, i, x, h => by simp at h
  | _, _, .cons r t, 0, x, h => by
    rw [List.getElem?_cons_zero] at h
    cases h
    exact ⟨_, rfl, r⟩
  | _, _, .cons r t, i + 1, x, h => by
    rw [List.getElem?_cons_succ] at h
    exact paired_get t i x h
theorem cut_tail (x : V) (rest : List V) : cutV (x :: rest) (some 1) none = rest := by
  unfold cutV HT.sIx
  simp
theorem cut_tail_not (x : V) (rest : List V) : ¬ (HT.sIx (x :: rest).length 0 (some 1) = 0 ∧ HT.sIx (x :: rest).length (x :: rest).length none = (x :: rest).length) := by
  unfold HT.sIx
  simp
theorem same_upd {H : Hp} {l : Addr} {o : HO} (h : H l = none) : Same H (upd H l o) := fun b u e => by
  rw [upd_ne (ne_of_none e h)]
  exact e
theorem tups_upd {H : Hp} {b : Addr} {xs : List V} {o : HO} (h : H b = some (.lst xs)) : Tups H (upd H b o) := fun c ys e => by
  rw [upd_ne (fun z => by subst z; rw [h] at e; cases e)]
  exact e
theorem same_free {H H' : Hp} (s : Same H H') {l : Addr} (h : H' l = none) : H l = none := s.free h
end Mc
namespace Mc
open PySem PySem.Spec PyProof.Rows L2
theorem keys_putK {kvs : List (Key × V)} {ys : List Str} (h : kvs.map (·.1) = ys.map Sum.inr) (x : Str) (v : V) :
    (putK kvs (Sum.inr x : Key) v).map (·.1) = (if x ∈ ys then ys else ys ++ [x]).map Sum.inr := by
  have hmem : ((kvs.any fun kv => decide (kv.1 = (Sum.inr x : Key))) = true) ↔ x ∈ ys := by
    rw [List.any_eq_true]
    constructor
    · rintro ⟨p, hp, e⟩
      have e := of_decide_eq_true e
      have : (Sum.inr x : Key) ∈ kvs.map (·.1) := List.mem_map.mpr ⟨p, hp, e⟩
      rw [h] at this
      obtain ⟨y, hy, e2⟩ := List.mem_map.mp this
      cases e2
      exact hy
    · intro hx
      have : (Sum.inr x : Key) ∈ kvs.map (·.1) := by rw [h]; exact List.mem_map.mpr ⟨x, hx, rfl⟩
      obtain ⟨p, hp, e⟩ := List.mem_map.mp this
      exact ⟨p, hp, decide_eq_true e⟩
  unfold putK
  by_cases e : x ∈ ys
  · rw [if_pos (hmem.mpr e), if_pos e, List.map_map, ← h]
    apply List.map_congr_left
    intro p _
    show (if p.1 = (Sum.inr x : Key) then (p.1, v) else p).1 = p.1
    split <;> rfl
  · rw [if_neg (fun z => e (hmem.mp z)), if_neg e, List.map_append, h, List.map_append]
    rfl
theorem lk {n : Nat} (h : n ≤ 1000) : n ≤ sizeLine := Nat.le_of_lt (small1000 h)
theorem nodup_snoc {ys : List Str} (h : ys.Nodup) {x : Str} (hx : x ∉ ys) : (ys ++ [x]).Nodup := nd_snoc h hx
end Mc

/-! ### bits, worlds, tables -/
namespace Mc
open PySem
theorem bnot_nat (a : Nat) : (Builtin.bitNot (Builtin.bitNot (a : Int))) = a := by unfold Builtin.bitNot; omega
theorem band (a b : Nat) : Builtin.bitAnd (a : Int) (b : Int) = ((a &&& b : Nat) : Int) := by
  unfold Builtin.bitAnd
  rw [decide_eq_true (Int.natCast_nonneg a), decide_eq_true (Int.natCast_nonneg b)]
  rfl
theorem bor (a b : Nat) : Builtin.bitOr (a : Int) (b : Int) = ((a ||| b : Nat) : Int) := by
  unfold Builtin.bitOr Builtin.bitAnd
  have h1 : ¬ (0 : Int) ≤ Builtin.bitNot (a : Int) := by unfold Builtin.bitNot; omega
  have h2 : ¬ (0 : Int) ≤ Builtin.bitNot (b : Int) := by unfold Builtin.bitNot; omega
  rw [decide_eq_false h1, decide_eq_false h2]
  show Builtin.bitNot (Builtin.bitNot (((Builtin.bitNot (Builtin.bitNot (a : Int))).toNat ||| (Builtin.bitNot (Builtin.bitNot (b : Int))).toNat : Nat) : Int)) = _
  rw [bnot_nat, bnot_nat, bnot_nat]
  rfl
theorem xor_add_and : ∀ (a b : Nat), (a ^^^ b) + (a &&& b) = a ||| b := by
  intro a
  induction a using Nat.strongRecOn with
  | ind a ih =>
    intro b
    by_cases h : a = 0
    · subst h
      simp
    · have q := ih (a / 2) (by omega) (b / 2)
      have e1 : (a ^^^ b) / 2 = a / 2 ^^^ b / 2 := Nat.xor_div_two
      have e2 : (a &&& b) / 2 = a / 2 &&& b / 2 := Nat.and_div_two
      have e3 : (a ||| b) / 2 = a / 2 ||| b / 2 := Nat.or_div_two
      have m : ∀ x : Nat, x % 2 = if x.testBit 0 then 1 else 0 := fun x => by
        rw [Nat.testBit_zero]
        by_cases z : x % 2 = 1
        · simp [z]
        · simp [z]; omega
      have f1 := m (a ^^^ b)
      have f2 := m (a &&& b)
      have f3 := m (a ||| b)
      rw [Nat.testBit_xor] at f1
      rw [Nat.testBit_and] at f2
      rw [Nat.testBit_or] at f3
      have d1 := Nat.div_add_mod (a ^^^ b) 2
      have d2 := Nat.div_add_mod (a &&& b) 2
      have d3 := Nat.div_add_mod (a ||| b) 2
      rw [e1] at d1
      rw [e2] at d2
      rw [e3] at d3
      have key : ∀ (u v : Bool) (x y z : Nat), x = (if (u ^^ v) = true then 1 else 0) → y = (if (u && v) = true then 1 else 0) → z = (if (u || v) = true then 1 else 0) → x + y = z := by
        intro u v x y z h1 h2 h3
        subst h1 h2 h3
        cases u <;> cases v <;> rfl
      have := key _ _ _ _ _ f1 f2 f3
      omega
theorem bxor (a b : Nat) : Builtin.bitXor (a : Int) (b : Int) = ((a ^^^ b : Nat) : Int) := by
  unfold Builtin.bitXor
  rw [bor, band]
  have := xor_add_and a b
  omega
/-- the sum of 2 ^ w over the w below m of which p says yes -/
def bsum (p : Nat → Bool) : Nat → Nat
  | 0 => 0
  | m + 1 => bsum p m + if p m = true then 2 ^ m else 0
theorem bsum_lt (p : Nat → Bool) : ∀ m, bsum p m < 2 ^ m
  | 0 => Nat.one_pos
  | m + 1 => by
    have := bsum_lt p m
    have e : 2 ^ (m + 1) = 2 ^ m + 2 ^ m := by rw [Nat.pow_succ]; omega
    show bsum p m + (if p m = true then 2 ^ m else 0) < _
    split <;> omega
theorem bsum_bit (p : Nat → Bool) : ∀ m i, (bsum p m).testBit i = (decide (i < m) && p i)
  | 0, i => by simp [bsum]
  | m + 1, i => by
    have hlt := bsum_lt p m
    have ih := bsum_bit p m
    by_cases h1 : i < m
    · have e : (bsum p (m + 1)).testBit i = (bsum p m).testBit i := by
        show (bsum p m + if p m = true then 2 ^ m else 0).testBit i = _
        split
        · rw [Nat.add_comm]; exact Nat.testBit_two_pow_add_gt h1 _
        · rfl
      rw [e, ih i, decide_eq_true h1, decide_eq_true (show i < m + 1 by omega)]
    · by_cases h2 : i = m
      · subst h2
        rw [decide_eq_true (show i < i + 1 by omega)]
        show (bsum p i + if p i = true then 2 ^ i else 0).testBit i = _
        have z : (bsum p i).testBit i = false := Nat.testBit_lt_two_pow hlt
        cases hp : p i with
        | true => rw [if_pos rfl, Nat.add_comm, Nat.testBit_two_pow_add_eq, z]; rfl
        | false => rw [if_neg (by decide)]; exact z
      · rw [decide_eq_false (show ¬ i < m + 1 by omega)]
        have := bsum_lt p (m + 1)
        have e : 2 ^ (m + 1) ≤ 2 ^ i := Nat.pow_le_pow_right (by decide) (by omega)
        exact Nat.testBit_lt_two_pow (by omega)
theorem bsum_all (m : Nat) : bsum (fun _ => true) m = 2 ^ m - 1 := by
  refine Nat.eq_of_testBit_eq fun i => ?_
  rw [bsum_bit, Nat.testBit_two_pow_sub_one, Bool.and_true]
theorem bsum_none (m : Nat) : bsum (fun _ => false) m = 0 := by
  refine Nat.eq_of_testBit_eq fun i => ?_
  rw [bsum_bit, Nat.zero_testBit, Bool.and_false]
/-- the value of a sentence -/
def evalB (g : Str → Bool) : Tr → Bool
  | .nm x => g x
  | .yes => true
  | .no => false
  | .not t => !evalB g t
  | .bin .and a b => evalB g a && evalB g b
  | .bin .or a b => evalB g a || evalB g b
  | .bin .thn a b => !evalB g a || evalB g b
  | .bin .same a b => evalB g a == evalB g b
theorem evalB_congr {g h : Str → Bool} : ∀ {t : Tr}, (∀ x ∈ t.names, g x = h x) → evalB g t = evalB h t
  | .nm x, e => e x List.mem_cons_self
  | .yes, _ => rfl
  | .no, _ => rfl
  | .not t, e => congrArg (!·) (evalB_congr (t := t) e)
  | .bin o a b, e => by
    have e1 := evalB_congr (t := a) fun x hx => e x (List.mem_append_left _ hx)
    have e2 := evalB_congr (t := b) fun x hx => e x (List.mem_append_right _ hx)
    cases o <;> simp only [evalB, e1, e2]
/-! the sides of a sentence -/
def joinN : Op → Nat × Nat → Nat × Nat → Nat × Nat
  | .and, l, r => (l.1 &&& r.1, l.2 ||| r.2)
  | .or, l, r => (l.1 ||| r.1, l.2 &&& r.2)
  | .thn, l, r => (l.2 ||| r.1, l.1 &&& r.2)
  | .same, l, r => ((l.1 &&& r.1) ||| (l.2 &&& r.2), (l.1 &&& r.2) ||| (l.2 &&& r.1))
def sidesN (f : Str → Nat × Nat) (e : Nat) : Tr → Nat × Nat
  | .nm x => f x
  | .yes => (e, 0)
  | .no => (0, e)
  | .not t => ((sidesN f e t).2, (sidesN f e t).1)
  | .bin o a b => joinN o (sidesN f e a) (sidesN f e b)
/-- all names known in the world i -/
theorem sides_known {f : Str → Nat × Nat} {e i : Nat} {g : Str → Bool} (he : e.testBit i = true) : ∀ {t : Tr}, (∀ x ∈ t.names, (f x).1.testBit i = g x ∧ (f x).2.testBit i = !g x) →
    (sidesN f e t).1.testBit i = evalB g t ∧ (sidesN f e t).2.testBit i = !evalB g t
  | .nm x, h => h x List.mem_cons_self
  | .yes, _ => ⟨he, Nat.zero_testBit i⟩
  | .no, _ => ⟨Nat.zero_testBit i, he⟩
  | .not t, h => by
    obtain ⟨h1, h2⟩ := sides_known he (t := t) h
    exact ⟨h2, by show (sidesN f e t).1.testBit i = !!evalB g t; rw [h1, Bool.not_not]⟩
  | .bin o a b, h => by
    obtain ⟨a1, a2⟩ := sides_known he (t := a) fun x hx => h x (List.mem_append_left _ hx)
    obtain ⟨b1, b2⟩ := sides_known he (t := b) fun x hx => h x (List.mem_append_right _ hx)
    cases o <;> simp only [sidesN, joinN, evalB, Nat.testBit_and, Nat.testBit_or, a1, a2, b1, b2] <;> cases evalB g a <;> cases evalB g b <;> first | exact ⟨rfl, rfl⟩ | exact ⟨trivial, trivial⟩ | decide
/-- a world that isn't there -/
theorem sides_out {f : Str → Nat × Nat} {e i : Nat} (he : e.testBit i = false) : ∀ {t : Tr}, (∀ x ∈ t.names, (f x).1.testBit i = false ∧ (f x).2.testBit i = false) →
    (sidesN f e t).1.testBit i = false ∧ (sidesN f e t).2.testBit i = false
  | .nm x, h => h x List.mem_cons_self
  | .yes, _ => ⟨he, Nat.zero_testBit i⟩
  | .no, _ => ⟨Nat.zero_testBit i, he⟩
  | .not t, h => by
    obtain ⟨h1, h2⟩ := sides_out he (t := t) h
    exact ⟨h2, h1⟩
  | .bin o a b, h => by
    obtain ⟨a1, a2⟩ := sides_out he (t := a) fun x hx => h x (List.mem_append_left _ hx)
    obtain ⟨b1, b2⟩ := sides_out he (t := b) fun x hx => h x (List.mem_append_right _ hx)
    cases o <;> simp only [sidesN, joinN, Nat.testBit_and, Nat.testBit_or, a1, a2, b1, b2] <;> first | exact ⟨rfl, rfl⟩ | exact ⟨trivial, trivial⟩ | decide
theorem sidesN_congr {f h : Str → Nat × Nat} {e : Nat} : ∀ {t : Tr}, (∀ x ∈ t.names, f x = h x) → sidesN f e t = sidesN h e t
  | .nm x, q => q x List.mem_cons_self
  | .yes, _ => rfl
  | .no, _ => rfl
  | .not t, q => by
    have := sidesN_congr (e := e) (t := t) q
    show ((sidesN f e t).2, (sidesN f e t).1) = _
    rw [this]; rfl
  | .bin o a b, q => by
    have e1 := sidesN_congr (e := e) (t := a) fun x hx => q x (List.mem_append_left _ hx)
    have e2 := sidesN_congr (e := e) (t := b) fun x hx => q x (List.mem_append_right _ hx)
    show joinN o _ _ = joinN o _ _
    rw [e1, e2]
/-- the name's value in a world of these names -/
def inW (ns : List Str) (i : Nat) (x : Str) : Bool := i.testBit (ns.idxOf x)
/-- the worlds in which the name at place k is 1 -/
def colN (n k : Nat) : Nat := bsum (fun i => i.testBit k) (2 ^ n)
def fullN (n : Nat) : Nat := 2 ^ (2 ^ n) - 1
def tableN (ns : List Str) (t : Tr) : Nat := bsum (fun i => evalB (inW ns i) t) (2 ^ ns.length)
def breakN (ns : List Str) (t : Tr) : Nat := bsum (fun i => !evalB (inW ns i) t) (2 ^ ns.length)
theorem fullN_bit (n i : Nat) : (fullN n).testBit i = decide (i < 2 ^ n) := by unfold fullN; rw [Nat.testBit_two_pow_sub_one]
/-- the sides of the names, all known -/
def ofN (ns : List Str) (x : Str) : Nat × Nat := (colN ns.length (ns.idxOf x), fullN ns.length ^^^ colN ns.length (ns.idxOf x))
theorem sides_table {ns : List Str} {t : Tr} : (sidesN (ofN ns) (fullN ns.length) t).1 = tableN ns t := by
  refine Nat.eq_of_testBit_eq fun i => ?_
  unfold tableN
  rw [bsum_bit]
  by_cases h : i < 2 ^ ns.length
  · rw [decide_eq_true h, Bool.true_and]
    refine (sides_known (g := inW ns i) (by rw [fullN_bit, decide_eq_true h]) fun x _ => ?_).1
    unfold ofN colN
    rw [Nat.testBit_xor, bsum_bit, fullN_bit, decide_eq_true h, Bool.true_and, Bool.true_xor]
    exact ⟨rfl, rfl⟩
  · rw [decide_eq_false h, Bool.false_and]
    refine (sides_out (by rw [fullN_bit, decide_eq_false h]) fun x _ => ?_).1
    unfold ofN colN
    rw [Nat.testBit_xor, bsum_bit, fullN_bit, decide_eq_false h]
    exact ⟨rfl, rfl⟩
theorem break_table {ns : List Str} {t : Tr} : fullN ns.length ^^^ tableN ns t = breakN ns t := by
  refine Nat.eq_of_testBit_eq fun i => ?_
  unfold tableN breakN
  rw [Nat.testBit_xor, bsum_bit, bsum_bit, fullN_bit]
  cases decide (i < 2 ^ ns.length) <;> cases evalB (inW ns i) t <;> rfl
theorem bit_div (a k : Nat) : ((a / 2 ^ k) % 2 : Nat) = if a.testBit k = true then 1 else 0 := by
  rw [Nat.testBit_eq_decide_div_mod_eq]
  by_cases h : a / 2 ^ k % 2 = 1
  · rw [decide_eq_true h, if_pos rfl, h]
  · rw [decide_eq_false h, if_neg (by decide)]; omega
end Mc

/-! ### columns, tables by bits, the least of some ranks -/
namespace Mc
open PySem
theorem col_bit (n k i : Nat) : (colN n k).testBit i = (decide (i < 2 ^ n) && i.testBit k) := bsum_bit _ _ _
theorem col_start (k : Nat) : (2 ^ (2 ^ k) - 1) * 2 ^ (2 ^ k) = colN (k + 1) k := by
  refine Nat.eq_of_testBit_eq fun i => ?_
  have e2 : 2 ^ (k + 1) = 2 ^ k + 2 ^ k := by rw [Nat.pow_succ]; omega
  rw [col_bit, Nat.mul_comm, Nat.testBit_two_pow_mul, Nat.testBit_two_pow_sub_one]
  by_cases h1 : i < 2 ^ k
  · have z : i.testBit k = false := Nat.testBit_lt_two_pow h1
    rw [z, Bool.and_false, decide_eq_false (show ¬ i ≥ 2 ^ k by omega), Bool.false_and]
  · by_cases h2 : i < 2 ^ (k + 1)
    · have z : i.testBit k = true := by
        have e : i = 2 ^ k + (i - 2 ^ k) := by omega
        rw [e, Nat.testBit_two_pow_add_eq, Nat.testBit_lt_two_pow (show i - 2 ^ k < 2 ^ k by omega)]
        rfl
      rw [z, decide_eq_true h2, decide_eq_true (show i ≥ 2 ^ k by omega), decide_eq_true (show i - 2 ^ k < 2 ^ k by omega)]
    · rw [decide_eq_false h2, decide_eq_false (show ¬ i - 2 ^ k < 2 ^ k by omega)]
      simp
theorem col_step {j k : Nat} (h : k < j) : colN j k ||| (colN j k * 2 ^ (2 ^ j)) = colN (j + 1) k := by
  refine Nat.eq_of_testBit_eq fun i => ?_
  have e2 : 2 ^ (j + 1) = 2 ^ j + 2 ^ j := by rw [Nat.pow_succ]; omega
  rw [Nat.testBit_or, col_bit, col_bit, Nat.mul_comm, Nat.testBit_two_pow_mul, col_bit]
  by_cases h1 : i < 2 ^ j
  · rw [decide_eq_true h1, decide_eq_true (show i < 2 ^ (j + 1) by omega), decide_eq_false (show ¬ i ≥ 2 ^ j by omega)]
    simp
  · rw [decide_eq_false h1, decide_eq_true (show i ≥ 2 ^ j by omega)]
    by_cases h2 : i < 2 ^ (j + 1)
    · have z : (i - 2 ^ j).testBit k = i.testBit k := by
        have e : i = 2 ^ j + (i - 2 ^ j) := by omega
        conv => rhs; rw [e]
        rw [Nat.testBit_two_pow_add_gt h]
      rw [decide_eq_true h2, decide_eq_true (show i - 2 ^ j < 2 ^ j by omega), z]
      simp
    · rw [decide_eq_false h2, decide_eq_false (show ¬ i - 2 ^ j < 2 ^ j by omega)]
      simp
theorem table_bit (ns : List Str) (t : Tr) (i : Nat) : (tableN ns t).testBit i = (decide (i < 2 ^ ns.length) && evalB (inW ns i) t) := bsum_bit _ _ _
theorem tb_yes (ns : List Str) : tableN ns .yes = fullN ns.length := bsum_all _
theorem tb_no (ns : List Str) : tableN ns .no = 0 := bsum_none _
theorem tb_not (ns : List Str) (t : Tr) : tableN ns (.not t) = fullN ns.length ^^^ tableN ns t := by
  refine Nat.eq_of_testBit_eq fun i => ?_
  rw [Nat.testBit_xor, table_bit, table_bit, fullN_bit]
  show (decide (i < 2 ^ ns.length) && !evalB (inW ns i) t) = _
  cases decide (i < 2 ^ ns.length) <;> cases evalB (inW ns i) t <;> rfl
theorem tb_and (ns : List Str) (a b : Tr) : tableN ns (.bin .and a b) = tableN ns a &&& tableN ns b := by
  refine Nat.eq_of_testBit_eq fun i => ?_
  rw [Nat.testBit_and, table_bit, table_bit, table_bit]
  show (decide (i < 2 ^ ns.length) && (evalB (inW ns i) a && evalB (inW ns i) b)) = _
  cases decide (i < 2 ^ ns.length) <;> cases evalB (inW ns i) a <;> cases evalB (inW ns i) b <;> rfl
theorem tb_or (ns : List Str) (a b : Tr) : tableN ns (.bin .or a b) = tableN ns a ||| tableN ns b := by
  refine Nat.eq_of_testBit_eq fun i => ?_
  rw [Nat.testBit_or, table_bit, table_bit, table_bit]
  show (decide (i < 2 ^ ns.length) && (evalB (inW ns i) a || evalB (inW ns i) b)) = _
  cases decide (i < 2 ^ ns.length) <;> cases evalB (inW ns i) a <;> cases evalB (inW ns i) b <;> rfl
theorem tb_thn (ns : List Str) (a b : Tr) : tableN ns (.bin .thn a b) = (fullN ns.length ^^^ tableN ns a) ||| tableN ns b := by
  refine Nat.eq_of_testBit_eq fun i => ?_
  rw [Nat.testBit_or, Nat.testBit_xor, table_bit, table_bit, table_bit, fullN_bit]
  show (decide (i < 2 ^ ns.length) && (!evalB (inW ns i) a || evalB (inW ns i) b)) = _
  cases decide (i < 2 ^ ns.length) <;> cases evalB (inW ns i) a <;> cases evalB (inW ns i) b <;> rfl
theorem tb_same (ns : List Str) (a b : Tr) : tableN ns (.bin .same a b) = (fullN ns.length ^^^ tableN ns a) ^^^ tableN ns b := by
  refine Nat.eq_of_testBit_eq fun i => ?_
  rw [Nat.testBit_xor, Nat.testBit_xor, table_bit, table_bit, table_bit, fullN_bit]
  show (decide (i < 2 ^ ns.length) && (evalB (inW ns i) a == evalB (inW ns i) b)) = _
  cases decide (i < 2 ^ ns.length) <;> cases evalB (inW ns i) a <;> cases evalB (inW ns i) b <;> rfl
theorem break_bit (ns : List Str) (t : Tr) (i : Nat) : (breakN ns t).testBit i = (decide (i < 2 ^ ns.length) && !evalB (inW ns i) t) := bsum_bit _ _ _
end Mc

/-! ### ranks that are turned -/
namespace Mc
open PySem
theorem getD_mem {rs : List Int} {i : Nat} (h : i < rs.length) : rs.getD i 0 ∈ rs := by
  rw [List.getD, List.getElem?_eq_getElem h]
  exact List.getElem_mem h
theorem mem_getD {rs : List Int} {x : Int} (h : x ∈ rs) : ∃ i, i < rs.length ∧ rs.getD i 0 = x := by
  obtain ⟨i, hi, e⟩ := List.mem_iff_getElem.mp h
  exact ⟨i, hi, by rw [List.getD, List.getElem?_eq_getElem hi]; exact e⟩
end Mc

/-! ### minds that are poured together -/
namespace Mc
open PySem
/-- the least of a row -/
def leastOf (l : List Int) (m : Int) : Prop := m ∈ l ∧ ∀ a ∈ l, m ≤ a
theorem leastOf.eq {l : List Int} {m k : Int} (h1 : leastOf l m) (h2 : leastOf l k) : m = k := by
  have := h1.2 k h2.1
  have := h2.2 m h1.1
  omega
end Mc

/-! ### a sentence of which some names are known -/
namespace Mc
open PySem
end Mc

/-! ### two sentences beside one another -/
namespace Mc
open PySem
def datT : Tr → PyData
  | .nm x => .tuple [.str "name", .str x]
  | .yes => .tuple [.str "yes"]
  | .no => .tuple [.str "no"]
  | .not t => .tuple [.str "not", datT t]
  | .bin o a b => .tuple [.str o.str, datT a, datT b]
theorem datT_depth : ∀ t : Tr, (datT t).depth ≤ t.depth
  | .nm x => Nat.le_refl _
  | .yes => Nat.le_refl _
  | .no => Nat.le_refl _
  | .not t => by
    have := datT_depth t
    show max 0 (max (datT t).depth 0) + 1 ≤ t.depth + 1
    omega
  | .bin o a b => by
    have := datT_depth a
    have := datT_depth b
    show max 0 (max (datT a).depth (max (datT b).depth 0)) + 1 ≤ max a.depth b.depth + 1
    omega
theorem opS_ok (o : Op) : PyData.strOk o.str = true := by cases o <;> decide +kernel
theorem datT_lay : ∀ {t : Tr}, (∀ x ∈ t.names, PyData.strOk x = true) → (datT t).canLay0 = true
  | .nm x, h => by
    show (PyData.strOk "name" && (PyData.strOk x && true)) = true
    rw [h x List.mem_cons_self]
    decide +kernel
  | .yes, _ => by decide +kernel
  | .no, _ => by decide +kernel
  | .not t, h => by
    show (PyData.strOk "not" && ((datT t).canLay0 && true)) = true
    rw [datT_lay (t := t) h]
    decide +kernel
  | .bin o a b, h => by
    show (PyData.strOk o.str && ((datT a).canLay0 && ((datT b).canLay0 && true))) = true
    rw [datT_lay (t := a) fun x hx => h x (List.mem_append_left _ hx), datT_lay (t := b) fun x hx => h x (List.mem_append_right _ hx), opS_ok]
    rfl
def eqvT (t u : Tr) : Bool := PyData.eqv (datT t) (datT u)
theorem op_beq (o p : Op) : (o.str == p.str) = true ↔ o = p := by
  constructor
  · intro h
    revert h
    cases o <;> cases p <;> first | exact fun _ => rfl | (intro h; exact absurd h (by decide +kernel))
  · rintro rfl
    exact beq_self_eq_true _
theorem eqvT_iff : ∀ (t u : Tr), eqvT t u = true ↔ t = u
  | .nm x, .nm y => by
    show ((("name" : Str) == "name") && ((x == y) && true)) = true ↔ _
    rw [Bool.and_true, beq_self_eq_true, Bool.true_and, beq_iff_eq]
    exact ⟨fun h => by rw [h], fun h => by cases h; rfl⟩
  | .yes, .yes => ⟨fun _ => rfl, fun _ => by decide +kernel⟩
  | .no, .no => ⟨fun _ => rfl, fun _ => by decide +kernel⟩
  | .not t, .not u => by
    have ih := eqvT_iff t u
    show ((("not" : Str) == "not") && (eqvT t u && true)) = true ↔ _
    rw [Bool.and_true, beq_self_eq_true, Bool.true_and, ih]
    exact ⟨fun h => by rw [h], fun h => by cases h; rfl⟩
  | .bin o a b, .bin p c d => by
    have i1 := eqvT_iff a c
    have i2 := eqvT_iff b d
    show ((o.str == p.str) && (eqvT a c && (eqvT b d && true))) = true ↔ _
    rw [Bool.and_true, Bool.and_eq_true_iff, Bool.and_eq_true_iff, op_beq, i1, i2]
    exact ⟨fun ⟨h1, h2, h3⟩ => by rw [h1, h2, h3], fun h => by cases h; exact ⟨rfl, rfl, rfl⟩⟩
  | .nm x, .yes => ⟨fun h => absurd (show ((("name" : Str) == "yes") && false) = true from h) (by simp), fun h => nomatch h⟩
  | .nm x, .no => ⟨fun h => absurd (show ((("name" : Str) == "no") && false) = true from h) (by simp), fun h => nomatch h⟩
  | .nm x, .not u => ⟨fun h => by
      cases u <;> exact absurd (show ((("name" : Str) == "not") && (false && true)) = true from h) (by simp), fun h => nomatch h⟩
  | .nm x, .bin p c d => ⟨fun h => by
      cases c <;> exact absurd (show ((("name" : Str) == p.str) && (false && false)) = true from h) (by simp), fun h => nomatch h⟩
  | .yes, .nm y => ⟨fun h => absurd (show ((("yes" : Str) == "name") && false) = true from h) (by simp), fun h => nomatch h⟩
  | .yes, .no => ⟨fun h => absurd (show ((("yes" : Str) == "no") && true) = true from h) (by decide +kernel), fun h => nomatch h⟩
  | .yes, .not u => ⟨fun h => absurd (show ((("yes" : Str) == "not") && false) = true from h) (by simp), fun h => nomatch h⟩
  | .yes, .bin p c d => ⟨fun h => absurd (show ((("yes" : Str) == p.str) && false) = true from h) (by simp), fun h => nomatch h⟩
  | .no, .nm y => ⟨fun h => absurd (show ((("no" : Str) == "name") && false) = true from h) (by simp), fun h => nomatch h⟩
  | .no, .yes => ⟨fun h => absurd (show ((("no" : Str) == "yes") && true) = true from h) (by decide +kernel), fun h => nomatch h⟩
  | .no, .not u => ⟨fun h => absurd (show ((("no" : Str) == "not") && false) = true from h) (by simp), fun h => nomatch h⟩
  | .no, .bin p c d => ⟨fun h => absurd (show ((("no" : Str) == p.str) && false) = true from h) (by simp), fun h => nomatch h⟩
  | .not t, .nm y => ⟨fun h => by
      cases t <;> exact absurd (show ((("not" : Str) == "name") && (false && true)) = true from h) (by simp), fun h => nomatch h⟩
  | .not t, .yes => ⟨fun h => absurd (show ((("not" : Str) == "yes") && false) = true from h) (by simp), fun h => nomatch h⟩
  | .not t, .no => ⟨fun h => absurd (show ((("not" : Str) == "no") && false) = true from h) (by simp), fun h => nomatch h⟩
  | .not t, .bin p c d => ⟨fun h => absurd (show ((("not" : Str) == p.str) && (PyData.eqv (datT t) (datT c) && false)) = true from h) (by simp), fun h => nomatch h⟩
  | .bin o a b, .nm y => ⟨fun h => by
      cases a <;> exact absurd (show ((o.str == "name") && (false && false)) = true from h) (by simp), fun h => nomatch h⟩
  | .bin o a b, .yes => ⟨fun h => absurd (show ((o.str == "yes") && false) = true from h) (by simp), fun h => nomatch h⟩
  | .bin o a b, .no => ⟨fun h => absurd (show ((o.str == "no") && false) = true from h) (by simp), fun h => nomatch h⟩
  | .bin o a b, .not u => ⟨fun h => absurd (show ((o.str == "not") && (PyData.eqv (datT a) (datT u) && false)) = true from h) (by simp), fun h => nomatch h⟩
end Mc
namespace L2
open PySem PyProof.Rows Mc
variable {X : Cx}
theorem vals_one {x : V} {its : List Value} (h : Vals [x] its) : ∃ u, its = [u] ∧ RelV x u := by
  cases h with
  | cons r h => cases h; exact ⟨_, rfl, r⟩
theorem vals_two {x y : V} {its : List Value} (h : Vals [x, y] its) : ∃ u v, its = [u, v] ∧ RelV x u ∧ RelV y v := by
  cases h with
  | cons r h => obtain ⟨v, rfl, r2⟩ := vals_one h; exact ⟨_, _, rfl, r, r2⟩
theorem vals_three {x y z : V} {its : List Value} (h : Vals [x, y, z] its) : ∃ u v w, its = [u, v, w] ∧ RelV x u ∧ RelV y v ∧ RelV z w := by
  cases h with
  | cons r h => obtain ⟨v, w, rfl, r2, r3⟩ := vals_two h; exact ⟨_, _, _, rfl, r, r2, r3⟩
theorem tr_reads {pins : List (Addr × Obj)} {σ : St} {H : Hp} {s : Shared} (I : Inv X pins σ H s) {v : V} {t : Tr} (h : TrAt H v t) : ∀ {u : Value}, RelV v u → ∃ as, Reads s.heap u (datT t) as := by
  induction h with
  | @nm a x e =>
    intro u r
    obtain rfl : u = .ref a := r
    obtain ⟨its, rv, ⟨o, ho, hc, n, hd⟩, _⟩ := I.tuple (SqT.of e)
    obtain ⟨u1, u2, rfl, r1, r2⟩ := vals_two rv
    obtain ⟨t1, rfl⟩ := r1
    obtain ⟨t2, rfl⟩ := r2
    exact ⟨_, .tuple ho hc hd (.cons (.str _ _) (.cons (.str _ _) .nil))⟩
  | @yes a e =>
    intro u r
    obtain rfl : u = .ref a := r
    obtain ⟨its, rv, ⟨o, ho, hc, n, hd⟩, _⟩ := I.tuple (SqT.of e)
    obtain ⟨u1, rfl, r1⟩ := vals_one rv
    obtain ⟨t1, rfl⟩ := r1
    exact ⟨_, .tuple ho hc hd (.cons (.str _ _) .nil)⟩
  | @no a e =>
    intro u r
    obtain rfl : u = .ref a := r
    obtain ⟨its, rv, ⟨o, ho, hc, n, hd⟩, _⟩ := I.tuple (SqT.of e)
    obtain ⟨u1, rfl, r1⟩ := vals_one rv
    obtain ⟨t1, rfl⟩ := r1
    exact ⟨_, .tuple ho hc hd (.cons (.str _ _) .nil)⟩
  | @not a v t e _ ih =>
    intro u r
    obtain rfl : u = .ref a := r
    obtain ⟨its, rv, ⟨o, ho, hc, n, hd⟩, _⟩ := I.tuple (SqT.of e)
    obtain ⟨u1, u2, rfl, r1, r2⟩ := vals_two rv
    obtain ⟨t1, rfl⟩ := r1
    obtain ⟨as, h2⟩ := ih r2
    exact ⟨_, .tuple ho hc hd (.cons (.str _ _) (.cons h2 .nil))⟩
  | @bin a p v w t t' e _ _ ih1 ih2 =>
    intro u r
    obtain rfl : u = .ref a := r
    obtain ⟨its, rv, ⟨o, ho, hc, n, hd⟩, _⟩ := I.tuple (SqT.of e)
    obtain ⟨u1, u2, u3, rfl, r1, r2, r3⟩ := vals_three rv
    obtain ⟨t1, rfl⟩ := r1
    obtain ⟨as, h2⟩ := ih1 r2
    obtain ⟨bs, h3⟩ := ih2 r3
    exact ⟨_, .tuple ho hc hd (.cons (.str _ _) (.cons h2 (.cons h3 .nil)))⟩
def rEqTr : R2 := fun x y H Q => ∃ t u, TrAt H x t ∧ TrAt H y u ∧ t.depth ≤ 60 ∧ (∀ z ∈ t.names, PyData.strOk z = true) ∧ (∀ z ∈ u.names, PyData.strOk z = true) ∧ Q (.bl (eqvT t u)) H
theorem op_eqTr (hu : X.A.units + 64 < cLine) : OpR X (compareOp .Eq) rEqTr := by
  intro pins s σ H x y v u Q I rx ry h
  obtain ⟨t, t', h1, h2, hd, n1, n2, q⟩ := h
  obtain ⟨as, r1⟩ := tr_reads I h1 rx
  obtain ⟨bs, r2⟩ := tr_reads I h2 ry
  have hdd := datT_depth t
  exact SeqAt.compareEq_reads r1 r2 (datT_lay n1) (datT_lay n2) (by omega) ⟨.bl (eqvT t t'), H, I, rfl, q⟩
/-- a tuple against the empty one -/
def rEqTE (K : PySem.W.Frag) : R2 := fun x y H Q => ∃ (a b : Addr) (xs : List V), x = .ref a ∧ y = .ref b ∧ SqT K H a xs ∧ SqT K H b [] ∧ Q (.bl xs.isEmpty) H
theorem op_eqTE (hu : X.A.units < cLine) : OpR X (compareOp .Eq) (rEqTE X.K) := by
  intro pins s σ H x y v u Q I rx ry h
  obtain ⟨a, b, xs, rfl, rfl, ha, hb, q⟩ := h
  cases rx
  cases ry
  obtain ⟨its, r1, p1, _⟩ := I.tuple ha
  obtain ⟨its2, r2, p2, _⟩ := I.tuple hb
  cases r2
  refine SeqAt.eq_tupleAt (e := fun _ => true) p1 p2 hu (fun j _ h2 => absurd h2 (Nat.not_lt_zero j)) ?_
  have e : ((List.range (min its.toArray.size ([] : List Value).toArray.size)).all (fun _ => true) && its.toArray.size == ([] : List Value).toArray.size) = xs.isEmpty := by
    cases r1 with
    | nil => rfl
    | cons _ _ => simp
  rw [e]
  exact ⟨.bl xs.isEmpty, H, I, rfl, q⟩
end L2

set_option Elab.async false
set_option linter.all false
set_option maxRecDepth 100000
set_option maxHeartbeats 8000000
namespace K24
open PySem L2
def top (i : Nat) : Stmt := PySem.Challenge.pw_mindchange_k24_sentences_of_a_mind.main.body.getD i (.Pass ⟨0, 0, 0, 0⟩)
abbrev s_parts_of : Stmt := top 4
abbrev s_layer_below : Stmt := top 5
abbrev s_names_in : Stmt := top 6
abbrev s_bit_at : Stmt := top 8
abbrev s_need_names : Stmt := top 9
abbrev s_sides : Stmt := top 10
abbrev s_turned_about : Stmt := top 11
abbrev s_joined : Stmt := top 12
abbrev s_full : Stmt := top 13
abbrev s_worlds_with : Stmt := top 14
abbrev s_sides_of_names : Stmt := top 15
abbrev s_table : Stmt := top 16
abbrev s_breaking : Stmt := top 17
abbrev s_greatest_first : Stmt := top 19
abbrev s_less_the_least : Stmt := top 20
abbrev s_marked : Stmt := top 21
abbrev s_mind_of : Stmt := top 22
abbrev s_chosen : Stmt := top 24
abbrev s_tree_of : Stmt := top 25
abbrev s_worlds_below : Stmt := top 26
abbrev s_sentences_of : Stmt := top 27
abbrev s__law_cell_at : Stmt := top 29
abbrev s__law_whole : Stmt := top 30
abbrev s__law_names_by : Stmt := top 31
abbrev s__law_many : Stmt := top 32
abbrev s__law_column : Stmt := top 33
abbrev s__law_table : Stmt := top 34
abbrev s__law_mind_by : Stmt := top 35
abbrev s__law_is_mind : Stmt := top 36
abbrev s__law_parts : Stmt := top 37
abbrev s__law_pair_fits : Stmt := top 38
abbrev s_law : Stmt := top 39
set_option genSizeOf false in
set_option genInjectivity false in
/-- the addresses and the records -/
structure Adr where
  a_parts_of : Addr
  fd_parts_of : FuncData
  a_layer_below : Addr
  fd_layer_below : FuncData
  a_names_in : Addr
  fd_names_in : FuncData
  a_bit_at : Addr
  fd_bit_at : FuncData
  a_need_names : Addr
  fd_need_names : FuncData
  a_sides : Addr
  fd_sides : FuncData
  a_turned_about : Addr
  fd_turned_about : FuncData
  a_joined : Addr
  fd_joined : FuncData
  a_full : Addr
  fd_full : FuncData
  a_worlds_with : Addr
  fd_worlds_with : FuncData
  a_sides_of_names : Addr
  fd_sides_of_names : FuncData
  a_table : Addr
  fd_table : FuncData
  a_breaking : Addr
  fd_breaking : FuncData
  a_greatest_first : Addr
  fd_greatest_first : FuncData
  a_less_the_least : Addr
  fd_less_the_least : FuncData
  a_marked : Addr
  fd_marked : FuncData
  a_mind_of : Addr
  fd_mind_of : FuncData
  a_chosen : Addr
  fd_chosen : FuncData
  a_tree_of : Addr
  fd_tree_of : FuncData
  a_worlds_below : Addr
  fd_worlds_below : FuncData
  a_sentences_of : Addr
  fd_sentences_of : FuncData
  a__law_cell_at : Addr
  fd__law_cell_at : FuncData
  a__law_whole : Addr
  fd__law_whole : FuncData
  a__law_names_by : Addr
  fd__law_names_by : FuncData
  a__law_many : Addr
  fd__law_many : FuncData
  a__law_column : Addr
  fd__law_column : FuncData
  a__law_table : Addr
  fd__law_table : FuncData
  a__law_mind_by : Addr
  fd__law_mind_by : FuncData
  a__law_is_mind : Addr
  fd__law_is_mind : FuncData
  a__law_parts : Addr
  fd__law_parts : FuncData
  a__law_pair_fits : Addr
  fd__law_pair_fits : FuncData
  a_law : Addr
  fd_law : FuncData
  c_MindError : Addr
  c_NoName : Addr
/-- what the top has written -/
structure Txt (P : Program) (w : World) (K : PySem.W.Frag) (mg : Str → Option Value) (t : Adr) : Prop where
  F_parts_of : Fun K "parts_of" "parts_of" s_parts_of t.a_parts_of t.fd_parts_of
  b_parts_of : Binds K t.fd_parts_of ["tree"] []
  m_parts_of : mg "parts_of" = some (.ref t.a_parts_of)
  k_parts_of : PySem.W.keepIn K (.ref t.a_parts_of) = true
  F_layer_below : Fun K "layer_below" "layer_below" s_layer_below t.a_layer_below t.fd_layer_below
  b_layer_below : Binds K t.fd_layer_below ["layer"] []
  m_layer_below : mg "layer_below" = some (.ref t.a_layer_below)
  k_layer_below : PySem.W.keepIn K (.ref t.a_layer_below) = true
  F_names_in : Fun K "names_in" "names_in" s_names_in t.a_names_in t.fd_names_in
  b_names_in : Binds K t.fd_names_in ["tree"] []
  m_names_in : mg "names_in" = some (.ref t.a_names_in)
  k_names_in : PySem.W.keepIn K (.ref t.a_names_in) = true
  F_bit_at : Fun K "bit_at" "bit_at" s_bit_at t.a_bit_at t.fd_bit_at
  b_bit_at : Binds K t.fd_bit_at ["number", "place"] []
  m_bit_at : mg "bit_at" = some (.ref t.a_bit_at)
  k_bit_at : PySem.W.keepIn K (.ref t.a_bit_at) = true
  F_need_names : Fun K "need_names" "need_names" s_need_names t.a_need_names t.fd_need_names
  b_need_names : Binds K t.fd_need_names ["names", "tree"] []
  m_need_names : mg "need_names" = some (.ref t.a_need_names)
  k_need_names : PySem.W.keepIn K (.ref t.a_need_names) = true
  F_sides : Fun K "sides" "sides" s_sides t.a_sides t.fd_sides
  b_sides : Binds K t.fd_sides ["tree", "of_names", "every"] []
  m_sides : mg "sides" = some (.ref t.a_sides)
  k_sides : PySem.W.keepIn K (.ref t.a_sides) = true
  F_turned_about : Fun K "turned_about" "turned_about" s_turned_about t.a_turned_about t.fd_turned_about
  b_turned_about : Binds K t.fd_turned_about ["side"] []
  m_turned_about : mg "turned_about" = some (.ref t.a_turned_about)
  k_turned_about : PySem.W.keepIn K (.ref t.a_turned_about) = true
  F_joined : Fun K "joined" "joined" s_joined t.a_joined t.fd_joined
  b_joined : Binds K t.fd_joined ["kind", "left", "right"] []
  m_joined : mg "joined" = some (.ref t.a_joined)
  k_joined : PySem.W.keepIn K (.ref t.a_joined) = true
  F_full : Fun K "full" "full" s_full t.a_full t.fd_full
  b_full : Binds K t.fd_full ["names"] []
  m_full : mg "full" = some (.ref t.a_full)
  k_full : PySem.W.keepIn K (.ref t.a_full) = true
  F_worlds_with : Fun K "worlds_with" "worlds_with" s_worlds_with t.a_worlds_with t.fd_worlds_with
  b_worlds_with : Binds K t.fd_worlds_with ["names", "place"] []
  m_worlds_with : mg "worlds_with" = some (.ref t.a_worlds_with)
  k_worlds_with : PySem.W.keepIn K (.ref t.a_worlds_with) = true
  F_sides_of_names : Fun K "sides_of_names" "sides_of_names" s_sides_of_names t.a_sides_of_names t.fd_sides_of_names
  b_sides_of_names : Binds K t.fd_sides_of_names ["names", "known_ones"] []
  m_sides_of_names : mg "sides_of_names" = some (.ref t.a_sides_of_names)
  k_sides_of_names : PySem.W.keepIn K (.ref t.a_sides_of_names) = true
  F_table : Fun K "table" "table" s_table t.a_table t.fd_table
  b_table : Binds K t.fd_table ["names", "tree"] []
  m_table : mg "table" = some (.ref t.a_table)
  k_table : PySem.W.keepIn K (.ref t.a_table) = true
  F_breaking : Fun K "breaking" "breaking" s_breaking t.a_breaking t.fd_breaking
  b_breaking : Binds K t.fd_breaking ["names", "tree"] []
  m_breaking : mg "breaking" = some (.ref t.a_breaking)
  k_breaking : PySem.W.keepIn K (.ref t.a_breaking) = true
  F_greatest_first : Fun K "greatest_first" "greatest_first" s_greatest_first t.a_greatest_first t.fd_greatest_first
  b_greatest_first : Binds K t.fd_greatest_first ["ranks"] []
  m_greatest_first : mg "greatest_first" = some (.ref t.a_greatest_first)
  k_greatest_first : PySem.W.keepIn K (.ref t.a_greatest_first) = true
  F_less_the_least : Fun K "less_the_least" "less_the_least" s_less_the_least t.a_less_the_least t.fd_less_the_least
  b_less_the_least : Binds K t.fd_less_the_least ["marks"] []
  m_less_the_least : mg "less_the_least" = some (.ref t.a_less_the_least)
  k_less_the_least : PySem.W.keepIn K (.ref t.a_less_the_least) = true
  F_marked : Fun K "marked" "marked" s_marked t.a_marked t.fd_marked
  b_marked : Binds K t.fd_marked ["marks", "worlds", "rank"] []
  m_marked : mg "marked" = some (.ref t.a_marked)
  k_marked : PySem.W.keepIn K (.ref t.a_marked) = true
  F_mind_of : Fun K "mind_of" "mind_of" s_mind_of t.a_mind_of t.fd_mind_of
  b_mind_of : Binds K t.fd_mind_of ["names", "told"] []
  m_mind_of : mg "mind_of" = some (.ref t.a_mind_of)
  k_mind_of : PySem.W.keepIn K (.ref t.a_mind_of) = true
  F_chosen : Fun K "chosen" "chosen" s_chosen t.a_chosen t.fd_chosen
  b_chosen : Binds K t.fd_chosen ["name", "with_0", "with_1"] []
  m_chosen : mg "chosen" = some (.ref t.a_chosen)
  k_chosen : PySem.W.keepIn K (.ref t.a_chosen) = true
  F_tree_of : Fun K "tree_of" "tree_of" s_tree_of t.a_tree_of t.fd_tree_of
  b_tree_of : Binds K t.fd_tree_of ["names", "table"] []
  m_tree_of : mg "tree_of" = some (.ref t.a_tree_of)
  k_tree_of : PySem.W.keepIn K (.ref t.a_tree_of) = true
  F_worlds_below : Fun K "worlds_below" "worlds_below" s_worlds_below t.a_worlds_below t.fd_worlds_below
  b_worlds_below : Binds K t.fd_worlds_below ["ranks", "rank"] []
  m_worlds_below : mg "worlds_below" = some (.ref t.a_worlds_below)
  k_worlds_below : PySem.W.keepIn K (.ref t.a_worlds_below) = true
  F_sentences_of : Fun K "sentences_of" "sentences_of" s_sentences_of t.a_sentences_of t.fd_sentences_of
  b_sentences_of : Binds K t.fd_sentences_of ["mind"] []
  m_sentences_of : mg "sentences_of" = some (.ref t.a_sentences_of)
  k_sentences_of : PySem.W.keepIn K (.ref t.a_sentences_of) = true
  F__law_cell_at : Fun K "_law_cell_at" "_law_cell_at" s__law_cell_at t.a__law_cell_at t.fd__law_cell_at
  b__law_cell_at : Binds K t.fd__law_cell_at ["_law_script", "_law_k"] []
  m__law_cell_at : mg "_law_cell_at" = some (.ref t.a__law_cell_at)
  k__law_cell_at : PySem.W.keepIn K (.ref t.a__law_cell_at) = true
  F__law_whole : Fun K "_law_whole" "_law_whole" s__law_whole t.a__law_whole t.fd__law_whole
  b__law_whole : Binds K t.fd__law_whole ["_law_found"] []
  m__law_whole : mg "_law_whole" = some (.ref t.a__law_whole)
  k__law_whole : PySem.W.keepIn K (.ref t.a__law_whole) = true
  F__law_names_by : Fun K "_law_names_by" "_law_names_by" s__law_names_by t.a__law_names_by t.fd__law_names_by
  b__law_names_by : Binds K t.fd__law_names_by ["_law_cell", "_law_many_here"] []
  m__law_names_by : mg "_law_names_by" = some (.ref t.a__law_names_by)
  k__law_names_by : PySem.W.keepIn K (.ref t.a__law_names_by) = true
  F__law_many : Fun K "_law_many" "_law_many" s__law_many t.a__law_many t.fd__law_many
  b__law_many : Binds K t.fd__law_many ["_law_cell"] []
  m__law_many : mg "_law_many" = some (.ref t.a__law_many)
  k__law_many : PySem.W.keepIn K (.ref t.a__law_many) = true
  F__law_column : Fun K "_law_column" "_law_column" s__law_column t.a__law_column t.fd__law_column
  b__law_column : Binds K t.fd__law_column ["_law_n", "_law_k"] []
  m__law_column : mg "_law_column" = some (.ref t.a__law_column)
  k__law_column : PySem.W.keepIn K (.ref t.a__law_column) = true
  F__law_table : Fun K "_law_table" "_law_table" s__law_table t.a__law_table t.fd__law_table
  b__law_table : Binds K t.fd__law_table ["_law_names", "_law_tree"] []
  m__law_table : mg "_law_table" = some (.ref t.a__law_table)
  k__law_table : PySem.W.keepIn K (.ref t.a__law_table) = true
  F__law_mind_by : Fun K "_law_mind_by" "_law_mind_by" s__law_mind_by t.a__law_mind_by t.fd__law_mind_by
  b__law_mind_by : Binds K t.fd__law_mind_by ["_law_names", "_law_cells", "_law_way"] []
  m__law_mind_by : mg "_law_mind_by" = some (.ref t.a__law_mind_by)
  k__law_mind_by : PySem.W.keepIn K (.ref t.a__law_mind_by) = true
  F__law_is_mind : Fun K "_law_is_mind" "_law_is_mind" s__law_is_mind t.a__law_is_mind t.fd__law_is_mind
  b__law_is_mind : Binds K t.fd__law_is_mind ["_law_found", "_law_names", "_law_ranks"] []
  m__law_is_mind : mg "_law_is_mind" = some (.ref t.a__law_is_mind)
  k__law_is_mind : PySem.W.keepIn K (.ref t.a__law_is_mind) = true
  F__law_parts : Fun K "_law_parts" "_law_parts" s__law_parts t.a__law_parts t.fd__law_parts
  b__law_parts : Binds K t.fd__law_parts ["_law_names", "_law_tree", "_law_deep"] []
  m__law_parts : mg "_law_parts" = some (.ref t.a__law_parts)
  k__law_parts : PySem.W.keepIn K (.ref t.a__law_parts) = true
  F__law_pair_fits : Fun K "_law_pair_fits" "_law_pair_fits" s__law_pair_fits t.a__law_pair_fits t.fd__law_pair_fits
  b__law_pair_fits : Binds K t.fd__law_pair_fits ["_law_mind", "_law_pair", "_law_rank"] []
  m__law_pair_fits : mg "_law_pair_fits" = some (.ref t.a__law_pair_fits)
  k__law_pair_fits : PySem.W.keepIn K (.ref t.a__law_pair_fits) = true
  F_law : Fun K "law" "law" s_law t.a_law t.fd_law
  b_law : Binds K t.fd_law ["_law_script"] []
  m_law : mg "law" = some (.ref t.a_law)
  k_law : PySem.W.keepIn K (.ref t.a_law) = true
  m_MindError : mg "MindError" = some (.ref t.c_MindError)
  h_MindError : catches K t.c_MindError = true
  m_NoName : mg "NoName" = some (.ref t.c_NoName)
  x_NoName : ExC K t.c_NoName
  u_NoName : under K t.c_NoName t.c_MindError = true
  e_NoName : PySem.W.excIn K t.c_NoName bmV "ValueError.__new__" = true
  n_ValueError : mg "ValueError" = none
  n_list : mg "list" = none
  n_sorted : mg "sorted" = none
  n_sum : mg "sum" = none
  n_enumerate : mg "enumerate" = none
  n_min : mg "min" = none
  n_tuple : mg "tuple" = none
  n_range : mg "range" = none
  n_all : mg "all" = none
  n_len : mg "len" = none
  n_isinstance : mg "isinstance" = none
  n_int : mg "int" = none
  n_max : mg "max" = none
  n_bool : mg "bool" = none
  n_str : mg "str" = none
  n_reversed : mg "reversed" = none
  n_set : mg "set" = none
  bl : ∀ (s : Shared) (u : Value), BindsTo s t.fd_law ⟨[u], []⟩ [("_law_script", u)]
end K24
seal L2.PE L2.PT L2.PW L2.PA L2.PS L2.PSs L2.PG L2.PGs L2.PI L2.PC L2.PO L2.PTs
open PyProof.Rows
namespace K24
open PySem L2 Mc
def spCell (K : PySem.W.Frag) : Sp := fun vs H Q _ => ∃ (a : Addr) (ns : List Int) (k : Int), vs = [.ref a, .int k] ∧ SqL K H a (ns.map V.int) ∧ 0 ≤ k ∧ Q (.int (ns.getD k.toNat 0)) H
section
variable {P : Program} {w : World} {K : PySem.W.Frag} {mg : Str → Option Value} {base : Heap} {t : Adr}
theorem scCell : FnScope ["_law_script", "_law_k"] ["_law_script", "_law_k"] (defScope s__law_cell_at) := ⟨rfl, rfl, rfl, by decide +kernel, rfl, by decide +kernel, by decide +kernel⟩
theorem ok_cell (T : Txt P w K mg t) : FnOk P w K mg base (CX1 P w) 1 t.a__law_cell_at t.fd__law_cell_at ["_law_script", "_law_k"] (spCell K) := by
  refine T.F__law_cell_at.ok1 scCell (fun vs H Q E h => by obtain ⟨a, ns, k, rfl, _⟩ := h; rfl) (fun cdv A outer s H vs Q E hr h => ?_)
  obtain ⟨a, ns, k, rfl, hS, hk, q⟩ := h
  refine ⟨_, (pss_cons (ps_if (pt_cmpR op_lt (pvl 1) (pcallB call_len_seq T.n_len Bt.len (pa_cons (pvl 0) pa_nil)) (nomark _))
        (pss_one (ps_ret (pe_ix ix_list (pvl 0) (pvl 1) (fun _ _ => rfl))))
        pss_nil)
      (pss_one (ps_ret pe_int))), ?_⟩
  refine ⟨_, rfl, _, rfl, a, _, rfl, .inl hS, _, _, rfl, rfl, _, rfl, ?_⟩
  refine ite2 (fun e => ?_) (fun e => ?_)
  · have e : k < ((ns.map V.int).length : Nat) := of_decide_eq_true e
    rw [List.length_map] at e
    refine ⟨_, rfl, _, rfl, a, _, k, .int (ns.getD k.toNat 0), rfl, rfl, hS, atI_some hk ?_, q⟩
    rw [List.getElem?_map]
    have : k.toNat < ns.length := by omega
    rw [List.getElem?_eq_getElem this]
    simp [List.getD, List.getElem?_eq_getElem this]
  · have e : ¬ k < ((ns.map V.int).length : Nat) := fun z => e (decide_eq_true z)
    rw [List.length_map] at e
    have z : ns.getD k.toNat 0 = 0 := by
      rw [List.getD, List.getElem?_eq_none (by omega)]
      rfl
    rw [z] at q
    exact q
end
end K24

namespace K24
open PySem L2 Mc
/-! ### what a tag tells -/
theorem lkB {n : Nat} (h : n ≤ 100000) : n ≤ sizeLine := Nat.le_trans h (by decide)
theorem opStr_ne (o : Op) : ¬ o.str = ("yes" : Str) ∧ ¬ o.str = ("no" : Str) ∧ ¬ o.str = ("not" : Str) ∧ ¬ o.str = ("name" : Str) := by cases o <;> decide +kernel
theorem tg_nm {t : Tr} (h : V.str t.tag = V.str ("name" : Str)) : ∃ x, t = .nm x := by
  have := (tag_name t).mp (V.str.inj h)
  cases t <;> first | exact ⟨_, rfl⟩ | cases this
theorem tg_yes {t : Tr} (h : V.str t.tag = V.str ("yes" : Str)) : t = .yes := by
  have h := V.str.inj h
  cases t with
  | yes => rfl
  | nm x => exact absurd (show ("name" : Str) = "yes" from h) (by decide +kernel)
  | no => exact absurd (show ("no" : Str) = "yes" from h) (by decide +kernel)
  | not u => exact absurd (show ("not" : Str) = "yes" from h) (by decide +kernel)
  | bin o a b => exact absurd (show o.str = ("yes" : Str) from h) (opStr_ne o).1
theorem tg_no {t : Tr} (h : V.str t.tag = V.str ("no" : Str)) : t = .no := by
  have h := V.str.inj h
  cases t with
  | no => rfl
  | nm x => exact absurd (show ("name" : Str) = "no" from h) (by decide +kernel)
  | yes => exact absurd (show ("yes" : Str) = "no" from h) (by decide +kernel)
  | not u => exact absurd (show ("not" : Str) = "no" from h) (by decide +kernel)
  | bin o a b => exact absurd (show o.str = ("no" : Str) from h) (opStr_ne o).2.1
theorem tg_op {o o' : Op} (h : V.str o.str = V.str o'.str) : o = o' := by
  have h := V.str.inj h
  cases o <;> cases o' <;> first | rfl | exact absurd h (by decide +kernel)
theorem trBin {H : Hp} {a : Addr} {o : Op} {x y : Tr} (h : TrAt H (.ref a) (.bin o x y)) : ∃ v u, H a = some (.tup [.str o.str, v, u]) ∧ TrAt H v x ∧ TrAt H u y := by
  cases h with
  | bin e h1 h2 => exact ⟨_, _, e, h1, h2⟩
theorem trNot {H : Hp} {a : Addr} {x : Tr} (h : TrAt H (.ref a) (.not x)) : ∃ v, H a = some (.tup [.str "not", v]) ∧ TrAt H v x := by
  cases h with
  | not e h1 => exact ⟨_, e, h1⟩
theorem trNm {H : Hp} {a : Addr} {x : Str} (h : TrAt H (.ref a) (.nm x)) : H a = some (.tup [.str "name", .str x]) := by
  cases h with
  | nm e => exact e
end K24

namespace K24
open PySem L2 Mc
/-! ### the promises -/
/-- the parts of a sentence, in a new list -/
def spParts : Sp := fun vs H Q _ => ∃ v t, vs = [v] ∧ TrAt H v t ∧ ∀ (l : Addr) (us : List V) (H' : Hp), H l = none → H' l = some (.lst us) → Same H H' → Paired (TrAt H') us t.kids → Q (.ref l) H'
def spBelow : Sp := fun vs H Q _ => ∃ (a : Addr) (us : List V) (ts : List Tr), vs = [.ref a] ∧ H a = some (.lst us) ∧ Paired (TrAt H) us ts ∧ fsize ts ≤ 100000 ∧
  ∀ (l : Addr) (ws : List V) (H' : Hp), H l = none → H' l = some (.lst ws) → Same H H' → Paired (TrAt H') ws (ts.flatMap Tr.kids) → Q (.ref l) H'
section
variable {P : Program} {w : World} {K : PySem.W.Frag} {mg : Str → Option Value} {base : Heap} {t : Adr}
theorem scParts : FnScope ["tree"] ["tree"] (defScope s_parts_of) := ⟨rfl, rfl, rfl, by decide +kernel, rfl, by decide +kernel, by decide +kernel⟩
theorem ok_parts (T : Txt P w K mg t) : FnOk P w K mg base (CX1 P w) 1 t.a_parts_of t.fd_parts_of ["tree"] spParts := by
  refine T.F_parts_of.ok1 scParts (fun vs H Q E h => by obtain ⟨v, t, rfl, _⟩ := h; rfl) (fun cdv A outer s H vs Q E hr h => ?_)
  obtain ⟨v, tr, rfl, ht, k⟩ := h
  obtain ⟨a, rest, rfl, ha, hnm, hkid⟩ := ht.open
  have nd := scParts.nd
  refine ⟨_, (pss_cons (ps_if (pt_cmpR op_eq (pe_ix ix_tup (pv 0) pe_int (fun _ _ => rfl)) pe_str (nomark _))
        (pss_one (ps_ret (pe_lst pa_nil)))
        pss_nil)
      (pss_one (ps_ret (pe_callTy call_list_of rfl T.n_list Bt.list (pa_cons (pe_slice sl_tup (pv 0) (po_some pe_int) po_none) pa_nil))))), ?_⟩
  refine ⟨_, rfl, a, _, 0, .str tr.tag, rfl, rfl, SqT.of ha, atI_nat (j := 0) rfl, rfl, _, rfl, ?_⟩
  refine ite2 (fun e => ?_) (fun e => ?_)
  · have e : V.str tr.tag = V.str "name" := of_decide_eq_true e
    have e := (tag_name tr).mp (V.str.inj e)
    obtain ⟨x, rfl, _⟩ := hnm e
    exact ⟨Nat.zero_le _, fun l hl => k l [] _ hl upd_same (same_upd hl) .nil⟩
  · have e : ¬ V.str tr.tag = V.str "name" := fun z => e (decide_eq_true z)
    have e : tr.isNm = false := by
      cases q : tr.isNm with
      | false => rfl
      | true => exact absurd (congrArg V.str ((tag_name tr).mpr q)) e
    have hk := hkid e
    refine ⟨_, rfl, _, rfl, a, _, rfl, SqT.of ha, cut_tail_not _ _, fun p hp => ⟨p, _, rfl, .inr (SqT.of upd_same), fun l hl => ?_⟩⟩
    rw [cut_tail] at hl ⊢
    exact k l rest _ (same_free (same_upd hp) hl) upd_same ((same_upd hp).trans (same_upd hl)) (paired_mono ((same_upd hp).trans (same_upd hl)).tups hk)
theorem scBelow : FnScope ["layer", "below", "tree"] ["layer"] (defScope s_layer_below) := ⟨rfl, rfl, rfl, by decide +kernel, rfl, by decide +kernel, by decide +kernel⟩
theorem ok_below (T : Txt P w K mg t) : FnOk P w K mg base (CX1 P w) 2 t.a_layer_below t.fd_layer_below ["layer"] spBelow := by
  refine T.F_layer_below.ok1 scBelow (fun vs H Q E h => by obtain ⟨a, us, ts, rfl, _⟩ := h; rfl) (fun cdv A outer s H vs Q E hr h => ?_)
  obtain ⟨a, us, ts, rfl, ha, hp, hsz, k⟩ := h
  have nd := scBelow.nd
  have G_parts_of : FnOk P w K mg base (CX1 P w) 1 t.a_parts_of t.fd_parts_of ["tree"] spParts := ok_parts T
  refine ⟨_, (pss_cons (ps_set (i := 1) nd rfl (by first | exact Or.inl rfl | exact Or.inr rfl) (pe_lst pa_nil))
      (pss_cons (ps_for own1 rfl (pi_list (pv 0)) (pg_name (i := 2) nd rfl (by first | exact Or.inl rfl | exact Or.inr rfl))
        (pss_one (ps_expr (pe_bm PySem.F.plainAttrs_list PySem.F.slot_list_extend PySem.F.type_list_extend mt_extend (pv 1) (pa_cons (pe_call G_parts_of (hr.mono (by first | decide | omega)) rfl T.m_parts_of T.k_parts_of T.b_parts_of .nil never1 (pa_cons (pv 2) pa_nil)) pa_nil)))))
      (pss_one (ps_ret (pv 1))))), ?_⟩
  refine ⟨Nat.zero_le _, fun b hb => ?_⟩
  have hab : a ≠ b := ne_of_none ha hb
  have s0 : Same H (upd H b (.lst [])) := same_upd hb
  refine ⟨_, rfl, a, rfl, ⟨_, SqL.of (s0 _ _ ha)⟩, for_list (K := K) (a := a) (xs := us)
    (fun i σ H2 => ∃ (ws : List V) (v : Option V), σ = [some (.ref a), some (.ref b), v] ∧ Same H H2 ∧ H2 b = some (.lst ws) ∧ Paired (TrAt H2) ws ((ts.take i).flatMap Tr.kids))
    ⟨[], none, rfl, s0, upd_same, .nil⟩ (fun i σ H2 _ ⟨_, _, _, s2, _⟩ => SqL.of (s2 _ _ ha)) ?_ ?_⟩
  · rintro i y σ H2 hi ⟨ws, v, rfl, s2, hb2, hw⟩
    obtain ⟨tr, htr, hy⟩ := paired_get hp i y hi
    refine ⟨_, rfl, .inl ⟨rfl, _, SqL.of hb2⟩, _, rfl, y, tr, rfl, hy.mono s2.tups, fun l us2 H3 hl hl3 s3 hk3 => ?_⟩
    have hlen : ws.length + us2.length ≤ 100000 := by
      have e1 := Paired.length hw
      have e2 := Paired.length hk3
      have hsplit : ts = ts.take i ++ tr :: ts.drop (i + 1) := by
        have h1 := List.take_append_drop i ts
        have h2 : ts.drop i = tr :: ts.drop (i + 1) := by
          obtain ⟨hlt, he⟩ := List.getElem?_eq_some_iff.mp htr
          rw [List.drop_eq_getElem_cons hlt, he]
        rw [← h2, h1]
      have e3 := fsize_below ts
      have e4 : (ts.flatMap Tr.kids).length ≤ fsize (ts.flatMap Tr.kids) := length_le_fsize _
      have e5 : (ts.flatMap Tr.kids).length = ((ts.take i).flatMap Tr.kids).length + (tr.kids.length + ((ts.drop (i + 1)).flatMap Tr.kids).length) := by
        conv => lhs; rw [hsplit]
        rw [List.flatMap_append, List.flatMap_cons, List.length_append, List.length_append]
      omega
    have hbl : b ≠ l := ne_of_none hb2 hl
    have hb3 : H3 b = some (.lst ws) := s3 _ _ hb2
    refine ⟨b, l, ws, us2, rfl, rfl, hb3, hl3, Nat.le_trans hlen (by decide), ?_⟩
    refine ⟨ws ++ us2, _, rfl, fun c o e => ?_, upd_same, ?_⟩
    · rw [upd_ne (fun z => by subst z; rw [hb] at e; cases e)]
      exact s3 _ _ (s2 _ _ e)
    · have e6 : ts.take (i + 1) = ts.take i ++ [tr] := by
        rw [List.take_add_one, htr]
        rfl
      rw [e6, List.flatMap_append, List.flatMap_cons, List.flatMap_nil, List.append_nil]
      exact paired_mono (tups_upd hb3) (paired_app (paired_mono s3.tups hw) hk3)
  · rintro σ H2 ⟨ws, v, rfl, s2, hb2, hw⟩
    refine ⟨_, rfl, ?_⟩
    have e := Paired.length hp
    rw [e, List.take_length] at hw
    exact k b ws H2 hb hb2 s2 hw
end
end K24

namespace K24
open PySem L2 Mc
def spNames : Sp := fun vs H Q _ => ∃ v t, vs = [v] ∧ TrAt H v t ∧ t.size ≤ 100000 ∧ (∃ L : List Str, L.length < 64 ∧ ∀ x ∈ t.names, x ∈ L) ∧
  ∀ (l : Addr) (ys : List Str) (H' : Hp), H l = none → H' l = some (.lst (ys.map V.str)) → Same H H' → sortedS ys = true → ys.Nodup → (∀ x, x ∈ ys ↔ x ∈ t.names) → Q (.ref l) H'
section
variable {P : Program} {w : World} {K : PySem.W.Frag} {mg : Str → Option Value} {base : Heap} {t : Adr}
theorem scNames : FnScope ["tree", "found", "layer", "part"] ["tree"] (defScope s_names_in) := ⟨rfl, rfl, rfl, by decide +kernel, rfl, by decide +kernel, by decide +kernel⟩
theorem ok_names (T : Txt P w K mg t) : FnOk P w K mg base (CX1 P w) 3 t.a_names_in t.fd_names_in ["tree"] spNames := by
  refine T.F_names_in.ok1 scNames (fun vs H Q E h => by obtain ⟨v, t, rfl, _⟩ := h; rfl) (fun cdv A outer s H vs Q E hr h => ?_)
  obtain ⟨v, tr, rfl, ht, hsz, ⟨L, hL, hsub⟩, k⟩ := h
  have nd := scNames.nd
  have hu := hu_of hr
  have G_layer_below : FnOk P w K mg base (CX1 P w) 2 t.a_layer_below t.fd_layer_below ["layer"] spBelow := ok_below T
  refine ⟨_, (pss_cons (ps_set (i := 1) nd rfl (by first | exact Or.inl rfl | exact Or.inr rfl) pe_dnewK)
      (pss_cons (ps_set (i := 2) nd rfl (by first | exact Or.inl rfl | exact Or.inr rfl) (pe_lst (pa_cons (pv 0) pa_nil)))
      (pss_cons (ps_while own1 (pt_truth (pv 2) (fun _ => rfl))
        (pss_cons (ps_for own1 rfl (pi_list (pv 2)) (pg_name (i := 3) nd rfl (by first | exact Or.inl rfl | exact Or.inr rfl))
          (pss_one (ps_if (pt_cmpR op_eq (pe_ix ix_tup (pv 3) pe_int (fun _ _ => rfl)) pe_str (nomark _))
            (pss_one (ps_dput hu (pv 1) (pe_ix ix_tup (pv 3) pe_int (fun _ _ => rfl)) pe_bl rfl))
            pss_nil)))
        (pss_one (ps_set (i := 2) nd rfl (by first | exact Or.inl rfl | exact Or.inr rfl) (pe_call G_layer_below (hr.mono (by first | decide | omega)) rfl T.m_layer_below T.k_layer_below T.b_layer_below .nil never1 (pa_cons (pv 2) pa_nil))))))
      (pss_one (ps_ret (pe_callB (call_sortedD rfl) rfl T.n_sorted Bt.sorted (pa_cons (pv 1) pa_nil))))))), ?_⟩
  -- found = {}; layer = [tree]
  intro d hd
  refine ⟨_, rfl, (lk (by first | exact Nat.le_of_ble_eq_true rfl | simp)), fun l hl => ?_⟩
  have hdl : d ≠ l := fun z => by subst z; rw [upd_same] at hl; cases hl
  have hl0 : H l = none := (same_upd hd).free hl
  -- the state between two turns
  let St0 : Nat → L2.St → Hp → Prop := fun m σ H2 => ∃ (l : Addr) (us : List V) (ts : List Tr) (kvs : List (Key × V)) (ys : List Str) (pv : Option V), σ = [some v, some (.ref d), some (.ref l), pv] ∧ Same H H2 ∧ H2 l = some (.lst us) ∧ Paired (TrAt H2) us ts ∧ fsize ts ≤ 100000 ∧
    H2 d = some (.dK kvs) ∧ kvs.map (·.1) = ys.map Sum.inr ∧ ys.Nodup ∧ (∀ x, x ∈ tr.names ↔ x ∈ ys ∨ x ∈ fnames ts) ∧ m = fsize ts
  have hys : ∀ {ys : List Str}, ys.Nodup → (∀ x ∈ ys, x ∈ tr.names) → ys.length < 64 := fun {ys} h1 h2 => Nat.lt_of_le_of_lt (length_le_of_sub h1 fun x hx => hsub x (h2 x hx)) hL
  refine ⟨St0, ⟨_, l, [v], [tr], [], [], none, rfl, (same_upd hd).trans (same_upd hl), upd_same, .cons (ht.mono ((same_upd hd).trans (same_upd hl)).tups) .nil, ?_, ?_, rfl, List.nodup_nil, ?_, rfl⟩, ?_⟩
  · show tr.size + 0 ≤ 100000
    omega
  · rw [upd_ne hdl, upd_same]
  · intro x
    simp [fnames]
  rintro m σ H2 ⟨l, us, ts, kvs, ys, pv, rfl, s2, hl2, hp, hz, hd2, hk, hnd, hmem, rfl⟩
  refine ⟨_, rfl, _, .inl ⟨us, SqL.of hl2, rfl⟩, ?_⟩
  cases us with
  | nil =>
    cases hp
    refine iteF ?_
    have hmem' : ∀ x, x ∈ tr.names ↔ x ∈ ys := fun x => by
      have := hmem x
      simpa [fnames] using this
    refine ⟨_, rfl, d, kvs, ys, rfl, hd2, hk, hys hnd fun x hx => (hmem' x).mpr hx, fun l' ys' hl' hp' hs' => ?_⟩
    exact k l' ys' _ (s2.free hl') upd_same (s2.trans (same_upd hl')) hs' (hp'.nodup_iff.mpr hnd) fun x => by rw [hp'.mem_iff, hmem' x]
  | cons u us =>
    refine iteT ?_
    refine ⟨fun σ' H' => ∃ m', m' < fsize ts ∧ St0 m' σ' H', fun _ _ h => h, ?_⟩
    -- for part in layer
    have hne : ts ≠ [] := by
      intro z
      subst z
      cases hp
    have hlp := Paired.length hp
    have hld : l ≠ d := fun z => by subst z; rw [hl2] at hd2; cases hd2
    refine ⟨_, rfl, l, rfl, ⟨_, SqL.of hl2⟩, for_list (K := K) (a := l) (xs := u :: us)
      (fun i σ H3 => ∃ (kvs : List (Key × V)) (zs : List Str) (pv : Option V), σ = [some v, some (.ref d), some (.ref l), pv] ∧ (∀ b o, H2 b = some o → b ≠ d → H3 b = some o) ∧ H3 d = some (.dK kvs) ∧ kvs.map (·.1) = zs.map Sum.inr ∧ zs.Nodup ∧
        (∀ x, x ∈ zs ↔ x ∈ ys ∨ Tr.nm x ∈ ts.take i))
      ⟨kvs, ys, pv, rfl, fun _ _ h _ => h, hd2, hk, hnd, fun x => by simp⟩ (fun i σ H3 _ ⟨_, _, _, _, s3, _⟩ => SqL.of (s3 _ _ hl2 hld)) ?_ ?_⟩
    · rintro i y σ H3 hi ⟨kvs, zs, pv, rfl, s3, hd3, hk3, hn3, hm3⟩
      obtain ⟨ty, hty, hy⟩ := paired_get hp i y hi
      obtain ⟨a, rest, rfl, ha, hnm, hkid⟩ := hy.open
      have had : a ≠ d := fun z => by subst z; rw [ha] at hd2; cases hd2
      have ha3 := s3 _ _ ha had
      have e6 : ts.take (i + 1) = ts.take i ++ [ty] := by
        rw [List.take_add_one, hty]
        rfl
      have hin : ∀ x, Tr.nm x ∈ ts.take (i + 1) → x ∈ tr.names := fun x hx => (hmem x).mpr (.inr ((fnames_below ts x).mpr (.inl (List.mem_of_mem_take hx))))
      refine ⟨_, rfl, a, _, 0, .str ty.tag, rfl, rfl, SqT.of ha3, atI_nat (j := 0) rfl, rfl, _, rfl, ?_⟩
      refine ite2 (fun e => ?_) (fun e => ?_)
      · have e : V.str ty.tag = V.str "name" := of_decide_eq_true e
        have e := (tag_name ty).mp (V.str.inj e)
        obtain ⟨x, rfl, rfl⟩ := hnm e
        have hlen : zs.length < 64 := hys hn3 fun x hx => by
          rcases (hm3 x).mp hx with h | h
          · exact (hmem x).mpr (.inl h)
          · exact hin x (by rw [e6]; exact List.mem_append_left _ h)
        have hlk : kvs.length = zs.length := by
          have := congrArg List.length hk3
          rwa [List.length_map, List.length_map] at this
        refine ⟨_, rfl, _, rfl, a, _, 1, .str x, rfl, rfl, SqT.of ha3, rfl, d, _, rfl, DPut.k (k := Sum.inr x) hd3 (small1000 (by omega)), ?_⟩
        refine ⟨_, if x ∈ zs then zs else zs ++ [x], _, rfl, fun b o h hb => ?_, upd_same, keys_putK hk3 x _, ?_, fun z => ?_⟩
        · rw [upd_ne hb]
          exact s3 b o h hb
        · split
          · exact hn3
          · exact nodup_snoc hn3 (by assumption)
        · rw [e6, List.mem_append, List.mem_singleton, Tr.nm.injEq]
          by_cases hx : x ∈ zs
          · rw [if_pos hx, hm3 z]
            constructor
            · rintro (h | h)
              · exact .inl h
              · exact .inr (.inl h)
            · rintro (h | h | h)
              · exact .inl h
              · exact .inr h
              · subst h; exact (hm3 z).mp hx
          · rw [if_neg hx, List.mem_append, List.mem_singleton, hm3 z]
            constructor
            · rintro ((h | h) | h)
              · exact .inl h
              · exact .inr (.inl h)
              · exact .inr (.inr h)
            · rintro (h | h | h)
              · exact .inl (.inl h)
              · exact .inl (.inr h)
              · exact .inr h
      · have e : ¬ V.str ty.tag = V.str "name" := fun z => e (decide_eq_true z)
        have e : ty.isNm = false := by
          cases q : ty.isNm with
          | false => rfl
          | true => exact absurd (congrArg V.str ((tag_name ty).mpr q)) e
        refine ⟨kvs, zs, _, rfl, s3, hd3, hk3, hn3, fun z => ?_⟩
        rw [hm3 z, e6, List.mem_append, List.mem_singleton]
        constructor
        · rintro (h | h)
          · exact .inl h
          · exact .inr (.inl h)
        · rintro (h | h | h)
          · exact .inl h
          · exact .inr h
          · subst h; cases e
    · rintro σ H3 ⟨kvs, zs, pv, rfl, s3, hd3, hk3, hn3, hm3⟩
      -- layer = layer_below(layer)
      have t3 : Tups H2 H3 := fun b xs h => s3 b _ h (fun z => by subst z; rw [hd2] at h; cases h)
      have hp3 := paired_mono t3 hp
      rw [hlp, List.take_length] at hm3
      refine ⟨_, rfl, l, u :: us, ts, rfl, s3 _ _ hl2 hld, hp3, hz, fun l' ws H' hn hl' s' hp' => ?_⟩
      have e2 := fsize_below ts
      have e3 : 0 < ts.length := List.length_pos_iff.mpr hne
      refine ⟨_, by omega, l', ws, ts.flatMap Tr.kids, kvs, zs, _, rfl, fun b o h => s' b o (s3 b o (s2 b o h) (ne_of_none h hd)), hl', hp', by omega, s' _ _ hd3, hk3, hn3, fun x => ?_, rfl⟩
      rw [hmem x, hm3 x, fnames_below ts x, or_assoc]
end
end K24

namespace K24
open PySem L2 Mc
/-! ### the sides of a sentence -/
/-- a pair of numbers -/
def Two (H : Hp) (a : Addr) (x : Nat × Nat) : Prop := H a = some (.tup [.int x.1, .int x.2])
theorem Two.mono {H H' : Hp} {a : Addr} {x : Nat × Nat} (s : Same H H') (h : Two H a x) : Two H' a x := s _ _ h
theorem Two.tups {H H' : Hp} {a : Addr} {x : Nat × Nat} (s : Tups H H') (h : Two H a x) : Two H' a x := s _ _ h
def spTurnedA : Sp := fun vs H Q _ => ∃ a x, vs = [.ref a] ∧ Two H a x ∧ ∀ q H', Same H H' → Two H' q (x.2, x.1) → Q (.ref q) H'
def spJoined (n : Nat) : Sp := fun vs H Q _ => ∃ o a b x y, vs = [.str (Op.str o), .ref a, .ref b] ∧ 1 ≤ n ∧ (o = .thn → 2 ≤ n) ∧ Two H a x ∧ Two H b y ∧ ∀ q H', Same H H' → Two H' q (joinN o x y) → Q (.ref q) H'
/-- what the dict at m tells of the names of a sentence -/
def Tells (H : Hp) (kvs : List (Key × V)) (f : Str → Nat × Nat) (xs : List Str) : Prop := ∀ x ∈ xs, ∃ q, valV kvs (.inr x) = some (.ref q) ∧ Two H q (f x)
theorem Tells.mono {H H' : Hp} {kvs : List (Key × V)} {f : Str → Nat × Nat} {xs : List Str} (s : Tups H H') (h : Tells H kvs f xs) : Tells H' kvs f xs := fun x hx => let ⟨q, e, t⟩ := h x hx; ⟨q, e, t.tups s⟩
def spSides (d : Nat) : Sp := fun vs H Q _ => ∃ v tr m kvs f e, vs = [v, .ref m, .int (e : Nat)] ∧ TrAt H v tr ∧ tr.depth ≤ d ∧ H m = some (.dK kvs) ∧ Tells H kvs f tr.names ∧
  ∀ q H', Same H H' → Two H' q (sidesN f e tr) → Q (.ref q) H'
section
variable {P : Program} {w : World} {K : PySem.W.Frag} {mg : Str → Option Value} {base : Heap} {t : Adr}
theorem scTurnedA : FnScope ["side"] ["side"] (defScope s_turned_about) := ⟨rfl, rfl, rfl, by decide +kernel, rfl, by decide +kernel, by decide +kernel⟩
theorem ok_turnedA (T : Txt P w K mg t) : FnOk P w K mg base (CX1 P w) 1 t.a_turned_about t.fd_turned_about ["side"] spTurnedA := by
  refine T.F_turned_about.ok1 scTurnedA (fun vs H Q E h => by obtain ⟨a, x, rfl, _⟩ := h; rfl) (fun cdv A outer s H vs Q E hr h => ?_)
  obtain ⟨a, x, rfl, ha, k⟩ := h
  have nd := scTurnedA.nd
  refine ⟨_, (pss_one (ps_ret (pe_tup (pa_cons (pe_ix ix_tup (pvl 0) pe_int (fun _ _ => rfl)) (pa_cons (pe_ix ix_tup (pvl 0) pe_int (fun _ _ => rfl)) pa_nil))))), ?_⟩
  refine ⟨_, rfl, a, _, 1, .int x.2, rfl, rfl, SqT.of ha, rfl, _, rfl, a, _, 0, .int x.1, rfl, rfl, SqT.of ha, rfl, lk (by first | exact Nat.le_of_ble_eq_true rfl | simp), fun q hq => ?_⟩
  exact k q _ (same_upd hq) upd_same
theorem scJoined : FnScope ["kind", "left", "right", "alike", "unlike"] ["kind", "left", "right"] (defScope s_joined) := ⟨rfl, rfl, rfl, by decide +kernel, rfl, by decide +kernel, by decide +kernel⟩
theorem ok_joined (T : Txt P w K mg t) : ∀ n : Nat, FnOk P w K mg base (CX1 P w) (n + 2) t.a_joined t.fd_joined ["kind", "left", "right"] (spJoined n)
  | 0 => by
    refine T.F_joined.ok1 scJoined (fun vs H Q E h => by obtain ⟨o, a, b, x, y, rfl, _⟩ := h; rfl) (fun cdv A outer s H vs Q E hr h => ?_)
    obtain ⟨o, a, b, x, y, rfl, h1, _⟩ := h
    omega
  | n + 1 => by
    have G_joined := ok_joined T n
    have G_turned_about : FnOk P w K mg base (CX1 P w) 1 t.a_turned_about t.fd_turned_about ["side"] spTurnedA := ok_turnedA T
    refine T.F_joined.ok1 scJoined (fun vs H Q E h => by obtain ⟨o, a, b, x, y, rfl, _⟩ := h; rfl) (fun cdv A outer s H vs Q E hr h => ?_)
    obtain ⟨o, a, b, x, y, rfl, h1, h2, ha, hb, k⟩ := h
    have nd := scJoined.nd
    refine ⟨_, (pss_cons (ps_if (pt_cmpR op_eq (pvl 0) pe_str (nomark _))
        (pss_one (ps_ret (pe_tup (pa_cons (pe_op op_and (pe_ix ix_tup (pvl 1) pe_int (fun _ _ => rfl)) (pe_ix ix_tup (pvl 2) pe_int (fun _ _ => rfl))) (pa_cons (pe_op op_or (pe_ix ix_tup (pvl 1) pe_int (fun _ _ => rfl)) (pe_ix ix_tup (pvl 2) pe_int (fun _ _ => rfl))) pa_nil)))))
        pss_nil)
      (pss_cons (ps_if (pt_cmpR op_eq (pvl 0) pe_str (nomark _))
        (pss_one (ps_ret (pe_tup (pa_cons (pe_op op_or (pe_ix ix_tup (pvl 1) pe_int (fun _ _ => rfl)) (pe_ix ix_tup (pvl 2) pe_int (fun _ _ => rfl))) (pa_cons (pe_op op_and (pe_ix ix_tup (pvl 1) pe_int (fun _ _ => rfl)) (pe_ix ix_tup (pvl 2) pe_int (fun _ _ => rfl))) pa_nil)))))
        pss_nil)
      (pss_cons (ps_if (pt_cmpR op_eq (pvl 0) pe_str (nomark _))
        (pss_one (ps_ret (pcall G_joined (hr.mono (by first | decide | omega)) T.m_joined T.k_joined T.b_joined never1 (pa_cons pe_str (pa_cons (pcall G_turned_about (hr.mono (by first | decide | omega)) T.m_turned_about T.k_turned_about T.b_turned_about never1 (pa_cons (pvl 1) pa_nil)) (pa_cons (pvl 2) pa_nil))))))
        pss_nil)
      (pss_cons (psl 3 nd (pe_op op_or (pe_op op_and (pe_ix ix_tup (pvl 1) pe_int (fun _ _ => rfl)) (pe_ix ix_tup (pvl 2) pe_int (fun _ _ => rfl))) (pe_op op_and (pe_ix ix_tup (pvl 1) pe_int (fun _ _ => rfl)) (pe_ix ix_tup (pvl 2) pe_int (fun _ _ => rfl)))))
      (pss_cons (psl 4 nd (pe_op op_or (pe_op op_and (pe_ix ix_tup (pvl 1) pe_int (fun _ _ => rfl)) (pe_ix ix_tup (pvl 2) pe_int (fun _ _ => rfl))) (pe_op op_and (pe_ix ix_tup (pvl 1) pe_int (fun _ _ => rfl)) (pe_ix ix_tup (pvl 2) pe_int (fun _ _ => rfl)))))
      (pss_one (ps_ret (pe_tup (pa_cons (pvl 3) (pa_cons (pvl 4) pa_nil)))))))))), ?_⟩
    refine ⟨_, rfl, rfl, _, rfl, ite2 (fun c => ?A) (fun c1 => ⟨_, rfl, rfl, _, rfl, ite2 (fun c => ?O) (fun c2 => ⟨_, rfl, rfl, _, rfl, ite2 (fun c => ?T) (fun c3 => ?S)⟩)⟩)⟩
    case A =>
      obtain rfl : o = .and := tg_op (o' := .and) (of_decide_eq_true c)
      refine ⟨_, rfl, a, _, 0, .int x.1, rfl, rfl, SqT.of ha, rfl, _, rfl, b, _, 0, .int y.1, rfl, rfl, SqT.of hb, rfl, _, _, rfl, rfl, _, rfl, a, _, 1, .int x.2, rfl, rfl, SqT.of ha, rfl, _, rfl, b, _, 1, .int y.2, rfl, rfl, SqT.of hb, rfl, _, _, rfl, rfl, lk (by first | exact Nat.le_of_ble_eq_true rfl | simp), fun q hq => ?_⟩
      exact k q _ (same_upd hq) (by unfold Two; rw [upd_same]; simp only [band, bor]; rfl)
    case O =>
      obtain rfl : o = .or := tg_op (o' := .or) (of_decide_eq_true c)
      refine ⟨_, rfl, a, _, 0, .int x.1, rfl, rfl, SqT.of ha, rfl, _, rfl, b, _, 0, .int y.1, rfl, rfl, SqT.of hb, rfl, _, _, rfl, rfl, _, rfl, a, _, 1, .int x.2, rfl, rfl, SqT.of ha, rfl, _, rfl, b, _, 1, .int y.2, rfl, rfl, SqT.of hb, rfl, _, _, rfl, rfl, lk (by first | exact Nat.le_of_ble_eq_true rfl | simp), fun q hq => ?_⟩
      exact k q _ (same_upd hq) (by unfold Two; rw [upd_same]; simp only [band, bor]; rfl)
    case T =>
      obtain rfl : o = .thn := tg_op (o' := .thn) (of_decide_eq_true c)
      refine ⟨_, rfl, a, x, rfl, ha, fun q H1 s1 hq => ⟨_, rfl, .or, q, b, (x.2, x.1), y, rfl, by have := h2 rfl; omega, (fun z => by cases z), hq, hb.mono s1, fun q2 H2 s2 hq2 => ?_⟩⟩
      exact k q2 H2 (s1.trans s2) hq2
    case S =>
      obtain rfl : o = .same := by
        cases o with
        | and => exact absurd (decide_eq_true rfl) c1
        | or => exact absurd (decide_eq_true rfl) c2
        | thn => exact absurd (decide_eq_true rfl) c3
        | same => rfl
      refine ⟨_, rfl, a, _, 0, .int x.1, rfl, rfl, SqT.of ha, rfl, _, rfl, b, _, 0, .int y.1, rfl, rfl, SqT.of hb, rfl, _, _, rfl, rfl, _, rfl, a, _, 1, .int x.2, rfl, rfl, SqT.of ha, rfl, _, rfl, b, _, 1, .int y.2, rfl, rfl, SqT.of hb, rfl, _, _, rfl, rfl, _, _, rfl, rfl, ?_⟩
      refine ⟨_, rfl, a, _, 0, .int x.1, rfl, rfl, SqT.of ha, rfl, _, rfl, b, _, 1, .int y.2, rfl, rfl, SqT.of hb, rfl, _, _, rfl, rfl, _, rfl, a, _, 1, .int x.2, rfl, rfl, SqT.of ha, rfl, _, rfl, b, _, 0, .int y.1, rfl, rfl, SqT.of hb, rfl, _, _, rfl, rfl, _, _, rfl, rfl, ?_⟩
      refine ⟨_, rfl, _, rfl, lk (by first | exact Nat.le_of_ble_eq_true rfl | simp), fun q hq => ?_⟩
      exact k q _ (same_upd hq) (by unfold Two; rw [upd_same]; simp only [band, bor]; rfl)
theorem scSides : FnScope ["tree", "of_names", "every", "kind", "left"] ["tree", "of_names", "every"] (defScope s_sides) := ⟨rfl, rfl, rfl, by decide +kernel, rfl, by decide +kernel, by decide +kernel⟩
theorem ok_sides (T : Txt P w K mg t) : ∀ d : Nat, FnOk P w K mg base (CX1 P w) (d + 5) t.a_sides t.fd_sides ["tree", "of_names", "every"] (spSides d)
  | 0 => by
    refine T.F_sides.ok1 scSides (fun vs H Q E h => by obtain ⟨v, tr, m, kvs, f, e, rfl, _⟩ := h; rfl) (fun cdv A outer s H vs Q E hr h => ?_)
    obtain ⟨v, tr, m, kvs, f, e, rfl, ht, hd, k⟩ := h
    have := tr.depth_pos
    omega
  | d + 1 => by
    have G_sides := ok_sides T d
    have G_turned_about : FnOk P w K mg base (CX1 P w) 1 t.a_turned_about t.fd_turned_about ["side"] spTurnedA := ok_turnedA T
    have G_joined : FnOk P w K mg base (CX1 P w) 4 t.a_joined t.fd_joined ["kind", "left", "right"] (spJoined 2) := ok_joined T 2
    refine T.F_sides.ok1 scSides (fun vs H Q E h => by obtain ⟨v, tr, m, kvs, f, e, rfl, _⟩ := h; rfl) (fun cdv A outer s H vs Q E hr h => ?_)
    obtain ⟨v, tr, m, kvs, f, e, rfl, ht, hd, hm, htl, k⟩ := h
    obtain ⟨a, rest, rfl, ha, hnm, hkid⟩ := ht.open
    have nd := scSides.nd
    have hu := hu_of hr
    refine ⟨_, (pss_cons (psl 3 nd (pe_ix ix_tup (pvl 0) pe_int (fun _ _ => rfl)))
      (pss_cons (ps_if (pt_cmpR op_eq (pvl 3) pe_str (nomark _))
        (pss_one (ps_ret (pe_dget hu (pvl 1) (pe_ix ix_tup (pvl 0) pe_int (fun _ _ => rfl)) (fun _ _ => rfl))))
        pss_nil)
      (pss_cons (ps_if (pt_cmpR op_eq (pvl 3) pe_str (nomark _))
        (pss_one (ps_ret (pe_tup (pa_cons (pvl 2) (pa_cons pe_int pa_nil)))))
        pss_nil)
      (pss_cons (ps_if (pt_cmpR op_eq (pvl 3) pe_str (nomark _))
        (pss_one (ps_ret (pe_tup (pa_cons pe_int (pa_cons (pvl 2) pa_nil)))))
        pss_nil)
      (pss_cons (psl 4 nd (pcall G_sides (hr.mono (by first | decide | omega)) T.m_sides T.k_sides T.b_sides never1 (pa_cons (pe_ix ix_tup (pvl 0) pe_int (fun _ _ => rfl)) (pa_cons (pvl 1) (pa_cons (pvl 2) pa_nil)))))
      (pss_cons (ps_if (pt_cmpR op_eq (pvl 3) pe_str (nomark _))
        (pss_one (ps_ret (pcall G_turned_about (hr.mono (by first | decide | omega)) T.m_turned_about T.k_turned_about T.b_turned_about never1 (pa_cons (pvl 4) pa_nil))))
        pss_nil)
      (pss_one (ps_ret (pcall G_joined (hr.mono (by first | decide | omega)) T.m_joined T.k_joined T.b_joined never1 (pa_cons (pvl 3) (pa_cons (pvl 4) (pa_cons (pcall G_sides (hr.mono (by first | decide | omega)) T.m_sides T.k_sides T.b_sides never1 (pa_cons (pe_ix ix_tup (pvl 0) pe_int (fun _ _ => rfl)) (pa_cons (pvl 1) (pa_cons (pvl 2) pa_nil)))) pa_nil)))))))))))), ?_⟩
    refine ⟨_, rfl, a, _, 0, .str tr.tag, rfl, rfl, SqT.of ha, atI_nat (j := 0) rfl, ?_⟩
    refine ⟨_, rfl, rfl, _, rfl, ite2 (fun c => ?N) (fun c1 => ⟨_, rfl, rfl, _, rfl, ite2 (fun c => ?Y) (fun c2 => ⟨_, rfl, rfl, _, rfl, ite2 (fun c => ?O) (fun c3 => ?R)⟩)⟩)⟩
    case N =>
      obtain ⟨x, rfl⟩ := tg_nm (of_decide_eq_true c)
      obtain ⟨q, hq, h2⟩ := htl x List.mem_cons_self
      refine ⟨_, rfl, _, rfl, a, _, 1, .str x, rfl, rfl, SqT.of (trNm ht), rfl, m, _, rfl, ?_, k q H (Same.refl H) h2⟩
      have := DGet.k (k := .inr x) hm
      rw [hq] at this
      exact this
    case Y =>
      obtain rfl := tg_yes (of_decide_eq_true c)
      exact ⟨_, rfl, lk (by first | exact Nat.le_of_ble_eq_true rfl | simp), fun q hq => k q _ (same_upd hq) upd_same⟩
    case O =>
      obtain rfl := tg_no (of_decide_eq_true c)
      exact ⟨_, rfl, lk (by first | exact Nat.le_of_ble_eq_true rfl | simp), fun q hq => k q _ (same_upd hq) upd_same⟩
    case R =>
      cases tr with
      | nm x => exact absurd (decide_eq_true rfl) c1
      | yes => exact absurd (decide_eq_true rfl) c2
      | no => exact absurd (decide_eq_true rfl) c3
      | not u =>
        obtain ⟨vu, hau, htu⟩ := trNot ht
        have hd : u.depth + 1 ≤ d + 1 := hd
        refine ⟨_, rfl, a, _, 1, vu, rfl, rfl, SqT.of hau, rfl, _, rfl, _, rfl, vu, u, m, kvs, f, e, rfl, htu, by omega, hm, htl, fun q H1 s1 hq => ?_⟩
        refine ⟨_, rfl, rfl, _, rfl, ite2 (fun c => ?_) (fun c4 => absurd (decide_eq_true rfl) c4)⟩
        exact ⟨_, rfl, q, _, rfl, hq, fun q2 H2 s2 hq2 => k q2 H2 (s1.trans s2) hq2⟩
      | bin o x y =>
        obtain ⟨vx, vy, hab, htx, hty⟩ := trBin ht
        have hd : max x.depth y.depth + 1 ≤ d + 1 := hd
        refine ⟨_, rfl, a, _, 1, vx, rfl, rfl, SqT.of hab, rfl, _, rfl, _, rfl, vx, x, m, kvs, f, e, rfl, htx, by omega, hm, fun z hz => htl z (List.mem_append_left _ hz), fun q H1 s1 hq => ?_⟩
        refine ⟨_, rfl, rfl, _, rfl, ite2 (fun c => absurd (V.str.inj (of_decide_eq_true c)) (opStr_ne o).2.2.1) (fun c4 => ?_)⟩
        refine ⟨_, rfl, _, rfl, _, rfl, a, _, 2, vy, rfl, rfl, SqT.of (s1 _ _ hab), rfl, _, rfl, _, rfl, vy, y, m, kvs, f, e, rfl, hty.mono s1.tups, by omega, s1 _ _ hm, ?_, fun q2 H2 s2 hq2 => ?_⟩
        · exact Tells.mono s1.tups fun z hz => htl z (List.mem_append_right _ hz)
        · exact ⟨o, q, q2, _, _, rfl, by decide, fun _ => Nat.le_refl _, hq.mono s2, hq2, fun q3 H3 s3 hq3 => k q3 H3 ((s1.trans s2).trans s3) hq3⟩
end
end K24

namespace K24
open PySem L2 Mc
/-! ### tables -/
def bitN (n k : Nat) : Nat := if n.testBit k = true then 1 else 0
theorem bitI (n k : Nat) : Builtin.bitAnd ((n : Int) / 2 ^ ((k : Int)).toNat) 1 = ((bitN n k : Nat) : Int) := by
  have e : ((n : Int) / 2 ^ ((k : Int)).toNat) = ((n / 2 ^ k : Nat) : Int) := by
    rw [Int.toNat_natCast]
    simp
  have e1 : (1 : Int) = ((1 : Nat) : Int) := rfl
  rw [e, e1, band, Nat.and_one_is_mod, bit_div]
  rfl
def spBit : Sp := fun vs H Q _ => ∃ n k : Nat, vs = [.int n, .int k] ∧ Q (.int (bitN n k : Nat)) H
theorem inV_strs (x : Str) : ∀ ns : List Str, inV (.str x) (ns.map V.str) = decide (x ∈ ns)
  | [] => rfl
  | y :: r => by
    have ih := inV_strs x r
    unfold inV at ih ⊢
    rw [List.map_cons, List.any_cons, ih]
    have e : eqV (.str y) (.str x) = decide (y = x) := by
      show (y == x) = _
      by_cases z : y = x
      · simp [z]
      · simp [z]
    rw [e]
    by_cases z : y = x
    · simp [z]
    · by_cases z2 : x ∈ r
      · simp [z2]
      · have z3 : ¬ x = y := fun h => z h.symm
        simp [z, z2, z3]
theorem flat_strs (ns : List Str) : (ns.map V.str).all flatV = true := by
  rw [List.all_map]
  exact List.all_eq_true.mpr fun _ _ => rfl
/-- texts that an error may bear -/
def SmallS (x : Str) : Prop := x.length ≤ 1000 ∧ ∀ c ∈ x.cps.toList, c < 16 ^ 8
theorem IsName.small {y : Str} (h : IsName y) : SmallS y := ⟨by rw [len_l]; have := h.le; omega, fun c hc => by have := (h.ok c hc).2; omega⟩
def spNeed (t : Adr) : Sp := fun vs H Q E => ∃ (p : Addr) (v : V) (ns : List Str) (tr : Tr), vs = [.ref p, v] ∧ H p = some (.tup (ns.map V.str)) ∧ TrAt H v tr ∧ tr.size ≤ 100000 ∧ (∃ L : List Str, L.length < 64 ∧ ∀ x ∈ tr.names, x ∈ L) ∧ (∀ x ∈ tr.names, SmallS x) ∧
  ((∀ x ∈ tr.names, x ∈ ns) → ∀ H', Same H H' → Q .non H') ∧ ((¬ ∀ x ∈ tr.names, x ∈ ns) → ∀ H', Same H H' → E (.ref t.c_NoName) none H')
/-- what is asked of the names and the sentence -/
def Fits (H : Hp) (p : Addr) (v : V) (ns : List Str) (tr : Tr) : Prop :=
  H p = some (.tup (ns.map V.str)) ∧ ns.length ≤ 8 ∧ ns.Nodup ∧ TrAt H v tr ∧ tr.size ≤ 100000 ∧ tr.depth ≤ 110 ∧ (∃ L : List Str, L.length < 64 ∧ ∀ x ∈ tr.names, x ∈ L) ∧ ∀ x ∈ tr.names, SmallS x
section
variable {P : Program} {w : World} {K : PySem.W.Frag} {mg : Str → Option Value} {base : Heap} {t : Adr}
theorem scBit : FnScope ["number", "place"] ["number", "place"] (defScope s_bit_at) := ⟨rfl, rfl, rfl, by decide +kernel, rfl, by decide +kernel, by decide +kernel⟩
theorem ok_bit (T : Txt P w K mg t) : FnOk P w K mg base (CX1 P w) 1 t.a_bit_at t.fd_bit_at ["number", "place"] spBit := by
  refine T.F_bit_at.ok1 scBit (fun vs H Q E h => by obtain ⟨n, k, rfl, _⟩ := h; rfl) (fun cdv A outer s H vs Q E hr h => ?_)
  obtain ⟨n, k, rfl, q⟩ := h
  have nd := scBit.nd
  refine ⟨_, (pss_one (ps_ret (pe_op op_and (pe_op op_shr (pvl 0) (pvl 1)) pe_int))), ?_⟩
  refine ⟨_, rfl, _, rfl, _, _, rfl, rfl, Int.natCast_nonneg k, _, _, rfl, rfl, ?_⟩
  rw [← bitI] at q
  exact q
theorem scNeed : FnScope ["names", "tree", "name"] ["names", "tree"] (defScope s_need_names) := ⟨rfl, rfl, rfl, by decide +kernel, rfl, by decide +kernel, by decide +kernel⟩
theorem ok_need (T : Txt P w K mg t) : FnOk P w K mg base (CX1 P w) 4 t.a_need_names t.fd_need_names ["names", "tree"] (spNeed t) := by
  have G_names_in : FnOk P w K mg base (CX1 P w) 3 t.a_names_in t.fd_names_in ["tree"] spNames := ok_names T
  refine T.F_need_names.ok1 scNeed (fun vs H Q E h => by obtain ⟨p, v, ns, tr, rfl, _⟩ := h; rfl) (fun cdv A outer s H vs Q E hr h => ?_)
  obtain ⟨p, v, ns, tr, rfl, hp, ht, hsz, hL, hsm, k1, k2⟩ := h
  have nd := scNeed.nd
  refine ⟨_, (pss_one (ps_for own1 rfl (pi_list (pcall G_names_in (hr.mono (by first | decide | omega)) T.m_names_in T.k_names_in T.b_names_in never1 (pa_cons (pvl 1) pa_nil))) (pgl 2 nd)
        (pss_one (ps_if (pt_cmpR op_notIn_seq (pvl 2) (pvl 0) (by with_unfolding_all rfl))
          (pss_one (ps_raise raises1 rfl T.m_NoName T.e_NoName (pa_cons (pe_fstr3 pe_str (pe_fmtR (pvl 2)) pe_str) pa_nil)))
          pss_nil)))), ?_⟩
  refine ⟨_, rfl, v, tr, rfl, ht, hsz, hL, fun l ys H1 hl hl1 s1 _ _ hmem => ?_⟩
  refine ⟨l, rfl, ⟨_, SqL.of hl1⟩, for_list (K := K) (a := l) (xs := ys.map V.str)
    (fun i σ H2 => ∃ o : Option V, σ = [some (.ref p), some v, o] ∧ Same H1 H2 ∧ ∀ x ∈ ys.take i, x ∈ ns) ⟨none, rfl, Same.refl _, by simp⟩ (fun i σ H2 _ ⟨_, _, s2, _⟩ => SqL.of (s2 _ _ hl1)) ?_ ?_⟩
  · rintro i y σ H2 hi ⟨o, rfl, s2, hin⟩
    rw [List.getElem?_map] at hi
    obtain ⟨x, hx, rfl⟩ : ∃ x, ys[i]? = some x ∧ y = V.str x := by
      cases e : ys[i]? with
      | none => rw [e] at hi; cases hi
      | some x => rw [e] at hi; exact ⟨x, rfl, (Option.some.inj hi).symm⟩
    have hxt : x ∈ tr.names := (hmem x).mp (List.mem_of_getElem? hx)
    refine ⟨_, rfl, _, rfl, p, _, rfl, .inr (SqT.of (s2 _ _ (s1 _ _ hp))), rfl, flat_strs ns, _, rfl, ?_⟩
    rw [if_pos rfl, inV_strs]
    by_cases hm : x ∈ ns
    · rw [decide_eq_true hm]
      refine iteF ?_
      refine ⟨_, rfl, s2, fun z hz => ?_⟩
      rw [List.take_add_one, hx] at hz
      rcases List.mem_append.mp hz with hz | hz
      · exact hin z hz
      · have : z = x := by simpa using hz
        rw [this]; exact hm
    · rw [decide_eq_false hm]
      refine iteT ?_
      obtain ⟨z1, z2⟩ := hsm x hxt
      have e1 := PySem.StrLaws.reprText_len x z2
      have e3 : (Str.ofString "the name ").length = 9 := by decide +kernel
      have e4 : (Str.ofString " is not told").length = 12 := by decide +kernel
      refine ⟨_, rfl, (by decide +kernel), _, rfl, x, rfl, repr_fits z2 z1, _, rfl, ?_, _, rfl, ?_, (by show 1 ≤ sizeLine; decide), k2 (fun z => hm (z x hxt)) H2 (s1.trans s2)⟩
      · rw [strLen_append, e3]; unfold sizeLine; omega
      · rw [strLen_append, strLen_append, e3, e4]; unfold sizeLine; omega
  · rintro σ H2 ⟨o, rfl, s2, hin⟩
    rw [List.length_map, List.take_length] at hin
    exact k1 (fun x hx => hin x ((hmem x).mpr hx)) H2 (s1.trans s2)
end
end K24

namespace K24
open PySem L2 Mc
theorem valV_putS (kvs : List (Key × V)) (x y : Str) (v : V) : valV (putK kvs (.inr x) v) (.inr y) = if y = x then some v else valV kvs (.inr y) := by
  rw [valV_put]
  by_cases h : y = x
  · rw [if_pos h, if_pos (by rw [h])]
  · rw [if_neg h, if_neg (fun z => h (by injection z))]
theorem nodup_inj {ns : List Str} (hn : ns.Nodup) {i j : Nat} (hi : i < ns.length) (hj : j < ns.length) (e : ns[i] = ns[j]) : i = j := by
  rcases Nat.lt_trichotomy i j with h | h | h
  · exact absurd e ((List.pairwise_iff_getElem.mp hn) i j hi hj h)
  · exact h
  · exact absurd e.symm ((List.pairwise_iff_getElem.mp hn) j i hj hi h)
theorem idx_at {ns : List Str} (hn : ns.Nodup) {i : Nat} {x : Str} (h : ns[i]? = some x) : ns.idxOf x = i := by
  obtain ⟨hi, e⟩ := List.getElem?_eq_some_iff.mp h
  have h1 : ns.idxOf x < ns.length := List.idxOf_lt_length_iff.mpr (e ▸ List.getElem_mem hi)
  have h2 : ns[ns.idxOf x] = x := List.getElem_idxOf h1
  exact nodup_inj hn h1 hi (h2.trans e.symm)
end K24

namespace K24
open PySem L2 Mc
/-! ### tables -/
def spFull : Sp := fun vs H Q _ => ∃ (p : Addr) (ns : List Str), vs = [.ref p] ∧ H p = some (.tup (ns.map V.str)) ∧ ns.length ≤ 8 ∧ Q (.int (fullN ns.length : Nat)) H
def spWith : Sp := fun vs H Q _ => ∃ (p : Addr) (ns : List Str) (k : Nat), vs = [.ref p, .int k] ∧ H p = some (.tup (ns.map V.str)) ∧ ns.length ≤ 8 ∧ ∀ H', Same H H' → Q (.int (colN ns.length k : Nat)) H'
/-- the sides of the names, so many known -/
def ofK (ns : List Str) (c : Int) (x : Str) : Nat × Nat := if (ns.idxOf x : Int) < c then ofN ns x else (0, 0)
def spOf : Sp := fun vs H Q _ => ∃ (p : Addr) (ns : List Str) (c : Int), vs = [.ref p, .int c] ∧ H p = some (.tup (ns.map V.str)) ∧ ns.length ≤ 8 ∧ ns.Nodup ∧ ∀ m kvs H', Same H H' → H' m = some (.dK kvs) → Tells H' kvs (ofK ns c) ns → Q (.ref m) H'
def spTable (t : Adr) : Sp := fun vs H Q E => ∃ (p : Addr) (v : V) (ns : List Str) (tr : Tr), vs = [.ref p, v] ∧ Fits H p v ns tr ∧
  ((∀ x ∈ tr.names, x ∈ ns) → ∀ H', Same H H' → Q (.int (tableN ns tr : Nat)) H') ∧ ((¬ ∀ x ∈ tr.names, x ∈ ns) → ∀ H', Same H H' → E (.ref t.c_NoName) none H')
theorem sum_bsum (p : Nat → Bool) : ∀ m, ((((List.range m).filter p).map fun i => ((2 ^ i : Nat) : Int))).sum = ((bsum p m : Nat) : Int)
  | 0 => rfl
  | m + 1 => by
    rw [List.range_succ, List.filter_append, List.map_append, List.sum_append, sum_bsum p m]
    show _ + (((List.filter p [m]).map fun i => ((2 ^ i : Nat) : Int))).sum = ((bsum p m + (if p m = true then 2 ^ m else 0) : Nat) : Int)
    cases hp : p m with
    | true => simp [hp]
    | false => simp [hp]
section
variable {P : Program} {w : World} {K : PySem.W.Frag} {mg : Str → Option Value} {base : Heap} {t : Adr}
theorem scFull : FnScope ["names"] ["names"] (defScope s_full) := ⟨rfl, rfl, rfl, by decide +kernel, rfl, by decide +kernel, by decide +kernel⟩
theorem ok_full (T : Txt P w K mg t) : FnOk P w K mg base (CX1 P w) 1 t.a_full t.fd_full ["names"] spFull := by
  refine T.F_full.ok1 scFull (fun vs H Q E h => by obtain ⟨p, ns, rfl, _⟩ := h; rfl) (fun cdv A outer s H vs Q E hr h => ?_)
  obtain ⟨p, ns, rfl, hp, h8, k⟩ := h
  have nd := scFull.nd
  refine ⟨_, (pss_one (ps_ret (pe_op op_sub (pe_op op_shl pe_int (pe_op op_shl pe_int (pcallB call_len_seq T.n_len Bt.len (pa_cons (pvl 0) pa_nil)))) pe_int))), ?_⟩
  have h256 : 2 ^ ns.length ≤ 256 := Nat.pow_le_pow_right (n := 2) (by decide) h8
  have e1 : (1 : Int) * 2 ^ (((ns.map V.str).length : Nat) : Int).toNat = ((2 ^ ns.length : Nat) : Int) := by
    rw [List.length_map, Int.toNat_natCast]; simp
  have e2' : fullN ns.length = 2 ^ (2 ^ ns.length) - 1 := rfl
  have e3' : colN ns.length = fun k => bsum (fun i => i.testBit k) (2 ^ ns.length) := rfl
  generalize 2 ^ ns.length = N at h256 e1 e2' e3'
  refine ⟨_, rfl, p, _, rfl, .inr (SqT.of hp), _, _, rfl, rfl, ⟨by rw [List.length_map]; omega, by rw [List.length_map]; omega, by decide⟩, _, _, rfl, rfl, ⟨?_, ?_, by decide⟩, _, _, rfl, rfl, ?_⟩
  · rw [e1]; omega
  · rw [e1]; omega
  · have e2 : (1 : Int) * 2 ^ ((1 : Int) * 2 ^ (((ns.map V.str).length : Nat) : Int).toNat).toNat - 1 = ((fullN ns.length : Nat) : Int) := by
      rw [e1, Int.toNat_natCast, e2']
      have : 1 ≤ 2 ^ N := Nat.one_le_two_pow
      rw [Int.one_mul, Int.ofNat_sub this]
      simp
    rw [← e2] at k
    exact k
theorem scWith : FnScope ["names", "place"] ["names", "place"] (defScope s_worlds_with) := ⟨rfl, rfl, rfl, by decide +kernel, rfl, by decide +kernel, by decide +kernel⟩
theorem ok_with (T : Txt P w K mg t) : FnOk P w K mg base (CX1 P w) 2 t.a_worlds_with t.fd_worlds_with ["names", "place"] spWith := by
  have G_bit_at : FnOk P w K mg base (CX1 P w) 1 t.a_bit_at t.fd_bit_at ["number", "place"] spBit := ok_bit T
  refine T.F_worlds_with.ok1 scWith (fun vs H Q E h => by obtain ⟨p, ns, k, rfl, _⟩ := h; rfl) (fun cdv A outer s H vs Q E hr h => ?_)
  obtain ⟨p, ns, k, rfl, hp, h8, q⟩ := h
  have nd := scWith.nd
  refine ⟨_, (pss_one (ps_ret (pcallB (call_sumG rfl) T.n_sum Bt.sum (pa_cons (pe_comp rfl ["world", "place"] [none, some 1] (prange1 T.n_range (pa_cons (pe_op op_shl pe_int (pcallB call_len_seq T.n_len Bt.len (pa_cons (pvl 0) pa_nil))) pa_nil)) (by kernel_rfl) (fun _ _ _ _ _ _ => (pgl 0 (show List.Nodup (α := PySem.Str) ["world", "place"] by decide +kernel))) (fun _ _ _ _ _ _ => pts_one (pt_cmpR op_eq (pcall G_bit_at (hr.mono (by first | decide | omega)) T.m_bit_at T.k_bit_at T.b_bit_at never1 (pa_cons (pvl 0) (pa_cons (pvc 1) pa_nil))) pe_int (nomark _))) (fun _ _ _ _ _ _ => (pe_op op_shl pe_int (pvl 0)))) pa_nil)))), ?_⟩
  have h256 : 2 ^ ns.length ≤ 256 := Nat.pow_le_pow_right (n := 2) (by decide) h8
  have e1 : (1 : Int) * 2 ^ (((ns.map V.str).length : Nat) : Int).toNat = ((2 ^ ns.length : Nat) : Int) := by
    rw [List.length_map, Int.toNat_natCast]; simp
  have e2' : fullN ns.length = 2 ^ (2 ^ ns.length) - 1 := rfl
  have e3' : colN ns.length = fun k => bsum (fun i => i.testBit k) (2 ^ ns.length) := rfl
  generalize 2 ^ ns.length = N at h256 e1 e2' e3'
  refine ⟨_, rfl, p, _, rfl, .inr (SqT.of hp), _, _, rfl, rfl, ⟨by rw [List.length_map]; omega, by rw [List.length_map]; omega, by decide⟩, ?_⟩
  dsimp only
  rw [e1]
  refine ⟨_, rfl, by omega, by omega, ?_⟩
  rw [Int.toNat_natCast]
  refine comp_range (n := N) (fun i ys H' => H' = H ∧ ys = ((List.range i).filter fun j => j.testBit k).map fun j => V.int ((2 ^ j : Nat) : Int)) ⟨rfl, rfl⟩ (lkB (by omega)) (fun i ys H' ⟨_, e⟩ => ?_) ?_ ?_
  · rw [e, List.length_map]
    refine Nat.le_trans (List.length_filter_le _ _) ?_
    rw [List.length_range]; exact Nat.le_refl _
  · rintro i ys H' hi ⟨rfl, rfl⟩
    refine ⟨⟨rfl, trivial⟩, ?_⟩
    refine ⟨_, rfl, _, rfl, i, k, ?_, rfl, _, rfl, ?_⟩
    · rw [Int.zero_add]; rfl
    · unfold bitN
      rw [List.range_succ, List.filter_append, List.map_append]
      cases hb : i.testBit k with
      | true =>
        refine iteT ?_
        refine ⟨_, rfl, _, _, rfl, rfl, ⟨by omega, by omega, by decide⟩, rfl, ?_⟩
        dsimp only
        rw [List.filter_cons, if_pos hb, Int.zero_add, Int.toNat_natCast]
        simp
      | false =>
        refine iteF ⟨rfl, ?_⟩
        rw [List.filter_cons, if_neg (by rw [hb]; decide)]
        simp
  · rintro ys H' ⟨rfl, rfl⟩ l hl
    refine ⟨l, ((List.range N).filter fun j => j.testBit k).map fun j => ((2 ^ j : Nat) : Int), rfl, SqL.of (by rw [upd_same, List.map_map]; rfl), ?_⟩
    have q := q _ (same_upd (o := .lst (((List.range N).filter fun j => j.testBit k).map fun j => V.int ((2 ^ j : Nat) : Int))) hl)
    rw [e3'] at q
    dsimp only at q
    rw [← sum_bsum] at q
    exact q
end
end K24

namespace K24
open PySem L2 Mc
section
variable {P : Program} {w : World} {K : PySem.W.Frag} {mg : Str → Option Value} {base : Heap} {t : Adr}
theorem scOf : FnScope ["names", "known_ones", "of_names", "place", "name", "kept"] ["names", "known_ones"] (defScope s_sides_of_names) := ⟨rfl, rfl, rfl, by decide +kernel, rfl, by decide +kernel, by decide +kernel⟩
theorem ok_of (T : Txt P w K mg t) : FnOk P w K mg base (CX1 P w) 3 t.a_sides_of_names t.fd_sides_of_names ["names", "known_ones"] spOf := by
  have G_worlds_with : FnOk P w K mg base (CX1 P w) 2 t.a_worlds_with t.fd_worlds_with ["names", "place"] spWith := ok_with T
  have G_full : FnOk P w K mg base (CX1 P w) 1 t.a_full t.fd_full ["names"] spFull := ok_full T
  refine T.F_sides_of_names.ok1 scOf (fun vs H Q E h => by obtain ⟨p, ns, c, rfl, _⟩ := h; rfl) (fun cdv A outer s H vs Q E hr h => ?_)
  obtain ⟨p, ns, c, rfl, hp, h8, hnd, k⟩ := h
  have nd := scOf.nd
  have hu := hu_of hr
  refine ⟨_, (pss_cons (psl 2 nd pe_dnewK)
      (pss_cons (ps_for own1 rfl (penumT (pvl 0) T.n_enumerate) (pg_tup (n := 2) rfl (pgs_cons (pgl 3 nd) (pgs_cons (pgl 4 nd) pgs_nil)))
        (pss_cons (psl 5 nd (pcall G_worlds_with (hr.mono (by first | decide | omega)) T.m_worlds_with T.k_worlds_with T.b_worlds_with never1 (pa_cons (pvl 0) (pa_cons (pvl 3) pa_nil))))
        (pss_one (ps_dput hu (pvl 2) (pvl 4) (pe_ifExp (pt_cmpR op_lt (pvl 3) (pvl 1) (nomark _)) (pe_tup (pa_cons (pvl 5) (pa_cons (pe_op op_xor (pcall G_full (hr.mono (by first | decide | omega)) T.m_full T.k_full T.b_full never1 (pa_cons (pvl 0) pa_nil)) (pvl 5)) pa_nil))) (pe_tup (pa_cons pe_int (pa_cons pe_int pa_nil)))) rfl))))
      (pss_one (ps_ret (pvl 2))))), ?_⟩
  intro m hm
  have s0 : Same H (upd H m (.dK [])) := same_upd hm
  refine ⟨_, rfl, p, rfl, ⟨_, SqT.of (s0 _ _ hp)⟩, for_enumT (K := K) (a := p) (xs := ns.map V.str)
    (fun i σ H2 => ∃ (o3 o4 o5 : Option V) (kvs : List (Key × V)), σ = [some (.ref p), some (.int c), some (.ref m), o3, o4, o5] ∧ Same H H2 ∧ H2 m = some (.dK kvs) ∧ kvs.length ≤ i ∧ Tells H2 kvs (ofK ns c) (ns.take i))
    ⟨none, none, none, [], rfl, s0, upd_same, Nat.le_refl _, (fun x hx => by simp at hx)⟩ (fun i σ H2 _ ⟨_, _, _, _, _, s2, _⟩ => SqT.of (s2 _ _ hp)) ?_ ?_⟩
  · rintro i y σ H2 hi ⟨o3, o4, o5, kvs, rfl, s2, hm2, hl2, htl⟩ e he
    rw [List.getElem?_map] at hi
    obtain ⟨x, hx, rfl⟩ : ∃ x, ns[i]? = some x ∧ y = V.str x := by
      cases q : ns[i]? with
      | none => rw [q] at hi; cases hi
      | some x => rw [q] at hi; exact ⟨x, rfl, (Option.some.inj hi).symm⟩
    have hi8 : i < 8 := by
      have := (List.getElem?_eq_some_iff.mp hx).1
      omega
    have hix := idx_at hnd hx
    have s3 := same_upd (o := .tup [.int i, .str x]) he
    refine ⟨e, _, rfl, SqT.of upd_same, rfl, _, _, rfl, _, _, rfl, rfl, ?_⟩
    refine ⟨_, rfl, _, rfl, p, ns, i, rfl, s3 _ _ (s2 _ _ hp), h8, fun H4 s4 => ?_⟩
    have s24 := s3.trans s4
    have fin : ∀ (q : Addr) (x1 : Nat × Nat) (H5 : Hp), Same H4 H5 → Two H5 q x1 → ofK ns c x = x1 →
        (∃ (o3 o4 o5 : Option V) (kvs' : List (Key × V)), [some (V.ref p), some (V.int c), some (V.ref m), some (V.int i), some (V.str x), some (V.int (colN ns.length i : Nat))] = [some (.ref p), some (.int c), some (.ref m), o3, o4, o5] ∧ Same H (upd H5 m (.dK (putK kvs (.inr x) (.ref q)))) ∧ (upd H5 m (.dK (putK kvs (.inr x) (.ref q)))) m = some (.dK kvs') ∧ kvs'.length ≤ i + 1 ∧ Tells (upd H5 m (.dK (putK kvs (.inr x) (.ref q)))) kvs' (ofK ns c) (ns.take (i + 1))) := by
      intro q x1 H5 s5 hq hof
      have hm5 := s5 _ _ (s24 _ _ hm2)
      have kt : Tups H5 (upd H5 m (.dK (putK kvs (.inr x) (.ref q)))) := fun b xs eb => by
        rw [upd_ne (fun z => by subst z; rw [hm5] at eb; cases eb)]
        exact eb
      refine ⟨_, _, _, _, rfl, fun b o eb => ?_, upd_same, Nat.le_trans (length_putK kvs (.inr x) (.ref q)) (by omega), fun z hz => ?_⟩
      · rw [upd_ne (ne_of_none eb hm)]
        exact s5 _ _ (s24 _ _ (s2 _ _ eb))
      · rw [valV_putS]
        by_cases hzx : z = x
        · subst hzx
          rw [if_pos rfl, hof]
          exact ⟨q, rfl, hq.tups kt⟩
        · rw [if_neg hzx]
          rw [List.take_add_one, hx] at hz
          rcases List.mem_append.mp hz with hz | hz
          · obtain ⟨q', h1, h2⟩ := htl z hz
            exact ⟨q', h1, h2.tups ((s24.trans s5).tups.trans kt)⟩
          · exact absurd (by simpa using hz) hzx
    refine ⟨_, rfl, _, rfl, _, _, rfl, rfl, _, rfl, ite2 (fun cc => ?_) (fun cc => ?_)⟩
    · have cc : (i : Int) < c := of_decide_eq_true cc
      refine ⟨_, rfl, _, rfl, p, ns, rfl, s24 _ _ (s2 _ _ hp), h8, _, rfl, _, _, rfl, rfl, lk (by first | exact Nat.le_of_ble_eq_true rfl | simp), fun q hq => ?_⟩
      have hq0 := hq
      have s5 := same_upd (o := .tup [.int (colN ns.length i : Nat), .int (Builtin.bitXor (fullN ns.length : Nat) (colN ns.length i : Nat))]) hq
      refine ⟨_, rfl, _, rfl, m, _, rfl, DPut.k (k := Sum.inr x) (s5 _ _ (s24 _ _ hm2)) (small1000 (by omega)), ?_⟩
      refine fin q (colN ns.length i, fullN ns.length ^^^ colN ns.length i) _ s5 (by unfold Two; rw [upd_same]; simp only [bxor]) ?_
      unfold ofK ofN
      rw [hix, if_pos cc]
    · have cc : ¬ (i : Int) < c := fun z => cc (decide_eq_true z)
      refine ⟨lk (by first | exact Nat.le_of_ble_eq_true rfl | simp), fun q hq => ?_⟩
      have s5 := same_upd (o := .tup [.int 0, .int 0]) hq
      refine ⟨_, rfl, _, rfl, m, _, rfl, DPut.k (k := Sum.inr x) (s5 _ _ (s24 _ _ hm2)) (small1000 (by omega)), ?_⟩
      refine fin q (0, 0) _ s5 upd_same ?_
      unfold ofK
      rw [hix, if_neg cc]
  · rintro σ H2 ⟨o3, o4, o5, kvs, rfl, s2, hm2, hl2, htl⟩
    rw [List.length_map, List.take_length] at htl
    exact ⟨_, rfl, k m kvs H2 s2 hm2 htl⟩
theorem scTable : FnScope ["names", "tree"] ["names", "tree"] (defScope s_table) := ⟨rfl, rfl, rfl, by decide +kernel, rfl, by decide +kernel, by decide +kernel⟩
theorem ok_table (T : Txt P w K mg t) : FnOk P w K mg base (CX1 P w) 116 t.a_table t.fd_table ["names", "tree"] (spTable t) := by
  have G_need_names : FnOk P w K mg base (CX1 P w) 4 t.a_need_names t.fd_need_names ["names", "tree"] (spNeed t) := ok_need T
  have G_full : FnOk P w K mg base (CX1 P w) 1 t.a_full t.fd_full ["names"] spFull := ok_full T
  have G_sides_of_names : FnOk P w K mg base (CX1 P w) 3 t.a_sides_of_names t.fd_sides_of_names ["names", "known_ones"] spOf := ok_of T
  have G_sides : FnOk P w K mg base (CX1 P w) 115 t.a_sides t.fd_sides ["tree", "of_names", "every"] (spSides 110) := ok_sides T 110
  refine T.F_table.ok1 scTable (fun vs H Q E h => by obtain ⟨p, v, ns, tr, rfl, _⟩ := h; rfl) (fun cdv A outer s H vs Q E hr h => ?_)
  obtain ⟨p, v, ns, tr, rfl, ⟨hp, h8, hnd, ht, hsz, hd, hL, hsm⟩, k1, k2⟩ := h
  have nd := scTable.nd
  refine ⟨_, (pss_cons (ps_expr (pcall G_need_names (hr.mono (by first | decide | omega)) T.m_need_names T.k_need_names T.b_need_names passes1 (pa_cons (pvl 0) (pa_cons (pvl 1) pa_nil))))
      (pss_one (ps_ret (pe_ix ix_tup (pcall G_sides (hr.mono (by first | decide | omega)) T.m_sides T.k_sides T.b_sides never1 (pa_cons (pvl 1) (pa_cons (pcall G_sides_of_names (hr.mono (by first | decide | omega)) T.m_sides_of_names T.k_sides_of_names T.b_sides_of_names never1 (pa_cons (pvl 0) (pa_cons (pcallB call_len_seq T.n_len Bt.len (pa_cons (pvl 0) pa_nil)) pa_nil))) (pa_cons (pcall G_full (hr.mono (by first | decide | omega)) T.m_full T.k_full T.b_full never1 (pa_cons (pvl 0) pa_nil)) pa_nil)))) pe_int (fun _ _ => rfl))))), ?_⟩
  refine ⟨_, rfl, _, rfl, p, v, ns, tr, rfl, hp, ht, hsz, hL, hsm, fun hall H1 s1 => ?_, fun hno H1 s1 => k2 hno H1 s1⟩
  refine ⟨_, rfl, _, rfl, _, rfl, p, _, rfl, .inr (SqT.of (s1 _ _ hp)), p, ns, _, rfl, s1 _ _ hp, h8, hnd, fun m kvs H2 s2 hm htl => ?_⟩
  refine ⟨_, rfl, p, ns, rfl, s2 _ _ (s1 _ _ hp), h8, v, tr, m, kvs, _, _, rfl, ht.mono (s1.trans s2).tups, hd, hm, fun x hx => htl x (hall x hx), fun q H3 s3 hq => ?_⟩
  have e : (sidesN (ofK ns (((ns.map V.str).length : Nat) : Int)) (fullN ns.length) tr).1 = tableN ns tr := by
    rw [← sides_table]
    refine congrArg Prod.fst (sidesN_congr fun x hx => ?_)
    unfold ofK
    rw [if_pos]
    have := List.idxOf_lt_length_iff.mpr (hall x hx)
    rw [List.length_map]
    omega
  refine ⟨q, _, 0, _, rfl, rfl, SqT.of hq, rfl, ?_⟩
  have k1 := k1 hall H3 ((s1.trans s2).trans s3)
  rw [← e] at k1
  exact k1
end
end K24

namespace K24
open PySem L2 Mc
def spBreak (t : Adr) : Sp := fun vs H Q E => ∃ (p : Addr) (v : V) (ns : List Str) (tr : Tr), vs = [.ref p, v] ∧ Fits H p v ns tr ∧
  ((∀ x ∈ tr.names, x ∈ ns) → ∀ H', Same H H' → Q (.int (breakN ns tr : Nat)) H') ∧ ((¬ ∀ x ∈ tr.names, x ∈ ns) → ∀ H', Same H H' → E (.ref t.c_NoName) none H')
section
variable {P : Program} {w : World} {K : PySem.W.Frag} {mg : Str → Option Value} {base : Heap} {t : Adr}
theorem scBreak : FnScope ["names", "tree"] ["names", "tree"] (defScope s_breaking) := ⟨rfl, rfl, rfl, by decide +kernel, rfl, by decide +kernel, by decide +kernel⟩
theorem ok_break (T : Txt P w K mg t) : FnOk P w K mg base (CX1 P w) 117 t.a_breaking t.fd_breaking ["names", "tree"] (spBreak t) := by
  have G_table : FnOk P w K mg base (CX1 P w) 116 t.a_table t.fd_table ["names", "tree"] (spTable t) := ok_table T
  have G_full : FnOk P w K mg base (CX1 P w) 1 t.a_full t.fd_full ["names"] spFull := ok_full T
  refine T.F_breaking.ok1 scBreak (fun vs H Q E h => by obtain ⟨p, v, ns, tr, rfl, _⟩ := h; rfl) (fun cdv A outer s H vs Q E hr h => ?_)
  obtain ⟨p, v, ns, tr, rfl, hf, k1, k2⟩ := h
  have nd := scBreak.nd
  refine ⟨_, (pss_one (ps_ret (pe_op op_xor (pcall G_full (hr.mono (by first | decide | omega)) T.m_full T.k_full T.b_full never1 (pa_cons (pvl 0) pa_nil)) (pcall G_table (hr.mono (by first | decide | omega)) T.m_table T.k_table T.b_table passes1 (pa_cons (pvl 0) (pa_cons (pvl 1) pa_nil)))))), ?_⟩
  refine ⟨_, rfl, p, ns, rfl, hf.1, hf.2.1, _, rfl, _, rfl, p, v, ns, tr, rfl, hf, fun hall H1 s1 => ?_, k2⟩
  refine ⟨_, _, rfl, rfl, ?_⟩
  have k1 := k1 hall H1 s1
  rw [← break_table, ← bxor] at k1
  exact k1
end
end K24

namespace K24
open PySem L2 Mc
/-! ### minds: breaking, the least rank, firmness, held -/
/-- a mind in the heap -/
def MindAt (H : Hp) (a : Addr) (p r : Addr) (rs : List Int) : Prop := H a = some (.tup [.ref p, .ref r]) ∧ H r = some (.tup (rs.map V.int)) ∧ rs.length ≤ 256
theorem MindAt.mono {H H' : Hp} {a p r : Addr} {rs : List Int} (s : Same H H') (h : MindAt H a p r rs) : MindAt H' a p r rs := ⟨s _ _ h.1, s _ _ h.2.1, h.2.2⟩
section
variable {P : Program} {w : World} {K : PySem.W.Frag} {mg : Str → Option Value} {base : Heap} {t : Adr}
end
end K24

namespace K24
open PySem L2 Mc
/-! ### the law's names -/
def spWhole : Sp := fun vs H Q _ => ∃ i, vs = [.int i] ∧ Q (.bl true) H
def spMany : Sp := fun vs H Q _ => ∃ c, vs = [.int c] ∧ ∀ (n : Nat) H', Same H H' → 1 ≤ n → n ≤ 8 → Q (.int n) H'
/-- names, none twice -/
structure Names (ns : List Str) : Prop where
  nd : ns.Nodup
  nm : ∀ x ∈ ns, IsName x
def spNames2 : Sp := fun vs H Q _ => ∃ (c n : Int), vs = [.int c, .int n] ∧ 1 ≤ n ∧ n ≤ 8 ∧ ∀ (p : Addr) (ns : List Str) (H' : Hp), Same H H' → H' p = some (.tup (ns.map V.str)) → ns.length = n.toNat → Names ns → Q (.ref p) H'
/-- so many times one letter -/
def repL (c : Nat) (n : Nat) : Str := ⟨(List.replicate n c).toArray⟩
theorem repL_l (c n : Nat) : (repL c n).cps.toList = List.replicate n c := by simp [repL]
theorem mul_rep (c : Nat) (n : Int) : Txt.mul ⟨#[c]⟩ n = repL c n.toNat := by
  refine str_ext ?_
  rw [mul_one_list, repL_l]
theorem names_of {n : Nat} (f : Nat → Str) (hi : ∀ i j, i < 8 → j < 8 → f i = f j → i = j) (hn : ∀ i, i < 8 → IsName (f i)) (h8 : n ≤ 8) : Names ((List.range n).map f) := by
  refine ⟨?_, fun x hx => ?_⟩
  · rw [List.nodup_iff_pairwise_ne, List.pairwise_map]
    refine List.Pairwise.imp_of_mem (R := fun a b => a ≠ b) (fun {a b} ha hb hab e => hab ?_) (List.nodup_iff_pairwise_ne.mp List.nodup_range)
    have ha := List.mem_range.mp ha
    have hb := List.mem_range.mp hb
    exact hi a b (by omega) (by omega) e
  · obtain ⟨i, h, rfl⟩ := List.mem_map.mp hx
    have h := List.mem_range.mp h
    exact hn i (by omega)
def nmA (fill : Nat) (first : Int) (k : Nat) : Str := repL fill (1 + (first + 3 * k) % 8).toNat
def nmB (fill : Nat) (first size place : Int) (k : Nat) : Str := repL fill place.toNat ++ ⟨#[97 + ((first + 5 * k) % 26).toNat]⟩ ++ repL fill (size - 1 - place).toNat
theorem nmA_name {fill : Nat} (hf : 97 ≤ fill ∧ fill ≤ 122) (first : Int) (k : Nat) : IsName (nmA fill first k) := by
  unfold nmA
  refine ⟨?_, ?_, fun c hc => ?_⟩
  · rw [repL_l, List.length_replicate]; omega
  · rw [repL_l, List.length_replicate]; omega
  · rw [repL_l] at hc
    rw [(List.mem_replicate.mp hc).2]; exact hf
theorem nmA_inj (fill : Nat) (first : Int) (i j : Nat) (hi : i < 8) (hj : j < 8) (h : nmA fill first i = nmA fill first j) : i = j := by
  unfold nmA at h
  have h := congrArg (fun z : Str => z.cps.toList.length) h
  rw [repL_l, repL_l, List.length_replicate, List.length_replicate] at h
  omega
theorem nmB_l (fill : Nat) (first size place : Int) (k : Nat) : (nmB fill first size place k).cps.toList = List.replicate place.toNat fill ++ [97 + ((first + 5 * k) % 26).toNat] ++ List.replicate (size - 1 - place).toNat fill := by
  unfold nmB
  rw [app_l, app_l, repL_l, repL_l]
theorem nmB_name {fill : Nat} (hf : 97 ≤ fill ∧ fill ≤ 122) (first : Int) {size place : Int} (h1 : 1 ≤ size) (h8 : size ≤ 8) (h0 : 0 ≤ place) (hp : place < size) (k : Nat) : IsName (nmB fill first size place k) := by
  refine ⟨?_, ?_, fun c hc => ?_⟩
  · rw [nmB_l]; simp only [List.length_append, List.length_replicate, List.length_singleton]; omega
  · rw [nmB_l]; simp only [List.length_append, List.length_replicate, List.length_singleton]; omega
  · rw [nmB_l] at hc
    rcases List.mem_append.mp hc with hc | hc
    · rcases List.mem_append.mp hc with hc | hc
      · rw [(List.mem_replicate.mp hc).2]; exact hf
      · rw [List.mem_singleton.mp hc]; omega
    · rw [(List.mem_replicate.mp hc).2]; exact hf
theorem nmB_inj (fill : Nat) (first size place : Int) (i j : Nat) (hi : i < 8) (hj : j < 8) (h : nmB fill first size place i = nmB fill first size place j) : i = j := by
  have h := congrArg (fun z : Str => z.cps.toList) h
  rw [nmB_l, nmB_l, List.append_assoc, List.append_assoc] at h
  have h := List.append_cancel_left h
  simp only [List.singleton_append, List.cons.injEq] at h
  have h := h.1
  omega
theorem letter_at2 {i : Int} (h0 : 0 ≤ i) (h : i < 26) : atI letters.cps.toList i = some (97 + i.toNat) := atI_some h0 (letters_at i.toNat (by omega))
theorem one_len (c : Nat) : (⟨#[c]⟩ : Str).length = 1 := rfl
theorem repL_len (c n : Nat) : (repL c n).length = n := by rw [len_l, repL_l, List.length_replicate]
section
variable {P : Program} {w : World} {K : PySem.W.Frag} {mg : Str → Option Value} {base : Heap} {t : Adr}
theorem scWhole : FnScope ["_law_found"] ["_law_found"] (defScope s__law_whole) := ⟨rfl, rfl, rfl, by decide +kernel, rfl, by decide +kernel, by decide +kernel⟩
theorem ok_whole (T : Txt P w K mg t) : FnOk P w K mg base (CX1 P w) 1 t.a__law_whole t.fd__law_whole ["_law_found"] spWhole := by
  refine T.F__law_whole.ok1 scWhole (fun vs H Q E h => by obtain ⟨i, rfl, _⟩ := h; rfl) (fun cdv A outer s H vs Q E hr h => ?_)
  obtain ⟨i, rfl, k⟩ := h
  have nd := scWhole.nd
  refine ⟨_, (pss_one (ps_ret (pe_and (pcallB call_isI T.n_isinstance Bt.isinstance (pa_cons (pvl 0) (pa_cons (pbltn (v := .ty "int") T.n_int Bt.int rfl) pa_nil))) (pe_one (pe_not (pcallB call_isI T.n_isinstance Bt.isinstance (pa_cons (pvl 0) (pa_cons (pbltn (v := .ty "bool") T.n_bool Bt.bool rfl) pa_nil)))))))), ?_⟩
  refine ⟨_, rfl, _, _, _, _, true, rfl, rfl, .int _, rfl, _, rfl, ?_⟩
  exact ⟨_, rfl, _, _, _, _, false, rfl, rfl, .int _, rfl, _, rfl, k⟩
theorem scMany : FnScope ["_law_cell"] ["_law_cell"] (defScope s__law_many) := ⟨rfl, rfl, rfl, by decide +kernel, rfl, by decide +kernel, by decide +kernel⟩
theorem ok_many (T : Txt P w K mg t) : FnOk P w K mg base (CX1 P w) 1 t.a__law_many t.fd__law_many ["_law_cell"] spMany := by
  refine T.F__law_many.ok1 scMany (fun vs H Q E h => by obtain ⟨c, rfl, _⟩ := h; rfl) (fun cdv A outer s H vs Q E hr h => ?_)
  obtain ⟨c, rfl, k⟩ := h
  have nd := scMany.nd
  refine ⟨_, (pss_one (ps_ret (pe_ix ix_tup (pe_tup (pa_cons pe_int (pa_cons pe_int (pa_cons pe_int (pa_cons pe_int (pa_cons pe_int (pa_cons pe_int (pa_cons pe_int (pa_cons pe_int (pa_cons pe_int (pa_cons pe_int (pa_cons pe_int (pa_cons pe_int pa_nil))))))))))))) (pe_op op_mod (pvl 0) pe_int) (fun _ _ => rfl)))), ?_⟩
  refine ⟨lk (by first | exact Nat.le_of_ble_eq_true rfl | simp), fun q hq => ⟨_, rfl, _, _, rfl, rfl, (by show (0 : Int) < 12; decide), ?_⟩⟩
  have h0 := Int.emod_nonneg c (show (12 : Int) ≠ 0 by decide)
  have h1 := Int.emod_lt_of_pos c (show (0 : Int) < 12 by decide)
  obtain ⟨j, hj, hj12⟩ : ∃ j : Nat, c % 12 = (j : Int) ∧ j < 12 := ⟨(c % 12).toNat, by omega, by omega⟩
  obtain ⟨n, hn1, hn8, hat⟩ : ∃ n : Nat, 1 ≤ n ∧ n ≤ 8 ∧ [V.int 1, V.int 2, V.int 3, V.int 4, V.int 5, V.int 6, V.int 7, V.int 8, V.int 2, V.int 3, V.int 3, V.int 4][j]? = some (.int n) := by
    have : ∀ i : _root_.Fin 12, ∃ n : _root_.Fin 9, 1 ≤ n.val ∧ n.val ≤ 8 ∧ [V.int 1, V.int 2, V.int 3, V.int 4, V.int 5, V.int 6, V.int 7, V.int 8, V.int 2, V.int 3, V.int 3, V.int 4][i.val]? = some (.int (n.val : Nat)) := by decide +kernel
    obtain ⟨n, h1, h2, h3⟩ := this ⟨j, hj12⟩
    exact ⟨n.val, h1, h2, h3⟩
  refine ⟨q, _, _, .int n, rfl, rfl, SqT.of upd_same, ?_, k n _ (same_upd hq) hn1 hn8⟩
  show atI _ (c % 12) = _
  rw [hj]
  exact atI_nat hat
theorem scNames2 : FnScope ["_law_cell", "_law_many_here", "_law_letters", "_law_m", "_law_fill", "_law_first", "_law_size", "_law_place", "_law_row"] ["_law_cell", "_law_many_here"] (defScope s__law_names_by) := ⟨rfl, rfl, rfl, by decide +kernel, rfl, by decide +kernel, by decide +kernel⟩
theorem ok_names2 (T : Txt P w K mg t) : FnOk P w K mg base (CX1 P w) 1 t.a__law_names_by t.fd__law_names_by ["_law_cell", "_law_many_here"] spNames2 := by
  refine T.F__law_names_by.ok1 scNames2 (fun vs H Q E h => by obtain ⟨c, n, rfl, _⟩ := h; rfl) (fun cdv A outer s H vs Q E hr h => ?_)
  obtain ⟨c, n, rfl, hn1, hn8, k⟩ := h
  have nd := scNames2.nd
  refine ⟨_, (pss_cons (psc 2 nd pe_str)
      (pss_cons (psl 3 nd (pe_op op_mod (pvl 0) pe_int))
      (pss_cons (psc 4 nd (pe_ix ix_str (pvc 2) (pe_op op_mod (pe_op op_fdiv (pvl 3) pe_int) pe_int) (fun _ _ => rfl)))
      (pss_cons (psc 5 nd (pe_op op_mod (pe_op op_fdiv (pvl 3) pe_int) pe_int))
      (pss_cons (ps_if (pt_cmpR op_eq (pe_op op_mod (pvl 3) pe_int) pe_int (nomark _))
        (pss_one (ps_ret (pcallT call_tuple_of T.n_tuple Bt.tuple (pa_cons (pe_comp rfl ["_law_k", "_law_fill", "_law_first"] [none, some 4, some 5] (prange1 T.n_range (pa_cons (pvl 1) pa_nil)) (by kernel_rfl) (fun _ _ _ _ _ _ => (pgl 0 (show List.Nodup (α := PySem.Str) ["_law_k", "_law_fill", "_law_first"] by decide +kernel))) (fun _ _ _ _ _ _ => pts_nil) (fun _ _ _ _ _ _ => (pe_op op_mul_str (pvc 1) (pe_op op_add pe_int (pe_op op_mod (pe_op op_add (pvc 2) (pe_op op_mul pe_int (pvl 0))) pe_int))))) pa_nil))))
        pss_nil)
      (pss_cons (psc 6 nd (pe_op op_add pe_int (pe_op op_mod (pe_op op_fdiv (pvl 3) pe_int) pe_int)))
      (pss_cons (psc 7 nd (pe_op op_mod (pe_op op_fdiv (pvl 3) pe_int) (pvc 6)))
      (pss_cons (ps_setComp (i := 8) rfl ["_law_k", "_law_letters", "_law_first"] [none, some 2, some 5] nd rfl rfl (prange1 T.n_range (pa_cons (pvl 1) pa_nil)) (by kernel_rfl) (fun _ _ _ _ _ _ => (pgl 0 (show List.Nodup (α := PySem.Str) ["_law_k", "_law_letters", "_law_first"] by decide +kernel))) (fun _ _ _ _ _ _ => pts_nil) (fun _ _ _ _ _ _ => (pe_ix ix_str (pvc 1) (pe_op op_mod (pe_op op_add (pvc 2) (pe_op op_mul pe_int (pvl 0))) pe_int) (fun _ _ => rfl))))
      (pss_one (ps_ret (pcallT call_tuple_of T.n_tuple Bt.tuple (pa_cons (pe_comp rfl ["_law_letter", "_law_fill", "_law_place", "_law_size"] [none, some 4, some 7, some 6] (pi_list (pvl 8)) (by kernel_rfl) (fun _ _ _ _ _ _ => (pgl 0 (show List.Nodup (α := PySem.Str) ["_law_letter", "_law_fill", "_law_place", "_law_size"] by decide +kernel))) (fun _ _ _ _ _ _ => pts_nil) (fun _ _ _ _ _ _ => (pe_op op_add_str (pe_op op_add_str (pe_op op_mul_str (pvc 1) (pvc 2)) (pvl 0)) (pe_op op_mul_str (pvc 1) (pe_op op_sub (pe_op op_sub (pvc 3) pe_int) (pvc 2)))))) pa_nil)))))))))))), ?_⟩
  refine ⟨_, rfl, _, _, rfl, rfl, (by show (0 : Int) < 2147483629; decide), ?_⟩
  try dsimp (config := { proj := false, iota := false }) only
  have hm0 := Int.emod_nonneg c (show (2147483629 : Int) ≠ 0 by decide)
  generalize c % 2147483629 = m at hm0 ⊢
  refine ⟨_, rfl, _, rfl, _, _, rfl, rfl, ⟨by decide, by decide⟩, _, _, rfl, rfl, (by show (0 : Int) < 26; decide), _, _, _, rfl, rfl, (by show letters.length ≤ _; rw [letters_len]; decide), letter_at2 (by omega) (by omega), ?_⟩
  refine ⟨_, rfl, _, _, rfl, rfl, ⟨by decide, by decide⟩, _, _, rfl, rfl, (by show (0 : Int) < 26; decide), ?_⟩
  try dsimp (config := { proj := false, iota := false }) only
  obtain ⟨fill, hfe, hff⟩ : ∃ fill : Nat, 97 + (m / 4 % 26).toNat = fill ∧ 97 ≤ fill ∧ fill ≤ 122 := ⟨_, rfl, by omega, by omega⟩
  rw [hfe]
  obtain ⟨first, hfi, hf0, hf1⟩ : ∃ first : Int, m / 104 % 26 = first ∧ 0 ≤ first ∧ first < 26 := ⟨_, rfl, by omega, by omega⟩
  rw [hfi]
  have hn : n.toNat ≤ 8 := by omega
  have fin : ∀ (f : Nat → Str) (p3 : Addr) (H2 H3 : Hp), Same H H2 → H2 p3 = none → H3 = upd H2 p3 (.lst (((List.range n.toNat).map f).map V.str)) → Names ((List.range n.toNat).map f) → ∀ l, H3 l = none → Q (.ref l) (upd H3 l (.tup (((List.range n.toNat).map f).map V.str))) := by
    rintro f p3 H2 H3 s2 hp3 rfl hN l hl
    exact k l _ _ ((s2.trans (same_upd hp3)).trans (same_upd hl)) upd_same (by simp) hN
  refine ⟨_, rfl, _, _, rfl, rfl, (by show (0 : Int) < 4; decide), rfl, _, rfl, ite2 (fun _ => ?_) (fun _ => ?_)⟩
  · refine ⟨_, rfl, n, rfl, by omega, by omega, ?_⟩
    refine comp_range_map (n := n.toNat) (fun i => .str (nmA fill first i)) (lk (by omega)) (fun i R hi r => ?_) (fun p3 hp3 => ?_)
    · refine ⟨⟨rfl, rfl, trivial⟩, ?_⟩
      refine ⟨_, rfl, _, rfl, _, rfl, _, _, rfl, rfl, .inl ⟨by decide, by decide⟩, _, _, rfl, rfl, _, _, rfl, rfl, (by show (0 : Int) < 8; decide), _, _, rfl, rfl, _, _, rfl, rfl, (by rw [one_len]; decide), ?_, ?_, ?_⟩
      · show (-1000 : Int) ≤ 1 + (first + 3 * (0 + (i : Int))) % 8
        omega
      · show 1 + (first + 3 * (0 + (i : Int))) % 8 ≤ (1000 : Int)
        omega
      · have e : Txt.mul ⟨#[fill]⟩ (1 + (first + 3 * (0 + (i : Int))) % 8) = nmA fill first i := by
          rw [mul_rep, Int.zero_add]
          rfl
        rw [← e] at r
        exact r
    · have e : ((List.range n.toNat).map fun i => V.str (nmA fill first i)) = ((List.range n.toNat).map (nmA fill first)).map V.str := by rw [List.map_map]; rfl
      rw [e]
      exact ⟨p3, _, rfl, .inl ⟨SqL.of upd_same, fun l hl => fin _ p3 _ _ (Same.refl H) hp3 rfl (names_of _ (nmA_inj fill first) (fun i _ => nmA_name hff first i) hn) l hl⟩⟩
  · refine ⟨_, rfl, _, _, rfl, rfl, ⟨by decide, by decide⟩, _, _, rfl, rfl, (by show (0 : Int) < 8; decide), _, _, rfl, rfl, ?_⟩
    try dsimp (config := { proj := false, iota := false }) only
    obtain ⟨size, hse, hs1, hs8⟩ : ∃ size : Int, 1 + m / 2704 % 8 = size ∧ 1 ≤ size ∧ size ≤ 8 := ⟨_, rfl, by omega, by omega⟩
    rw [hse]
    refine ⟨_, rfl, _, _, rfl, rfl, ⟨by decide, by decide⟩, _, rfl, _, _, rfl, rfl, (by show (0 : Int) < size; omega), ?_⟩
    try dsimp (config := { proj := false, iota := false }) only
    have hp0 := Int.emod_nonneg (m / 21632) (show size ≠ 0 by omega)
    have hp1 := Int.emod_lt_of_pos (m / 21632) (show 0 < size by omega)
    generalize m / 21632 % size = place at hp0 hp1 ⊢
    refine ⟨_, rfl, n, rfl, by omega, by omega, ?_⟩
    refine comp_range_map (n := n.toNat) (fun (i : Nat) => .str ⟨#[97 + ((first + 5 * (i : Int)) % 26).toNat]⟩) (lk (by omega)) (fun i R hi r => ?_) (fun p2 hp2 => ?_)
    · refine ⟨⟨rfl, rfl, trivial⟩, ?_⟩
      refine ⟨_, rfl, _, rfl, _, rfl, _, _, rfl, rfl, .inl ⟨by decide, by decide⟩, _, _, rfl, rfl, _, _, rfl, rfl, (by show (0 : Int) < 26; decide), _, _, _, rfl, rfl, (by show letters.length ≤ _; rw [letters_len]; decide), letter_at2 (by omega) (by omega), ?_⟩
      have e : 97 + ((first + 5 * (0 + (i : Int))) % 26).toNat = 97 + ((first + 5 * (i : Int)) % 26).toNat := by rw [Int.zero_add]
      rw [← e] at r
      exact r
    have s2 := same_upd (o := .lst ((List.range n.toNat).map fun (i : Nat) => V.str ⟨#[97 + ((first + 5 * (i : Int)) % 26).toNat]⟩)) hp2
    have h2 : (upd H p2 (.lst ((List.range n.toNat).map fun (i : Nat) => V.str ⟨#[97 + ((first + 5 * (i : Int)) % 26).toNat]⟩))) p2 = some (.lst ((List.range n.toNat).map fun (i : Nat) => V.str ⟨#[97 + ((first + 5 * (i : Int)) % 26).toNat]⟩)) := upd_same
    generalize upd H p2 (.lst ((List.range n.toNat).map fun (i : Nat) => V.str ⟨#[97 + ((first + 5 * (i : Int)) % 26).toNat]⟩)) = H2 at s2 h2 ⊢
    refine ⟨_, rfl, p2, rfl, ⟨_, SqL.of h2⟩, ?_⟩
    refine comp_list_map (a := p2) (xs := (List.range n.toNat).map fun (i : Nat) => V.str ⟨#[97 + ((first + 5 * (i : Int)) % 26).toNat]⟩)
      (fun x => match x with | .str z => .str (repL fill place.toNat ++ z ++ repL fill (size - 1 - place).toNat) | x => x) (lk (by simp; omega)) (SqL.of h2) (fun x R hx r => ?_) (fun p3 hp3 => ?_)
    · obtain ⟨i, hi, rfl⟩ := List.mem_map.mp hx
      refine ⟨⟨rfl, rfl, rfl, trivial⟩, ?_⟩
      refine ⟨_, rfl, _, rfl, _, _, rfl, rfl, (by rw [one_len]; decide), by omega, by omega, _, rfl, ?_⟩
      rw [mul_rep]
      refine ⟨_, _, rfl, rfl, lk (by rw [repL_len, one_len]; omega), _, rfl, _, rfl, _, _, rfl, rfl, _, rfl, _, _, rfl, rfl, _, _, rfl, rfl, (by rw [one_len]; decide), ?_, ?_, ?_⟩
      · show (-1000 : Int) ≤ size - 1 - place
        omega
      · show size - 1 - place ≤ (1000 : Int)
        omega
      try dsimp (config := { proj := false, iota := false }) only
      rw [mul_rep]
      exact ⟨_, _, rfl, rfl, lk (by rw [Str.length_append, repL_len, repL_len, one_len]; omega), r⟩
    · have e : ((List.range n.toNat).map fun (i : Nat) => V.str ⟨#[97 + ((first + 5 * (i : Int)) % 26).toNat]⟩).map (fun x => match x with | .str z => .str (repL fill place.toNat ++ z ++ repL fill (size - 1 - place).toNat) | x => x) = ((List.range n.toNat).map (nmB fill first size place)).map V.str := by
        rw [List.map_map, List.map_map]
        rfl
      rw [e]
      exact ⟨p3, _, rfl, .inl ⟨SqL.of upd_same, fun l hl => fin _ p3 _ _ s2 hp3 rfl (names_of _ (nmB_inj fill first size place) (fun i _ => nmB_name hff first hs1 hs8 hp0 hp1 i) hn) l hl⟩⟩
end
end K24

namespace K24
open PySem L2 Mc
/-! ### the law's columns and tables -/
def spColumn : Sp := fun vs H Q _ => ∃ n k : Nat, vs = [.int n, .int k] ∧ k < n ∧ n ≤ 8 ∧ Q (.int (colN n k : Nat)) H
theorem pw1 (k : Nat) : (1 : Int) * 2 ^ ((k : Nat) : Int).toNat = ((2 ^ k : Nat) : Int) := by rw [Int.toNat_natCast]; simp
theorem pw256 {k : Nat} (h : k ≤ 8) : 2 ^ k ≤ 256 := Nat.pow_le_pow_right (n := 2) (by decide) h
theorem pwI {k : Nat} (h : k ≤ 8) : (0 : Int) ≤ ((2 ^ k : Nat) : Int) ∧ ((2 ^ k : Nat) : Int) ≤ 1000 := ⟨Int.natCast_nonneg _, Int.ofNat_le.mpr (Nat.le_trans (pw256 h) (by decide))⟩
theorem shl_of {i j : Int} (h0 : 0 ≤ j) (h1 : j ≤ 1000) (hi : i.natAbs < 2 ^ 256 * 2 ^ 44) : CShl i j := ⟨h0, by omega, Nat.lt_of_lt_of_le hi (by rw [← Nat.pow_add]; exact Nat.pow_le_pow_right (by decide) (by decide))⟩
theorem one_small : (1 : Int).natAbs < 2 ^ 256 * 2 ^ 44 := by decide
theorem full_small {m : Nat} (h : m ≤ 256) : (((2 ^ m - 1 : Nat) : Int)).natAbs < 2 ^ 256 * 2 ^ 44 := by
  rw [Int.natAbs_natCast]
  have h1 : 2 ^ m ≤ 2 ^ 256 := Nat.pow_le_pow_right (by decide) h
  have h2 : 1 ≤ 2 ^ m := Nat.one_le_two_pow
  omega
theorem pw2 (m : Nat) : (1 : Int) * 2 ^ ((m : Nat) : Int).toNat - 1 = ((2 ^ m - 1 : Nat) : Int) := by
  rw [pw1]
  have : 1 ≤ 2 ^ m := Nat.one_le_two_pow
  omega
theorem col_small {j k : Nat} (h : j ≤ 8) : (((colN j k : Nat) : Int)).natAbs < 2 ^ 256 * 2 ^ 44 := by
  rw [Int.natAbs_natCast]
  have h1 : colN j k < 2 ^ (2 ^ j) := bsum_lt _ _
  have h2 : 2 ^ (2 ^ j) ≤ 2 ^ 256 := Nat.pow_le_pow_right (by decide) (pw256 h)
  omega
section
variable {P : Program} {w : World} {K : PySem.W.Frag} {mg : Str → Option Value} {base : Heap} {t : Adr}
theorem scColumn : FnScope ["_law_n", "_law_k", "_law_row", "_law_size"] ["_law_n", "_law_k"] (defScope s__law_column) := ⟨rfl, rfl, rfl, by decide +kernel, rfl, by decide +kernel, by decide +kernel⟩
theorem ok_column (T : Txt P w K mg t) : FnOk P w K mg base (CX1 P w) 1 t.a__law_column t.fd__law_column ["_law_n", "_law_k"] spColumn := by
  refine T.F__law_column.ok1 scColumn (fun vs H Q E h => by obtain ⟨n, k, rfl, _⟩ := h; rfl) (fun cdv A outer s H vs Q E hr h => ?_)
  obtain ⟨n, kk, rfl, hk, hn, k⟩ := h
  have nd := scColumn.nd
  refine ⟨_, (pss_cons (psl 2 nd (pe_op op_shlB (pe_op op_sub (pe_op op_shlB pe_int (pe_op op_shlB pe_int (pvl 1))) pe_int) (pe_op op_shlB pe_int (pvl 1))))
      (pss_cons (psl 3 nd (pe_op op_shlB pe_int (pvl 1)))
      (pss_cons (ps_while own1 (pt_cmpR op_lt (pvl 3) (pe_op op_shlB pe_int (pvl 0)) (nomark _))
        (pss_cons (psl 2 nd (pe_op op_or (pvl 2) (pe_op op_shlB (pvl 2) (pvl 3))))
        (pss_one (psl 3 nd (pe_op op_mul pe_int (pvl 3))))))
      (pss_one (ps_ret (pvl 2)))))), ?_⟩
  have hk8 := pw256 (show kk ≤ 8 by omega)
  have cA : CShl 1 ((kk : Nat) : Int) := shl_of (by omega) (by omega) one_small
  have cB : CShl 1 ((1 : Int) * 2 ^ ((kk : Nat) : Int).toNat) := by rw [pw1]; exact shl_of (pwI (by omega)).1 (pwI (by omega)).2 one_small
  have cC : CShl ((1 : Int) * 2 ^ ((1 : Int) * 2 ^ ((kk : Nat) : Int).toNat).toNat - 1) ((1 : Int) * 2 ^ ((kk : Nat) : Int).toNat) := by
    rw [pw1, pw2]
    exact shl_of (pwI (by omega)).1 (pwI (by omega)).2 (full_small hk8)
  refine ⟨_, rfl, _, _, rfl, rfl, cA, _, _, rfl, rfl, cB, _, _, rfl, rfl, _, rfl, _, _, rfl, rfl, cA, _, _, rfl, rfl, cC, ?_⟩
  have e0 : ((1 : Int) * 2 ^ ((1 : Int) * 2 ^ ((kk : Nat) : Int).toNat).toNat - 1) * 2 ^ ((1 : Int) * 2 ^ ((kk : Nat) : Int).toNat).toNat = ((colN (kk + 1) kk : Nat) : Int) := by
    rw [pw1, pw2, Int.toNat_natCast, ← col_start, Int.natCast_mul]
    simp
  try dsimp (config := { proj := false, iota := false }) only
  rw [e0]
  refine ⟨_, rfl, _, _, rfl, rfl, shl_of (by omega) (by omega) (by decide), ?_⟩
  have e1 : (2 : Int) * 2 ^ ((kk : Nat) : Int).toNat = ((2 ^ (kk + 1) : Nat) : Int) := by rw [Int.toNat_natCast, Nat.pow_succ]; simp [Int.mul_comm]
  try dsimp (config := { proj := false, iota := false }) only
  rw [e1]
  refine ⟨fun m σ H2 => ∃ j : Nat, σ = [some (.int n), some (.int kk), some (.int (colN j kk : Nat)), some (.int (2 ^ j : Nat))] ∧ H2 = H ∧ kk < j ∧ j ≤ n ∧ m = n - j, ⟨_, kk + 1, rfl, rfl, by omega, by omega, rfl⟩, ?_⟩
  rintro m σ H2 ⟨j, rfl, rfl, hj, hjn, rfl⟩
  refine ⟨_, rfl, _, rfl, _, _, rfl, rfl, shl_of (by omega) (by omega) one_small, ?_⟩
  try dsimp (config := { proj := false, iota := false }) only
  rw [pw1]
  refine ⟨_, _, rfl, rfl, _, rfl, ite2 (fun c => ?_) (fun c => ?_)⟩
  · have c : ((2 ^ j : Nat) : Int) < ((2 ^ n : Nat) : Int) := of_decide_eq_true c
    have hjl : j < n := by
      rcases Nat.lt_or_ge j n with h | h
      · exact h
      · have : 2 ^ n ≤ 2 ^ j := Nat.pow_le_pow_right (by decide) h
        omega
    have hj8 := pw256 (show j ≤ 8 by omega)
    refine ⟨fun σ' H' => ∃ m', m' < n - j ∧ ∃ j : Nat, σ' = [some (.int n), some (.int kk), some (.int (colN j kk : Nat)), some (.int (2 ^ j : Nat))] ∧ H' = H2 ∧ kk < j ∧ j ≤ n ∧ m' = n - j, fun _ _ h => h, ?_⟩
    refine ⟨_, rfl, _, rfl, _, rfl, _, _, rfl, rfl, shl_of (pwI (by omega)).1 (pwI (by omega)).2 (col_small (by omega)), ?_⟩
    have e2 : ((colN j kk : Nat) : Int) * 2 ^ ((2 ^ j : Nat) : Int).toNat = ((colN j kk * 2 ^ (2 ^ j) : Nat) : Int) := by rw [Int.toNat_natCast, Int.natCast_mul]; simp
    try dsimp (config := { proj := false, iota := false }) only
    rw [e2]
    refine ⟨_, _, rfl, rfl, ?_⟩
    try dsimp (config := { proj := false, iota := false }) only
    rw [bor, col_step hj]
    refine ⟨_, rfl, _, _, rfl, rfl, .inl ⟨by decide, by decide⟩, ?_⟩
    have e3 : (2 : Int) * ((2 ^ j : Nat) : Int) = ((2 ^ (j + 1) : Nat) : Int) := by rw [Nat.pow_succ]; omega
    try dsimp (config := { proj := false, iota := false }) only
    rw [e3]
    exact ⟨_, by omega, j + 1, rfl, rfl, by omega, by omega, rfl⟩
  · have c : ¬ ((2 ^ j : Nat) : Int) < ((2 ^ n : Nat) : Int) := fun z => c (decide_eq_true z)
    have hjl : j = n := by
      rcases Nat.lt_or_ge j n with h | h
      · have : 2 ^ j < 2 ^ n := Nat.pow_lt_pow_right (by decide) h
        omega
      · omega
    subst hjl
    exact ⟨_, rfl, k⟩
end
end K24

namespace K24
open PySem L2 Mc
def spLTable (d : Nat) : Sp := fun vs H Q _ => ∃ (p : Addr) (v : V) (ns : List Str) (tr : Tr), vs = [.ref p, v] ∧ H p = some (.tup (ns.map V.str)) ∧ ns.length ≤ 8 ∧ TrAt H v tr ∧ tr.depth ≤ d ∧ (∀ x ∈ tr.names, x ∈ ns) ∧ ∀ H', Same H H' → Q (.int (tableN ns tr : Nat)) H'
theorem eqV_str (x y : Str) : eqV (.str x) (.str y) = decide (x = y) := by
  show (x == y) = _
  by_cases z : x = y
  · simp [z]
  · simp [z]
theorem getD_strs (ns : List Str) {j : Nat} (h : j < ns.length) : (ns.map V.str).getD j .non = .str ns[j] := by
  rw [List.getD, List.getElem?_map, List.getElem?_eq_getElem h]
  rfl
theorem before_idx {ns : List Str} {x : Str} {m : Nat} (h : m < ns.idxOf x) (hm : m < ns.length) : ¬ ns[m] = x := by
  have := List.not_of_lt_findIdx (p := fun y => y == x) (xs := ns) (i := m) h
  intro z
  rw [z] at this
  simp at this
section
variable {P : Program} {w : World} {K : PySem.W.Frag} {mg : Str → Option Value} {base : Heap} {t : Adr}
theorem scLTable : FnScope ["_law_names", "_law_tree", "_law_everything", "_law_left", "_law_right"] ["_law_names", "_law_tree"] (defScope s__law_table) := ⟨rfl, rfl, rfl, by decide +kernel, rfl, by decide +kernel, by decide +kernel⟩
theorem ok_ltable (T : Txt P w K mg t) : ∀ d : Nat, FnOk P w K mg base (CX1 P w) (d + 2) t.a__law_table t.fd__law_table ["_law_names", "_law_tree"] (spLTable d)
  | 0 => by
    refine T.F__law_table.ok1 scLTable (fun vs H Q E h => by obtain ⟨p, v, ns, tr, rfl, _⟩ := h; rfl) (fun cdv A outer s H vs Q E hr h => ?_)
    obtain ⟨p, v, ns, tr, rfl, hp, h8, ht, hd, k⟩ := h
    have := tr.depth_pos
    omega
  | d + 1 => by
    have G__law_table := ok_ltable T d
    have G__law_column : FnOk P w K mg base (CX1 P w) 1 t.a__law_column t.fd__law_column ["_law_n", "_law_k"] spColumn := ok_column T
    refine T.F__law_table.ok1 scLTable (fun vs H Q E h => by obtain ⟨p, v, ns, tr, rfl, _⟩ := h; rfl) (fun cdv A outer s H vs Q E hr h => ?_)
    obtain ⟨p, v, ns, tr, rfl, hp, h8, ht, hd, hin, k⟩ := h
    obtain ⟨a, rest, rfl, ha, hnm, hkid⟩ := ht.open
    have nd := scLTable.nd
    refine ⟨_, (pss_cons (psl 2 nd (pe_op op_sub (pe_op op_shl pe_int (pe_op op_shl pe_int (pcallB call_len_seq T.n_len Bt.len (pa_cons (pvl 0) pa_nil)))) pe_int))
      (pss_cons (ps_if (pt_cmpR op_eq (pcallB call_len_seq T.n_len Bt.len (pa_cons (pvl 1) pa_nil)) pe_int (nomark _))
        (pss_one (ps_ret (pe_ix ix_list (pe_lst (pa_cons pe_int (pa_cons (pvl 2) pa_nil))) (pcallT call_int1 T.n_int Bt.int (pa_cons (pe_cmpR op_eq (pe_ix ix_tup (pvl 1) pe_int (fun _ _ => rfl)) pe_str (nomark _)) pa_nil)) (fun _ _ => rfl))))
        pss_nil)
      (pss_cons (ps_if (pt_cmpR op_eq (pe_ix ix_tup (pvl 1) pe_int (fun _ _ => rfl)) pe_str (nomark _))
        (pss_one (ps_ret (pcall G__law_column (hr.mono (by first | decide | omega)) T.m__law_column T.k__law_column T.b__law_column never1 (pa_cons (pcallB call_len_seq T.n_len Bt.len (pa_cons (pvl 0) pa_nil)) (pa_cons (pe_bmT PySem.F.slot_tuple_index PySem.F.type_tuple_index mt_indexT (pvl 0) (pa_cons (pe_ix ix_tup (pvl 1) pe_int (fun _ _ => rfl)) pa_nil)) pa_nil)))))
        pss_nil)
      (pss_cons (psl 3 nd (pcall G__law_table (hr.mono (by first | decide | omega)) T.m__law_table T.k__law_table T.b__law_table never1 (pa_cons (pvl 0) (pa_cons (pe_ix ix_tup (pvl 1) pe_int (fun _ _ => rfl)) pa_nil))))
      (pss_cons (ps_if (pt_cmpR op_eq (pe_ix ix_tup (pvl 1) pe_int (fun _ _ => rfl)) pe_str (nomark _))
        (pss_one (ps_ret (pe_op op_xor (pvl 2) (pvl 3))))
        pss_nil)
      (pss_cons (psl 4 nd (pcall G__law_table (hr.mono (by first | decide | omega)) T.m__law_table T.k__law_table T.b__law_table never1 (pa_cons (pvl 0) (pa_cons (pe_ix ix_tup (pvl 1) pe_int (fun _ _ => rfl)) pa_nil))))
      (pss_cons (ps_if (pt_cmpR op_eq (pe_ix ix_tup (pvl 1) pe_int (fun _ _ => rfl)) pe_str (nomark _))
        (pss_one (ps_ret (pe_op op_and (pvl 3) (pvl 4))))
        pss_nil)
      (pss_cons (ps_if (pt_cmpR op_eq (pe_ix ix_tup (pvl 1) pe_int (fun _ _ => rfl)) pe_str (nomark _))
        (pss_one (ps_ret (pe_op op_or (pvl 3) (pvl 4))))
        pss_nil)
      (pss_cons (ps_if (pt_cmpR op_eq (pe_ix ix_tup (pvl 1) pe_int (fun _ _ => rfl)) pe_str (nomark _))
        (pss_one (ps_ret (pe_op op_or (pe_op op_xor (pvl 2) (pvl 3)) (pvl 4))))
        pss_nil)
      (pss_one (ps_ret (pe_op op_xor (pe_op op_xor (pvl 2) (pvl 3)) (pvl 4))))))))))))), ?_⟩
    have el : (ns.map V.str).length = ns.length := List.length_map _
    have ix0 : atI (V.str tr.tag :: rest) 0 = some (.str tr.tag) := atI_nat (j := 0) rfl
    have c1 : CPow 1 (((ns.map V.str).length : Nat) : Int) := ⟨by omega, by rw [el]; omega, by decide⟩
    have c2 : CPow 1 ((1 : Int) * 2 ^ (((ns.map V.str).length : Nat) : Int).toNat) := by
      rw [el, pw1]
      exact ⟨(pwI h8).1, by have := (pwI h8).2; omega, by decide⟩
    have ef : (1 : Int) * 2 ^ ((1 : Int) * 2 ^ (((ns.map V.str).length : Nat) : Int).toNat).toNat - 1 = ((fullN ns.length : Nat) : Int) := by
      rw [el, pw1, pw2]
      rfl
    refine ⟨_, rfl, p, _, rfl, .inr (SqT.of hp), _, _, rfl, rfl, c1, _, _, rfl, rfl, c2, _, _, rfl, rfl, ?_⟩
    try dsimp (config := { proj := false, iota := false }) only
    rw [ef]
    refine ⟨_, rfl, a, _, rfl, .inr (SqT.of ha), rfl, _, rfl, ite2 (fun c => ?L) (fun c1 => ⟨_, rfl, a, _, 0, .str tr.tag, rfl, rfl, SqT.of ha, ix0, rfl, _, rfl, ite2 (fun c => ?N) (fun c2 => ?R)⟩)⟩
    case L =>
      have c : (((V.str tr.tag :: rest).length : Nat) : Int) = 1 := V.int.inj (of_decide_eq_true c)
      rw [List.length_cons] at c
      have er : rest = [] := List.eq_nil_of_length_eq_zero (by omega)
      refine ⟨_, rfl, lk (by first | exact Nat.le_of_ble_eq_true rfl | simp), fun l hl => ?_⟩
      have s1 := same_upd (o := .lst [.int 0, .int (fullN ns.length : Nat)]) hl
      refine ⟨_, rfl, a, _, 0, .str tr.tag, rfl, rfl, SqT.of (s1 _ _ ha), ix0, rfl, .inr ⟨_, rfl, ?_⟩⟩
      subst er
      cases tr with
      | nm x =>
        obtain ⟨_, _, e⟩ := hnm rfl
        cases e
      | yes =>
        rw [show decide (V.str Tr.yes.tag = V.str "yes") = true from decide_eq_true rfl]
        refine ⟨l, _, 1, _, rfl, rfl, SqL.of upd_same, rfl, ?_⟩
        have k := k _ s1
        rw [tb_yes] at k
        exact k
      | no =>
        rw [show decide (V.str Tr.no.tag = V.str "yes") = false from decide_eq_false (by intro z; exact absurd (V.str.inj z) (by show ¬ (("no" : Str) = "yes"); decide +kernel))]
        refine ⟨l, _, 0, _, rfl, rfl, SqL.of upd_same, rfl, ?_⟩
        have k := k _ s1
        rw [tb_no] at k
        exact k
      | not u => cases hkid rfl
      | bin o x y => cases hkid rfl
    case N =>
      obtain ⟨x, rfl⟩ := tg_nm (of_decide_eq_true c)
      have hx : x ∈ ns := hin x List.mem_cons_self
      have hi := List.idxOf_lt_length_iff.mpr hx
      have hg : ns[ns.idxOf x] = x := List.getElem_idxOf hi
      refine ⟨_, rfl, p, _, rfl, .inr (SqT.of hp), _, rfl, p, _, rfl, hp, _, rfl, a, _, 1, .str x, rfl, rfl, SqT.of (trNm ht), rfl, p, _, .str x, ns.idxOf x, rfl, rfl, SqT.of hp, rfl, flat_strs ns, by rw [el]; exact hi, ?_, fun m hm => ?_, ns.length, ns.idxOf x, ?_, hi, h8, k H (Same.refl H)⟩
      · rw [getD_strs ns hi, hg, eqV_str, decide_eq_true rfl]
      · rw [getD_strs ns (by omega), eqV_str]
        exact decide_eq_false (before_idx hm (by omega))
      · rw [el]; rfl
    case R =>
      have c1 : ¬ (((V.str tr.tag :: rest).length : Nat) : Int) = 1 := fun z => c1 (decide_eq_true (congrArg V.int z))
      rw [List.length_cons] at c1
      cases tr with
      | nm x => exact absurd (decide_eq_true rfl) c2
      | yes =>
        cases hkid rfl
        exact absurd rfl c1
      | no =>
        cases hkid rfl
        exact absurd rfl c1
      | not u =>
        obtain ⟨vu, hau, htu⟩ := trNot ht
        have hd : u.depth + 1 ≤ d + 1 := hd
        refine ⟨_, rfl, _, rfl, a, _, 1, vu, rfl, rfl, SqT.of hau, rfl, p, vu, ns, u, rfl, hp, h8, htu, by omega, hin, fun H1 s1 => ?_⟩
        refine ⟨_, rfl, a, _, 0, .str "not", rfl, rfl, SqT.of (s1 _ _ hau), rfl, rfl, _, rfl, ite2 (fun c => ?_) (fun c => absurd (decide_eq_true rfl) c)⟩
        refine ⟨_, rfl, _, rfl, _, _, rfl, rfl, ?_⟩
        have k := k H1 s1
        rw [tb_not, ← bxor] at k
        exact k
      | bin o x y =>
        obtain ⟨vx, vy, hab, htx, hty⟩ := trBin ht
        have hd : max x.depth y.depth + 1 ≤ d + 1 := hd
        have nn : ¬ (decide (V.str o.str = V.str ("not" : Str)) = true) := fun z => (opStr_ne o).2.2.1 (V.str.inj (of_decide_eq_true z))
        refine ⟨_, rfl, _, rfl, a, _, 1, vx, rfl, rfl, SqT.of hab, rfl, p, vx, ns, x, rfl, hp, h8, htx, by omega, fun z hz => hin z (List.mem_append_left _ hz), fun H1 s1 => ?_⟩
        refine ⟨_, rfl, a, _, 0, .str o.str, rfl, rfl, SqT.of (s1 _ _ hab), rfl, rfl, _, rfl, ite2 (fun c => absurd c nn) (fun _ => ?_)⟩
        refine ⟨_, rfl, _, rfl, a, _, 2, vy, rfl, rfl, SqT.of (s1 _ _ hab), rfl, p, vy, ns, y, rfl, s1 _ _ hp, h8, hty.mono s1.tups, by omega, fun z hz => hin z (List.mem_append_right _ hz), fun H2 s2 => ?_⟩
        have s12 := s1.trans s2
        have k := k H2 s12
        refine ⟨_, rfl, a, _, 0, .str o.str, rfl, rfl, SqT.of (s12 _ _ hab), rfl, rfl, _, rfl, ite2 (fun c => ?A) (fun c1 => ⟨_, rfl, a, _, 0, .str o.str, rfl, rfl, SqT.of (s12 _ _ hab), rfl, rfl, _, rfl, ite2 (fun c => ?O) (fun c2 => ⟨_, rfl, a, _, 0, .str o.str, rfl, rfl, SqT.of (s12 _ _ hab), rfl, rfl, _, rfl, ite2 (fun c => ?T) (fun c3 => ?S)⟩)⟩)⟩
        case A =>
          obtain rfl : o = .and := tg_op (o' := .and) (of_decide_eq_true c)
          rw [tb_and, ← band] at k
          exact ⟨_, rfl, _, rfl, _, _, rfl, rfl, k⟩
        case O =>
          obtain rfl : o = .or := tg_op (o' := .or) (of_decide_eq_true c)
          rw [tb_or, ← bor] at k
          exact ⟨_, rfl, _, rfl, _, _, rfl, rfl, k⟩
        case T =>
          obtain rfl : o = .thn := tg_op (o' := .thn) (of_decide_eq_true c)
          rw [tb_thn, ← bor, ← bxor] at k
          exact ⟨_, rfl, _, rfl, _, _, rfl, rfl, _, rfl, _, _, rfl, rfl, k⟩
        case S =>
          obtain rfl : o = .same := by
            cases o with
            | and => exact absurd (decide_eq_true rfl) c1
            | or => exact absurd (decide_eq_true rfl) c2
            | thn => exact absurd (decide_eq_true rfl) c3
            | same => rfl
          rw [tb_same, ← bxor, ← bxor] at k
          exact ⟨_, rfl, _, rfl, _, _, rfl, rfl, _, rfl, _, _, rfl, rfl, k⟩
end
end K24

namespace K24
open PySem L2 Mc
/-! ### less the least -/
def spLess : Sp := fun vs H Q _ => ∃ (l : Addr) (ms : List Int), vs = [.ref l] ∧ H l = some (.lst (ms.map V.int)) ∧ 0 < ms.length ∧ ms.length ≤ 256 ∧
  ∀ (q : Addr) (m : Int) (H' : Hp), Same H H' → leastOf ms m → H' q = some (.tup ((ms.map fun x => x - m).map V.int)) → Q (.ref q) H'
section
variable {P : Program} {w : World} {K : PySem.W.Frag} {mg : Str → Option Value} {base : Heap} {t : Adr}
theorem scLess : FnScope ["marks", "least"] ["marks"] (defScope s_less_the_least) := ⟨rfl, rfl, rfl, by decide +kernel, rfl, by decide +kernel, by decide +kernel⟩
theorem ok_less (T : Txt P w K mg t) : FnOk P w K mg base (CX1 P w) 1 t.a_less_the_least t.fd_less_the_least ["marks"] spLess := by
  refine T.F_less_the_least.ok1 scLess (fun vs H Q E h => by obtain ⟨l, ms, rfl, _⟩ := h; rfl) (fun cdv A outer s H vs Q E hr h => ?_)
  obtain ⟨l, ms, rfl, hl, h0, h256, k⟩ := h
  have nd := scLess.nd
  refine ⟨_, (pss_cons (psc 1 nd (pcallB (call_minL rfl) T.n_min Bt.min (pa_cons (pvl 0) pa_nil)))
      (pss_one (ps_ret (pcallT call_tuple_of T.n_tuple Bt.tuple (pa_cons (pe_comp rfl ["mark", "least"] [none, some 1] (pi_list (pvl 0)) (by kernel_rfl) (fun _ _ _ _ _ _ => (pgl 0 (show List.Nodup (α := PySem.Str) ["mark", "least"] by decide +kernel))) (fun _ _ _ _ _ _ => pts_nil) (fun _ _ _ _ _ _ => (pe_op op_sub (pvl 0) (pvc 1)))) pa_nil))))), ?_⟩
  refine ⟨_, rfl, l, ms, rfl, SqL.of hl, h0, fun m hm1 hm2 => ?_⟩
  refine ⟨_, rfl, l, rfl, ⟨_, SqL.of hl⟩, ?_⟩
  refine comp_list (K := K) (a := l) (xs := ms.map V.int) (fun i ys H' => H' = H ∧ ys = ((ms.take i).map fun x => x - m).map V.int) ⟨rfl, rfl⟩ (lk (by rw [List.length_map]; omega)) (fun i ys H' ⟨_, e⟩ => by rw [e, List.length_map, List.length_map, List.length_take]; omega) (fun i ys H' ⟨e, _⟩ => by subst e; exact SqL.of hl) ?_ ?_
  · rintro i z ys H' hi ⟨rfl, rfl⟩
    rw [List.getElem?_map] at hi
    obtain ⟨c, hc, rfl⟩ : ∃ c, ms[i]? = some c ∧ z = V.int c := by
      cases q : ms[i]? with
      | none => rw [q] at hi; cases hi
      | some c => rw [q] at hi; exact ⟨c, rfl, (Option.some.inj hi).symm⟩
    refine ⟨⟨rfl, trivial⟩, ?_⟩
    refine ⟨_, rfl, _, rfl, _, _, rfl, rfl, rfl, ?_⟩
    rw [List.take_add_one, hc, List.map_append, List.map_append]
    rfl
  · rintro ys H' ⟨rfl, rfl⟩ lc hlc
    rw [List.length_map, List.take_length]
    refine ⟨lc, _, rfl, .inl ⟨SqL.of upd_same, fun q hq => ?_⟩⟩
    exact k q m _ ((same_upd hlc).trans (same_upd hq)) ⟨hm1, hm2⟩ upd_same
end
end K24

namespace K24
open PySem L2 Mc
/-! ### minds that are told -/
/-- a sentence and its rank, told -/
def ToldAt (H : Hp) (v : V) (x : Tr × Int) : Prop := ∃ q u, v = .ref q ∧ H q = some (.tup [u, .int x.2]) ∧ TrAt H u x.1
theorem ToldAt.mono {H H' : Hp} (s : Same H H') {v : V} {x : Tr × Int} : ToldAt H v x → ToldAt H' v x := fun ⟨q, u, h1, h2, h3⟩ => ⟨q, u, h1, s _ _ h2, h3.mono s.tups⟩
theorem ToldAt.tups {H H' : Hp} (s : Tups H H') {v : V} {x : Tr × Int} : ToldAt H v x → ToldAt H' v x := fun ⟨q, u, h1, h2, h3⟩ => ⟨q, u, h1, s _ _ h2, h3.mono s⟩
/-- the mark of a world -/
def markF (ns : List Str) (told : List (Tr × Int)) (i : Nat) : Int := told.foldl (fun m x => if evalB (inW ns i) x.1 = true then m else max m x.2) 0
def marksL (ns : List Str) (told : List (Tr × Int)) : List Int := (List.range (2 ^ ns.length)).map (markF ns told)
theorem marks_len (ns : List Str) (told : List (Tr × Int)) : (marksL ns told).length = 2 ^ ns.length := by unfold marksL; rw [List.length_map, List.length_range]
theorem markF_snoc (ns : List Str) (told : List (Tr × Int)) (x : Tr × Int) (i : Nat) : markF ns (told ++ [x]) i = if evalB (inW ns i) x.1 = true then markF ns told i else max (markF ns told i) x.2 := by
  unfold markF
  rw [List.foldl_append]
  rfl
theorem marks_nil (ns : List Str) : marksL ns [] = List.replicate (2 ^ ns.length) 0 := by
  unfold marksL
  rw [show markF ns [] = fun _ => (0 : Int) from funext fun _ => rfl, List.map_const', List.length_range]
def spMarked : Sp := fun vs H Q _ => ∃ (l : Addr) (ms : List Int) (side : Nat) (r : Int), vs = [.ref l, .int side, .int r] ∧ H l = some (.lst (ms.map V.int)) ∧ ms.length ≤ 256 ∧
  ∀ (q : Addr) (H' : Hp), Same H H' → H' q = some (.lst (((List.range ms.length).map fun i => if side.testBit i = true then max (ms.getD i 0) r else ms.getD i 0).map V.int)) → Q (.ref q) H'
def spMindOf : Sp := fun vs H Q _ => ∃ (p l : Addr) (ns : List Str) (us : List V) (told : List (Tr × Int)), vs = [.ref p, .ref l] ∧ H p = some (.tup (ns.map V.str)) ∧ ns.length ≤ 8 ∧ ns.Nodup ∧ H l = some (.lst us) ∧ Paired (ToldAt H) us told ∧
  (∀ x ∈ told, x.1.size ≤ 100000 ∧ x.1.depth ≤ 110 ∧ (∃ L : List Str, L.length < 64 ∧ ∀ y ∈ x.1.names, y ∈ L) ∧ (∀ y ∈ x.1.names, SmallS y) ∧ ∀ y ∈ x.1.names, y ∈ ns) ∧
  ∀ (a r : Addr) (m : Int) (H' : Hp), Same H H' → leastOf (marksL ns told) m → H' r = some (.tup (((marksL ns told).map fun x => x - m).map V.int)) → H' a = some (.tup [.ref p, .ref r]) → Q (.ref a) H'
theorem marks_at {ns : List Str} {told : List (Tr × Int)} {i : Nat} (h : i < 2 ^ ns.length) : (marksL ns told).getD i 0 = markF ns told i := by
  unfold marksL
  rw [List.getD, List.getElem?_map, List.getElem?_range h]
  rfl
theorem marks_snoc (ns : List Str) (told : List (Tr × Int)) (x : Tr × Int) :
    ((List.range (marksL ns told).length).map fun i => if (breakN ns x.1).testBit i = true then max ((marksL ns told).getD i 0) x.2 else (marksL ns told).getD i 0) = marksL ns (told ++ [x]) := by
  rw [marks_len]
  show _ = (List.range (2 ^ ns.length)).map (markF ns (told ++ [x]))
  refine List.map_congr_left fun i hi => ?_
  have hi := List.mem_range.mp hi
  rw [marks_at hi, markF_snoc, break_bit, decide_eq_true hi, Bool.true_and]
  cases evalB (inW ns i) x.1 <;> rfl
section
variable {P : Program} {w : World} {K : PySem.W.Frag} {mg : Str → Option Value} {base : Heap} {t : Adr}
theorem scMarked : FnScope ["marks", "worlds", "rank"] ["marks", "worlds", "rank"] (defScope s_marked) := ⟨rfl, rfl, rfl, by decide +kernel, rfl, by decide +kernel, by decide +kernel⟩
theorem ok_marked (T : Txt P w K mg t) : FnOk P w K mg base (CX1 P w) 2 t.a_marked t.fd_marked ["marks", "worlds", "rank"] spMarked := by
  have G_bit_at : FnOk P w K mg base (CX1 P w) 1 t.a_bit_at t.fd_bit_at ["number", "place"] spBit := ok_bit T
  refine T.F_marked.ok1 scMarked (fun vs H Q E h => by obtain ⟨l, ms, sd, r, rfl, _⟩ := h; rfl) (fun cdv A outer s H vs Q E hr h => ?_)
  obtain ⟨l, ms, sd, r, rfl, hl, h256, k⟩ := h
  have nd := scMarked.nd
  refine ⟨_, (pss_one (ps_ret (pe_comp rfl ["world", "mark", "rank", "worlds"] [none, none, some 2, some 1] (penum (pvl 0) T.n_enumerate) (by kernel_rfl) (fun _ _ _ _ _ _ => (pg_tupK (K := K) (n := 2) rfl rfl (pgs_cons (pgl 0 (show List.Nodup (α := PySem.Str) ["world", "mark", "rank", "worlds"] by decide +kernel)) (pgs_cons (pgl 1 (show List.Nodup (α := PySem.Str) ["world", "mark", "rank", "worlds"] by decide +kernel)) pgs_nil)))) (fun _ _ _ _ _ _ => pts_nil) (fun _ _ _ _ _ _ => (pe_ifExp (pt_cmpR op_eq (pcall G_bit_at (hr.mono (by first | decide | omega)) T.m_bit_at T.k_bit_at T.b_bit_at never1 (pa_cons (pvc 3) (pa_cons (pvl 0) pa_nil))) pe_int (nomark _)) (pcallB (call_max2 rfl) T.n_max Bt.max (pa_cons (pvl 1) (pa_cons (pvc 2) pa_nil))) (pvl 1)))))), ?_⟩
  refine ⟨_, rfl, l, rfl, ⟨_, SqL.of hl⟩, ?_⟩
  refine comp_enum (K := K) (a := l) (xs := ms.map V.int) (fun i ys H' => Same H H' ∧ ys = ((List.range i).map fun i => if sd.testBit i = true then max (ms.getD i 0) r else ms.getD i 0).map V.int) ⟨Same.refl _, rfl⟩ (lk (by rw [List.length_map]; omega)) (fun i ys H' ⟨_, e⟩ => by rw [e, List.length_map, List.length_map, List.length_range]; exact Nat.le_refl _) (fun i ys H' ⟨s1, _⟩ => SqL.of (s1 _ _ hl)) ?_ ?_
  · rintro i y ys H1 hi ⟨s1, rfl⟩ e he
    rw [List.getElem?_map] at hi
    obtain ⟨x, hx, rfl⟩ : ∃ x, ms[i]? = some x ∧ y = V.int x := by
      cases q : ms[i]? with
      | none => rw [q] at hi; cases hi
      | some x => rw [q] at hi; exact ⟨x, rfl, (Option.some.inj hi).symm⟩
    have s2 := s1.trans (same_upd (o := .tup [.int i, .int x]) he)
    refine ⟨e, _, rfl, SqT.of upd_same, rfl, _, _, rfl, _, _, rfl, rfl, ⟨rfl, rfl, trivial⟩, ?_⟩
    refine ⟨_, rfl, _, rfl, sd, i, rfl, rfl, _, rfl, ?_⟩
    have ex : ms.getD i 0 = x := by rw [List.getD, hx]; rfl
    rw [List.range_succ, List.map_append, List.map_append]
    unfold bitN
    cases hb : sd.testBit i with
    | true =>
      refine iteT ?_
      refine ⟨_, rfl, _, rfl, _, _, rfl, s2, ?_⟩
      have e2 : (if r > x then r else x) = max x r := by split <;> omega
      rw [e2]
      simp [hb, hx]
    | false =>
      refine iteF ?_
      refine ⟨_, rfl, s2, ?_⟩
      simp [hb, hx]
  · rintro ys H1 ⟨s1, rfl⟩ q hq
    rw [List.length_map]
    exact k q _ (s1.trans (same_upd hq)) upd_same
theorem scMindOf : FnScope ["names", "told", "marks", "tree", "rank"] ["names", "told"] (defScope s_mind_of) := ⟨rfl, rfl, rfl, by decide +kernel, rfl, by decide +kernel, by decide +kernel⟩
theorem ok_mindof (T : Txt P w K mg t) : FnOk P w K mg base (CX1 P w) 118 t.a_mind_of t.fd_mind_of ["names", "told"] spMindOf := by
  have G_marked : FnOk P w K mg base (CX1 P w) 2 t.a_marked t.fd_marked ["marks", "worlds", "rank"] spMarked := ok_marked T
  have G_breaking : FnOk P w K mg base (CX1 P w) 117 t.a_breaking t.fd_breaking ["names", "tree"] (spBreak t) := ok_break T
  have G_less_the_least : FnOk P w K mg base (CX1 P w) 1 t.a_less_the_least t.fd_less_the_least ["marks"] spLess := ok_less T
  refine T.F_mind_of.ok1 scMindOf (fun vs H Q E h => by obtain ⟨p, l, ns, us, told, rfl, _⟩ := h; rfl) (fun cdv A outer s H vs Q E hr h => ?_)
  obtain ⟨p, l, ns, us, told, rfl, hp, h8, hnd, hl, hpt, hts, k⟩ := h
  have nd := scMindOf.nd
  have hpl := Paired.length hpt
  refine ⟨_, (pss_cons (psl 2 nd (pe_op op_rep (pe_lst (pa_cons pe_int pa_nil)) (pe_op op_shl pe_int (pcallB call_len_seq T.n_len Bt.len (pa_cons (pvl 0) pa_nil)))))
      (pss_cons (ps_for own1 rfl (pi_list (pvl 1)) (pg_tup (n := 2) rfl (pgs_cons (pgl 3 nd) (pgs_cons (pgl 4 nd) pgs_nil)))
        (pss_one (psl 2 nd (pcall G_marked (hr.mono (by first | decide | omega)) T.m_marked T.k_marked T.b_marked never1 (pa_cons (pvl 2) (pa_cons (pcall G_breaking (hr.mono (by first | decide | omega)) T.m_breaking T.k_breaking T.b_breaking passes1 (pa_cons (pvl 0) (pa_cons (pvl 3) pa_nil))) (pa_cons (pvl 4) pa_nil)))))))
      (pss_one (ps_ret (pe_tup (pa_cons (pvl 0) (pa_cons (pcall G_less_the_least (hr.mono (by first | decide | omega)) T.m_less_the_least T.k_less_the_least T.b_less_the_least never1 (pa_cons (pvl 2) pa_nil)) pa_nil))))))), ?_⟩
  have h256 : 2 ^ ns.length ≤ 256 := Nat.pow_le_pow_right (n := 2) (by decide) h8
  have h1 : 1 ≤ 2 ^ ns.length := Nat.one_le_two_pow
  have e1 : (1 : Int) * 2 ^ (((ns.map V.str).length : Nat) : Int).toNat = ((2 ^ ns.length : Nat) : Int) := by rw [List.length_map, Int.toNat_natCast]; simp
  have er : (List.replicate (2 ^ ns.length) [V.int 0]).flatten = (marksL ns []).map V.int := by
    rw [marks_nil]
    simp
  have mk := marks_len ns
  refine ⟨lk (by first | exact Nat.le_of_ble_eq_true rfl | simp), fun q hq => ?_⟩
  have u1 := same_upd (o := .lst [.int 0]) hq
  refine ⟨_, rfl, p, _, rfl, .inr (SqT.of (u1 _ _ hp)), _, _, rfl, rfl, ⟨by rw [List.length_map]; omega, by rw [List.length_map]; omega, by decide⟩, ?_⟩
  try dsimp (config := { proj := false, iota := false }) only
  rw [e1]
  refine ⟨q, _, [.int 0], rfl, rfl, upd_same, by omega, by omega, ?_, fun q2 hq2 => ?_⟩
  · rw [Int.toNat_natCast]
    exact lk (by simp; omega)
  rw [Int.toNat_natCast, er]
  have u2 := u1.trans (same_upd (o := .lst ((marksL ns []).map V.int)) hq2)
  have hq2' : (upd (upd H q (.lst [.int 0])) q2 (.lst ((marksL ns []).map V.int))) q2 = some (.lst ((marksL ns []).map V.int)) := upd_same
  generalize upd (upd H q (.lst [.int 0])) q2 (.lst ((marksL ns []).map V.int)) = H2 at u2 hq2' ⊢
  refine ⟨_, rfl, l, rfl, ⟨_, SqL.of (u2 _ _ hl)⟩, for_list (K := K) (a := l) (xs := us)
    (fun i σ H3 => ∃ (o3 o4 : Option V) (lm : Addr), σ = [some (.ref p), some (.ref l), some (.ref lm), o3, o4] ∧ Same H H3 ∧ H3 lm = some (.lst ((marksL ns (told.take i)).map V.int)))
    ⟨none, none, q2, rfl, u2, hq2'⟩ (fun i σ H3 _ ⟨_, _, _, _, s3, _⟩ => SqL.of (s3 _ _ hl)) ?_ ?_⟩
  · rintro i y σ H3 hi ⟨o3, o4, lm, rfl, s3, hlm⟩
    obtain ⟨x, hx, qx, v, rfl, hqx, hv⟩ := paired_get hpt i y hi
    obtain ⟨f1, f2, f3, f4, f5⟩ := hts x (List.mem_of_getElem? hx)
    refine ⟨qx, _, rfl, SqT.of (s3 _ _ hqx), rfl, _, _, rfl, _, _, rfl, rfl, ?_⟩
    refine ⟨_, rfl, _, rfl, _, rfl, p, v, ns, x.1, rfl, ⟨s3 _ _ hp, h8, hnd, hv.mono s3.tups, f1, f2, f3, f4⟩, fun _ H4 s4 => ?_, fun hno => absurd f5 hno⟩
    refine ⟨_, rfl, lm, marksL ns (told.take i), breakN ns x.1, x.2, rfl, s4 _ _ hlm, by rw [mk]; omega, fun q5 H5 s5 hq5 => ?_⟩
    refine ⟨_, _, q5, rfl, s3.trans (s4.trans s5), ?_⟩
    rw [List.take_add_one, hx]
    rw [marks_snoc] at hq5
    exact hq5
  · rintro σ H3 ⟨o3, o4, lm, rfl, s3, hlm⟩
    rw [hpl, List.take_length] at hlm
    refine ⟨_, rfl, _, rfl, lm, marksL ns told, rfl, hlm, by rw [mk]; omega, by rw [mk]; omega, fun q m H4 s4 hm hq4 => ⟨lk (by first | exact Nat.le_of_ble_eq_true rfl | simp), fun a ha => ?_⟩⟩
    have u5 := same_upd (o := .tup [.ref p, .ref q]) ha
    exact k a q m _ ((s3.trans s4).trans u5) hm (u5 _ _ hq4) upd_same
end
end K24

namespace K24
open PySem L2 Mc
/-! ### a sentence of a table -/
theorem IsName.lay {x : Str} (h : IsName x) : PyData.strOk x = true := by
  unfold PyData.strOk
  rw [← Array.all_toList]
  exact List.all_eq_true.mpr fun c hc => decide_eq_true (by have := (h.ok c hc).2; omega)
/-- a sentence that chooses by a name -/
def Chooses (x : Str) (t0 t1 t : Tr) : Prop := (∀ g : Str → Bool, evalB g t = if g x = true then evalB g t1 else evalB g t0) ∧ t.size ≤ t0.size + t1.size + 5 ∧ t.depth ≤ max t0.depth t1.depth + 2 ∧ ∀ y ∈ t.names, y = x ∨ y ∈ t0.names ∨ y ∈ t1.names
def spChosen : Sp := fun vs H Q _ => ∃ (q : Addr) (v0 v1 : V) (x : Str) (t0 t1 : Tr), vs = [.ref q, v0, v1] ∧ H q = some (.tup [.str "name", .str x]) ∧ TrAt H v0 t0 ∧ TrAt H v1 t1 ∧ t0.depth ≤ 60 ∧ t1.depth ≤ 60 ∧ (∀ y ∈ t0.names, PyData.strOk y = true) ∧ (∀ y ∈ t1.names, PyData.strOk y = true) ∧
  ∀ (v : V) (t : Tr) (H' : Hp), Same H H' → TrAt H' v t → Chooses x t0 t1 t → Q v H'
def spTreeOf (d : Nat) : Sp := fun vs H Q _ => ∃ (p : Addr) (n : Nat) (ns : List Str) (tab : Nat), vs = [.ref p, .int (tab : Int)] ∧ H p = some (.tup (ns.map V.str)) ∧ ns.length = n ∧ n ≤ d ∧ d ≤ 8 ∧ ns.Nodup ∧ (∀ x ∈ ns, IsName x) ∧ tab < 2 ^ 2 ^ n ∧
  ∀ (v : V) (t : Tr) (H' : Hp), Same H H' → TrAt H' v t → tableN ns t = tab → t.size + 5 ≤ 6 * 2 ^ n → t.depth ≤ 2 * n + 1 → (∀ y ∈ t.names, y ∈ ns) → Q v H'
theorem inW_snoc {ns : List Str} {x y : Str} (i : Nat) (hy : y ∈ ns) : inW (ns ++ [x]) i y = i.testBit (ns.idxOf y) := by
  unfold inW
  rw [List.idxOf_append, if_pos hy]
theorem inW_last {ns : List Str} {x : Str} (i : Nat) (hx : x ∉ ns) : inW (ns ++ [x]) i x = i.testBit ns.length := by
  unfold inW
  rw [List.idxOf_append, if_neg hx]
  simp
theorem table_split {ns : List Str} {x : Str} {t0 t1 t : Tr} {tab : Nat} (hx : x ∉ ns) (h0 : tableN ns t0 = tab % 2 ^ 2 ^ ns.length) (h1 : tableN ns t1 = tab / 2 ^ 2 ^ ns.length) (n0 : ∀ y ∈ t0.names, y ∈ ns) (n1 : ∀ y ∈ t1.names, y ∈ ns) (ht : tab < 2 ^ 2 ^ (ns.length + 1)) (hc : ∀ g : Str → Bool, evalB g t = if g x = true then evalB g t1 else evalB g t0) : tableN (ns ++ [x]) t = tab := by
  refine Nat.eq_of_testBit_eq fun i => ?_
  have hl : (ns ++ [x]).length = ns.length + 1 := by rw [List.length_append]; rfl
  have hp : 2 ^ (ns.length + 1) = 2 ^ ns.length + 2 ^ ns.length := by rw [Nat.pow_succ]; omega
  rw [table_bit, hl]
  by_cases hi : i < 2 ^ (ns.length + 1)
  · rw [decide_eq_true hi, Bool.true_and, hc, inW_last i hx]
    by_cases hi2 : i < 2 ^ ns.length
    · rw [Nat.testBit_lt_two_pow hi2, if_neg (by decide)]
      have e1 : evalB (inW (ns ++ [x]) i) t0 = evalB (inW ns i) t0 := evalB_congr fun y hy => inW_snoc i (n0 y hy)
      have e2 := table_bit ns t0 i
      rw [decide_eq_true hi2, Bool.true_and, h0, Nat.testBit_mod_two_pow, decide_eq_true hi2, Bool.true_and] at e2
      rw [e1, ← e2]
    · obtain ⟨j, rfl⟩ : ∃ j, i = 2 ^ ns.length + j := ⟨i - 2 ^ ns.length, by omega⟩
      have hj : j < 2 ^ ns.length := by omega
      rw [Nat.testBit_two_pow_add_eq, Nat.testBit_lt_two_pow hj, Bool.not_false, if_pos rfl]
      have e1 : evalB (inW (ns ++ [x]) (2 ^ ns.length + j)) t1 = evalB (inW ns j) t1 := evalB_congr fun y hy => by
        rw [inW_snoc _ (n1 y hy)]
        exact Nat.testBit_two_pow_add_gt (List.idxOf_lt_length_iff.mpr (n1 y hy)) j
      have e2 := table_bit ns t1 j
      rw [decide_eq_true hj, Bool.true_and, h1, ← Nat.shiftRight_eq_div_pow, Nat.testBit_shiftRight] at e2
      rw [e1, ← e2]
  · rw [decide_eq_false hi, Bool.false_and]
    exact (Nat.testBit_lt_two_pow (Nat.lt_of_lt_of_le ht (Nat.pow_le_pow_right (by decide) (Nat.le_of_not_lt hi)))).symm
theorem cut_last (xs : List V) (v : V) : cutV (xs ++ [v]) none (some (-1)) = xs := by
  unfold cutV
  have e1 : HT.sIx (xs ++ [v]).length (xs ++ [v]).length (some (-1)) = xs.length := by
    show (if (-1 : Int) < 0 then ((-1 : Int) + (((xs ++ [v]).length : Nat) : Int)).toNat else min (-1 : Int).toNat (xs ++ [v]).length) = xs.length
    rw [if_pos (by decide), List.length_append, List.length_singleton]
    omega
  have e2 : HT.sIx (xs ++ [v]).length 0 none = 0 := rfl
  rw [e1, e2]
  simp
theorem not_whole (xs : List V) (v : V) : ¬ Whole (xs ++ [v]).length none (some (-1)) := fun h => by
  have e1 : HT.sIx (xs ++ [v]).length (xs ++ [v]).length (some (-1)) = xs.length := by
    show (if (-1 : Int) < 0 then ((-1 : Int) + (((xs ++ [v]).length : Nat) : Int)).toNat else min (-1 : Int).toNat (xs ++ [v]).length) = xs.length
    rw [if_pos (by decide), List.length_append, List.length_singleton]
    omega
  have := h.2
  rw [e1, List.length_append, List.length_singleton] at this
  omega
section
variable {P : Program} {w : World} {K : PySem.W.Frag} {mg : Str → Option Value} {base : Heap} {t : Adr}
theorem scChosen : FnScope ["name", "with_0", "with_1"] ["name", "with_0", "with_1"] (defScope s_chosen) := ⟨rfl, rfl, rfl, by decide +kernel, rfl, by decide +kernel, by decide +kernel⟩
theorem ok_chosen (T : Txt P w K mg t) : FnOk P w K mg base (CX1 P w) 1 t.a_chosen t.fd_chosen ["name", "with_0", "with_1"] spChosen := by
  refine T.F_chosen.ok1 scChosen (fun vs H Q E h => by obtain ⟨q, v0, v1, x, t0, t1, rfl, _⟩ := h; rfl) (fun cdv A outer s H vs Q E hr h => ?_)
  obtain ⟨q, v0, v1, x, t0, t1, rfl, hq, h0, h1, d0, d1, l0, l1, k⟩ := h
  have nd := scChosen.nd
  refine ⟨_, (pss_cons (ps_if (pt_cmpR (op_eqTr hr.units) (pvl 1) (pvl 2) (nomark _))
        (pss_one (ps_ret (pvl 1)))
        pss_nil)
      (pss_cons (ps_if (pt_cmpR (op_eqTr hr.units) (pvl 1) (pe_tup (pa_cons pe_str pa_nil)) (nomark _))
        (pss_one (ps_ret (pe_ifExp (pt_cmpR (op_eqTr hr.units) (pvl 2) (pe_tup (pa_cons pe_str pa_nil)) (nomark _)) (pvl 0) (pe_tup (pa_cons pe_str (pa_cons (pvl 0) (pa_cons (pvl 2) pa_nil)))))))
        pss_nil)
      (pss_cons (ps_if (pt_cmpR (op_eqTr hr.units) (pvl 2) (pe_tup (pa_cons pe_str pa_nil)) (nomark _))
        (pss_one (ps_ret (pe_ifExp (pt_cmpR (op_eqTr hr.units) (pvl 1) (pe_tup (pa_cons pe_str pa_nil)) (nomark _)) (pe_tup (pa_cons pe_str (pa_cons (pvl 0) pa_nil))) (pe_tup (pa_cons pe_str (pa_cons (pe_tup (pa_cons pe_str (pa_cons (pvl 0) pa_nil))) (pa_cons (pvl 1) pa_nil)))))))
        pss_nil)
      (pss_cons (ps_if (pt_cmpR (op_eqTr hr.units) (pvl 1) (pe_tup (pa_cons pe_str pa_nil)) (nomark _))
        (pss_one (ps_ret (pe_tup (pa_cons pe_str (pa_cons (pvl 0) (pa_cons (pvl 2) pa_nil))))))
        pss_nil)
      (pss_cons (ps_if (pt_cmpR (op_eqTr hr.units) (pvl 2) (pe_tup (pa_cons pe_str pa_nil)) (nomark _))
        (pss_one (ps_ret (pe_tup (pa_cons pe_str (pa_cons (pvl 0) (pa_cons (pvl 1) pa_nil))))))
        pss_nil)
      (pss_one (ps_ret (pe_tup (pa_cons pe_str (pa_cons (pe_tup (pa_cons pe_str (pa_cons (pvl 0) (pa_cons (pvl 2) pa_nil)))) (pa_cons (pe_tup (pa_cons pe_str (pa_cons (pvl 0) (pa_cons (pvl 1) pa_nil)))) pa_nil))))))))))), ?_⟩
  have hno : ∀ y ∈ Tr.no.names, PyData.strOk y = true := fun y hy => nomatch hy
  have hyes : ∀ y ∈ Tr.yes.names, PyData.strOk y = true := fun y hy => nomatch hy
  have z0 := t0.size_pos
  have z1 := t1.size_pos
  refine ⟨_, rfl, _, rfl, t0, t1, h0, h1, d0, l0, l1, _, rfl, ite2 (fun c => ?_) (fun _ => ?_)⟩
  · obtain rfl := (eqvT_iff t0 t1).mp c
    exact ⟨_, rfl, k v0 t0 H (Same.refl _) h0 ⟨fun g => by split <;> rfl, by omega, by omega, fun y hy => .inr (.inl hy)⟩⟩
  refine ⟨_, rfl, lk (by first | exact Nat.le_of_ble_eq_true rfl | simp), fun a1 ha1 => ?_⟩
  have u1 := same_upd (o := .tup [.str "no"]) ha1
  have h0 := h0.mono u1.tups
  have h1 := h1.mono u1.tups
  have hq := u1 _ _ hq
  have hn1 : TrAt (upd H a1 (.tup [.str "no"])) (.ref a1) .no := .no upd_same
  generalize upd H a1 (.tup [.str "no"]) = H1 at u1 h0 h1 hq hn1 ⊢
  have nmx : TrAt H1 (.ref q) (.nm x) := .nm hq
  refine ⟨t0, .no, h0, hn1, d0, l0, hno, _, rfl, ite2 (fun c => ?_) (fun c1 => ?_)⟩
  · obtain rfl := (eqvT_iff t0 .no).mp c
    refine ⟨_, rfl, lk (by first | exact Nat.le_of_ble_eq_true rfl | simp), fun a2 ha2 => ?_⟩
    have u2 := same_upd (o := .tup [.str "yes"]) ha2
    refine ⟨t1, .yes, h1.mono u2.tups, .yes upd_same, d1, l1, hyes, _, rfl, ite2 (fun c => ?_) (fun _ => ?_)⟩
    · obtain rfl := (eqvT_iff t1 .yes).mp c
      refine ⟨_, rfl, k _ (.nm x) _ (u1.trans u2) (nmx.mono u2.tups) ⟨fun g => ?_, (by show 1 ≤ 1 + 1 + 5; decide), (by show 1 ≤ max 1 1 + 2; decide), fun y hy => .inl (List.mem_singleton.mp hy)⟩⟩
      show g x = if g x = true then true else false
      cases g x <;> rfl
    · refine ⟨_, rfl, _, rfl, lk (by first | exact Nat.le_of_ble_eq_true rfl | simp), fun a3 ha3 => ?_⟩
      have u3 := same_upd (o := .tup [.str "and", .ref q, v1]) ha3
      refine k _ (.bin .and (.nm x) t1) _ ((u1.trans u2).trans u3) (.bin (o := .and) upd_same (nmx.mono (u2.trans u3).tups) (h1.mono (u2.trans u3).tups)) ⟨fun g => ?_, ?_, ?_, fun y hy => ?_⟩
      · show (g x && evalB g t1) = if g x = true then evalB g t1 else false
        cases g x <;> rfl
      · show 1 + t1.size + 1 ≤ 1 + t1.size + 5
        omega
      · show max 1 t1.depth + 1 ≤ max 1 t1.depth + 2
        omega
      · exact (List.mem_append.mp hy).elim (fun z => .inl (List.mem_singleton.mp z)) fun z => .inr (.inr z)
  refine ⟨_, rfl, lk (by first | exact Nat.le_of_ble_eq_true rfl | simp), fun a2 ha2 => ?_⟩
  have u2 := same_upd (o := .tup [.str "no"]) ha2
  have h0 := h0.mono u2.tups
  have h1 := h1.mono u2.tups
  have nmx := nmx.mono u2.tups
  have hn2 : TrAt (upd H1 a2 (.tup [.str "no"])) (.ref a2) .no := .no upd_same
  have s2 := u1.trans u2
  generalize upd H1 a2 (.tup [.str "no"]) = H2 at s2 h0 h1 nmx hn2 ⊢
  refine ⟨t1, .no, h1, hn2, d1, l1, hno, _, rfl, ite2 (fun c => ?_) (fun c2 => ?_)⟩
  · obtain rfl := (eqvT_iff t1 .no).mp c
    refine ⟨_, rfl, lk (by first | exact Nat.le_of_ble_eq_true rfl | simp), fun a3 ha3 => ?_⟩
    have u3 := same_upd (o := .tup [.str "yes"]) ha3
    refine ⟨t0, .yes, h0.mono u3.tups, .yes upd_same, d0, l0, hyes, _, rfl, ite2 (fun c => ?_) (fun _ => ?_)⟩
    · obtain rfl := (eqvT_iff t0 .yes).mp c
      refine ⟨_, rfl, lk (by first | exact Nat.le_of_ble_eq_true rfl | simp), fun a4 ha4 => ?_⟩
      have u4 := same_upd (o := .tup [.str "not", .ref q]) ha4
      refine k _ (.not (.nm x)) _ ((s2.trans u3).trans u4) (.not upd_same (nmx.mono (u3.trans u4).tups)) ⟨fun g => ?_, (by show 1 + 1 ≤ 1 + 1 + 5; decide), (by show 1 + 1 ≤ max 1 1 + 2; decide), fun y hy => .inl (List.mem_singleton.mp hy)⟩
      show (!g x) = if g x = true then false else true
      cases g x <;> rfl
    · refine ⟨_, rfl, lk (by first | exact Nat.le_of_ble_eq_true rfl | simp), fun a4 ha4 => ⟨_, rfl, lk (by first | exact Nat.le_of_ble_eq_true rfl | simp), fun a5 ha5 => ?_⟩⟩
      have u4 := same_upd (o := .tup [.str "not", .ref q]) ha4
      have u5 := same_upd (o := .tup [.str "and", .ref a4, v0]) ha5
      have u35 := u3.trans (u4.trans u5)
      refine k _ (.bin .and (.not (.nm x)) t0) _ (s2.trans u35) (.bin (o := .and) upd_same (.not (u5 _ _ upd_same) (nmx.mono u35.tups)) (h0.mono u35.tups)) ⟨fun g => ?_, ?_, ?_, fun y hy => ?_⟩
      · show ((!g x) && evalB g t0) = if g x = true then false else evalB g t0
        cases g x <;> rfl
      · show 1 + 1 + t0.size + 1 ≤ t0.size + 1 + 5
        omega
      · show max (1 + 1) t0.depth + 1 ≤ max t0.depth 1 + 2
        omega
      · exact (List.mem_append.mp hy).elim (fun z => .inl (List.mem_singleton.mp z)) fun z => .inr (.inl z)
  refine ⟨_, rfl, lk (by first | exact Nat.le_of_ble_eq_true rfl | simp), fun a3 ha3 => ?_⟩
  have u3 := same_upd (o := .tup [.str "yes"]) ha3
  have h0 := h0.mono u3.tups
  have h1 := h1.mono u3.tups
  have nmx := nmx.mono u3.tups
  have hn3 : TrAt (upd H2 a3 (.tup [.str "yes"])) (.ref a3) .yes := .yes upd_same
  have s3 := s2.trans u3
  generalize upd H2 a3 (.tup [.str "yes"]) = H3 at s3 h0 h1 nmx hn3 ⊢
  refine ⟨t0, .yes, h0, hn3, d0, l0, hyes, _, rfl, ite2 (fun c => ?_) (fun _ => ?_)⟩
  · obtain rfl := (eqvT_iff t0 .yes).mp c
    refine ⟨_, rfl, _, rfl, lk (by first | exact Nat.le_of_ble_eq_true rfl | simp), fun a4 ha4 => ?_⟩
    have u4 := same_upd (o := .tup [.str "then", .ref q, v1]) ha4
    refine k _ (.bin .thn (.nm x) t1) _ (s3.trans u4) (.bin (o := .thn) upd_same (nmx.mono u4.tups) (h1.mono u4.tups)) ⟨fun g => ?_, ?_, ?_, fun y hy => ?_⟩
    · show (!g x || evalB g t1) = if g x = true then evalB g t1 else true
      cases g x <;> rfl
    · show 1 + t1.size + 1 ≤ 1 + t1.size + 5
      omega
    · show max 1 t1.depth + 1 ≤ max 1 t1.depth + 2
      omega
    · exact (List.mem_append.mp hy).elim (fun z => .inl (List.mem_singleton.mp z)) fun z => .inr (.inr z)
  refine ⟨_, rfl, lk (by first | exact Nat.le_of_ble_eq_true rfl | simp), fun a4 ha4 => ?_⟩
  have u4 := same_upd (o := .tup [.str "yes"]) ha4
  have h0 := h0.mono u4.tups
  have h1 := h1.mono u4.tups
  have nmx := nmx.mono u4.tups
  have hn4 : TrAt (upd H3 a4 (.tup [.str "yes"])) (.ref a4) .yes := .yes upd_same
  have s4 := s3.trans u4
  generalize upd H3 a4 (.tup [.str "yes"]) = H4 at s4 h0 h1 nmx hn4 ⊢
  refine ⟨t1, .yes, h1, hn4, d1, l1, hyes, _, rfl, ite2 (fun c => ?_) (fun _ => ?_)⟩
  · obtain rfl := (eqvT_iff t1 .yes).mp c
    refine ⟨_, rfl, _, rfl, lk (by first | exact Nat.le_of_ble_eq_true rfl | simp), fun a5 ha5 => ?_⟩
    have u5 := same_upd (o := .tup [.str "or", .ref q, v0]) ha5
    refine k _ (.bin .or (.nm x) t0) _ (s4.trans u5) (.bin (o := .or) upd_same (nmx.mono u5.tups) (h0.mono u5.tups)) ⟨fun g => ?_, ?_, ?_, fun y hy => ?_⟩
    · show (g x || evalB g t0) = if g x = true then true else evalB g t0
      cases g x <;> rfl
    · show 1 + t0.size + 1 ≤ t0.size + 1 + 5
      omega
    · show max 1 t0.depth + 1 ≤ max t0.depth 1 + 2
      omega
    · exact (List.mem_append.mp hy).elim (fun z => .inl (List.mem_singleton.mp z)) fun z => .inr (.inl z)
  refine ⟨_, rfl, _, rfl, lk (by first | exact Nat.le_of_ble_eq_true rfl | simp), fun a5 ha5 => ⟨_, rfl, _, rfl, lk (by first | exact Nat.le_of_ble_eq_true rfl | simp), fun a6 ha6 => ⟨lk (by first | exact Nat.le_of_ble_eq_true rfl | simp), fun a7 ha7 => ?_⟩⟩⟩
  have u5 := same_upd (o := .tup [.str "then", .ref q, v1]) ha5
  have u6 := same_upd (o := .tup [.str "or", .ref q, v0]) ha6
  have u7 := same_upd (o := .tup [.str "and", .ref a5, .ref a6]) ha7
  have u57 := u5.trans (u6.trans u7)
  refine k _ (.bin .and (.bin .thn (.nm x) t1) (.bin .or (.nm x) t0)) _ (s4.trans u57) (.bin (o := .and) upd_same (.bin (o := .thn) ((u6.trans u7) _ _ upd_same) (nmx.mono u57.tups) (h1.mono u57.tups)) (.bin (o := .or) (u7 _ _ upd_same) (nmx.mono u57.tups) (h0.mono u57.tups))) ⟨fun g => ?_, ?_, ?_, fun y hy => ?_⟩
  · show ((!g x || evalB g t1) && (g x || evalB g t0)) = if g x = true then evalB g t1 else evalB g t0
    cases g x <;> cases evalB g t1 <;> cases evalB g t0 <;> rfl
  · show 1 + t1.size + 1 + (1 + t0.size + 1) + 1 ≤ t0.size + t1.size + 5
    omega
  · show max (max 1 t1.depth + 1) (max 1 t0.depth + 1) + 1 ≤ max t0.depth t1.depth + 2
    have := t0.depth_pos
    have := t1.depth_pos
    omega
  · rcases List.mem_append.mp hy with hy | hy
    · exact (List.mem_append.mp hy).elim (fun z => .inl (List.mem_singleton.mp z)) fun z => .inr (.inr z)
    · exact (List.mem_append.mp hy).elim (fun z => .inl (List.mem_singleton.mp z)) fun z => .inr (.inl z)
theorem scTreeOf : FnScope ["names", "table", "half", "with_0", "with_1"] ["names", "table"] (defScope s_tree_of) := ⟨rfl, rfl, rfl, by decide +kernel, rfl, by decide +kernel, by decide +kernel⟩
theorem ok_treeof (T : Txt P w K mg t) : ∀ n : Nat, FnOk P w K mg base (CX1 P w) (n + 3) t.a_tree_of t.fd_tree_of ["names", "table"] (spTreeOf n) := by
  have G_chosen : FnOk P w K mg base (CX1 P w) 1 t.a_chosen t.fd_chosen ["name", "with_0", "with_1"] spChosen := ok_chosen T
  have main : ∀ n : Nat, (∃ sp : Sp, FnOk P w K mg base (CX1 P w) (n + 2) t.a_tree_of t.fd_tree_of ["names", "table"] sp ∧ (0 < n → sp = spTreeOf (n - 1))) → FnOk P w K mg base (CX1 P w) (n + 3) t.a_tree_of t.fd_tree_of ["names", "table"] (spTreeOf n) := by
    rintro dd ⟨sp, G_tree_of, hsp⟩
    refine T.F_tree_of.ok1 scTreeOf (fun vs H Q E h => by obtain ⟨p, n, ns, tab, rfl, _⟩ := h; rfl) (fun cdv A outer s H vs Q E hr h => ?_)
    obtain ⟨p, n, ns, tab, rfl, hp, hnl, hndd, h8d, hnd, hnm, htab, k⟩ := h
    have h8 : n ≤ 8 := by omega
    have nd := scTreeOf.nd
    refine ⟨_, (pss_cons (ps_if (pt_cmpR op_eq (pcallB call_len_seq T.n_len Bt.len (pa_cons (pvl 0) pa_nil)) pe_int (nomark _))
        (pss_one (ps_ret (pe_ifExp (pt_cmpR op_eq (pvl 1) pe_int (nomark _)) (pe_tup (pa_cons pe_str pa_nil)) (pe_tup (pa_cons pe_str pa_nil)))))
        pss_nil)
      (pss_cons (psl 2 nd (pe_op op_shl pe_int (pe_op op_sub (pcallB call_len_seq T.n_len Bt.len (pa_cons (pvl 0) pa_nil)) pe_int)))
      (pss_cons (psl 3 nd (pcall G_tree_of (hr.mono (by first | decide | omega)) T.m_tree_of T.k_tree_of T.b_tree_of never1 (pa_cons (pe_slice sl_tup (pvl 0) po_none (po_some (pe_un un_neg pe_int))) (pa_cons (pe_op op_and (pvl 1) (pe_op op_sub (pe_op op_shl pe_int (pvl 2)) pe_int)) pa_nil))))
      (pss_cons (psl 4 nd (pcall G_tree_of (hr.mono (by first | decide | omega)) T.m_tree_of T.k_tree_of T.b_tree_of never1 (pa_cons (pe_slice sl_tup (pvl 0) po_none (po_some (pe_un un_neg pe_int))) (pa_cons (pe_op op_shr (pvl 1) (pvl 2)) pa_nil))))
      (pss_one (ps_ret (pcall G_chosen (hr.mono (by first | decide | omega)) T.m_chosen T.k_chosen T.b_chosen never1 (pa_cons (pe_tup (pa_cons pe_str (pa_cons (pe_ix ix_tup (pvl 0) (pe_un un_neg pe_int) (fun _ _ => rfl)) pa_nil))) (pa_cons (pvl 3) (pa_cons (pvl 4) pa_nil)))))))))), ?_⟩
    have el : (ns.map V.str).length = ns.length := List.length_map _
    refine ⟨_, rfl, p, _, rfl, .inr (SqT.of hp), rfl, _, rfl, ite2 (fun c => ?_) (fun c => ?_)⟩
    · have c : (((ns.map V.str).length : Nat) : Int) = 0 := V.int.inj (of_decide_eq_true c)
      obtain rfl : ns = [] := List.eq_nil_of_length_eq_zero (by omega)
      obtain rfl : n = 0 := hnl.symm
      have htab : tab < 2 := htab
      refine ⟨_, rfl, rfl, _, rfl, ite2 (fun c => ?_) (fun c => ?_)⟩
      · have c : (tab : Int) = 1 := V.int.inj (of_decide_eq_true c)
        obtain rfl : tab = 1 := by omega
        exact ⟨lk (by first | exact Nat.le_of_ble_eq_true rfl | simp), fun q hq => k _ .yes _ (same_upd hq) (.yes upd_same) (by decide) (by decide) (by decide) (fun y hy => nomatch hy)⟩
      · have c : ¬ (tab : Int) = 1 := fun z => c (decide_eq_true (congrArg V.int z))
        obtain rfl : tab = 0 := by omega
        exact ⟨lk (by first | exact Nat.le_of_ble_eq_true rfl | simp), fun q hq => k _ .no _ (same_upd hq) (.no upd_same) (by decide) (by decide) (by decide) (fun y hy => nomatch hy)⟩
    have c : ¬ (((ns.map V.str).length : Nat) : Int) = 0 := fun z => c (decide_eq_true (congrArg V.int z))
    have hn0 : 0 < n := by omega
    obtain rfl := hsp (by omega)
    obtain ⟨ns0, x, rfl⟩ : ∃ ns0 x, ns = ns0 ++ [x] := by
      have hne : ns ≠ [] := fun z => by subst z; rw [List.length_nil] at hnl; omega
      exact ⟨ns.dropLast, ns.getLast hne, (List.dropLast_concat_getLast hne).symm⟩
    obtain ⟨m, rfl⟩ : ∃ m, n = m + 1 := ⟨n - 1, by omega⟩
    have hm : ns0.length = m := by rw [List.length_append, List.length_singleton] at hnl; omega
    have hnd0 : ns0.Nodup := (List.nodup_append.mp hnd).1
    have hx : x ∉ ns0 := fun z => (List.nodup_append.mp hnd).2.2 x z x (List.mem_singleton.mpr rfl) rfl
    have hnm0 : ∀ y ∈ ns0, IsName y := fun y hy => hnm y (List.mem_append_left _ hy)
    have hm8 : m + 1 - 1 = m := rfl
    have hpx : H p = some (.tup (ns0.map V.str ++ [V.str x])) := by rw [hp, List.map_append]; rfl
    have e1 : (1 : Int) * 2 ^ ((((ns0 ++ [x]).map V.str).length : Nat) - 1 : Int).toNat = ((2 ^ m : Nat) : Int) := by
      rw [show ((((ns0 ++ [x]).map V.str).length : Nat) - 1 : Int).toNat = m by rw [el]; rw [List.length_append, List.length_singleton]; omega]
      simp
    obtain ⟨N, hN⟩ : ∃ N, N = 2 ^ m := ⟨_, rfl⟩
    have hN256 : N ≤ 256 := hN ▸ Nat.pow_le_pow_right (n := 2) (j := 8) (by decide) (by omega)
    rw [← hN] at e1
    refine ⟨_, rfl, p, _, rfl, .inr (SqT.of hp), _, _, rfl, rfl, _, _, rfl, rfl, ⟨by rw [el, List.length_append, List.length_singleton]; omega, by rw [el, List.length_append, List.length_singleton]; omega, by decide⟩, ?_⟩
    try dsimp (config := { proj := false, iota := false }) only
    rw [e1]
    have hpow : 2 ^ (m + 1) = N + N := by rw [Nat.pow_succ, hN]; omega
    have e2 : (1 : Int) * 2 ^ ((N : Nat) : Int).toNat - 1 = ((2 ^ N - 1 : Nat) : Int) := by
      rw [Int.toNat_natCast, Int.one_mul, Int.ofNat_sub Nat.one_le_two_pow]
      simp
    have cut : cutV ((ns0 ++ [x]).map V.str) none (some (-1)) = ns0.map V.str := by rw [List.map_append]; exact cut_last _ _
    refine ⟨_, rfl, _, rfl, _, rfl, p, _, rfl, SqT.of hp, (by rw [List.map_append]; exact not_whole _ _), fun q1 hq1 => ?_⟩
    rw [cut]
    have u1 := same_upd (o := .tup (ns0.map V.str)) hq1
    have cN : CPow 1 ((N : Nat) : Int) := ⟨by omega, by omega, by decide⟩
    have t1lt : tab / 2 ^ N < 2 ^ 2 ^ m := by
      rw [Nat.div_lt_iff_lt_mul (Nat.two_pow_pos _), ← hN, ← Nat.pow_add, ← hpow]
      exact htab
    have t0lt : tab % 2 ^ N < 2 ^ 2 ^ m := by
      rw [← hN]
      exact Nat.mod_lt _ (Nat.two_pow_pos _)
    refine ⟨_, rfl, _, rfl, _, _, rfl, rfl, cN, _, _, rfl, rfl, _, _, rfl, rfl, q1, m, ns0, tab % 2 ^ N, ?_, upd_same, hm, by omega, by omega, hnd0, hnm0, t0lt, fun v0 t0 H1 s1 ht0 htb0 hz0 hd0 hn0' => ?_⟩
    · show [V.ref q1, V.int (Builtin.bitAnd (tab : Int) ((1 : Int) * 2 ^ ((N : Nat) : Int).toNat - 1))] = _
      rw [e2, band, Nat.and_two_pow_sub_one_eq_mod]
    have s01 := u1.trans s1
    have hp1 := s01 _ _ hp
    refine ⟨_, rfl, _, rfl, _, rfl, p, _, rfl, SqT.of hp1, (by rw [List.map_append]; exact not_whole _ _), fun q2 hq2 => ?_⟩
    rw [cut]
    have u2 := same_upd (o := .tup (ns0.map V.str)) hq2
    refine ⟨_, rfl, _, rfl, _, _, rfl, rfl, (by show (0 : Int) ≤ ((N : Nat) : Int); omega), q2, m, ns0, tab / 2 ^ N, ?_, upd_same, hm, by omega, by omega, hnd0, hnm0, t1lt, fun v1 t1 H2 s2 ht1 htb1 hz1 hd1 hn1' => ?_⟩
    · show [V.ref q2, V.int ((tab : Int) / 2 ^ ((N : Nat) : Int).toNat)] = _
      rw [Int.toNat_natCast]
      simp
    have s12 := u2.trans s2
    have s02 := s01.trans s12
    refine ⟨_, rfl, _, rfl, p, _, _, .str x, rfl, rfl, SqT.of (s02 _ _ hpx), atI_last _ _, lk (by first | exact Nat.le_of_ble_eq_true rfl | simp), fun q3 hq3 => ?_⟩
    have u3 := same_upd (o := .tup [.str "name", .str x]) hq3
    have s03 := s02.trans u3
    refine ⟨_, rfl, _, rfl, q3, v0, v1, x, t0, t1, rfl, upd_same, ht0.mono (s12.trans u3).tups, ht1.mono u3.tups, by omega, by omega, fun y hy => IsName.lay (hnm0 y (hn0' y hy)), fun y hy => IsName.lay (hnm0 y (hn1' y hy)), fun v t' H4 s4 ht4 hch => ?_⟩
    obtain ⟨g1, g2, g3, g4⟩ := hch
    refine k v t' H4 (s03.trans s4) ht4 (table_split hx (by rw [htb0, hm, hN]) (by rw [htb1, hm, hN]) hn0' hn1' (by rw [hm]; exact htab) g1) ?_ ?_ fun y hy => ?_
    · rw [hpow]
      rw [← hN] at hz0 hz1
      omega
    · omega
    · rcases g4 y hy with z | z | z
      · exact List.mem_append_right _ (List.mem_singleton.mpr z)
      · exact List.mem_append_left _ (hn0' y z)
      · exact List.mem_append_left _ (hn1' y z)
  intro n
  induction n with
  | zero => exact main 0 ⟨fun _ _ _ _ => False, T.F_tree_of.ok1 scTreeOf (fun vs H Q E h => h.elim) (fun cdv A outer s H vs Q E hr h => h.elim), fun h => absurd h (by decide)⟩
  | succ n ih => exact main (n + 1) ⟨spTreeOf n, ih, fun _ => rfl⟩
end
end K24

namespace K24
open PySem L2 Mc
/-! ### the ranks, the greatest first: few different ones of up to 256 -/
theorem keys_putI {kvs : List (Key × V)} {ys : List Int} (h : kvs.map (·.1) = ys.map Sum.inl) (x : Int) (v : V) :
    (putK kvs (Sum.inl x : Key) v).map (·.1) = (if x ∈ ys then ys else ys ++ [x]).map Sum.inl := by
  have hmem : ((kvs.any fun kv => decide (kv.1 = (Sum.inl x : Key))) = true) ↔ x ∈ ys := by
    rw [List.any_eq_true]
    constructor
    · rintro ⟨p, hp, e⟩
      have e := of_decide_eq_true e
      have : (Sum.inl x : Key) ∈ kvs.map (·.1) := List.mem_map.mpr ⟨p, hp, e⟩
      rw [h] at this
      obtain ⟨y, hy, e2⟩ := List.mem_map.mp this
      cases e2
      exact hy
    · intro hx
      have : (Sum.inl x : Key) ∈ kvs.map (·.1) := by rw [h]; exact List.mem_map.mpr ⟨x, hx, rfl⟩
      obtain ⟨p, hp, e⟩ := List.mem_map.mp this
      exact ⟨p, hp, decide_eq_true e⟩
  unfold putK
  by_cases e : x ∈ ys
  · rw [if_pos (hmem.mpr e), if_pos e, List.map_map, ← h]
    apply List.map_congr_left
    intro p _
    show (if p.1 = (Sum.inl x : Key) then (p.1, v) else p).1 = p.1
    split <;> rfl
  · rw [if_neg (fun z => e (hmem.mp z)), if_neg e, List.map_append, h, List.map_append]
    rfl
theorem kontP {G : L2.St → Hp → Prop} {B : Prop} (S : L2.St → Hp → Prop) (h : (∀ σ H', S σ H' → G σ H') → B) (g : ∀ σ H', S σ H' → G σ H') : B := h g
/-- few different ones -/
def Few (rs : List Int) : Prop := ∀ ys : List Int, ys.Nodup → (∀ y ∈ ys, y ∈ rs) → ys.length < 64
def spGreat8 : Sp := fun vs H Q _ => ∃ (l : Addr) (rs : List Int), vs = [.ref l] ∧ H l = some (.lst (rs.map V.int)) ∧ rs.length ≤ 256 ∧ Few rs ∧
  ∀ (q : Addr) (gs : List Int) (H' : Hp), Same H H' → H' q = some (.lst (gs.map V.int)) → gs.length ≤ 64 → gs.Pairwise (· > ·) → (∀ x, x ∈ gs ↔ x ∈ rs) → Q (.ref q) H'
section
variable {P : Program} {w : World} {K : PySem.W.Frag} {mg : Str → Option Value} {base : Heap} {t : Adr}
theorem scGreat : FnScope ["ranks", "found", "rank"] ["ranks"] (defScope s_greatest_first) := ⟨rfl, rfl, rfl, by decide +kernel, rfl, by decide +kernel, by decide +kernel⟩
theorem ok_great8 (T : Txt P w K mg t) : FnOk P w K mg base (CX1 P w) 1 t.a_greatest_first t.fd_greatest_first ["ranks"] spGreat8 := by
  refine T.F_greatest_first.ok1 scGreat (fun vs H Q E h => by obtain ⟨l, rs, rfl, _⟩ := h; rfl) (fun cdv A outer s H vs Q E hr h => ?_)
  obtain ⟨l, rs, rfl, hl, h256, hfew, k⟩ := h
  have nd := scGreat.nd
  have hu := hu_of hr
  refine ⟨_, (pss_cons (psl 1 nd pe_dnewK)
      (pss_cons (ps_for own1 rfl (pi_list (pvl 0)) (pgl 2 nd)
        (pss_one (ps_dput hu (pvl 1) (pvl 2) pe_bl rfl)))
      (pss_one (ps_ret (pe_sortDR rfl (pvl 1) T.n_sorted))))), ?_⟩
  intro d hd
  have hld : l ≠ d := fun z => by subst z; rw [hl] at hd; cases hd
  refine ⟨_, rfl, l, rfl, ⟨_, SqL.of (same_upd hd _ _ hl)⟩, for_list (K := K) (a := l) (xs := rs.map V.int)
    (fun i σ H' => ∃ (o : Option V) (kvs : List (Key × V)) (ys : List Int), σ = [some (.ref l), some (.ref d), o] ∧ Same H H' ∧ H' d = some (.dK kvs) ∧ kvs.map (·.1) = ys.map Sum.inl ∧ ys.Nodup ∧ ys.length ≤ i ∧ ∀ x, x ∈ ys ↔ x ∈ rs.take i)
    ⟨none, [], [], rfl, same_upd hd, upd_same, rfl, List.nodup_nil, Nat.le_refl _, fun x => by simp⟩ (fun i σ H' _ ⟨_, _, _, _, s1, _⟩ => SqL.of (s1 _ _ hl)) ?_ ?_⟩
  · rintro i y σ H1 hi ⟨o, kvs, ys, rfl, s1, hd1, hk, hn, hlen, hm⟩
    have hi64 : i < rs.length := by
      have := (List.getElem?_eq_some_iff.mp hi).1
      rw [List.length_map] at this
      exact this
    rw [List.getElem?_map] at hi
    obtain ⟨x, hx, rfl⟩ : ∃ x, rs[i]? = some x ∧ y = V.int x := by
      cases q : rs[i]? with
      | none => rw [q] at hi; cases hi
      | some x => rw [q] at hi; exact ⟨x, rfl, (Option.some.inj hi).symm⟩
    have hlk : kvs.length = ys.length := by
      have := congrArg List.length hk
      rwa [List.length_map, List.length_map] at this
    have et : rs.take (i + 1) = rs.take i ++ [x] := by rw [List.take_add_one, hx]; rfl
    refine ⟨_, rfl, _, rfl, d, _, rfl, DPut.k (k := Sum.inl x) hd1 (small1000 (by omega)), ?_⟩
    refine ⟨_, _, if x ∈ ys then ys else ys ++ [x], rfl, fun b o e => ?_, upd_same, keys_putI hk x _, ?_, ?_, fun z => ?_⟩
    · rw [upd_ne (ne_of_none e hd)]
      exact s1 _ _ e
    · split
      · exact hn
      · rename_i h
        exact List.nodup_append.mpr ⟨hn, by simp, fun a ha b hb => by
          rw [List.mem_singleton.mp hb]
          exact fun e => h (e ▸ ha)⟩
    · split
      · omega
      · rw [List.length_append]
        show ys.length + 1 ≤ i + 1
        omega
    · rw [et, List.mem_append, List.mem_singleton, ← hm z]
      split
      · rename_i h
        exact ⟨.inl, fun q => q.elim id fun e => e ▸ h⟩
      · rw [List.mem_append, List.mem_singleton]
  · rintro σ H1 ⟨o, kvs, ys, rfl, s1, hd1, hk, hn, hlen, hm⟩
    rw [List.length_map] at hlen hm
    rw [List.take_length] at hm
    have h64 : ys.length < 64 := hfew ys hn fun y hy => (hm y).mp hy
    refine ⟨_, rfl, d, kvs, ys, rfl, hd1, hk, h64, fun q ys' hq hp hs => ?_⟩
    refine k q ys' _ (s1.trans (same_upd hq)) upd_same (by rw [hp.length_eq]; omega) ?_ fun x => by rw [hp.mem_iff, hm]
    have hn' : ys'.Nodup := hp.nodup_iff.mpr hn
    exact List.Pairwise.imp₂ (fun a b h1 h2 => by
      have h1 : a ≥ b := h1
      have h2 : a ≠ b := h2
      show a > b
      omega) hs hn'
end
end K24

namespace K24
open PySem L2 Mc
/-! ### the sentences of a mind -/
def belowN (rs : List Int) (g : Int) : Nat := bsum (fun i => decide (rs.getD i 0 < g)) rs.length
def pws (p : Nat → Bool) (i : Nat) : List Int := ((List.range i).filter p).map fun (j : Nat) => ((2 ^ j : Nat) : Int)
theorem pws_succ (p : Nat → Bool) (i : Nat) : pws p (i + 1) = pws p i ++ (if p i = true then [((2 ^ i : Nat) : Int)] else []) := by
  unfold pws
  rw [List.range_succ, List.filter_append, List.map_append]
  congr 1
  cases h : p i with
  | true => rw [List.filter_cons_of_pos h]; rfl
  | false => rw [List.filter_cons_of_neg (by rw [h]; decide)]; rfl
theorem pws_len (p : Nat → Bool) (i : Nat) : (pws p i).length ≤ i := by
  unfold pws
  rw [List.length_map]
  have := List.length_filter_le p (List.range i)
  rw [List.length_range] at this
  exact this
theorem pws_sum (p : Nat → Bool) : ∀ i, (pws p i).sum = ((bsum p i : Nat) : Int)
  | 0 => rfl
  | i + 1 => by
    rw [pws_succ, List.sum_append, pws_sum p i]
    show _ = ((bsum p i + (if p i = true then 2 ^ i else 0) : Nat) : Int)
    cases h : p i with
    | true =>
      rw [if_pos rfl, if_pos rfl, List.sum_cons, List.sum_nil]
      omega
    | false =>
      rw [if_neg Bool.false_ne_true, if_neg Bool.false_ne_true, List.sum_nil]
      omega
def spWBelow : Sp := fun vs H Q _ => ∃ (r : Addr) (rs : List Int) (g : Int), vs = [.ref r, .int g] ∧ H r = some (.tup (rs.map V.int)) ∧ rs.length ≤ 256 ∧ ∀ H', Same H H' → Q (.int (belowN rs g : Nat)) H'
/-- the sentence of a rank: just the worlds of less rank keep it -/
def SentOk (ns : List Str) (rs : List Int) (x : Tr × Int) : Prop := tableN ns x.1 = belowN rs x.2 ∧ x.1.size ≤ 2000 ∧ x.1.depth ≤ 20 ∧ (∀ y ∈ x.1.names, y ∈ ns) ∧ 0 < x.2
def spSent : Sp := fun vs H Q _ => ∃ (a p r : Addr) (ns : List Str) (rs : List Int), vs = [.ref a] ∧ MindAt H a p r rs ∧ H p = some (.tup (ns.map V.str)) ∧ ns.length ≤ 8 ∧ ns.Nodup ∧ (∀ x ∈ ns, IsName x) ∧ rs.length = 2 ^ ns.length ∧ Few rs ∧
  ∀ (q : Addr) (us : List V) (told : List (Tr × Int)) (gs : List Int) (H' : Hp), Same H H' → H' q = some (.lst us) → us.length ≤ 64 → Paired (ToldAt H') us told → (∀ x ∈ told, SentOk ns rs x) → told.map (·.2) = gs → gs.Pairwise (· > ·) → (∀ x, x ∈ gs ↔ x ∈ rs ∧ 0 < x) → Q (.ref q) H'
section
variable {P : Program} {w : World} {K : PySem.W.Frag} {mg : Str → Option Value} {base : Heap} {t : Adr}
theorem scWBelow : FnScope ["ranks", "rank"] ["ranks", "rank"] (defScope s_worlds_below) := ⟨rfl, rfl, rfl, by decide +kernel, rfl, by decide +kernel, by decide +kernel⟩
theorem ok_wbelow (T : Txt P w K mg t) : FnOk P w K mg base (CX1 P w) 1 t.a_worlds_below t.fd_worlds_below ["ranks", "rank"] spWBelow := by
  refine T.F_worlds_below.ok1 scWBelow (fun vs H Q E h => by obtain ⟨r, rs, g, rfl, _⟩ := h; rfl) (fun cdv A outer s H vs Q E hr h => ?_)
  obtain ⟨r, rs, g, rfl, hr0, hlen, k⟩ := h
  have nd := scWBelow.nd
  refine ⟨_, (pss_one (ps_ret (pcallB (call_sumG rfl) T.n_sum Bt.sum (pa_cons (pe_comp rfl ["world", "other", "rank"] [none, none, some 1] (penumT (pvl 0) T.n_enumerate) (by kernel_rfl) (fun _ _ _ _ _ _ => (pg_tupK (K := K) (n := 2) rfl rfl (pgs_cons (pgl 0 (show List.Nodup (α := PySem.Str) ["world", "other", "rank"] by decide +kernel)) (pgs_cons (pgl 1 (show List.Nodup (α := PySem.Str) ["world", "other", "rank"] by decide +kernel)) pgs_nil)))) (fun _ _ _ _ _ _ => pts_one (pt_cmpR op_lt (pvl 1) (pvc 2) (nomark _))) (fun _ _ _ _ _ _ => (pe_op op_shl pe_int (pvl 0)))) pa_nil)))), ?_⟩
  refine ⟨_, rfl, r, rfl, ⟨_, SqT.of hr0⟩, ?_⟩
  refine comp_enumT (K := K) (a := r) (xs := rs.map V.int) (fun i ys H' => Same H H' ∧ ys = (pws (fun i => decide (rs.getD i 0 < g)) i).map V.int) ⟨Same.refl _, rfl⟩ (lk (by rw [List.length_map]; omega)) (fun i ys H' ⟨_, e⟩ => by rw [e, List.length_map]; exact pws_len _ _) (fun i ys H' ⟨s1, _⟩ => SqT.of (s1 _ _ hr0)) ?_ ?_
  · rintro i y ys H1 hi ⟨s1, rfl⟩ e he
    have hil : i < rs.length := by
      have := (List.getElem?_eq_some_iff.mp hi).1
      rw [List.length_map] at this
      exact this
    rw [List.getElem?_map] at hi
    obtain ⟨x, hx, rfl⟩ : ∃ x, rs[i]? = some x ∧ y = V.int x := by
      cases q : rs[i]? with
      | none => rw [q] at hi; cases hi
      | some x => rw [q] at hi; exact ⟨x, rfl, (Option.some.inj hi).symm⟩
    have ex : rs.getD i 0 = x := by rw [List.getD, hx]; rfl
    have s2 := s1.trans (same_upd (o := .tup [.int i, .int x]) he)
    refine ⟨e, _, rfl, SqT.of upd_same, rfl, _, _, rfl, _, _, rfl, rfl, ⟨rfl, trivial⟩, ?_⟩
    refine ⟨_, rfl, _, rfl, _, _, rfl, rfl, _, rfl, ?_⟩
    rw [pws_succ, ex]
    refine ite2 (fun z => ?_) (fun z => ?_)
    · refine ⟨_, rfl, _, _, rfl, rfl, ⟨by omega, by omega, by decide⟩, s2, ?_⟩
      have z : decide (x < g) = true := z
      rw [if_pos z, List.map_append]
      show _ ++ [V.int ((1 : Int) * 2 ^ ((i : Nat) : Int).toNat)] = _
      rw [Int.toNat_natCast, Int.one_mul]
      simp
    · have z : ¬ decide (x < g) = true := z
      refine ⟨s2, ?_⟩
      rw [if_neg z, List.append_nil]
  · rintro ys H1 ⟨s1, rfl⟩ l hl
    rw [List.length_map]
    have s2 := s1.trans (same_upd (o := .lst ((pws (fun i => decide (rs.getD i 0 < g)) rs.length).map V.int)) hl)
    refine ⟨l, _, rfl, SqL.of upd_same, ?_⟩
    rw [pws_sum]
    exact k _ s2
theorem scSent : FnScope ["mind", "ranks"] ["mind"] (defScope s_sentences_of) := ⟨rfl, rfl, rfl, by decide +kernel, rfl, by decide +kernel, by decide +kernel⟩
theorem ok_sent (T : Txt P w K mg t) : FnOk P w K mg base (CX1 P w) 20 t.a_sentences_of t.fd_sentences_of ["mind"] spSent := by
  have G_greatest_first : FnOk P w K mg base (CX1 P w) 1 t.a_greatest_first t.fd_greatest_first ["ranks"] spGreat8 := ok_great8 T
  have G_worlds_below : FnOk P w K mg base (CX1 P w) 1 t.a_worlds_below t.fd_worlds_below ["ranks", "rank"] spWBelow := ok_wbelow T
  have G_tree_of : FnOk P w K mg base (CX1 P w) 11 t.a_tree_of t.fd_tree_of ["names", "table"] (spTreeOf 8) := ok_treeof T 8
  refine T.F_sentences_of.ok1 (k := 19) scSent (fun vs H Q E h => by obtain ⟨a, p, r, ns, rs, rfl, _⟩ := h; rfl) (fun cdv A outer s H vs Q E hr h => ?_)
  obtain ⟨a, p, r, ns, rs, rfl, hm, hp, h5, hnd, hnm, hrl, hfew, k⟩ := h
  have nd := scSent.nd
  refine ⟨_, (pss_cons (ps_setComp (i := 1) rfl ["rank"] [none] nd rfl rfl (pi_tup (pe_ix ix_tup (pvc 0) pe_int (fun _ _ => rfl))) (by kernel_rfl) (fun _ _ _ _ _ _ => (pgl 0 (show List.Nodup (α := PySem.Str) ["rank"] by decide +kernel))) (fun _ _ _ _ _ _ => pts_one (pt_cmpR op_gt (pvl 0) pe_int (nomark _))) (fun _ _ _ _ _ _ => (pvl 0)))
      (pss_one (ps_ret (pe_comp rfl ["rank", "mind"] [none, some 0] (pi_list (pcall G_greatest_first (hr.mono (by first | decide | omega)) T.m_greatest_first T.k_greatest_first T.b_greatest_first never1 (pa_cons (pvl 1) pa_nil))) (by kernel_rfl) (fun _ _ _ _ _ _ => (pgl 0 (show List.Nodup (α := PySem.Str) ["rank", "mind"] by decide +kernel))) (fun _ _ _ _ _ _ => pts_nil) (fun _ _ _ _ _ _ => (pe_tup (pa_cons (pcall G_tree_of (hr.mono (by first | decide | omega)) T.m_tree_of T.k_tree_of T.b_tree_of never1 (pa_cons (pe_ix (ix_tupK (K := K)) (pvc 1) pe_int (fun _ _ => rfl)) (pa_cons (pcall G_worlds_below (hr.mono (by first | decide | omega)) T.m_worlds_below T.k_worlds_below T.b_worlds_below never1 (pa_cons (pe_ix (ix_tupK (K := K)) (pvc 1) pe_int (fun _ _ => rfl)) (pa_cons (pvl 0) pa_nil))) pa_nil))) (pa_cons (pvl 0) pa_nil)))))))), ?_⟩
  have h32 : 2 ^ ns.length ≤ 256 := Nat.le_trans (Nat.pow_le_pow_right (n := 2) (by decide) h5) (by decide)
  obtain ⟨ha, hr', h256⟩ := hm
  refine ⟨_, rfl, a, _, 1, .ref r, rfl, rfl, SqT.of ha, rfl, r, rfl, ⟨_, SqT.of hr'⟩, ?_⟩
  refine comp_tup (K := K) (a := r) (xs := rs.map V.int) (fun i ys H' => H' = H ∧ ys = ((rs.take i).filter fun x => decide (0 < x)).map V.int) ⟨rfl, rfl⟩ (lk (by rw [List.length_map]; omega)) (fun i ys H' ⟨_, e⟩ => by
    rw [e, List.length_map]
    have := List.length_filter_le (fun x : Int => decide (0 < x)) (rs.take i)
    rw [List.length_take] at this
    omega) (fun i ys H' ⟨e, _⟩ => by subst e; exact SqT.of hr') ?_ ?_
  · rintro i z ys H' hi ⟨e, rfl⟩
    subst e
    rw [List.getElem?_map] at hi
    obtain ⟨c, hc, rfl⟩ : ∃ c, rs[i]? = some c ∧ z = V.int c := by
      cases q : rs[i]? with
      | none => rw [q] at hi; cases hi
      | some c => rw [q] at hi; exact ⟨c, rfl, (Option.some.inj hi).symm⟩
    have et : (rs.take (i + 1)).filter (fun x => decide (0 < x)) = (rs.take i).filter (fun x => decide (0 < x)) ++ (if 0 < c then [c] else []) := by
      rw [List.take_add_one, hc, List.filter_append]
      congr 1
      show List.filter _ [c] = _
      by_cases h : 0 < c
      · rw [if_pos h, List.filter_cons_of_pos (by exact decide_eq_true h)]
        rfl
      · rw [if_neg h, List.filter_cons_of_neg (by rw [decide_eq_false h]; decide)]
        rfl
    refine ⟨trivial, _, rfl, _, _, rfl, rfl, _, rfl, ite2 (fun z => ?_) (fun z => ?_)⟩
    · have z : 0 < c := of_decide_eq_true z
      refine ⟨_, rfl, rfl, ?_⟩
      rw [et, if_pos z, List.map_append]
      rfl
    · have z : ¬ 0 < c := fun e => z (decide_eq_true e)
      refine ⟨rfl, ?_⟩
      rw [et, if_neg z, List.append_nil]
  rintro ys H' ⟨e, rfl⟩
  subst e
  show ∀ l, H' l = none → _
  rw [List.length_map, List.take_length]
  intro l hl
  have u1 := same_upd (o := .lst ((rs.filter fun x => decide (0 < x)).map V.int)) hl
  have hl1 : (upd H' l (.lst ((rs.filter fun x => decide (0 < x)).map V.int))) l = some (.lst ((rs.filter fun x => decide (0 < x)).map V.int)) := upd_same
  generalize upd H' l (.lst ((rs.filter fun x => decide (0 < x)).map V.int)) = H1 at u1 hl1 ⊢
  have hfl := List.length_filter_le (fun x : Int => decide (0 < x)) rs
  have hfew2 : Few (rs.filter fun x => decide (0 < x)) := fun ys hn hy => hfew ys hn fun y h => (List.mem_filter.mp (hy y h)).1
  refine ⟨_, rfl, l, _, rfl, hl1, by omega, hfew2, fun q gs H2 s2 hq hgl hgp hmem => ?_⟩
  have s12 := u1.trans s2
  have ha2 := s12 _ _ ha
  have hr2 := s12 _ _ hr'
  have hp2 := s12 _ _ hp
  refine ⟨q, rfl, ⟨_, SqL.of hq⟩, ?_⟩
  refine comp_list (K := K) (a := q) (xs := gs.map V.int) (fun i ys H' => Same H2 H' ∧ ∃ told : List (Tr × Int), Paired (ToldAt H') ys told ∧ told.map (·.2) = gs.take i ∧ ∀ x ∈ told, SentOk ns rs x) ⟨Same.refl _, [], .nil, rfl, (fun x hx => nomatch hx)⟩ (lk (by rw [List.length_map]; omega)) (fun i ys H' ⟨_, told, hpt, e, _⟩ => by
    rw [Paired.length hpt, ← List.length_map (f := fun x : Tr × Int => x.2), e, List.length_take]
    omega) (fun i ys H' ⟨s', _⟩ => SqL.of (s' _ _ hq)) ?_ ?_
  · rintro i z ys H3 hi ⟨s3, told, hpt, e, hok⟩
    rw [List.getElem?_map] at hi
    obtain ⟨g, hg, rfl⟩ : ∃ c, gs[i]? = some c ∧ z = V.int c := by
      cases q : gs[i]? with
      | none => rw [q] at hi; cases hi
      | some c => rw [q] at hi; exact ⟨c, rfl, (Option.some.inj hi).symm⟩
    have hgpos : 0 < g := of_decide_eq_true (List.mem_filter.mp ((hmem g).mp (List.mem_of_getElem? hg))).2
    refine ⟨⟨rfl, trivial⟩, _, rfl, a, _, 0, .ref p, rfl, rfl, SqT.of (s3 _ _ ha2), rfl, _, rfl, a, _, 1, .ref r, rfl, rfl, SqT.of (s3 _ _ ha2), rfl, _, rfl, r, rs, g, rfl, s3 _ _ hr2, h256, fun H4 s4 => ?_⟩
    have s34 := s3.trans s4
    refine ⟨p, ns.length, ns, belowN rs g, rfl, s34 _ _ hp2, rfl, h5, by decide, hnd, hnm, by unfold belowN; rw [hrl]; exact bsum_lt _ _, fun v tr H5 s5 ht htab hsz hdp hin => ?_⟩
    refine ⟨_, rfl, lk (by first | exact Nat.le_of_ble_eq_true rfl | simp), fun m hm => ?_⟩
    have u6 := same_upd (o := .tup [v, .int g]) hm
    have s36 := s4.trans (s5.trans u6)
    refine ⟨s3.trans s36, told ++ [(tr, g)], paired_app (Paired.mapP hpt fun _ _ z => ToldAt.mono s36 z) (.cons ⟨m, v, rfl, upd_same, ht.mono u6.tups⟩ .nil), ?_, fun x hx => ?_⟩
    · rw [List.map_append, e, List.take_add_one, hg]
      rfl
    · rcases List.mem_append.mp hx with hx | hx
      · exact hok x hx
      · rw [List.mem_singleton.mp hx]
        have : 6 * 2 ^ ns.length ≤ 1536 := by omega
        exact ⟨htab, by show tr.size ≤ 2000; omega, by show tr.depth ≤ 20; omega, hin, hgpos⟩
  rintro ys H3 ⟨s3, told, hpt, e, hok⟩ lc hlc
  rw [List.length_map, List.take_length] at e
  have u4 := same_upd (o := .lst ys) hlc
  refine k lc ys told gs _ (s12.trans (s3.trans u4)) upd_same ?_ (Paired.mapP hpt fun _ _ z => ToldAt.mono u4 z) hok e hgp fun x => ?_
  · rw [Paired.length hpt, ← List.length_map (f := fun x : Tr × Int => x.2), e]
    omega
  · rw [hmem x, List.mem_filter, decide_eq_true_iff]
end
end K24

namespace K24
open PySem L2 Mc
/-! ### a mind is told as due: its ranks in a list or a tuple -/
def spIsMind : Sp := fun vs H Q _ => ∃ (a p l r : Addr) (ns : List Str) (rs : List Int), vs = [.ref a, .ref p, .ref l] ∧ H a = some (.tup [.ref p, .ref r]) ∧ H p = some (.tup (ns.map V.str)) ∧ H r = some (.tup (rs.map V.int)) ∧ (H l = some (.lst (rs.map V.int)) ∨ H l = some (.tup (rs.map V.int))) ∧ rs.length ≤ 256 ∧ ∀ H', Same H H' → Q (.bl true) H'
section
variable {P : Program} {w : World} {K : PySem.W.Frag} {mg : Str → Option Value} {base : Heap} {t : Adr}
theorem scIsMind : FnScope ["_law_found", "_law_names", "_law_ranks"] ["_law_found", "_law_names", "_law_ranks"] (defScope s__law_is_mind) := ⟨rfl, rfl, rfl, by decide +kernel, rfl, by decide +kernel, by decide +kernel⟩
theorem ok_ismind (T : Txt P w K mg t) : FnOk P w K mg base (CX1 P w) 2 t.a__law_is_mind t.fd__law_is_mind ["_law_found", "_law_names", "_law_ranks"] spIsMind := by
  have G__law_whole : FnOk P w K mg base (CX1 P w) 1 t.a__law_whole t.fd__law_whole ["_law_found"] spWhole := ok_whole T
  refine T.F__law_is_mind.ok1 scIsMind (fun vs H Q E h => by obtain ⟨a, p, l, r, ns, rs, rfl, _⟩ := h; rfl) (fun cdv A outer s H vs Q E hr h => ?_)
  obtain ⟨a, p, l, r, ns, rs, rfl, ha, hp, hr', hl, h256, k⟩ := h
  have nd := scIsMind.nd
  have hu := hu_of hr
  refine ⟨_, (pss_cons (ps_if (PW.pt (pw_or (pt_not (pt_val (pcallB call_isI T.n_isinstance Bt.isinstance (pa_cons (pvl 0) (pa_cons (pbltn (v := .ty "tuple") T.n_tuple Bt.tuple rfl) pa_nil))))) (pw_or (pt_cmpR op_ne (pcallB call_len_seq T.n_len Bt.len (pa_cons (pvl 0) pa_nil)) pe_int (nomark _)) (pw_or (pt_cmpR (op_neTS (Nat.lt_of_succ_lt hu)) (pe_ix ix_tup (pvl 0) pe_int (fun _ _ => rfl)) (pvl 1) (nomark _)) (pw_or1 (pt_not (pt_val (pcallB call_isI T.n_isinstance Bt.isinstance (pa_cons (pe_ix ix_tup (pvl 0) pe_int (fun _ _ => rfl)) (pa_cons (pbltn (v := .ty "tuple") T.n_tuple Bt.tuple rfl) pa_nil))))))))))
        (pss_one (ps_ret pe_bl))
        pss_nil)
      (pss_cons (ps_if (PW.pt (pw_or (pt_not (pt_val (pcallB call_isI T.n_isinstance Bt.isinstance (pa_cons (pe_ix ix_tup (pvl 0) pe_int (fun _ _ => rfl)) (pa_cons (pbltn (v := .ty "tuple") T.n_tuple Bt.tuple rfl) pa_nil))))) (pw_or1 (pt_cmpR (op_neTI (Nat.lt_of_succ_lt hu)) (pe_ix ix_tup (pvl 0) pe_int (fun _ _ => rfl)) (pcallT call_tuple_of T.n_tuple Bt.tuple (pa_cons (pvl 2) pa_nil)) (nomark _)))))
        (pss_one (ps_ret pe_bl))
        pss_nil)
      (pss_one (ps_ret (pcallB (call_allB rfl) T.n_all Bt.all (pa_cons (pe_comp rfl ["_law_rank"] [none] (pi_tup (pe_ix ix_tup (pvl 0) pe_int (fun _ _ => rfl))) (by kernel_rfl) (fun _ _ _ _ _ _ => (pgl 0 (show List.Nodup (α := PySem.Str) ["_law_rank"] by decide +kernel))) (fun _ _ _ _ _ _ => pts_nil) (fun _ _ _ _ _ _ => (pcall G__law_whole (hr.mono (by first | decide | omega)) T.m__law_whole T.k__law_whole T.b__law_whole never1 (pa_cons (pvl 0) pa_nil)))) pa_nil)))))), ?_⟩
  refine ⟨_, rfl, _, _, _, _, true, rfl, rfl, .tup ha, rfl, _, rfl, iteF ?_⟩
  refine ⟨_, rfl, a, _, rfl, .inr (SqT.of ha), rfl, _, rfl, ite2 (fun c => absurd c (by rw [decide_eq_true (show V.int (([V.ref p, V.ref r].length : Nat) : Int) = V.int 2 from rfl)]; decide)) (fun _ => ?_)⟩
  refine ⟨_, rfl, a, _, 0, _, rfl, rfl, SqT.of ha, rfl, _, rfl, p, _, rfl, rfl, SqT.of hp, _, rfl, iteF ?_⟩
  refine ⟨_, rfl, a, _, 0, _, rfl, rfl, SqT.of ha, rfl, _, _, _, _, true, rfl, rfl, .tup hp, rfl, _, rfl, iteF ?_⟩
  apply kontP (fun σ H1 => σ = [some (.ref a), some (.ref p), some (.ref l)] ∧ Same H H1)
  case h =>
    intro g
    refine ⟨_, rfl, a, _, 1, _, rfl, rfl, SqT.of ha, rfl, _, _, _, _, true, rfl, rfl, .tup hr', rfl, _, rfl, iteF ?_⟩
    refine ⟨_, rfl, a, _, 1, _, rfl, rfl, SqT.of ha, rfl, _, rfl, l, rs.map V.int, rfl, hl.elim (fun h => .inl ⟨SqL.of h, fun q hq => ⟨r, q, rs, rs, rfl, rfl, SqT.of (same_upd hq _ _ hr'), SqT.of upd_same, _, rfl, ite2 (fun c => ?n1) (fun _ => ?m1)⟩⟩) (fun h => .inr ⟨SqT.of h, r, l, rs, rs, rfl, rfl, SqT.of hr', SqT.of h, _, rfl, ite2 (fun c => ?n2) (fun _ => ?m2)⟩)⟩
    case n1 => exact absurd c (by rw [decide_eq_true rfl]; decide)
    case n2 => exact absurd c (by rw [decide_eq_true rfl]; decide)
    case m1 =>
      apply g
      exact ⟨rfl, same_upd hq⟩
    case m2 =>
      apply g
      exact ⟨rfl, Same.refl _⟩
  case g =>
  rintro σ H1 ⟨rfl, u1⟩
  have ha1 := u1 _ _ ha
  have hr1 := u1 _ _ hr'
  refine ⟨_, rfl, a, _, 1, _, rfl, rfl, SqT.of ha1, rfl, r, rfl, ⟨_, SqT.of hr1⟩, ?_⟩
  refine comp_tup (K := K) (a := r) (xs := rs.map V.int) (fun i ys H' => H' = H1 ∧ ys = (List.replicate i true).map V.bl) ⟨rfl, rfl⟩ (lk (by rw [List.length_map]; omega)) (fun i ys H' ⟨_, e⟩ => by rw [e, List.length_map, List.length_replicate]; exact Nat.le_refl _) (fun i ys H' ⟨e, _⟩ => by subst e; exact SqT.of hr1) ?_ ?_
  · rintro i z ys H' hi ⟨rfl, rfl⟩
    rw [List.getElem?_map] at hi
    obtain ⟨c, hc, rfl⟩ : ∃ c, rs[i]? = some c ∧ z = V.int c := by
      cases q : rs[i]? with
      | none => rw [q] at hi; cases hi
      | some c => rw [q] at hi; exact ⟨c, rfl, (Option.some.inj hi).symm⟩
    refine ⟨trivial, ?_⟩
    refine ⟨_, rfl, c, rfl, rfl, ?_⟩
    rw [List.replicate_succ', List.map_append]
    rfl
  · rintro ys H' ⟨rfl, rfl⟩ lc hlc
    refine ⟨lc, _, rfl, SqL.of upd_same, ?_⟩
    have e : (List.replicate (rs.map V.int).length true).all id = true := by simp
    rw [e]
    exact k _ (u1.trans (same_upd hlc))
end
end K24

namespace K24
open PySem L2 Mc
def spMindBy (K : PySem.W.Frag) : Sp := fun vs H Q _ => ∃ (p c : Addr) (ns : List Str) (cs : List Int) (way : Int), vs = [.ref p, .ref c, .int way] ∧ H p = some (.tup (ns.map V.str)) ∧ ns.length ≤ 8 ∧ SqL K H c (cs.map V.int) ∧
  ∀ (a r : Addr) (rs : List Int) (H' : Hp), Same H H' → MindAt H' a p r rs → rs.length = 2 ^ ns.length → (∀ z ∈ rs, 0 ≤ z) → 0 ∈ rs → ((way % 4 = 1 ∨ way % 4 = 3) → ∀ z ∈ rs, z ≤ 3) → Q (.ref a) H'
section
variable {P : Program} {w : World} {K : PySem.W.Frag} {mg : Str → Option Value} {base : Heap} {t : Adr}
theorem scMindBy : FnScope ["_law_names", "_law_cells", "_law_way", "_law_ranks", "_law_world", "_law_turn", "_law_cell", "_law_rank", "_law_low"] ["_law_names", "_law_cells", "_law_way"] (defScope s__law_mind_by) := ⟨rfl, rfl, rfl, by decide +kernel, rfl, by decide +kernel, by decide +kernel⟩
theorem ok_mindby (T : Txt P w K mg t) : FnOk P w K mg base (CX1 P w) 2 t.a__law_mind_by t.fd__law_mind_by ["_law_names", "_law_cells", "_law_way"] (spMindBy K) := by
  have G__law_cell_at : FnOk P w K mg base (CX1 P w) 1 t.a__law_cell_at t.fd__law_cell_at ["_law_script", "_law_k"] (spCell K) := ok_cell T
  refine T.F__law_mind_by.ok1 scMindBy (fun vs H Q E h => by obtain ⟨p, c, ns, cs, way, rfl, _⟩ := h; rfl) (fun cdv A outer s H vs Q E hr h => ?_)
  obtain ⟨p, c, ns, cs, way, rfl, hp, h8, hC, k⟩ := h
  have nd := scMindBy.nd
  refine ⟨_, (pss_cons (psl 3 nd (pe_lst pa_nil))
      (pss_cons (ps_for own1 rfl (prange1 T.n_range (pa_cons (pe_op op_shl pe_int (pcallB call_len_seq T.n_len Bt.len (pa_cons (pvl 0) pa_nil))) pa_nil)) (pgl 4 nd)
        (pss_cons (psl 5 nd (pe_op op_fdiv (pvl 4) pe_int))
        (pss_cons (psl 6 nd (pe_op op_mod (pcall G__law_cell_at (hr.mono (by first | decide | omega)) T.m__law_cell_at T.k__law_cell_at T.b__law_cell_at never1 (pa_cons (pvl 1) (pa_cons (pe_op op_mod (pvl 4) pe_int) pa_nil))) (pe_op op_pow pe_int pe_int)))
        (pss_cons (psl 7 nd (pe_op op_mod (pe_op op_mul (pe_op op_add (pvl 6) (pvl 5)) (pe_op op_add (pe_op op_mul (pe_op op_mul (pvl 5) (pvl 5)) pe_int) pe_int)) (pe_op op_pow pe_int pe_int)))
        (pss_cons (ps_if (pt_cmpR op_eq (pe_op op_mod (pvl 2) pe_int) pe_int (nomark _))
          (pss_one (psl 7 nd (pe_op op_mod (pvl 7) pe_int)))
          pss_nil)
        (pss_cons (ps_if (pt_cmpR op_eq (pe_op op_mod (pvl 2) pe_int) pe_int (nomark _))
          (pss_one (psl 7 nd (pe_op op_mul (pe_op op_mod (pvl 7) pe_int) (pvl 7))))
          pss_nil)
        (pss_cons (ps_if (pt_cmpR op_eq (pe_op op_mod (pvl 2) pe_int) pe_int (nomark _))
          (pss_one (psl 7 nd (pe_op op_mod (pvl 7) pe_int)))
          pss_nil)
        (pss_one (ps_expr (pe_bm PySem.F.plainAttrs_list PySem.F.slot_list_append PySem.F.type_list_append mt_append (pvl 3) (pa_cons (pvl 7) pa_nil)))))))))))
      (pss_cons (psc 8 nd (pcallB (call_minL rfl) T.n_min Bt.min (pa_cons (pvl 3) pa_nil)))
      (pss_one (ps_ret (pe_tup (pa_cons (pvl 0) (pa_cons (pcallT call_tuple_of T.n_tuple Bt.tuple (pa_cons (pe_comp rfl ["_law_rank", "_law_low"] [none, some 8] (pi_list (pvl 3)) (by kernel_rfl) (fun _ _ _ _ _ _ => (pgl 0 (show List.Nodup (α := PySem.Str) ["_law_rank", "_law_low"] by decide +kernel))) (fun _ _ _ _ _ _ => pts_nil) (fun _ _ _ _ _ _ => (pe_op op_sub (pvl 0) (pvc 1)))) pa_nil)) pa_nil)))))))), ?_⟩
  have el : (ns.map V.str).length = ns.length := List.length_map _
  have c1 : CPow 1 (((ns.map V.str).length : Nat) : Int) := ⟨by omega, by rw [el]; omega, by decide⟩
  have e1 : (1 : Int) * 2 ^ (((ns.map V.str).length : Nat) : Int).toNat = ((2 ^ ns.length : Nat) : Int) := by rw [el, pw1]
  have h256 := pw256 h8
  have hpos : 0 < 2 ^ ns.length := Nat.two_pow_pos _
  refine ⟨Nat.zero_le _, fun l hl0 => ?_⟩
  have s0 : Same H (upd H l (.lst [])) := same_upd hl0
  refine ⟨_, rfl, p, _, rfl, .inr (SqT.of (s0 _ _ hp)), _, _, rfl, rfl, c1, ?_⟩
  try dsimp (config := { proj := false, iota := false }) only
  rw [e1]
  generalize 2 ^ ns.length = N at h256 hpos k
  refine ⟨_, rfl, by omega, by omega, ?_⟩
  rw [Int.toNat_natCast]
  have p30 : (0 : Int) < 10 ^ (30 : Int).toNat := by decide
  have cp : CPow 10 30 := ⟨by decide, by decide, by decide⟩
  refine for_range (lo := 0) (n := N) (fun i σ H2 => ∃ (o4 o5 o6 o7 : Option V) (zs : List Int), σ = [some (.ref p), some (.ref c), some (.int way), some (.ref l), o4, o5, o6, o7, none] ∧ Same H H2 ∧ H2 l = some (.lst (zs.map V.int)) ∧ zs.length = i ∧ ((way % 4 = 1 ∨ way % 4 = 3) → ∀ z ∈ zs, 0 ≤ z ∧ z ≤ 3))
    ⟨none, none, none, none, [], rfl, s0, upd_same, rfl, fun _ z hz => nomatch hz⟩ ?_ ?_
  · rintro i σ H2 hi ⟨o4, o5, o6, o7, zs, rfl, s2, hl2, hzl, hzb⟩
    refine ⟨_, rfl, _, _, rfl, rfl, ⟨by decide, by decide⟩, ?_⟩
    refine ⟨_, rfl, _, rfl, _, _, rfl, rfl, (by show (0 : Int) < 8; decide), c, cs, _, rfl, s2.seq hC, (by show (0 : Int) ≤ (0 + (i : Int)) % 8; omega), _, _, rfl, rfl, cp, _, _, rfl, rfl, p30, ?_⟩
    have ht : (0 : Int) ≤ (0 + (i : Int)) / 8 ∧ (0 + (i : Int)) / 8 ≤ 31 := by omega
    try dsimp (config := { proj := false, iota := false }) only
    generalize (0 + (i : Int)) / 8 = turn at ht ⊢
    generalize cs.getD ((0 + (i : Int)) % 8).toNat 0 % 10 ^ (30 : Int).toNat = cell
    have htt : 0 ≤ turn * turn ∧ turn * turn ≤ 961 := by
      obtain ⟨a1, a2⟩ := ht
      have : turn.toNat ≤ 31 := by omega
      obtain ⟨n, hn⟩ : ∃ n : Nat, turn = n := ⟨turn.toNat, by omega⟩
      subst hn
      have h31 : n ≤ 31 := by omega
      have := Nat.mul_le_mul h31 h31
      constructor
      · exact Int.mul_nonneg (by omega) (by omega)
      · have e : (n : Int) * (n : Int) = ((n * n : Nat) : Int) := by simp
        omega
    refine ⟨_, rfl, _, rfl, _, _, rfl, rfl, _, rfl, _, rfl, _, _, rfl, rfl, .inl ⟨by omega, by omega⟩, _, _, rfl, rfl, .inr ⟨by decide, by decide⟩, _, _, rfl, rfl, _, _, rfl, rfl, .inr ⟨?_, ?_⟩, _, _, rfl, rfl, cp, _, _, rfl, rfl, p30, ?_⟩
    · show -(2 ^ 64) < turn * turn * 48271 + 1
      omega
    · show turn * turn * 48271 + 1 < 2 ^ 64
      omega
    try dsimp (config := { proj := false, iota := false }) only
    generalize (cell + turn) * (turn * turn * 48271 + 1) % 10 ^ (30 : Int).toNat = rank
    have app : ∀ z : Int, ((way % 4 = 1 ∨ way % 4 = 3) → 0 ≤ z ∧ z ≤ 3) → ∃ zs' : List Int, (upd H2 l (.lst (zs.map V.int ++ [V.int z]))) l = some (.lst (zs'.map V.int)) ∧ zs'.length = i + 1 ∧ ((way % 4 = 1 ∨ way % 4 = 3) → ∀ z ∈ zs', 0 ≤ z ∧ z ≤ 3) := fun z hz => ⟨zs ++ [z], by rw [upd_same, List.map_append]; rfl, by rw [List.length_append, hzl]; rfl, fun hw y hy => by
      rcases List.mem_append.mp hy with hy | hy
      · exact hzb hw y hy
      · rw [List.mem_singleton.mp hy]
        exact hz hw⟩
    have sm : ∀ o, Same H (upd H2 l o) := fun o b u e => by
      rw [upd_ne (ne_of_none e hl0)]
      exact s2 _ _ e
    have mul3 : ∀ z : Int, CMul (z % 3) z := fun z => .inl ⟨by omega, by omega⟩
    refine ⟨_, rfl, _, _, rfl, rfl, (by show (0 : Int) < 4; decide), rfl, _, rfl, ite2 (fun c1 => ⟨_, rfl, _, _, rfl, rfl, (by show (0 : Int) < 4; decide), ?_⟩) (fun c1 => ?_)⟩ <;>
    refine ⟨_, rfl, _, _, rfl, rfl, (by show (0 : Int) < 4; decide), rfl, _, rfl, ite2 (fun c2 => ⟨_, rfl, _, _, rfl, rfl, (by show (0 : Int) < 3; decide), _, rfl, _, _, rfl, rfl, mul3 _, ?_⟩) (fun c2 => ?_)⟩ <;>
    refine ⟨_, rfl, _, _, rfl, rfl, (by show (0 : Int) < 4; decide), rfl, _, rfl, ite2 (fun c3 => ⟨_, rfl, _, _, rfl, rfl, (by show (0 : Int) < 2; decide), ?_⟩) (fun c3 => ?_)⟩ <;>
    (refine ⟨_, rfl, .inl ⟨rfl, _, SqL.of hl2⟩, _, rfl, l, _, .int _, rfl, rfl, hl2, small1000 (by rw [List.length_map]; omega), ?_⟩
     refine (app _ (fun hw => ?_)).elim fun zs' h => ⟨_, _, _, _, zs', rfl, sm _, h.1, h.2⟩
     have z1 : way % 4 = 1 ∨ ¬ way % 4 = 1 := by omega
     first
       | (have z1 : way % 4 = 1 := V.int.inj (of_decide_eq_true c1); skip
          first
            | (have z2 : way % 4 = 2 := V.int.inj (of_decide_eq_true c2); exfalso; omega)
            | (first
                | (have z3 : way % 4 = 3 := V.int.inj (of_decide_eq_true c3); exfalso; omega)
                | (constructor <;> omega)))
       | (have z1 : ¬ way % 4 = 1 := fun e => c1 (decide_eq_true (congrArg V.int e))
          first
            | (have z3 : way % 4 = 3 := V.int.inj (of_decide_eq_true c3); constructor <;> omega)
            | (have z3 : ¬ way % 4 = 3 := fun e => c3 (decide_eq_true (congrArg V.int e)); exfalso; omega)))
  · rintro σ H2 ⟨o4, o5, o6, o7, zs, rfl, s2, hl2, hzl, hzb⟩
    refine ⟨_, rfl, l, zs, rfl, SqL.of hl2, by omega, fun M hM1 hM2 => ?_⟩
    refine ⟨_, rfl, _, rfl, l, rfl, ⟨_, SqL.of hl2⟩, ?_⟩
    refine comp_list_map (a := l) (xs := zs.map V.int) (fun x => match x with | .int z => .int (z - M) | x => x) (lk (by rw [List.length_map]; omega)) (SqL.of hl2) (fun x R hx r => ?_) (fun l3 hl3 => ?_)
    · obtain ⟨z, _, rfl⟩ := List.mem_map.mp hx
      exact ⟨⟨rfl, trivial⟩, ⟨_, rfl, _, rfl, _, _, rfl, rfl, r⟩⟩
    have em : (zs.map V.int).map (fun x => match x with | .int z => .int (z - M) | x => x) = (zs.map fun z => z - M).map V.int := by rw [List.map_map, List.map_map]; rfl
    rw [em]
    have s3 := s2.trans (same_upd (o := .lst ((zs.map fun z => z - M).map V.int)) hl3)
    refine ⟨l3, _, rfl, .inl ⟨SqL.of upd_same, fun q hq => ?_⟩⟩
    have s4 := same_upd (o := .tup ((zs.map fun z => z - M).map V.int)) hq
    refine ⟨lk (by first | exact Nat.le_of_ble_eq_true rfl | simp), fun a ha => ?_⟩
    have s5 := same_upd (o := .tup [.ref p, .ref q]) ha
    exact k a q (zs.map fun z => z - M) _ ((s3.trans s4).trans s5) ⟨upd_same, s5 _ _ upd_same, by rw [List.length_map]; omega⟩ (by rw [List.length_map]; exact hzl) (fun z hz => by
      obtain ⟨y, hy, rfl⟩ := List.mem_map.mp hz
      have := hM2 y hy
      omega) (List.mem_map.mpr ⟨M, hM1, by omega⟩) fun hw z hz => by
      obtain ⟨y, hy, rfl⟩ := List.mem_map.mp hz
      have h1 := hzb hw y hy
      have h2 := hzb hw M hM1
      omega
end
end K24

namespace K24
open PySem L2 Mc
/-! ### the law's own count of parts -/
def spLParts (d : Nat) : Sp := fun vs H Q _ => ∃ (p : Addr) (v : V) (c : Int) (ns : List Str) (tr : Tr), vs = [.ref p, v, .int c] ∧ H p = some (.tup (ns.map V.str)) ∧ TrAt H v tr ∧ tr.depth ≤ d ∧ c + d ≤ 41 ∧ (∀ x ∈ tr.names, x ∈ ns) ∧ ∀ H', Same H H' → Q (.int (tr.size : Nat)) H'
theorem op_four (o : Op) : inV (.str o.str) [V.str "and", V.str "or", V.str "then", V.str "same"] = true := by cases o <;> decide +kernel
section
variable {P : Program} {w : World} {K : PySem.W.Frag} {mg : Str → Option Value} {base : Heap} {t : Adr}
theorem scLParts : FnScope ["_law_names", "_law_tree", "_law_deep"] ["_law_names", "_law_tree", "_law_deep"] (defScope s__law_parts) := ⟨rfl, rfl, rfl, by decide +kernel, rfl, by decide +kernel, by decide +kernel⟩
theorem ok_lparts (T : Txt P w K mg t) : ∀ d : Nat, FnOk P w K mg base (CX1 P w) (d + 1) t.a__law_parts t.fd__law_parts ["_law_names", "_law_tree", "_law_deep"] (spLParts d)
  | 0 => by
    refine T.F__law_parts.ok1 scLParts (fun vs H Q E h => by obtain ⟨p, v, c, ns, tr, rfl, _⟩ := h; rfl) (fun cdv A outer s H vs Q E hr h => ?_)
    obtain ⟨p, v, c, ns, tr, rfl, hp, ht, hd, _⟩ := h
    have := tr.depth_pos
    omega
  | d + 1 => by
    have G__law_parts := ok_lparts T d
    refine T.F__law_parts.ok1 scLParts (fun vs H Q E h => by obtain ⟨p, v, c, ns, tr, rfl, _⟩ := h; rfl) (fun cdv A outer s H vs Q E hr h => ?_)
    obtain ⟨p, v, c, ns, tr, rfl, hp, ht, hd, hc, hin, k⟩ := h
    obtain ⟨a, rest, rfl, ha, hnm, hkid⟩ := ht.open
    have nd := scLParts.nd
    have hu := hu_of hr
    refine ⟨_, (pss_cons (ps_if (PW.pt (pw_or (pt_not (pt_val (pcallB call_isI T.n_isinstance Bt.isinstance (pa_cons (pvl 1) (pa_cons (pbltn (v := .ty "tuple") T.n_tuple Bt.tuple rfl) pa_nil))))) (pw_or (pt_cmpR (op_eqTE (Nat.lt_of_succ_lt hu)) (pvl 1) (pe_tup pa_nil) (nomark _)) (pw_or (pt_cmpR op_gt (pvl 2) pe_int (nomark _)) (pw_or1 (pt_not (pt_val (pcallB call_isI T.n_isinstance Bt.isinstance (pa_cons (pe_ix ix_tup (pvl 1) pe_int (fun _ _ => rfl)) (pa_cons (pbltn (v := .ty "str") T.n_str Bt.str rfl) pa_nil))))))))))
        (pss_one (ps_ret pe_int))
        pss_nil)
      (pss_cons (ps_if (PW.pt (pw_or (pt_cmpR op_eq (pe_ix ix_tup (pvl 1) pe_int (fun _ _ => rfl)) pe_str (nomark _)) (pw_or1 (pt_cmpR op_eq (pe_ix ix_tup (pvl 1) pe_int (fun _ _ => rfl)) pe_str (nomark _)))))
        (pss_one (ps_ret (pe_ix ix_list (pe_lst (pa_cons pe_int (pa_cons pe_int pa_nil))) (pcallT call_int1 T.n_int Bt.int (pa_cons (pe_cmpR op_eq (pcallB call_len_seq T.n_len Bt.len (pa_cons (pvl 1) pa_nil)) pe_int (nomark _)) pa_nil)) (fun _ _ => rfl))))
        pss_nil)
      (pss_cons (ps_if (pt_cmpR op_eq (pe_ix ix_tup (pvl 1) pe_int (fun _ _ => rfl)) pe_str (nomark _))
        (pss_one (ps_ret (pe_ix ix_list (pe_lst (pa_cons pe_int (pa_cons pe_int pa_nil))) (pcallT call_int1 T.n_int Bt.int (pa_cons (pe_and (pe_cmpR op_eq (pcallB call_len_seq T.n_len Bt.len (pa_cons (pvl 1) pa_nil)) pe_int (nomark _)) (pe_one (pe_cmpR op_in_seq (pe_ix ix_tup (pvl 1) pe_int (fun _ _ => rfl)) (pvl 0) (by with_unfolding_all rfl)))) pa_nil)) (fun _ _ => rfl))))
        pss_nil)
      (pss_cons (ps_if (PW.pt (pw_and (pt_cmpR op_eq (pe_ix ix_tup (pvl 1) pe_int (fun _ _ => rfl)) pe_str (nomark _)) (pw_and1 (pt_cmpR op_eq (pcallB call_len_seq T.n_len Bt.len (pa_cons (pvl 1) pa_nil)) pe_int (nomark _)))))
        (pss_one (ps_ret (pe_op op_add pe_int (pcall G__law_parts (hr.mono (by first | decide | omega)) T.m__law_parts T.k__law_parts T.b__law_parts never1 (pa_cons (pvl 0) (pa_cons (pe_ix ix_tup (pvl 1) pe_int (fun _ _ => rfl)) (pa_cons (pe_op op_add (pvl 2) pe_int) pa_nil)))))))
        pss_nil)
      (pss_cons (ps_if (PW.pt (pw_or (pt_cmpR op_notIn_seq (pe_ix ix_tup (pvl 1) pe_int (fun _ _ => rfl)) (pe_tup (pa_cons pe_str (pa_cons pe_str (pa_cons pe_str (pa_cons pe_str pa_nil))))) (by with_unfolding_all rfl)) (pw_or1 (pt_cmpR op_ne (pcallB call_len_seq T.n_len Bt.len (pa_cons (pvl 1) pa_nil)) pe_int (nomark _)))))
        (pss_one (ps_ret pe_int))
        pss_nil)
      (pss_one (ps_ret (pe_op op_add (pe_op op_add pe_int (pcall G__law_parts (hr.mono (by first | decide | omega)) T.m__law_parts T.k__law_parts T.b__law_parts never1 (pa_cons (pvl 0) (pa_cons (pe_ix ix_tup (pvl 1) pe_int (fun _ _ => rfl)) (pa_cons (pe_op op_add (pvl 2) pe_int) pa_nil))))) (pcall G__law_parts (hr.mono (by first | decide | omega)) T.m__law_parts T.k__law_parts T.b__law_parts never1 (pa_cons (pvl 0) (pa_cons (pe_ix ix_tup (pvl 1) pe_int (fun _ _ => rfl)) (pa_cons (pe_op op_add (pvl 2) pe_int) pa_nil)))))))))))), ?_⟩
    have ix0 : atI (V.str tr.tag :: rest) 0 = some (.str tr.tag) := atI_nat (j := 0) rfl
    refine ⟨_, rfl, _, _, _, _, true, rfl, rfl, .tup ha, rfl, _, rfl, iteF ?_⟩
    refine ⟨_, rfl, lk (by first | exact Nat.le_of_ble_eq_true rfl | simp), fun q1 hq1 => ?_⟩
    have u1 := same_upd (o := .tup []) hq1
    have ha := u1 _ _ ha
    have hp := u1 _ _ hp
    have ht := ht.mono u1.tups
    have k : ∀ H', Same (upd H q1 (.tup [])) H' → Q (.int (tr.size : Nat)) H' := fun H' s' => k H' (u1.trans s')
    have hq1' : (upd H q1 (.tup [])) q1 = some (.tup []) := upd_same
    have hkid := fun z => Paired.mapP (hkid z) fun _ _ y => y.mono u1.tups
    generalize upd H q1 (.tup []) = H1 at ha hp ht k hq1' hkid ⊢
    refine ⟨a, q1, _, rfl, rfl, SqT.of ha, SqT.of hq1', _, rfl, iteF ?_⟩
    refine ⟨_, rfl, _, _, rfl, rfl, _, rfl, ite2 (fun z => absurd (of_decide_eq_true z) (by show ¬ (40 : Int) < c; omega)) (fun _ => ?_)⟩
    refine ⟨_, rfl, a, _, 0, .str tr.tag, rfl, rfl, SqT.of ha, ix0, _, _, _, _, true, rfl, rfl, .str _, rfl, _, rfl, iteF ?_⟩
    refine ⟨_, rfl, a, _, 0, .str tr.tag, rfl, rfl, SqT.of ha, ix0, rfl, _, rfl, ite2 (fun c1 => ?Y) (fun c1 => ⟨_, rfl, a, _, 0, .str tr.tag, rfl, rfl, SqT.of ha, ix0, rfl, _, rfl, ite2 (fun c2 => ?N) (fun c2 => ?R)⟩)⟩
    case Y =>
      obtain rfl := tg_yes (of_decide_eq_true c1)
      cases hkid rfl
      refine ⟨lk (by first | exact Nat.le_of_ble_eq_true rfl | simp), fun l hl => ⟨_, rfl, a, _, rfl, .inr (SqT.of (same_upd hl _ _ ha)), rfl, .inr ⟨_, rfl, l, _, 1, _, rfl, rfl, SqL.of upd_same, rfl, ?_⟩⟩⟩
      exact k _ (same_upd hl)
    case N =>
      obtain rfl := tg_no (of_decide_eq_true c2)
      cases hkid rfl
      refine ⟨lk (by first | exact Nat.le_of_ble_eq_true rfl | simp), fun l hl => ⟨_, rfl, a, _, rfl, .inr (SqT.of (same_upd hl _ _ ha)), rfl, .inr ⟨_, rfl, l, _, 1, _, rfl, rfl, SqL.of upd_same, rfl, ?_⟩⟩⟩
      exact k _ (same_upd hl)
    case R =>
      refine ⟨_, rfl, a, _, 0, .str tr.tag, rfl, rfl, SqT.of ha, ix0, rfl, _, rfl, ite2 (fun c3 => ?_) (fun c3 => ?_)⟩
      · obtain ⟨x, rfl⟩ := tg_nm (of_decide_eq_true c3)
        have hxn := hin x List.mem_cons_self
        have ha := trNm ht
        refine ⟨lk (by first | exact Nat.le_of_ble_eq_true rfl | simp), fun l hl => ?_⟩
        have u2 := same_upd (o := .lst [.int 3000, .int 1]) hl
        refine ⟨_, rfl, a, _, rfl, .inr (SqT.of (u2 _ _ ha)), rfl, true, congrArg V.bl (decide_eq_true rfl), ?_⟩
        refine ⟨_, rfl, a, _, 1, _, rfl, rfl, SqT.of (u2 _ _ ha), rfl, _, rfl, p, _, rfl, .inr (SqT.of (u2 _ _ hp)), rfl, flat_strs ns, ?_⟩
        rw [inV_strs, decide_eq_true hxn]
        exact .inr ⟨_, rfl, l, _, 1, _, rfl, rfl, SqL.of upd_same, rfl, k _ u2⟩
      cases tr with
      | nm x => exact absurd (decide_eq_true rfl) c3
      | yes => exact absurd (decide_eq_true rfl) c1
      | no => exact absurd (decide_eq_true rfl) c2
      | not u =>
        obtain ⟨vu, hau, htu⟩ := trNot ht
        have hd : u.depth + 1 ≤ d + 1 := hd
        refine ⟨_, rfl, a, _, 0, .str "not", rfl, rfl, SqT.of hau, rfl, rfl, _, rfl, iteT ⟨_, rfl, a, _, rfl, .inr (SqT.of hau), rfl, _, rfl, iteT ?_⟩⟩
        refine ⟨_, rfl, _, rfl, a, _, 1, vu, rfl, rfl, SqT.of hau, rfl, _, rfl, _, _, rfl, rfl, p, vu, c + 1, ns, u, rfl, hp, htu, by omega, by omega, hin, fun H2 s2 => ?_⟩
        refine ⟨_, _, rfl, rfl, ?_⟩
        have e : (1 : Int) + ((u.size : Nat) : Int) = (((Tr.not u).size : Nat) : Int) := by
          show _ = ((u.size + 1 : Nat) : Int)
          omega
        have k' : Q (.int ((1 : Int) + ((u.size : Nat) : Int))) H2 := by rw [e]; exact k _ s2
        exact k'
      | bin o x y =>
        obtain ⟨vx, vy, hab, htx, hty⟩ := trBin ht
        have hd : max x.depth y.depth + 1 ≤ d + 1 := hd
        have nn : ¬ (decide (V.str o.str = V.str ("not" : Str)) = true) := fun z => by
          have := V.str.inj (of_decide_eq_true z)
          cases o <;> exact absurd this (by decide +kernel)
        refine ⟨_, rfl, a, _, 0, .str o.str, rfl, rfl, SqT.of hab, rfl, rfl, _, rfl, ite2 (fun z => absurd z nn) (fun _ => iteF ?_)⟩
        refine ⟨_, rfl, a, _, 0, .str o.str, rfl, rfl, SqT.of hab, rfl, lk (by first | exact Nat.le_of_ble_eq_true rfl | simp), fun q4 hq4 => ?_⟩
        have u4 := same_upd (o := .tup [V.str "and", V.str "or", V.str "then", V.str "same"]) hq4
        refine ⟨q4, _, rfl, .inr (SqT.of upd_same), rfl, rfl, _, rfl, ite2 (fun z => ?_) (fun _ => ?_)⟩
        · rw [op_four] at z
          cases z
        have hab4 := u4 _ _ hab
        refine ⟨_, rfl, a, _, rfl, .inr (SqT.of hab4), rfl, _, rfl, iteF ?_⟩
        refine ⟨_, rfl, _, rfl, a, _, 1, vx, rfl, rfl, SqT.of hab4, rfl, _, rfl, _, _, rfl, rfl, p, vx, c + 1, ns, x, rfl, u4 _ _ hp, htx.mono u4.tups, by omega, by omega, fun z hz => hin z (List.mem_append_left _ hz), fun H5 s5 => ?_⟩
        have s45 := u4.trans s5
        refine ⟨_, _, rfl, rfl, _, rfl, _, rfl, a, _, 2, vy, rfl, rfl, SqT.of (s45 _ _ hab), rfl, _, rfl, _, _, rfl, rfl, p, vy, c + 1, ns, y, rfl, s45 _ _ hp, hty.mono s45.tups, by omega, by omega, fun z hz => hin z (List.mem_append_right _ hz), fun H6 s6 => ?_⟩
        refine ⟨_, _, rfl, rfl, ?_⟩
        have e : (1 : Int) + ((x.size : Nat) : Int) + ((y.size : Nat) : Int) = (((Tr.bin o x y).size : Nat) : Int) := by
          show _ = ((x.size + y.size + 1 : Nat) : Int)
          omega
        have k' : Q (.int ((1 : Int) + ((x.size : Nat) : Int) + ((y.size : Nat) : Int))) H6 := by rw [e]; exact k _ (s45.trans s6)
        exact k'
end
end K24

namespace K24
open PySem L2 Mc
/-! ### a sentence of a rank is as due -/
def spPFit : Sp := fun vs H Q _ => ∃ (a p r q : Addr) (rs : List Int) (u : V) (g : Int) (ns : List Str) (tr : Tr), vs = [.ref a, .ref q, .int g] ∧ MindAt H a p r rs ∧ H p = some (.tup (ns.map V.str)) ∧ ns.length ≤ 8 ∧ H q = some (.tup [u, .int g]) ∧ TrAt H u tr ∧ SentOk ns rs (tr, g) ∧ ∀ H', Same H H' → Q (.bl true) H'
section
variable {P : Program} {w : World} {K : PySem.W.Frag} {mg : Str → Option Value} {base : Heap} {t : Adr}
theorem scPFit : FnScope ["_law_mind", "_law_pair", "_law_rank", "_law_due", "_law_world"] ["_law_mind", "_law_pair", "_law_rank"] (defScope s__law_pair_fits) := ⟨rfl, rfl, rfl, by decide +kernel, rfl, by decide +kernel, by decide +kernel⟩
theorem ok_pfit (T : Txt P w K mg t) : FnOk P w K mg base (CX1 P w) 42 t.a__law_pair_fits t.fd__law_pair_fits ["_law_mind", "_law_pair", "_law_rank"] spPFit := by
  have G__law_whole : FnOk P w K mg base (CX1 P w) 1 t.a__law_whole t.fd__law_whole ["_law_found"] spWhole := ok_whole T
  have G__law_parts : FnOk P w K mg base (CX1 P w) 41 t.a__law_parts t.fd__law_parts ["_law_names", "_law_tree", "_law_deep"] (spLParts 40) := ok_lparts T 40
  have G__law_table : FnOk P w K mg base (CX1 P w) 22 t.a__law_table t.fd__law_table ["_law_names", "_law_tree"] (spLTable 20) := ok_ltable T 20
  refine T.F__law_pair_fits.ok1 (k := 41) scPFit (fun vs H Q E h => by obtain ⟨a, p, r, q, rs, u, g, ns, tr, rfl, _⟩ := h; rfl) (fun cdv A outer s H vs Q E hr h => ?_)
  obtain ⟨a, p, r, q, rs, u, g, ns, tr, rfl, hm, hp, h8, hq, ht, hok, k⟩ := h
  obtain ⟨htab, hsz, hdp, hin, hpos⟩ := hok
  have nd := scPFit.nd
  have hu := hu_of hr
  refine ⟨_, (pss_cons (ps_if (PW.pt (pw_or (pt_not (pt_val (pcallB call_isI T.n_isinstance Bt.isinstance (pa_cons (pvl 1) (pa_cons (pbltn (v := .ty "tuple") T.n_tuple Bt.tuple rfl) pa_nil))))) (pw_or (pt_cmpR op_ne (pcallB call_len_seq T.n_len Bt.len (pa_cons (pvl 1) pa_nil)) pe_int (nomark _)) (pw_or (pt_not (pt_val (pcall G__law_whole (hr.mono (by first | decide | omega)) T.m__law_whole T.k__law_whole T.b__law_whole never1 (pa_cons (pe_ix ix_tup (pvl 1) pe_int (fun _ _ => rfl)) pa_nil)))) (pw_or1 (pt_cmpR op_ne (pe_ix ix_tup (pvl 1) pe_int (fun _ _ => rfl)) (pvl 2) (nomark _)))))))
        (pss_one (ps_ret pe_bl))
        pss_nil)
      (pss_cons (ps_if (pt_cmpR op_gt (pcall G__law_parts (hr.mono (by first | decide | omega)) T.m__law_parts T.k__law_parts T.b__law_parts never1 (pa_cons (pe_ix ix_tup (pvl 0) pe_int (fun _ _ => rfl)) (pa_cons (pe_ix ix_tup (pvl 1) pe_int (fun _ _ => rfl)) (pa_cons pe_int pa_nil)))) pe_int (nomark _))
        (pss_one (ps_ret pe_bl))
        pss_nil)
      (pss_cons (psl 3 nd pe_int)
      (pss_cons (ps_for own1 rfl (prange1 T.n_range (pa_cons (pcallB call_len_seq T.n_len Bt.len (pa_cons (pe_ix ix_tup (pvl 0) pe_int (fun _ _ => rfl)) pa_nil)) pa_nil)) (pgl 4 nd)
        (pss_one (ps_if (pt_cmpR op_lt (pe_ix ix_tup (pe_ix ix_tup (pvl 0) pe_int (fun _ _ => rfl)) (pvl 4) (fun _ _ => rfl)) (pvl 2) (nomark _))
          (pss_one (psl 3 nd (pe_op op_add (pvl 3) (pe_op op_shl pe_int (pvl 4)))))
          pss_nil)))
      (pss_one (ps_ret (pe_cmpR op_eq (pcall G__law_table (hr.mono (by first | decide | omega)) T.m__law_table T.k__law_table T.b__law_table never1 (pa_cons (pe_ix ix_tup (pvl 0) pe_int (fun _ _ => rfl)) (pa_cons (pe_ix ix_tup (pvl 1) pe_int (fun _ _ => rfl)) pa_nil))) (pvl 3) (nomark _)))))))), ?_⟩
  refine ⟨_, rfl, _, _, _, _, true, rfl, rfl, .tup hq, rfl, _, rfl, iteF ?_⟩
  refine ⟨_, rfl, q, _, rfl, .inr (SqT.of hq), rfl, _, rfl, ite2 (fun c => absurd c (by rw [decide_eq_true (show V.int (([u, V.int g].length : Nat) : Int) = V.int 2 from rfl)]; decide)) (fun _ => ?_)⟩
  refine ⟨_, rfl, q, _, 1, .int g, rfl, rfl, SqT.of hq, rfl, g, rfl, _, rfl, iteF ?_⟩
  refine ⟨_, rfl, q, _, 1, .int g, rfl, rfl, SqT.of hq, rfl, _, rfl, rfl, _, rfl, ite2 (fun c => absurd c (by rw [decide_eq_true rfl]; decide)) (fun _ => ?_)⟩
  refine ⟨_, rfl, a, _, 0, .ref p, rfl, rfl, SqT.of hm.1, rfl, _, rfl, q, _, 0, u, rfl, rfl, SqT.of hq, rfl, p, u, 1, ns, tr, rfl, hp, ht, by show tr.depth ≤ 40; have : tr.depth ≤ 20 := hdp; omega, by decide, hin, fun H1 s1 => ?_⟩
  have hsz' : tr.size ≤ 2000 := hsz
  refine ⟨_, _, rfl, rfl, _, rfl, ite2 (fun c => absurd (of_decide_eq_true c) (by show ¬ (2000 : Int) < ((tr.size : Nat) : Int); omega)) (fun _ => ?_)⟩
  have hm1 := hm.mono s1
  have hq1 := s1 _ _ hq
  have hp1 := s1 _ _ hp
  have ht1 := ht.mono s1.tups
  have h256 := hm1.2.2
  have el : (rs.map V.int).length = rs.length := List.length_map _
  refine ⟨_, rfl, a, _, 1, .ref r, rfl, rfl, SqT.of hm1.1, rfl, r, _, rfl, .inr (SqT.of hm1.2.1), _, rfl, by omega, by rw [el]; omega, ?_⟩
  rw [Int.toNat_natCast, el]
  refine for_range (lo := 0) (n := rs.length) (fun i σ H2 => ∃ o4 : Option V, σ = [some (.ref a), some (.ref q), some (.int g), some (.int ((bsum (fun j => decide (rs.getD j 0 < g)) i : Nat) : Int)), o4] ∧ H2 = H1) ⟨none, rfl, rfl⟩ ?_ ?_
  · rintro i σ H2 hi ⟨o4, rfl, eH⟩
    subst eH
    have ex : (rs.map V.int)[i]? = some (.int (rs.getD i 0)) := by
      rw [List.getElem?_map, List.getElem?_eq_getElem hi, List.getD, List.getElem?_eq_getElem hi]
      rfl
    have e0 : (0 : Int) + (i : Int) = ((i : Nat) : Int) := by omega
    refine ⟨_, rfl, a, _, 1, .ref r, rfl, rfl, SqT.of hm1.1, rfl, _, rfl, r, _, _, .int (rs.getD i 0), rfl, rfl, SqT.of hm1.2.1, (by show atI _ ((0 : Int) + (i : Int)) = _; rw [e0]; exact atI_nat ex), _, rfl, _, _, rfl, rfl, _, rfl, ite2 (fun c => ?_) (fun c => ?_)⟩
    · have c : decide (rs.getD i 0 < g) = true := c
      refine ⟨_, rfl, _, rfl, _, _, rfl, rfl, ⟨by omega, by omega, by decide⟩, _, _, rfl, rfl, ?_⟩
      have e2 : ((bsum (fun j => decide (rs.getD j 0 < g)) i : Nat) : Int) + 1 * 2 ^ ((0 : Int) + (i : Int)).toNat = ((bsum (fun j => decide (rs.getD j 0 < g)) (i + 1) : Nat) : Int) := by
        show _ = ((bsum (fun j => decide (rs.getD j 0 < g)) i + (if decide (rs.getD i 0 < g) = true then 2 ^ i else 0) : Nat) : Int)
        rw [e0, if_pos c, Int.toNat_natCast]
        simp
      rw [← e2]
      exact ⟨_, rfl, rfl⟩
    · have c : ¬ decide (rs.getD i 0 < g) = true := c
      have e2 : bsum (fun j => decide (rs.getD j 0 < g)) (i + 1) = bsum (fun j => decide (rs.getD j 0 < g)) i := by
        show bsum (fun j => decide (rs.getD j 0 < g)) i + (if decide (rs.getD i 0 < g) = true then 2 ^ i else 0) = _
        rw [if_neg c, Nat.add_zero]
      rw [e2]
      exact ⟨_, rfl, rfl⟩
  rintro σ H2 ⟨o4, rfl, eH⟩
  subst eH
  refine ⟨_, rfl, a, _, 0, .ref p, rfl, rfl, SqT.of hm1.1, rfl, _, rfl, q, _, 0, u, rfl, rfl, SqT.of hq1, rfl, p, u, ns, tr, rfl, hp1, h8, ht1, hdp, hin, fun H3 s3 => ?_⟩
  refine ⟨_, rfl, rfl, ?_⟩
  have htab' : tableN ns tr = belowN rs g := htab
  show Q (.bl (decide (V.int ((tableN ns tr : Nat) : Int) = V.int ((belowN rs g : Nat) : Int)))) H3
  rw [htab', decide_eq_true rfl]
  exact k H3 (s1.trans s3)
end
end K24

namespace K24
open PySem L2 Mc
/-! ### the law -/
def spLaw (K : PySem.W.Frag) : Sp := fun vs H Q _ => ∃ (a : Addr) (ns : List Int), vs = [.ref a] ∧ SqL K H a (ns.map V.int) ∧ ns.length ≤ 63 ∧ ∀ H', Q (.bl true) H'
theorem cut_map (ns : List Int) (lo hi : Option Int) : ∃ cs : List Int, cutV (ns.map V.int) lo hi = cs.map V.int ∧ cs.length ≤ ns.length := by
  refine ⟨(ns.drop (HT.sIx (ns.map V.int).length 0 lo)).take (HT.sIx (ns.map V.int).length (ns.map V.int).length hi - HT.sIx (ns.map V.int).length 0 lo), ?_, ?_⟩
  · unfold cutV
    rw [List.map_take, List.map_drop]
  · rw [List.length_take, List.length_drop]
    omega
theorem fold_le (ns : List Str) (i : Nat) (b : Int) : ∀ (told : List (Tr × Int)) (m : Int), m ≤ b → (∀ x ∈ told, evalB (inW ns i) x.1 = false → x.2 ≤ b) → told.foldl (fun m x => if evalB (inW ns i) x.1 = true then m else max m x.2) m ≤ b
  | [], m, h, _ => h
  | x :: r, m, h, g => fold_le ns i b r _ (by
      show (if evalB (inW ns i) x.1 = true then m else max m x.2) ≤ b
      have := g x List.mem_cons_self
      cases e : evalB (inW ns i) x.1 with
      | true => exact h
      | false =>
        have := this e
        show max m x.2 ≤ b
        omega) fun y hy => g y (List.mem_cons_of_mem _ hy)
theorem fold_ge (ns : List Str) (i : Nat) : ∀ (told : List (Tr × Int)) (m : Int), m ≤ told.foldl (fun m x => if evalB (inW ns i) x.1 = true then m else max m x.2) m ∧ ∀ x ∈ told, evalB (inW ns i) x.1 = false → x.2 ≤ told.foldl (fun m x => if evalB (inW ns i) x.1 = true then m else max m x.2) m
  | [], m => ⟨Int.le_refl _, fun x hx => nomatch hx⟩
  | y :: r, m => by
    obtain ⟨h1, h2⟩ := fold_ge ns i r (if evalB (inW ns i) y.1 = true then m else max m y.2)
    have h3 : m ≤ (if evalB (inW ns i) y.1 = true then m else max m y.2) := by split <;> omega
    refine ⟨Int.le_trans h3 h1, fun x hx e => ?_⟩
    rcases List.mem_cons.mp hx with rfl | hx
    · refine Int.le_trans ?_ h1
      rw [e, if_neg (by decide)]
      omega
    · exact h2 x hx e
/-- the mind of a mind's sentences is the mind -/
theorem marks_sent {ns : List Str} {rs : List Int} {told : List (Tr × Int)} (hrl : rs.length = 2 ^ ns.length) (h0 : ∀ x ∈ rs, 0 ≤ x) (hok : ∀ x ∈ told, SentOk ns rs x) (hall : ∀ x ∈ rs, 0 < x → ∃ y ∈ told, y.2 = x) : marksL ns told = rs := by
  have at_ : ∀ i, i < 2 ^ ns.length → markF ns told i = rs.getD i 0 := fun i hi => by
    have hir : i < rs.length := by omega
    have hmem : rs.getD i 0 ∈ rs := by
      rw [List.getD, List.getElem?_eq_getElem hir]
      exact List.getElem_mem hir
    have hev : ∀ x ∈ told, evalB (inW ns i) x.1 = decide (rs.getD i 0 < x.2) := fun x hx => by
      have h1 := (hok x hx).1
      have h2 := table_bit ns x.1 i
      rw [h1, decide_eq_true hi, Bool.true_and] at h2
      rw [← h2]
      unfold belowN
      rw [bsum_bit, decide_eq_true hir, Bool.true_and]
    unfold markF
    refine Int.le_antisymm (fold_le ns i _ told 0 (h0 _ hmem) fun x hx e => ?_) ?_
    · rw [hev x hx] at e
      have := of_decide_eq_false e
      omega
    · by_cases hz : 0 < rs.getD i 0
      · obtain ⟨y, hy, ey⟩ := hall _ hmem hz
        have := (fold_ge ns i told 0).2 y hy (by rw [hev y hy]; exact decide_eq_false (by omega))
        omega
      · have := (fold_ge ns i told 0).1
        omega
  refine List.ext_getElem? fun i => ?_
  by_cases hi : i < 2 ^ ns.length
  · have h1 := at_ i hi
    unfold marksL
    rw [List.getElem?_map, List.getElem?_range hi]
    show some (markF ns told i) = _
    rw [h1, List.getD, List.getElem?_eq_getElem (by omega)]
    rfl
  · rw [List.getElem?_eq_none (by rw [marks_len]; omega), List.getElem?_eq_none (by omega)]
theorem getD_mem {rs : List Int} {x : Int} : (∃ i, i < rs.length ∧ rs.getD i 0 = x) ↔ x ∈ rs := by
  constructor
  · rintro ⟨i, hi, e⟩
    rw [List.getD, List.getElem?_eq_getElem hi] at e
    have e : rs[i] = x := e
    rw [← e]
    exact List.getElem_mem hi
  · intro h
    obtain ⟨i, hi, e⟩ := List.getElem_of_mem h
    exact ⟨i, hi, by rw [List.getD, List.getElem?_eq_getElem hi]; exact e⟩
/-- the ranks above 0, the greatest first, by the law's own way -/
theorem due_is {rs ys gs : List Int} (hp : ys.Perm (StB.firsts (fun i => rs.getD i 0) rs.length)) (hs : ys.Pairwise (· ≤ ·)) (hg : gs.Pairwise (· > ·)) (hm : ∀ x, x ∈ gs ↔ x ∈ rs ∧ 0 < x) : ys.reverse.filter (fun x => decide (0 < x)) = gs := by
  have hn : ys.Nodup := hp.nodup_iff.mpr (firsts_nodup _ _)
  have hlt : ys.Pairwise (· < ·) := List.Pairwise.imp₂ (fun a b (h1 : a ≤ b) (h2 : a ≠ b) => by show a < b; omega) hs hn
  have hd : (ys.reverse.filter (fun x => decide (0 < x))).Pairwise (· > ·) := (List.pairwise_reverse.mpr (hlt.imp fun h => h)).filter _
  have n1 : (ys.reverse.filter (fun x => decide (0 < x))).Nodup := hd.imp fun {a b} (h : a > b) => by show a ≠ b; omega
  have n2 : gs.Nodup := hg.imp fun {a b} (h : a > b) => by show a ≠ b; omega
  have hperm : (ys.reverse.filter (fun x => decide (0 < x))).Perm gs := (List.perm_ext_iff_of_nodup n1 n2).mpr fun x => by
    rw [List.mem_filter, List.mem_reverse, hp.mem_iff, firsts_mem, getD_mem, hm x, decide_eq_true_iff]
  exact hperm.eq_of_pairwise (le := fun a b => decide (a ≥ b)) (fun a b _ _ h1 h2 => by simp at h1 h2; omega) (hd.imp fun h => by simp; omega) (hg.imp fun h => by simp; omega)
theorem eqL_self (gs : List Int) : eqL (gs.map V.int) (gs.map V.int) = true := by rw [eqL_ints, decide_eq_true rfl]
theorem flat_ints (gs : List Int) : (gs.map V.int).all flatV = true := by
  rw [List.all_eq_true]
  intro x hx
  obtain ⟨y, _, rfl⟩ := List.mem_map.mp hx
  rfl
section
variable {P : Program} {w : World} {K : PySem.W.Frag} {mg : Str → Option Value} {base : Heap} {t : Adr}
theorem scLaw : FnScope ["_law_script", "_law_many_here", "_law_names", "_law_way", "_law_mind", "_law_found", "_law_due", "_law_k", "_law_again"] ["_law_script"] (defScope s_law) := ⟨rfl, rfl, rfl, by decide +kernel, rfl, by decide +kernel, by decide +kernel⟩
theorem ok_law (T : Txt P w K mg t) : FnOk P w K mg base (CX1 P w) 119 t.a_law t.fd_law ["_law_script"] (spLaw K) := by
  have G__law_cell_at : FnOk P w K mg base (CX1 P w) 1 t.a__law_cell_at t.fd__law_cell_at ["_law_script", "_law_k"] (spCell K) := ok_cell T
  have G__law_many : FnOk P w K mg base (CX1 P w) 1 t.a__law_many t.fd__law_many ["_law_cell"] spMany := ok_many T
  have G__law_names_by : FnOk P w K mg base (CX1 P w) 1 t.a__law_names_by t.fd__law_names_by ["_law_cell", "_law_many_here"] spNames2 := ok_names2 T
  have G__law_mind_by : FnOk P w K mg base (CX1 P w) 2 t.a__law_mind_by t.fd__law_mind_by ["_law_names", "_law_cells", "_law_way"] (spMindBy K) := ok_mindby T
  have G_mind_of : FnOk P w K mg base (CX1 P w) 118 t.a_mind_of t.fd_mind_of ["names", "told"] spMindOf := ok_mindof T
  have G__law_is_mind : FnOk P w K mg base (CX1 P w) 2 t.a__law_is_mind t.fd__law_is_mind ["_law_found", "_law_names", "_law_ranks"] spIsMind := ok_ismind T
  have G__law_pair_fits : FnOk P w K mg base (CX1 P w) 42 t.a__law_pair_fits t.fd__law_pair_fits ["_law_mind", "_law_pair", "_law_rank"] spPFit := ok_pfit T
  have G_sentences_of : FnOk P w K mg base (CX1 P w) 20 t.a_sentences_of t.fd_sentences_of ["mind"] spSent := ok_sent T
  refine T.F_law.ok1 (k := 118) scLaw (fun vs H Q E h => by obtain ⟨a, ns, rfl, _⟩ := h; rfl) (fun cdv A outer s H vs Q E hr h => ?_)
  obtain ⟨a, ns, rfl, hS, hlen, k⟩ := h
  have nd := scLaw.nd
  have hu := hu_of hr
  have hul := Nat.lt_of_succ_lt hu
  refine ⟨_, (pss_cons (psl 1 nd (pcall G__law_many (hr.mono (by first | decide | omega)) T.m__law_many T.k__law_many T.b__law_many never1 (pa_cons (pcall G__law_cell_at (hr.mono (by first | decide | omega)) T.m__law_cell_at T.k__law_cell_at T.b__law_cell_at never1 (pa_cons (pvl 0) (pa_cons pe_int pa_nil))) pa_nil)))
      (pss_cons (psl 2 nd (pcall G__law_names_by (hr.mono (by first | decide | omega)) T.m__law_names_by T.k__law_names_by T.b__law_names_by never1 (pa_cons (pcall G__law_cell_at (hr.mono (by first | decide | omega)) T.m__law_cell_at T.k__law_cell_at T.b__law_cell_at never1 (pa_cons (pvl 0) (pa_cons pe_int pa_nil))) (pa_cons (pvl 1) pa_nil))))
      (pss_cons (psl 3 nd (pcall G__law_cell_at (hr.mono (by first | decide | omega)) T.m__law_cell_at T.k__law_cell_at T.b__law_cell_at never1 (pa_cons (pvl 0) (pa_cons pe_int pa_nil))))
      (pss_cons (ps_if (pt_cmpR op_gt (pvl 1) pe_int (nomark _))
        (pss_one (psl 3 nd (pe_op op_add pe_int (pe_op op_mul (pe_op op_mod (pvl 3) pe_int) pe_int))))
        pss_nil)
      (pss_cons (psl 4 nd (pcall G__law_mind_by (hr.mono (by first | decide | omega)) T.m__law_mind_by T.k__law_mind_by T.b__law_mind_by never1 (pa_cons (pvl 2) (pa_cons (pe_slice sl_list (pvl 0) (po_some pe_int) po_none) (pa_cons (pvl 3) pa_nil)))))
      (pss_cons (psl 5 nd (pcall G_sentences_of (hr.mono (by first | decide | omega)) T.m_sentences_of T.k_sentences_of T.b_sentences_of never1 (pa_cons (pvl 4) pa_nil)))
      (pss_cons (ps_setComp (i := 6) rfl ["_law_rank"] [none] nd rfl rfl (plistR (pe_sortSetT rfl (pe_ix ix_tup (pvl 4) pe_int (fun _ _ => rfl)) T.n_sorted T.n_set) T.n_reversed) (by kernel_rfl) (fun _ _ _ _ _ _ => (pgl 0 (show List.Nodup (α := PySem.Str) ["_law_rank"] by decide +kernel))) (fun _ _ _ _ _ _ => pts_one (pt_cmpR op_gt (pvl 0) pe_int (nomark _))) (fun _ _ _ _ _ _ => (pvl 0)))
      (pss_cons (ps_if (PW.pt (pw_or (pt_not (pt_val (pcallB call_isI T.n_isinstance Bt.isinstance (pa_cons (pvl 5) (pa_cons (pbltn (v := .ty "list") T.n_list Bt.list rfl) pa_nil))))) (pw_or1 (pt_cmpR op_ne (pcallB call_len_seq T.n_len Bt.len (pa_cons (pvl 5) pa_nil)) (pcallB call_len_seq T.n_len Bt.len (pa_cons (pvl 6) pa_nil)) (nomark _)))))
        (pss_one (ps_ret pe_bl))
        pss_nil)
      (pss_cons (ps_for own1 rfl (prange1 T.n_range (pa_cons (pcallB call_len_seq T.n_len Bt.len (pa_cons (pvl 6) pa_nil)) pa_nil)) (pgl 7 nd)
        (pss_one (ps_if (pt_not (pt_val (pcall G__law_pair_fits (hr.mono (by first | decide | omega)) T.m__law_pair_fits T.k__law_pair_fits T.b__law_pair_fits never1 (pa_cons (pvl 4) (pa_cons (pe_ix ix_list (pvl 5) (pvl 7) (fun _ _ => rfl)) (pa_cons (pe_ix ix_list (pvl 6) (pvl 7) (fun _ _ => rfl)) pa_nil))))))
          (pss_one (ps_ret pe_bl))
          pss_nil)))
      (pss_cons (ps_if (pt_not (pt_val (pcall G__law_is_mind (hr.mono (by first | decide | omega)) T.m__law_is_mind T.k__law_is_mind T.b__law_is_mind never1 (pa_cons (pcall G_mind_of (hr.mono (by first | decide | omega)) T.m_mind_of T.k_mind_of T.b_mind_of passes1 (pa_cons (pvl 2) (pa_cons (pcallT call_list_of T.n_list Bt.list (pa_cons (pvl 5) pa_nil)) pa_nil))) (pa_cons (pvl 2) (pa_cons (pe_ix ix_tup (pvl 4) pe_int (fun _ _ => rfl)) pa_nil))))))
        (pss_one (ps_ret pe_bl))
        pss_nil)
      (pss_cons (ps_expr (pe_bm PySem.F.plainAttrs_list PySem.F.slot_list_insert PySem.F.type_list_insert mt_insert (pvl 5) (pa_cons pe_int (pa_cons (pe_tup (pa_cons (pe_tup (pa_cons pe_str pa_nil)) (pa_cons pe_int pa_nil))) pa_nil))))
      (pss_cons (psl 8 nd (pcall G_sentences_of (hr.mono (by first | decide | omega)) T.m_sentences_of T.k_sentences_of T.b_sentences_of never1 (pa_cons (pvl 4) pa_nil)))
      (pss_one (ps_ret (pe_and (pcallB call_isI T.n_isinstance Bt.isinstance (pa_cons (pvl 8) (pa_cons (pbltn (v := .ty "list") T.n_list Bt.list rfl) pa_nil))) (pe_one (pe_cmpR (op_eqL hul) (pe_comp rfl ["_law_pair"] [none] (pi_list (pvl 8)) (by kernel_rfl) (fun _ _ _ _ _ _ => (pgl 0 (show List.Nodup (α := PySem.Str) ["_law_pair"] by decide +kernel))) (fun _ _ _ _ _ _ => pts_nil) (fun _ _ _ _ _ _ => (pe_ix (ix_tupK (K := K)) (pvl 0) pe_int (fun _ _ => rfl)))) (pvl 6) (nomark _)))))))))))))))))), ?_⟩
  refine ⟨_, rfl, a, ns, 1, rfl, hS, by decide, _, rfl, fun nn H0 s0 hn1 hn8 => ?_⟩
  refine ⟨_, rfl, a, ns, 0, rfl, s0.seq hS, by decide, _, rfl, _, (nn : Int), rfl, by omega, by omega, fun p names H1 s1 hp hnl hN => ?_⟩
  rw [Int.toNat_natCast] at hnl
  have h1 : 1 ≤ names.length := by omega
  have h8 : names.length ≤ 8 := by omega
  have s01 := s0.trans s1
  refine ⟨_, rfl, a, ns, 2, rfl, s01.seq hS, by decide, ?_⟩
  generalize ns.getD (2 : Int).toNat 0 = way0
  apply kontP (fun σ H' => ∃ way : Int, σ = [some (.ref a), some (.int (nn : Int)), some (.ref p), some (.int way), none, none, none, none, none] ∧ H' = H1 ∧ (4 < nn → way % 4 = 1 ∨ way % 4 = 3))
  case h =>
    intro gZ
    refine ⟨_, rfl, _, _, rfl, rfl, _, rfl, ite2 (fun c => ?m1) (fun c => ?m2)⟩
    case m1 =>
      refine ⟨_, rfl, _, _, rfl, rfl, (by show (0 : Int) < 2; decide), _, _, rfl, rfl, .inr ⟨by decide, by decide⟩, _, _, rfl, rfl, ?_⟩
      apply gZ
      exact ⟨1 + way0 % 2 * 2, rfl, rfl, fun _ => by omega⟩
    case m2 =>
      apply gZ
      exact ⟨way0, rfl, rfl, fun h => absurd (decide_eq_true (show (4 : Int) < (nn : Int) by omega)) c⟩
  case g =>
  rintro σ H1' ⟨way, rfl, eH, hway⟩
  subst eH
  obtain ⟨cs, hcs, _⟩ := cut_map ns (some 3) none
  refine ⟨_, rfl, _, rfl, _, rfl, a, _, rfl, s01.seq hS, fun l hl => ?_⟩
  rw [hcs]
  have s2 := same_upd (o := .lst (cs.map V.int)) hl
  refine ⟨_, rfl, p, l, names, cs, way, rfl, s2 _ _ hp, h8, SqL.of upd_same, fun am r rs H3 s3 hm hrl hr0 hz0 hr3 => ?_⟩
  have hp3 := s3 _ _ (s2 _ _ hp)
  have hpos1 : 0 < 2 ^ names.length := Nat.two_pow_pos _
  have h256 : rs.length ≤ 256 := hm.2.2
  have hfew : Few rs := fun ys hn hy => by
    by_cases h : 4 < nn
    · have := length_le_of_sub (b := [(0 : Int), 1, 2, 3]) hn fun y hy' => by
        have z1 := hr0 y (hy y hy')
        have z2 := hr3 (hway h) y (hy y hy')
        have : y = 0 ∨ y = 1 ∨ y = 2 ∨ y = 3 := by omega
        simpa using this
      have e : ([(0 : Int), 1, 2, 3] : List Int).length = 4 := rfl
      omega
    · have := length_le_of_sub hn hy
      have h16 : 2 ^ names.length ≤ 16 := Nat.le_trans (Nat.pow_le_pow_right (n := 2) (by decide) (show names.length ≤ 4 by omega)) (by decide)
      omega
  refine ⟨_, rfl, am, p, r, names, rs, rfl, hm, hp3, h8, hN.nd, hN.nm, hrl, hfew, fun q us told gs H4 s4 hq hul64 hpt hok hgs hgp hgm => ?_⟩
  have hm4 := hm.mono s4
  have hp4 := s4 _ _ hp3
  have hff : (StB.firsts (fun i => rs.getD i 0) rs.length).length < 64 := hfew _ (firsts_nodup _ _) fun y hy => getD_mem.mp ((firsts_mem _ _ y).mp hy)
  refine ⟨_, rfl, am, _, 1, .ref r, rfl, rfl, SqT.of hm4.1, rfl, r, rs, rfl, SqT.of hm4.2.1, h256, hff, fun lq ys hlq hyp hys => ?_⟩
  have s5 := same_upd (o := .lst (ys.map V.int)) hlq
  have hlq5 : (upd H4 lq (.lst (ys.map V.int))) lq = some (.lst (ys.map V.int)) := upd_same
  generalize upd H4 lq (.lst (ys.map V.int)) = H5 at s5 hlq5 ⊢
  have hyl : ys.length < 64 := by rw [hyp.length_eq]; exact hff
  refine ⟨lq, _, rfl, SqL.of hlq5, ?_⟩
  refine comp_listR (K := K) (a := lq) (xs := ys.map V.int) (fun i zs H' => H' = H5 ∧ zs = ((ys.reverse.take i).filter fun x => decide (0 < x)).map V.int) ⟨rfl, rfl⟩ (lk (by rw [List.length_map]; omega)) (fun i zs H' ⟨_, e⟩ => by
    rw [e, List.length_map]
    have := List.length_filter_le (fun x : Int => decide (0 < x)) (ys.reverse.take i)
    rw [List.length_take] at this
    omega) (fun i zs H' ⟨e, _⟩ => by subst e; exact SqL.of hlq5) ?_ ?_
  · rintro i z zs H' hi hz ⟨e, rfl⟩
    subst e
    rw [List.length_map] at hi hz
    rw [List.getElem?_map, ← List.getElem?_reverse hi] at hz
    obtain ⟨c, hc, rfl⟩ : ∃ c, ys.reverse[i]? = some c ∧ z = V.int c := by
      cases q : ys.reverse[i]? with
      | none => rw [q] at hz; cases hz
      | some c => rw [q] at hz; exact ⟨c, rfl, (Option.some.inj hz).symm⟩
    have et : (ys.reverse.take (i + 1)).filter (fun x => decide (0 < x)) = (ys.reverse.take i).filter (fun x => decide (0 < x)) ++ (if 0 < c then [c] else []) := by
      rw [List.take_add_one, hc, List.filter_append]
      congr 1
      show List.filter _ [c] = _
      by_cases h : 0 < c
      · rw [if_pos h, List.filter_cons_of_pos (by exact decide_eq_true h)]
        rfl
      · rw [if_neg h, List.filter_cons_of_neg (by rw [decide_eq_false h]; decide)]
        rfl
    refine ⟨trivial, _, rfl, _, _, rfl, rfl, _, rfl, ite2 (fun z => ?_) (fun z => ?_)⟩
    · have z : 0 < c := of_decide_eq_true z
      refine ⟨_, rfl, rfl, ?_⟩
      rw [et, if_pos z, List.map_append]
      rfl
    · have z : ¬ 0 < c := fun e => z (decide_eq_true e)
      refine ⟨rfl, ?_⟩
      rw [et, if_neg z, List.append_nil]
  rintro zs H' ⟨e, rfl⟩
  subst e
  show ∀ l, H' l = none → _
  rw [List.length_map, ← List.length_reverse (as := ys), List.take_length, due_is hyp hys hgp hgm]
  intro ld hld
  have s6 := same_upd (o := .lst (gs.map V.int)) hld
  have hd6 : (upd H' ld (.lst (gs.map V.int))) ld = some (.lst (gs.map V.int)) := upd_same
  have s46 := s5.trans s6
  have hne : q ≠ ld := fun e => by
    have := s5 _ _ hq
    rw [e, hld] at this
    cases this
  generalize upd H' ld (.lst (gs.map V.int)) = H6 at s6 hd6 s46 ⊢
  have hq6 := s46 _ _ hq
  have hm6 := hm4.mono s46
  have hp6 := s46 _ _ hp4
  have hpt6 := Paired.mapP hpt fun _ _ z => ToldAt.mono s46 z
  have hgl : gs.length = us.length := by rw [← hgs, List.length_map, Paired.length hpt]
  refine ⟨_, rfl, _, _, _, _, true, rfl, rfl, .lst hq6, rfl, _, rfl, iteF ?_⟩
  have el : (us.length : Int) = ((gs.map V.int).length : Nat) := by rw [List.length_map, hgl]
  refine ⟨_, rfl, q, us, rfl, .inl (SqL.of hq6), _, rfl, ld, _, rfl, .inl (SqL.of hd6), rfl, _, rfl, ite2 (fun c => absurd c (by rw [el, decide_eq_true rfl]; decide)) (fun _ => ?_)⟩
  refine ⟨_, rfl, ld, _, rfl, .inl (SqL.of hd6), _, rfl, by omega, by rw [List.length_map]; omega, ?_⟩
  rw [Int.toNat_natCast, List.length_map]
  refine for_range (lo := 0) (n := gs.length) (fun i σ H' => ∃ o7 : Option V, σ = [some (.ref a), some (.int (nn : Int)), some (.ref p), some (.int way), some (.ref am), some (.ref q), some (.ref ld), o7, none] ∧ Same H6 H') ⟨none, rfl, Same.refl _⟩ ?_ ?_
  · rintro i σ H7 hi ⟨o7, rfl, s7⟩
    have e0 : (0 : Int) + (i : Int) = ((i : Nat) : Int) := by omega
    have hiu : i < us.length := by omega
    obtain ⟨x, hx, qx, u, hux, hqx, htx⟩ := paired_get hpt6 i us[i] (List.getElem?_eq_getElem hiu)
    have atq : atI us ((0 : Int) + (i : Int)) = some (.ref qx) := by
      rw [e0]
      exact atI_nat (by rw [List.getElem?_eq_getElem hiu, hux])
    have egx : gs[i]? = some x.2 := by
      rw [← hgs, List.getElem?_map, hx]
      rfl
    have atd : atI (gs.map V.int) ((0 : Int) + (i : Int)) = some (.int x.2) := by
      rw [e0]
      exact atI_nat (by rw [List.getElem?_map, egx]; rfl)
    refine ⟨_, rfl, _, rfl, _, rfl, q, _, _, .ref qx, rfl, rfl, SqL.of (s7 _ _ hq6), atq, _, rfl, _, rfl, ld, _, _, .int x.2, rfl, rfl, SqL.of (s7 _ _ hd6), atd, am, p, r, qx, rs, u, x.2, names, x.1, rfl, hm6.mono s7, s7 _ _ hp6, h8, s7 _ _ hqx, htx.mono s7.tups, hok x (List.mem_of_getElem? hx), fun H8 s8 => ⟨_, rfl, iteF ?_⟩⟩
    exact ⟨_, rfl, s7.trans s8⟩
  rintro σ H7 ⟨o7, rfl, s7⟩
  have hq7 := s7 _ _ hq6
  have hd7 := s7 _ _ hd6
  have hm7 := hm6.mono s7
  have hp7 := s7 _ _ hp6
  have hpt7 := Paired.mapP hpt6 fun _ _ z => ToldAt.mono s7 z
  have hsm : ∀ x ∈ names, SmallS x := fun x hx => IsName.small (hN.nm x hx)
  have hall : ∀ x ∈ rs, 0 < x → ∃ y ∈ told, y.2 = x := fun x hx h0 => by
    have h := (hgm x).mpr ⟨hx, h0⟩
    rw [← hgs] at h
    obtain ⟨y, hy, e⟩ := List.mem_map.mp h
    exact ⟨y, hy, e⟩
  have em := marks_sent hrl hr0 hok hall
  refine ⟨_, rfl, _, rfl, q, us, rfl, .inl (SqL.of hq7), fun lh hlh => ?_⟩
  have u8 := same_upd (o := .lst us) hlh
  refine ⟨p, lh, names, us, told, rfl, u8 _ _ hp7, h8, hN.nd, upd_same, Paired.mapP hpt7 fun _ _ z => ToldAt.mono u8 z, fun x hx => ?_, fun am2 rm2 m2 H9 s9 hm2' hrm2 ham2 => ?_⟩
  · obtain ⟨z1, z2, z3, z4, _⟩ := hok x hx
    exact ⟨by omega, by omega, ⟨names, by omega, z4⟩, fun y hy => hsm y (z4 y hy), z4⟩
  rw [em] at hm2' hrm2
  obtain rfl : m2 = 0 := by
    have h1 := hr0 _ hm2'.1
    have h2 := hm2'.2 _ hz0
    omega
  have ers : rs.map (fun x => x - 0) = rs := by
    rw [show (fun x : Int => x - 0) = id from funext fun x => Int.sub_zero x, List.map_id]
  rw [ers] at hrm2
  have s79 := u8.trans s9
  have hm9 := hm7.mono s79
  refine ⟨_, rfl, _, rfl, am, _, 1, .ref r, rfl, rfl, SqT.of hm9.1, rfl, am2, p, r, rm2, names, rs, rfl, ham2, s79 _ _ hp7, hrm2, .inr hm9.2.1, h256, fun H10 s10 => ⟨_, rfl, iteF ?_⟩⟩
  have s710 := s79.trans s10
  have hq10 := s710 _ _ hq7
  have hd10 := s710 _ _ hd7
  have hm10 := hm7.mono s710
  have hp10 := s710 _ _ hp7
  refine ⟨_, rfl, .inl ⟨rfl, _, SqL.of hq10⟩, lk (by first | exact Nat.le_of_ble_eq_true rfl | simp), fun y1 hy1 => ⟨lk (by first | exact Nat.le_of_ble_eq_true rfl | simp), fun y2 hy2 => ?_⟩⟩
  have v1 := same_upd (o := .tup [.str "yes"]) hy1
  have v2 := same_upd (o := .tup [.ref y1, .int 1]) hy2
  have v12 := v1.trans v2
  have hq12 := v12 _ _ hq10
  have hd12 := v12 _ _ hd10
  have hm12 := hm10.mono v12
  have hp12 := v12 _ _ hp10
  generalize upd (upd H10 y1 (.tup [.str "yes"])) y2 (.tup [.ref y1, .int 1]) = H12 at v12 hq12 hd12 hm12 hp12 ⊢
  refine ⟨q, us, 0, .ref y2, rfl, rfl, hq12, by decide, by omega, by omega, ?_⟩
  have tne : ∀ {b : Addr} {xs : List V}, H12 b = some (.tup xs) → b ≠ q := fun {b xs} h e => by
    rw [e, hq12] at h
    cases h
  have up : ∀ {b : Addr} {xs : List V} {o}, H12 b = some (.tup xs) → (upd H12 q o) b = some (.tup xs) := fun {b xs o} h => by
    rw [upd_ne (tne h)]
    exact h
  have hd13 : (upd H12 q (.lst (us.take (0 : Int).toNat ++ [V.ref y2] ++ us.drop (0 : Int).toNat))) ld = some (.lst (gs.map V.int)) := by
    rw [upd_ne (Ne.symm hne)]
    exact hd12
  have hm13 : MindAt (upd H12 q (.lst (us.take (0 : Int).toNat ++ [V.ref y2] ++ us.drop (0 : Int).toNat))) am p r rs := ⟨up hm12.1, up hm12.2.1, hm12.2.2⟩
  have hp13 := up (o := .lst (us.take (0 : Int).toNat ++ [V.ref y2] ++ us.drop (0 : Int).toNat)) hp12
  generalize upd H12 q (.lst (us.take (0 : Int).toNat ++ [V.ref y2] ++ us.drop (0 : Int).toNat)) = H13 at hd13 hm13 hp13 ⊢
  refine ⟨_, rfl, am, p, r, names, rs, rfl, hm13, hp13, h8, hN.nd, hN.nm, hrl, hfew, fun q2 us2 told2 gs2 H14 s14 hq2 hl2 hpt2 hok2 hgs2 hgp2 hgm2 => ?_⟩
  have hd14 := s14 _ _ hd13
  have n1 : gs.Nodup := hgp.imp fun {a b} (h : a > b) => by show a ≠ b; omega
  have n2 : gs2.Nodup := hgp2.imp fun {a b} (h : a > b) => by show a ≠ b; omega
  have eg : gs2 = gs := ((List.perm_ext_iff_of_nodup n2 n1).mpr fun x => by rw [hgm x, hgm2 x]).eq_of_pairwise (le := fun a b => decide (a ≥ b)) (fun a b _ _ h1 h2 => by simp at h1 h2; omega) (hgp2.imp fun h => by simp; omega) (hgp.imp fun h => by simp; omega)
  subst eg
  refine ⟨_, rfl, _, _, _, _, true, rfl, rfl, .lst hq2, rfl, true, rfl, ?_⟩
  refine iteT ⟨_, rfl, q2, rfl, ⟨_, SqL.of hq2⟩, ?_⟩
  refine comp_list (K := K) (a := q2) (xs := us2) (fun i zs H' => H' = H14 ∧ zs = (gs2.take i).map V.int) ⟨rfl, rfl⟩ (lk (by omega)) (fun i zs H' ⟨_, e⟩ => by rw [e, List.length_map, List.length_take]; omega) (fun i zs H' ⟨e, _⟩ => by subst e; exact SqL.of hq2) ?_ ?_
  · rintro i z zs H' hi ⟨e, rfl⟩
    subst e
    obtain ⟨x, hx, qx, u, rfl, hqx, htx⟩ := paired_get hpt2 i z hi
    have egx : gs2[i]? = some x.2 := by
      rw [← hgs2, List.getElem?_map, hx]
      rfl
    refine ⟨trivial, _, rfl, qx, _, 1, .int x.2, rfl, rfl, SqT.of hqx, rfl, rfl, ?_⟩
    rw [List.take_add_one, egx, List.map_append]
    rfl
  rintro zs H' ⟨e, rfl⟩
  subst e
  have hl2' : gs2.length = us2.length := by rw [← hgs2, List.length_map, Paired.length hpt2]
  show ∀ l, H' l = none → _
  rw [← hl2', List.take_length]
  intro lz hlz
  refine ⟨_, rfl, lz, ld, _, _, rfl, rfl, SqL.of upd_same, SqL.of (same_upd hlz _ _ hd14), flat_ints _, flat_ints _, ?_⟩
  rw [eqL_self]
  exact k _
end
end K24

namespace K24
open PySem L2
theorem txt_mk {P : Program} {w : World} {K : PySem.W.Frag} {h : Heap} {mg : Str → Option Value} (X : K.In h) (G : h.Ns mainGlobals mg)
    {f0 : Addr} {od0 an0 : Option Addr} {sl0 : Array (Option Value)} {oc0 kV0 dc0 pm0 cd0 ct0 : Value}
    {f1 : Addr} {od1 an1 : Option Addr} {sl1 : Array (Option Value)} {oc1 kV1 dc1 pm1 cd1 ct1 : Value}
    {f2 : Addr} {od2 an2 : Option Addr} {sl2 : Array (Option Value)} {oc2 kV2 dc2 pm2 cd2 ct2 : Value}
    {f3 : Addr} {od3 an3 : Option Addr} {sl3 : Array (Option Value)} {oc3 kV3 dc3 pm3 cd3 ct3 : Value}
    {f4 : Addr} {od4 an4 : Option Addr} {sl4 : Array (Option Value)} {oc4 kV4 dc4 pm4 cd4 ct4 : Value}
    {f5 : Addr} {od5 an5 : Option Addr} {sl5 : Array (Option Value)} {oc5 kV5 dc5 pm5 cd5 ct5 : Value}
    {f6 : Addr} {od6 an6 : Option Addr} {sl6 : Array (Option Value)} {oc6 kV6 dc6 pm6 cd6 ct6 : Value}
    {f7 : Addr} {od7 an7 : Option Addr} {sl7 : Array (Option Value)} {oc7 kV7 dc7 pm7 cd7 ct7 : Value}
    {f8 : Addr} {od8 an8 : Option Addr} {sl8 : Array (Option Value)} {oc8 kV8 dc8 pm8 cd8 ct8 : Value}
    {f9 : Addr} {od9 an9 : Option Addr} {sl9 : Array (Option Value)} {oc9 kV9 dc9 pm9 cd9 ct9 : Value}
    {f10 : Addr} {od10 an10 : Option Addr} {sl10 : Array (Option Value)} {oc10 kV10 dc10 pm10 cd10 ct10 : Value}
    {f11 : Addr} {od11 an11 : Option Addr} {sl11 : Array (Option Value)} {oc11 kV11 dc11 pm11 cd11 ct11 : Value}
    {f12 : Addr} {od12 an12 : Option Addr} {sl12 : Array (Option Value)} {oc12 kV12 dc12 pm12 cd12 ct12 : Value}
    {f13 : Addr} {od13 an13 : Option Addr} {sl13 : Array (Option Value)} {oc13 kV13 dc13 pm13 cd13 ct13 : Value}
    {f14 : Addr} {od14 an14 : Option Addr} {sl14 : Array (Option Value)} {oc14 kV14 dc14 pm14 cd14 ct14 : Value}
    {f15 : Addr} {od15 an15 : Option Addr} {sl15 : Array (Option Value)} {oc15 kV15 dc15 pm15 cd15 ct15 : Value}
    {f16 : Addr} {od16 an16 : Option Addr} {sl16 : Array (Option Value)} {oc16 kV16 dc16 pm16 cd16 ct16 : Value}
    {f17 : Addr} {od17 an17 : Option Addr} {sl17 : Array (Option Value)} {oc17 kV17 dc17 pm17 cd17 ct17 : Value}
    {f18 : Addr} {od18 an18 : Option Addr} {sl18 : Array (Option Value)} {oc18 kV18 dc18 pm18 cd18 ct18 : Value}
    {f19 : Addr} {od19 an19 : Option Addr} {sl19 : Array (Option Value)} {oc19 kV19 dc19 pm19 cd19 ct19 : Value}
    {f20 : Addr} {od20 an20 : Option Addr} {sl20 : Array (Option Value)} {oc20 kV20 dc20 pm20 cd20 ct20 : Value}
    {f21 : Addr} {od21 an21 : Option Addr} {sl21 : Array (Option Value)} {oc21 kV21 dc21 pm21 cd21 ct21 : Value}
    {f22 : Addr} {od22 an22 : Option Addr} {sl22 : Array (Option Value)} {oc22 kV22 dc22 pm22 cd22 ct22 : Value}
    {f23 : Addr} {od23 an23 : Option Addr} {sl23 : Array (Option Value)} {oc23 kV23 dc23 pm23 cd23 ct23 : Value}
    {f24 : Addr} {od24 an24 : Option Addr} {sl24 : Array (Option Value)} {oc24 kV24 dc24 pm24 cd24 ct24 : Value}
    {f25 : Addr} {od25 an25 : Option Addr} {sl25 : Array (Option Value)} {oc25 kV25 dc25 pm25 cd25 ct25 : Value}
    {f26 : Addr} {od26 an26 : Option Addr} {sl26 : Array (Option Value)} {oc26 kV26 dc26 pm26 cd26 ct26 : Value}
    {f27 : Addr} {od27 an27 : Option Addr} {sl27 : Array (Option Value)} {oc27 kV27 dc27 pm27 cd27 ct27 : Value}
    {f28 : Addr} {od28 an28 : Option Addr} {sl28 : Array (Option Value)} {oc28 kV28 dc28 pm28 cd28 ct28 : Value}
    {f29 : Addr} {od29 an29 : Option Addr} {sl29 : Array (Option Value)} {oc29 kV29 dc29 pm29 cd29 ct29 : Value}
    {f30 : Addr} {od30 an30 : Option Addr} {sl30 : Array (Option Value)} {oc30 kV30 dc30 pm30 cd30 ct30 : Value}
    {f31 : Addr} {od31 an31 : Option Addr} {sl31 : Array (Option Value)} {oc31 kV31 dc31 pm31 cd31 ct31 : Value}
    {c_MindError : Addr}
    {c_NoName : Addr}
    (n_MindError : PySem.W.nsIn K mainGlobals "MindError" = some (some (.ref c_MindError)))
    (n_NoName : PySem.W.nsIn K mainGlobals "NoName" = some (some (.ref c_NoName)))
    (a0 : PySem.W.nsIn K mainGlobals "parts_of" = some (some (.ref f0)))
    (l0 : K.lookup f0 = some ⟨oc0, od0, .func (PySem.W.fnOf "parts_of" "parts_of" (defArgs s_parts_of) (defBody s_parts_of) (defScope s_parts_of) .none kV0 dc0 pm0 an0 cd0 ct0), sl0⟩)
    (c0 : PySem.W.codeIn K cd0 "parts_of" = true)
    (k0 : PySem.W.keepIn K (.ref f0) = true)
    (a1 : PySem.W.nsIn K mainGlobals "layer_below" = some (some (.ref f1)))
    (l1 : K.lookup f1 = some ⟨oc1, od1, .func (PySem.W.fnOf "layer_below" "layer_below" (defArgs s_layer_below) (defBody s_layer_below) (defScope s_layer_below) .none kV1 dc1 pm1 an1 cd1 ct1), sl1⟩)
    (c1 : PySem.W.codeIn K cd1 "layer_below" = true)
    (k1 : PySem.W.keepIn K (.ref f1) = true)
    (a2 : PySem.W.nsIn K mainGlobals "names_in" = some (some (.ref f2)))
    (l2 : K.lookup f2 = some ⟨oc2, od2, .func (PySem.W.fnOf "names_in" "names_in" (defArgs s_names_in) (defBody s_names_in) (defScope s_names_in) .none kV2 dc2 pm2 an2 cd2 ct2), sl2⟩)
    (c2 : PySem.W.codeIn K cd2 "names_in" = true)
    (k2 : PySem.W.keepIn K (.ref f2) = true)
    (a3 : PySem.W.nsIn K mainGlobals "bit_at" = some (some (.ref f3)))
    (l3 : K.lookup f3 = some ⟨oc3, od3, .func (PySem.W.fnOf "bit_at" "bit_at" (defArgs s_bit_at) (defBody s_bit_at) (defScope s_bit_at) .none kV3 dc3 pm3 an3 cd3 ct3), sl3⟩)
    (c3 : PySem.W.codeIn K cd3 "bit_at" = true)
    (k3 : PySem.W.keepIn K (.ref f3) = true)
    (a4 : PySem.W.nsIn K mainGlobals "need_names" = some (some (.ref f4)))
    (l4 : K.lookup f4 = some ⟨oc4, od4, .func (PySem.W.fnOf "need_names" "need_names" (defArgs s_need_names) (defBody s_need_names) (defScope s_need_names) .none kV4 dc4 pm4 an4 cd4 ct4), sl4⟩)
    (c4 : PySem.W.codeIn K cd4 "need_names" = true)
    (k4 : PySem.W.keepIn K (.ref f4) = true)
    (a5 : PySem.W.nsIn K mainGlobals "sides" = some (some (.ref f5)))
    (l5 : K.lookup f5 = some ⟨oc5, od5, .func (PySem.W.fnOf "sides" "sides" (defArgs s_sides) (defBody s_sides) (defScope s_sides) .none kV5 dc5 pm5 an5 cd5 ct5), sl5⟩)
    (c5 : PySem.W.codeIn K cd5 "sides" = true)
    (k5 : PySem.W.keepIn K (.ref f5) = true)
    (a6 : PySem.W.nsIn K mainGlobals "turned_about" = some (some (.ref f6)))
    (l6 : K.lookup f6 = some ⟨oc6, od6, .func (PySem.W.fnOf "turned_about" "turned_about" (defArgs s_turned_about) (defBody s_turned_about) (defScope s_turned_about) .none kV6 dc6 pm6 an6 cd6 ct6), sl6⟩)
    (c6 : PySem.W.codeIn K cd6 "turned_about" = true)
    (k6 : PySem.W.keepIn K (.ref f6) = true)
    (a7 : PySem.W.nsIn K mainGlobals "joined" = some (some (.ref f7)))
    (l7 : K.lookup f7 = some ⟨oc7, od7, .func (PySem.W.fnOf "joined" "joined" (defArgs s_joined) (defBody s_joined) (defScope s_joined) .none kV7 dc7 pm7 an7 cd7 ct7), sl7⟩)
    (c7 : PySem.W.codeIn K cd7 "joined" = true)
    (k7 : PySem.W.keepIn K (.ref f7) = true)
    (a8 : PySem.W.nsIn K mainGlobals "full" = some (some (.ref f8)))
    (l8 : K.lookup f8 = some ⟨oc8, od8, .func (PySem.W.fnOf "full" "full" (defArgs s_full) (defBody s_full) (defScope s_full) .none kV8 dc8 pm8 an8 cd8 ct8), sl8⟩)
    (c8 : PySem.W.codeIn K cd8 "full" = true)
    (k8 : PySem.W.keepIn K (.ref f8) = true)
    (a9 : PySem.W.nsIn K mainGlobals "worlds_with" = some (some (.ref f9)))
    (l9 : K.lookup f9 = some ⟨oc9, od9, .func (PySem.W.fnOf "worlds_with" "worlds_with" (defArgs s_worlds_with) (defBody s_worlds_with) (defScope s_worlds_with) .none kV9 dc9 pm9 an9 cd9 ct9), sl9⟩)
    (c9 : PySem.W.codeIn K cd9 "worlds_with" = true)
    (k9 : PySem.W.keepIn K (.ref f9) = true)
    (a10 : PySem.W.nsIn K mainGlobals "sides_of_names" = some (some (.ref f10)))
    (l10 : K.lookup f10 = some ⟨oc10, od10, .func (PySem.W.fnOf "sides_of_names" "sides_of_names" (defArgs s_sides_of_names) (defBody s_sides_of_names) (defScope s_sides_of_names) .none kV10 dc10 pm10 an10 cd10 ct10), sl10⟩)
    (c10 : PySem.W.codeIn K cd10 "sides_of_names" = true)
    (k10 : PySem.W.keepIn K (.ref f10) = true)
    (a11 : PySem.W.nsIn K mainGlobals "table" = some (some (.ref f11)))
    (l11 : K.lookup f11 = some ⟨oc11, od11, .func (PySem.W.fnOf "table" "table" (defArgs s_table) (defBody s_table) (defScope s_table) .none kV11 dc11 pm11 an11 cd11 ct11), sl11⟩)
    (c11 : PySem.W.codeIn K cd11 "table" = true)
    (k11 : PySem.W.keepIn K (.ref f11) = true)
    (a12 : PySem.W.nsIn K mainGlobals "breaking" = some (some (.ref f12)))
    (l12 : K.lookup f12 = some ⟨oc12, od12, .func (PySem.W.fnOf "breaking" "breaking" (defArgs s_breaking) (defBody s_breaking) (defScope s_breaking) .none kV12 dc12 pm12 an12 cd12 ct12), sl12⟩)
    (c12 : PySem.W.codeIn K cd12 "breaking" = true)
    (k12 : PySem.W.keepIn K (.ref f12) = true)
    (a13 : PySem.W.nsIn K mainGlobals "greatest_first" = some (some (.ref f13)))
    (l13 : K.lookup f13 = some ⟨oc13, od13, .func (PySem.W.fnOf "greatest_first" "greatest_first" (defArgs s_greatest_first) (defBody s_greatest_first) (defScope s_greatest_first) .none kV13 dc13 pm13 an13 cd13 ct13), sl13⟩)
    (c13 : PySem.W.codeIn K cd13 "greatest_first" = true)
    (k13 : PySem.W.keepIn K (.ref f13) = true)
    (a14 : PySem.W.nsIn K mainGlobals "less_the_least" = some (some (.ref f14)))
    (l14 : K.lookup f14 = some ⟨oc14, od14, .func (PySem.W.fnOf "less_the_least" "less_the_least" (defArgs s_less_the_least) (defBody s_less_the_least) (defScope s_less_the_least) .none kV14 dc14 pm14 an14 cd14 ct14), sl14⟩)
    (c14 : PySem.W.codeIn K cd14 "less_the_least" = true)
    (k14 : PySem.W.keepIn K (.ref f14) = true)
    (a15 : PySem.W.nsIn K mainGlobals "marked" = some (some (.ref f15)))
    (l15 : K.lookup f15 = some ⟨oc15, od15, .func (PySem.W.fnOf "marked" "marked" (defArgs s_marked) (defBody s_marked) (defScope s_marked) .none kV15 dc15 pm15 an15 cd15 ct15), sl15⟩)
    (c15 : PySem.W.codeIn K cd15 "marked" = true)
    (k15 : PySem.W.keepIn K (.ref f15) = true)
    (a16 : PySem.W.nsIn K mainGlobals "mind_of" = some (some (.ref f16)))
    (l16 : K.lookup f16 = some ⟨oc16, od16, .func (PySem.W.fnOf "mind_of" "mind_of" (defArgs s_mind_of) (defBody s_mind_of) (defScope s_mind_of) .none kV16 dc16 pm16 an16 cd16 ct16), sl16⟩)
    (c16 : PySem.W.codeIn K cd16 "mind_of" = true)
    (k16 : PySem.W.keepIn K (.ref f16) = true)
    (a17 : PySem.W.nsIn K mainGlobals "chosen" = some (some (.ref f17)))
    (l17 : K.lookup f17 = some ⟨oc17, od17, .func (PySem.W.fnOf "chosen" "chosen" (defArgs s_chosen) (defBody s_chosen) (defScope s_chosen) .none kV17 dc17 pm17 an17 cd17 ct17), sl17⟩)
    (c17 : PySem.W.codeIn K cd17 "chosen" = true)
    (k17 : PySem.W.keepIn K (.ref f17) = true)
    (a18 : PySem.W.nsIn K mainGlobals "tree_of" = some (some (.ref f18)))
    (l18 : K.lookup f18 = some ⟨oc18, od18, .func (PySem.W.fnOf "tree_of" "tree_of" (defArgs s_tree_of) (defBody s_tree_of) (defScope s_tree_of) .none kV18 dc18 pm18 an18 cd18 ct18), sl18⟩)
    (c18 : PySem.W.codeIn K cd18 "tree_of" = true)
    (k18 : PySem.W.keepIn K (.ref f18) = true)
    (a19 : PySem.W.nsIn K mainGlobals "worlds_below" = some (some (.ref f19)))
    (l19 : K.lookup f19 = some ⟨oc19, od19, .func (PySem.W.fnOf "worlds_below" "worlds_below" (defArgs s_worlds_below) (defBody s_worlds_below) (defScope s_worlds_below) .none kV19 dc19 pm19 an19 cd19 ct19), sl19⟩)
    (c19 : PySem.W.codeIn K cd19 "worlds_below" = true)
    (k19 : PySem.W.keepIn K (.ref f19) = true)
    (a20 : PySem.W.nsIn K mainGlobals "sentences_of" = some (some (.ref f20)))
    (l20 : K.lookup f20 = some ⟨oc20, od20, .func (PySem.W.fnOf "sentences_of" "sentences_of" (defArgs s_sentences_of) (defBody s_sentences_of) (defScope s_sentences_of) .none kV20 dc20 pm20 an20 cd20 ct20), sl20⟩)
    (c20 : PySem.W.codeIn K cd20 "sentences_of" = true)
    (k20 : PySem.W.keepIn K (.ref f20) = true)
    (a21 : PySem.W.nsIn K mainGlobals "_law_cell_at" = some (some (.ref f21)))
    (l21 : K.lookup f21 = some ⟨oc21, od21, .func (PySem.W.fnOf "_law_cell_at" "_law_cell_at" (defArgs s__law_cell_at) (defBody s__law_cell_at) (defScope s__law_cell_at) .none kV21 dc21 pm21 an21 cd21 ct21), sl21⟩)
    (c21 : PySem.W.codeIn K cd21 "_law_cell_at" = true)
    (k21 : PySem.W.keepIn K (.ref f21) = true)
    (a22 : PySem.W.nsIn K mainGlobals "_law_whole" = some (some (.ref f22)))
    (l22 : K.lookup f22 = some ⟨oc22, od22, .func (PySem.W.fnOf "_law_whole" "_law_whole" (defArgs s__law_whole) (defBody s__law_whole) (defScope s__law_whole) .none kV22 dc22 pm22 an22 cd22 ct22), sl22⟩)
    (c22 : PySem.W.codeIn K cd22 "_law_whole" = true)
    (k22 : PySem.W.keepIn K (.ref f22) = true)
    (a23 : PySem.W.nsIn K mainGlobals "_law_names_by" = some (some (.ref f23)))
    (l23 : K.lookup f23 = some ⟨oc23, od23, .func (PySem.W.fnOf "_law_names_by" "_law_names_by" (defArgs s__law_names_by) (defBody s__law_names_by) (defScope s__law_names_by) .none kV23 dc23 pm23 an23 cd23 ct23), sl23⟩)
    (c23 : PySem.W.codeIn K cd23 "_law_names_by" = true)
    (k23 : PySem.W.keepIn K (.ref f23) = true)
    (a24 : PySem.W.nsIn K mainGlobals "_law_many" = some (some (.ref f24)))
    (l24 : K.lookup f24 = some ⟨oc24, od24, .func (PySem.W.fnOf "_law_many" "_law_many" (defArgs s__law_many) (defBody s__law_many) (defScope s__law_many) .none kV24 dc24 pm24 an24 cd24 ct24), sl24⟩)
    (c24 : PySem.W.codeIn K cd24 "_law_many" = true)
    (k24 : PySem.W.keepIn K (.ref f24) = true)
    (a25 : PySem.W.nsIn K mainGlobals "_law_column" = some (some (.ref f25)))
    (l25 : K.lookup f25 = some ⟨oc25, od25, .func (PySem.W.fnOf "_law_column" "_law_column" (defArgs s__law_column) (defBody s__law_column) (defScope s__law_column) .none kV25 dc25 pm25 an25 cd25 ct25), sl25⟩)
    (c25 : PySem.W.codeIn K cd25 "_law_column" = true)
    (k25 : PySem.W.keepIn K (.ref f25) = true)
    (a26 : PySem.W.nsIn K mainGlobals "_law_table" = some (some (.ref f26)))
    (l26 : K.lookup f26 = some ⟨oc26, od26, .func (PySem.W.fnOf "_law_table" "_law_table" (defArgs s__law_table) (defBody s__law_table) (defScope s__law_table) .none kV26 dc26 pm26 an26 cd26 ct26), sl26⟩)
    (c26 : PySem.W.codeIn K cd26 "_law_table" = true)
    (k26 : PySem.W.keepIn K (.ref f26) = true)
    (a27 : PySem.W.nsIn K mainGlobals "_law_mind_by" = some (some (.ref f27)))
    (l27 : K.lookup f27 = some ⟨oc27, od27, .func (PySem.W.fnOf "_law_mind_by" "_law_mind_by" (defArgs s__law_mind_by) (defBody s__law_mind_by) (defScope s__law_mind_by) .none kV27 dc27 pm27 an27 cd27 ct27), sl27⟩)
    (c27 : PySem.W.codeIn K cd27 "_law_mind_by" = true)
    (k27 : PySem.W.keepIn K (.ref f27) = true)
    (a28 : PySem.W.nsIn K mainGlobals "_law_is_mind" = some (some (.ref f28)))
    (l28 : K.lookup f28 = some ⟨oc28, od28, .func (PySem.W.fnOf "_law_is_mind" "_law_is_mind" (defArgs s__law_is_mind) (defBody s__law_is_mind) (defScope s__law_is_mind) .none kV28 dc28 pm28 an28 cd28 ct28), sl28⟩)
    (c28 : PySem.W.codeIn K cd28 "_law_is_mind" = true)
    (k28 : PySem.W.keepIn K (.ref f28) = true)
    (a29 : PySem.W.nsIn K mainGlobals "_law_parts" = some (some (.ref f29)))
    (l29 : K.lookup f29 = some ⟨oc29, od29, .func (PySem.W.fnOf "_law_parts" "_law_parts" (defArgs s__law_parts) (defBody s__law_parts) (defScope s__law_parts) .none kV29 dc29 pm29 an29 cd29 ct29), sl29⟩)
    (c29 : PySem.W.codeIn K cd29 "_law_parts" = true)
    (k29 : PySem.W.keepIn K (.ref f29) = true)
    (a30 : PySem.W.nsIn K mainGlobals "_law_pair_fits" = some (some (.ref f30)))
    (l30 : K.lookup f30 = some ⟨oc30, od30, .func (PySem.W.fnOf "_law_pair_fits" "_law_pair_fits" (defArgs s__law_pair_fits) (defBody s__law_pair_fits) (defScope s__law_pair_fits) .none kV30 dc30 pm30 an30 cd30 ct30), sl30⟩)
    (c30 : PySem.W.codeIn K cd30 "_law_pair_fits" = true)
    (k30 : PySem.W.keepIn K (.ref f30) = true)
    (a31 : PySem.W.nsIn K mainGlobals "law" = some (some (.ref f31)))
    (l31 : K.lookup f31 = some ⟨oc31, od31, .func (PySem.W.fnOf "law" "law" (defArgs s_law) (defBody s_law) (defScope s_law) .none kV31 dc31 pm31 an31 cd31 ct31), sl31⟩)
    (c31 : PySem.W.codeIn K cd31 "law" = true)
    (k31 : PySem.W.keepIn K (.ref f31) = true)
    (hn : PySem.W.specialIn K (.builtin "object.__class__") "__get__" = some (some (.builtin "getset_descriptor.__get__")))
    (ht : PySem.W.takesIn K (.builtin "object.__class__") = some true)
    (h_MindError : catches K c_MindError = true)
    (xg_NoName : PySem.W.findIn K (.ref c_NoName) "__getattribute__" = some (some (.builtin "BaseException.__getattribute__")))
    (xh_NoName : PySem.W.findIn K (.ref c_NoName) "__getattr__" = some none)
    (xa_NoName : PySem.W.findIn K (.ref c_NoName) "__class__" = some (some (.builtin "object.__class__")))
    (xm_NoName : PySem.W.mroIn K c_NoName (.type "object") = some true)
    (xB_NoName : PySem.W.mroIn K c_NoName (.type "BaseException") = some true)
    (xd_NoName : PySem.W.hasDictIn K c_NoName = true)
    (u_NoName : under K c_NoName c_MindError = true)
    (e_NoName : PySem.W.excIn K c_NoName bmV "ValueError.__new__" = true)
    (z_ValueError : PySem.W.nsIn K mainGlobals "ValueError" = some none)
    (z_list : PySem.W.nsIn K mainGlobals "list" = some none)
    (z_sorted : PySem.W.nsIn K mainGlobals "sorted" = some none)
    (z_sum : PySem.W.nsIn K mainGlobals "sum" = some none)
    (z_enumerate : PySem.W.nsIn K mainGlobals "enumerate" = some none)
    (z_min : PySem.W.nsIn K mainGlobals "min" = some none)
    (z_tuple : PySem.W.nsIn K mainGlobals "tuple" = some none)
    (z_range : PySem.W.nsIn K mainGlobals "range" = some none)
    (z_all : PySem.W.nsIn K mainGlobals "all" = some none)
    (z_len : PySem.W.nsIn K mainGlobals "len" = some none)
    (z_isinstance : PySem.W.nsIn K mainGlobals "isinstance" = some none)
    (z_int : PySem.W.nsIn K mainGlobals "int" = some none)
    (z_max : PySem.W.nsIn K mainGlobals "max" = some none)
    (z_bool : PySem.W.nsIn K mainGlobals "bool" = some none)
    (z_str : PySem.W.nsIn K mainGlobals "str" = some none)
    (z_reversed : PySem.W.nsIn K mainGlobals "reversed" = some none)
    (z_set : PySem.W.nsIn K mainGlobals "set" = some none) : ∃ t : Adr, Txt P w K mg t := by
  have F0 := fun_mk (st := s_parts_of) l0 c0 k0
  have b0 := F0.binds (ps := ["tree"]) fun _ _ _ _ _ _ => L2.us1 fun _ => rfl
  have F1 := fun_mk (st := s_layer_below) l1 c1 k1
  have b1 := F1.binds (ps := ["layer"]) fun _ _ _ _ _ _ => L2.us1 fun _ => rfl
  have F2 := fun_mk (st := s_names_in) l2 c2 k2
  have b2 := F2.binds (ps := ["tree"]) fun _ _ _ _ _ _ => L2.us1 fun _ => rfl
  have F3 := fun_mk (st := s_bit_at) l3 c3 k3
  have b3 := F3.binds (ps := ["number", "place"]) fun _ _ _ _ _ _ => L2.us2 fun _ _ => rfl
  have F4 := fun_mk (st := s_need_names) l4 c4 k4
  have b4 := F4.binds (ps := ["names", "tree"]) fun _ _ _ _ _ _ => L2.us2 fun _ _ => rfl
  have F5 := fun_mk (st := s_sides) l5 c5 k5
  have b5 := F5.binds (ps := ["tree", "of_names", "every"]) fun _ _ _ _ _ _ => L2.us3 fun _ _ _ => rfl
  have F6 := fun_mk (st := s_turned_about) l6 c6 k6
  have b6 := F6.binds (ps := ["side"]) fun _ _ _ _ _ _ => L2.us1 fun _ => rfl
  have F7 := fun_mk (st := s_joined) l7 c7 k7
  have b7 := F7.binds (ps := ["kind", "left", "right"]) fun _ _ _ _ _ _ => L2.us3 fun _ _ _ => rfl
  have F8 := fun_mk (st := s_full) l8 c8 k8
  have b8 := F8.binds (ps := ["names"]) fun _ _ _ _ _ _ => L2.us1 fun _ => rfl
  have F9 := fun_mk (st := s_worlds_with) l9 c9 k9
  have b9 := F9.binds (ps := ["names", "place"]) fun _ _ _ _ _ _ => L2.us2 fun _ _ => rfl
  have F10 := fun_mk (st := s_sides_of_names) l10 c10 k10
  have b10 := F10.binds (ps := ["names", "known_ones"]) fun _ _ _ _ _ _ => L2.us2 fun _ _ => rfl
  have F11 := fun_mk (st := s_table) l11 c11 k11
  have b11 := F11.binds (ps := ["names", "tree"]) fun _ _ _ _ _ _ => L2.us2 fun _ _ => rfl
  have F12 := fun_mk (st := s_breaking) l12 c12 k12
  have b12 := F12.binds (ps := ["names", "tree"]) fun _ _ _ _ _ _ => L2.us2 fun _ _ => rfl
  have F13 := fun_mk (st := s_greatest_first) l13 c13 k13
  have b13 := F13.binds (ps := ["ranks"]) fun _ _ _ _ _ _ => L2.us1 fun _ => rfl
  have F14 := fun_mk (st := s_less_the_least) l14 c14 k14
  have b14 := F14.binds (ps := ["marks"]) fun _ _ _ _ _ _ => L2.us1 fun _ => rfl
  have F15 := fun_mk (st := s_marked) l15 c15 k15
  have b15 := F15.binds (ps := ["marks", "worlds", "rank"]) fun _ _ _ _ _ _ => L2.us3 fun _ _ _ => rfl
  have F16 := fun_mk (st := s_mind_of) l16 c16 k16
  have b16 := F16.binds (ps := ["names", "told"]) fun _ _ _ _ _ _ => L2.us2 fun _ _ => rfl
  have F17 := fun_mk (st := s_chosen) l17 c17 k17
  have b17 := F17.binds (ps := ["name", "with_0", "with_1"]) fun _ _ _ _ _ _ => L2.us3 fun _ _ _ => rfl
  have F18 := fun_mk (st := s_tree_of) l18 c18 k18
  have b18 := F18.binds (ps := ["names", "table"]) fun _ _ _ _ _ _ => L2.us2 fun _ _ => rfl
  have F19 := fun_mk (st := s_worlds_below) l19 c19 k19
  have b19 := F19.binds (ps := ["ranks", "rank"]) fun _ _ _ _ _ _ => L2.us2 fun _ _ => rfl
  have F20 := fun_mk (st := s_sentences_of) l20 c20 k20
  have b20 := F20.binds (ps := ["mind"]) fun _ _ _ _ _ _ => L2.us1 fun _ => rfl
  have F21 := fun_mk (st := s__law_cell_at) l21 c21 k21
  have b21 := F21.binds (ps := ["_law_script", "_law_k"]) fun _ _ _ _ _ _ => L2.us2 fun _ _ => rfl
  have F22 := fun_mk (st := s__law_whole) l22 c22 k22
  have b22 := F22.binds (ps := ["_law_found"]) fun _ _ _ _ _ _ => L2.us1 fun _ => rfl
  have F23 := fun_mk (st := s__law_names_by) l23 c23 k23
  have b23 := F23.binds (ps := ["_law_cell", "_law_many_here"]) fun _ _ _ _ _ _ => L2.us2 fun _ _ => rfl
  have F24 := fun_mk (st := s__law_many) l24 c24 k24
  have b24 := F24.binds (ps := ["_law_cell"]) fun _ _ _ _ _ _ => L2.us1 fun _ => rfl
  have F25 := fun_mk (st := s__law_column) l25 c25 k25
  have b25 := F25.binds (ps := ["_law_n", "_law_k"]) fun _ _ _ _ _ _ => L2.us2 fun _ _ => rfl
  have F26 := fun_mk (st := s__law_table) l26 c26 k26
  have b26 := F26.binds (ps := ["_law_names", "_law_tree"]) fun _ _ _ _ _ _ => L2.us2 fun _ _ => rfl
  have F27 := fun_mk (st := s__law_mind_by) l27 c27 k27
  have b27 := F27.binds (ps := ["_law_names", "_law_cells", "_law_way"]) fun _ _ _ _ _ _ => L2.us3 fun _ _ _ => rfl
  have F28 := fun_mk (st := s__law_is_mind) l28 c28 k28
  have b28 := F28.binds (ps := ["_law_found", "_law_names", "_law_ranks"]) fun _ _ _ _ _ _ => L2.us3 fun _ _ _ => rfl
  have F29 := fun_mk (st := s__law_parts) l29 c29 k29
  have b29 := F29.binds (ps := ["_law_names", "_law_tree", "_law_deep"]) fun _ _ _ _ _ _ => L2.us3 fun _ _ _ => rfl
  have F30 := fun_mk (st := s__law_pair_fits) l30 c30 k30
  have b30 := F30.binds (ps := ["_law_mind", "_law_pair", "_law_rank"]) fun _ _ _ _ _ _ => L2.us3 fun _ _ _ => rfl
  have F31 := fun_mk (st := s_law) l31 c31 k31
  have b31 := F31.binds (ps := ["_law_script"]) fun _ _ _ _ _ _ => L2.us1 fun _ => rfl
  exact ⟨⟨f0, PySem.W.fnOf "parts_of" "parts_of" (defArgs s_parts_of) (defBody s_parts_of) (defScope s_parts_of) .none kV0 dc0 pm0 an0 cd0 ct0, f1, PySem.W.fnOf "layer_below" "layer_below" (defArgs s_layer_below) (defBody s_layer_below) (defScope s_layer_below) .none kV1 dc1 pm1 an1 cd1 ct1, f2, PySem.W.fnOf "names_in" "names_in" (defArgs s_names_in) (defBody s_names_in) (defScope s_names_in) .none kV2 dc2 pm2 an2 cd2 ct2, f3, PySem.W.fnOf "bit_at" "bit_at" (defArgs s_bit_at) (defBody s_bit_at) (defScope s_bit_at) .none kV3 dc3 pm3 an3 cd3 ct3, f4, PySem.W.fnOf "need_names" "need_names" (defArgs s_need_names) (defBody s_need_names) (defScope s_need_names) .none kV4 dc4 pm4 an4 cd4 ct4, f5, PySem.W.fnOf "sides" "sides" (defArgs s_sides) (defBody s_sides) (defScope s_sides) .none kV5 dc5 pm5 an5 cd5 ct5, f6, PySem.W.fnOf "turned_about" "turned_about" (defArgs s_turned_about) (defBody s_turned_about) (defScope s_turned_about) .none kV6 dc6 pm6 an6 cd6 ct6, f7, PySem.W.fnOf "joined" "joined" (defArgs s_joined) (defBody s_joined) (defScope s_joined) .none kV7 dc7 pm7 an7 cd7 ct7, f8, PySem.W.fnOf "full" "full" (defArgs s_full) (defBody s_full) (defScope s_full) .none kV8 dc8 pm8 an8 cd8 ct8, f9, PySem.W.fnOf "worlds_with" "worlds_with" (defArgs s_worlds_with) (defBody s_worlds_with) (defScope s_worlds_with) .none kV9 dc9 pm9 an9 cd9 ct9, f10, PySem.W.fnOf "sides_of_names" "sides_of_names" (defArgs s_sides_of_names) (defBody s_sides_of_names) (defScope s_sides_of_names) .none kV10 dc10 pm10 an10 cd10 ct10, f11, PySem.W.fnOf "table" "table" (defArgs s_table) (defBody s_table) (defScope s_table) .none kV11 dc11 pm11 an11 cd11 ct11, f12, PySem.W.fnOf "breaking" "breaking" (defArgs s_breaking) (defBody s_breaking) (defScope s_breaking) .none kV12 dc12 pm12 an12 cd12 ct12, f13, PySem.W.fnOf "greatest_first" "greatest_first" (defArgs s_greatest_first) (defBody s_greatest_first) (defScope s_greatest_first) .none kV13 dc13 pm13 an13 cd13 ct13, f14, PySem.W.fnOf "less_the_least" "less_the_least" (defArgs s_less_the_least) (defBody s_less_the_least) (defScope s_less_the_least) .none kV14 dc14 pm14 an14 cd14 ct14, f15, PySem.W.fnOf "marked" "marked" (defArgs s_marked) (defBody s_marked) (defScope s_marked) .none kV15 dc15 pm15 an15 cd15 ct15, f16, PySem.W.fnOf "mind_of" "mind_of" (defArgs s_mind_of) (defBody s_mind_of) (defScope s_mind_of) .none kV16 dc16 pm16 an16 cd16 ct16, f17, PySem.W.fnOf "chosen" "chosen" (defArgs s_chosen) (defBody s_chosen) (defScope s_chosen) .none kV17 dc17 pm17 an17 cd17 ct17, f18, PySem.W.fnOf "tree_of" "tree_of" (defArgs s_tree_of) (defBody s_tree_of) (defScope s_tree_of) .none kV18 dc18 pm18 an18 cd18 ct18, f19, PySem.W.fnOf "worlds_below" "worlds_below" (defArgs s_worlds_below) (defBody s_worlds_below) (defScope s_worlds_below) .none kV19 dc19 pm19 an19 cd19 ct19, f20, PySem.W.fnOf "sentences_of" "sentences_of" (defArgs s_sentences_of) (defBody s_sentences_of) (defScope s_sentences_of) .none kV20 dc20 pm20 an20 cd20 ct20, f21, PySem.W.fnOf "_law_cell_at" "_law_cell_at" (defArgs s__law_cell_at) (defBody s__law_cell_at) (defScope s__law_cell_at) .none kV21 dc21 pm21 an21 cd21 ct21, f22, PySem.W.fnOf "_law_whole" "_law_whole" (defArgs s__law_whole) (defBody s__law_whole) (defScope s__law_whole) .none kV22 dc22 pm22 an22 cd22 ct22, f23, PySem.W.fnOf "_law_names_by" "_law_names_by" (defArgs s__law_names_by) (defBody s__law_names_by) (defScope s__law_names_by) .none kV23 dc23 pm23 an23 cd23 ct23, f24, PySem.W.fnOf "_law_many" "_law_many" (defArgs s__law_many) (defBody s__law_many) (defScope s__law_many) .none kV24 dc24 pm24 an24 cd24 ct24, f25, PySem.W.fnOf "_law_column" "_law_column" (defArgs s__law_column) (defBody s__law_column) (defScope s__law_column) .none kV25 dc25 pm25 an25 cd25 ct25, f26, PySem.W.fnOf "_law_table" "_law_table" (defArgs s__law_table) (defBody s__law_table) (defScope s__law_table) .none kV26 dc26 pm26 an26 cd26 ct26, f27, PySem.W.fnOf "_law_mind_by" "_law_mind_by" (defArgs s__law_mind_by) (defBody s__law_mind_by) (defScope s__law_mind_by) .none kV27 dc27 pm27 an27 cd27 ct27, f28, PySem.W.fnOf "_law_is_mind" "_law_is_mind" (defArgs s__law_is_mind) (defBody s__law_is_mind) (defScope s__law_is_mind) .none kV28 dc28 pm28 an28 cd28 ct28, f29, PySem.W.fnOf "_law_parts" "_law_parts" (defArgs s__law_parts) (defBody s__law_parts) (defScope s__law_parts) .none kV29 dc29 pm29 an29 cd29 ct29, f30, PySem.W.fnOf "_law_pair_fits" "_law_pair_fits" (defArgs s__law_pair_fits) (defBody s__law_pair_fits) (defScope s__law_pair_fits) .none kV30 dc30 pm30 an30 cd30 ct30, f31, PySem.W.fnOf "law" "law" (defArgs s_law) (defBody s_law) (defScope s_law) .none kV31 dc31 pm31 an31 cd31 ct31, c_MindError, c_NoName⟩, ⟨F0, b0, PySem.W.mg_of X G a0, k0, F1, b1, PySem.W.mg_of X G a1, k1, F2, b2, PySem.W.mg_of X G a2, k2, F3, b3, PySem.W.mg_of X G a3, k3, F4, b4, PySem.W.mg_of X G a4, k4, F5, b5, PySem.W.mg_of X G a5, k5, F6, b6, PySem.W.mg_of X G a6, k6, F7, b7, PySem.W.mg_of X G a7, k7, F8, b8, PySem.W.mg_of X G a8, k8, F9, b9, PySem.W.mg_of X G a9, k9, F10, b10, PySem.W.mg_of X G a10, k10, F11, b11, PySem.W.mg_of X G a11, k11, F12, b12, PySem.W.mg_of X G a12, k12, F13, b13, PySem.W.mg_of X G a13, k13, F14, b14, PySem.W.mg_of X G a14, k14, F15, b15, PySem.W.mg_of X G a15, k15, F16, b16, PySem.W.mg_of X G a16, k16, F17, b17, PySem.W.mg_of X G a17, k17, F18, b18, PySem.W.mg_of X G a18, k18, F19, b19, PySem.W.mg_of X G a19, k19, F20, b20, PySem.W.mg_of X G a20, k20, F21, b21, PySem.W.mg_of X G a21, k21, F22, b22, PySem.W.mg_of X G a22, k22, F23, b23, PySem.W.mg_of X G a23, k23, F24, b24, PySem.W.mg_of X G a24, k24, F25, b25, PySem.W.mg_of X G a25, k25, F26, b26, PySem.W.mg_of X G a26, k26, F27, b27, PySem.W.mg_of X G a27, k27, F28, b28, PySem.W.mg_of X G a28, k28, F29, b29, PySem.W.mg_of X G a29, k29, F30, b30, PySem.W.mg_of X G a30, k30, F31, b31, PySem.W.mg_of X G a31, k31, PySem.W.mg_of X G n_MindError, h_MindError, PySem.W.mg_of X G n_NoName, ⟨xg_NoName, xh_NoName, xa_NoName, hn, ht, xm_NoName, xB_NoName, xd_NoName⟩, u_NoName, e_NoName, PySem.W.mg_none_of X G z_ValueError, PySem.W.mg_none_of X G z_list, PySem.W.mg_none_of X G z_sorted, PySem.W.mg_none_of X G z_sum, PySem.W.mg_none_of X G z_enumerate, PySem.W.mg_none_of X G z_min, PySem.W.mg_none_of X G z_tuple, PySem.W.mg_none_of X G z_range, PySem.W.mg_none_of X G z_all, PySem.W.mg_none_of X G z_len, PySem.W.mg_none_of X G z_isinstance, PySem.W.mg_none_of X G z_int, PySem.W.mg_none_of X G z_max, PySem.W.mg_none_of X G z_bool, PySem.W.mg_none_of X G z_str, PySem.W.mg_none_of X G z_reversed, PySem.W.mg_none_of X G z_set, fun s u => .of_eq rfl⟩⟩
end K24
def _root_.PySem.W.Fast.tw9006643302711339201 : Unit := ()
def _root_.PySem.W.Fast.tw13144606743646834669 : Unit := ()
def _root_.PySem.W.Fast.tw3595086888382342947 : Unit := ()
def _root_.PySem.W.Fast.tw17672536582291338064 : Unit := ()
def _root_.PySem.W.Fast.tw18007903377588799428 : Unit := ()
def _root_.PySem.W.Fast.tw10513210007615312649 : Unit := ()
def _root_.PySem.W.Fast.tw4075152273159097272 : Unit := ()
def _root_.PySem.W.Fast.tw15259543283261427313 : Unit := ()
def _root_.PySem.W.Fast.tw10628025204264359653 : Unit := ()
def _root_.PySem.W.Fast.tw17743431328328909453 : Unit := ()
def _root_.PySem.W.Fast.tw16848410550272080846 : Unit := ()
def _root_.PySem.W.Fast.tw7238433366458328030 : Unit := ()
open PySem PySem.W PyProof.Rows
set_option maxRecDepth 100000 in
set_option maxHeartbeats 0 in
theorem PySem.Challenge.cw_mindchange_k24_sentences_of_a_mind_holds : PySem.Challenge.rw_mindchange_k24_sentences_of_a_mind.Holds := by
  w_on; o_law; k_head; (case hw => w_witness2)
  k_fill
  refine L2.walk_ofX (l := PySem.Challenge.rw_mindchange_k24_sentences_of_a_mind) (n := 63) (k := 119) (x := "_law_script") (sp := K24.spLaw) rfl (by decide) rfl ⟨rfl, by decide, by decide⟩ (fun w h Y => PySem.W.kIn_of Y) ?F ?S
  case F =>
    intro w mg fa h KX G hmg
    have T : ∃ t, K24.Txt PySem.Challenge.rw_mindchange_k24_sentences_of_a_mind.prog w (L2.KOf KX) mg t := by
      dsimp only [L2.KOf]
      refine' K24.txt_mk KX G ?n_MindError ?n_NoName ?a0 ?l0 ?c0 ?k0 ?a1 ?l1 ?c1 ?k1 ?a2 ?l2 ?c2 ?k2 ?a3 ?l3 ?c3 ?k3 ?a4 ?l4 ?c4 ?k4 ?a5 ?l5 ?c5 ?k5 ?a6 ?l6 ?c6 ?k6 ?a7 ?l7 ?c7 ?k7 ?a8 ?l8 ?c8 ?k8 ?a9 ?l9 ?c9 ?k9 ?a10 ?l10 ?c10 ?k10 ?a11 ?l11 ?c11 ?k11 ?a12 ?l12 ?c12 ?k12 ?a13 ?l13 ?c13 ?k13 ?a14 ?l14 ?c14 ?k14 ?a15 ?l15 ?c15 ?k15 ?a16 ?l16 ?c16 ?k16 ?a17 ?l17 ?c17 ?k17 ?a18 ?l18 ?c18 ?k18 ?a19 ?l19 ?c19 ?k19 ?a20 ?l20 ?c20 ?k20 ?a21 ?l21 ?c21 ?k21 ?a22 ?l22 ?c22 ?k22 ?a23 ?l23 ?c23 ?k23 ?a24 ?l24 ?c24 ?k24 ?a25 ?l25 ?c25 ?k25 ?a26 ?l26 ?c26 ?k26 ?a27 ?l27 ?c27 ?k27 ?a28 ?l28 ?c28 ?k28 ?a29 ?l29 ?c29 ?k29 ?a30 ?l30 ?c30 ?k30 ?a31 ?l31 ?c31 ?k31 ?hn ?ht ?h_MindError ?xg_NoName ?xh_NoName ?xa_NoName ?xm_NoName ?xB_NoName ?xd_NoName ?u_NoName ?e_NoName ?z_ValueError ?z_list ?z_sorted ?z_sum ?z_enumerate ?z_min ?z_tuple ?z_range ?z_all ?z_len ?z_isinstance ?z_int ?z_max ?z_bool ?z_str ?z_reversed ?z_set
      (case n_MindError => k_is)
      (case n_NoName => k_is)
      (case a0 => k_is)
      (case l0 => k_is)
      (case c0 => k_is)
      (case k0 => k_is)
      (case a1 => k_is)
      (case l1 => k_is)
      (case c1 => k_is)
      (case k1 => k_is)
      (case a2 => k_is)
      (case l2 => k_is)
      (case c2 => k_is)
      (case k2 => k_is)
      (case a3 => k_is)
      (case l3 => k_is)
      (case c3 => k_is)
      (case k3 => k_is)
      (case a4 => k_is)
      (case l4 => k_is)
      (case c4 => k_is)
      (case k4 => k_is)
      (case a5 => k_is)
      (case l5 => k_is)
      (case c5 => k_is)
      (case k5 => k_is)
      (case a6 => k_is)
      (case l6 => k_is)
      (case c6 => k_is)
      (case k6 => k_is)
      (case a7 => k_is)
      (case l7 => k_is)
      (case c7 => k_is)
      (case k7 => k_is)
      (case a8 => k_is)
      (case l8 => k_is)
      (case c8 => k_is)
      (case k8 => k_is)
      (case a9 => k_is)
      (case l9 => k_is)
      (case c9 => k_is)
      (case k9 => k_is)
      (case a10 => k_is)
      (case l10 => k_is)
      (case c10 => k_is)
      (case k10 => k_is)
      (case a11 => k_is)
      (case l11 => k_is)
      (case c11 => k_is)
      (case k11 => k_is)
      (case a12 => k_is)
      (case l12 => k_is)
      (case c12 => k_is)
      (case k12 => k_is)
      (case a13 => k_is)
      (case l13 => k_is)
      (case c13 => k_is)
      (case k13 => k_is)
      (case a14 => k_is)
      (case l14 => k_is)
      (case c14 => k_is)
      (case k14 => k_is)
      (case a15 => k_is)
      (case l15 => k_is)
      (case c15 => k_is)
      (case k15 => k_is)
      (case a16 => k_is)
      (case l16 => k_is)
      (case c16 => k_is)
      (case k16 => k_is)
      (case a17 => k_is)
      (case l17 => k_is)
      (case c17 => k_is)
      (case k17 => k_is)
      (case a18 => k_is)
      (case l18 => k_is)
      (case c18 => k_is)
      (case k18 => k_is)
      (case a19 => k_is)
      (case l19 => k_is)
      (case c19 => k_is)
      (case k19 => k_is)
      (case a20 => k_is)
      (case l20 => k_is)
      (case c20 => k_is)
      (case k20 => k_is)
      (case a21 => k_is)
      (case l21 => k_is)
      (case c21 => k_is)
      (case k21 => k_is)
      (case a22 => k_is)
      (case l22 => k_is)
      (case c22 => k_is)
      (case k22 => k_is)
      (case a23 => k_is)
      (case l23 => k_is)
      (case c23 => k_is)
      (case k23 => k_is)
      (case a24 => k_is)
      (case l24 => k_is)
      (case c24 => k_is)
      (case k24 => k_is)
      (case a25 => k_is)
      (case l25 => k_is)
      (case c25 => k_is)
      (case k25 => k_is)
      (case a26 => k_is)
      (case l26 => k_is)
      (case c26 => k_is)
      (case k26 => k_is)
      (case a27 => k_is)
      (case l27 => k_is)
      (case c27 => k_is)
      (case k27 => k_is)
      (case a28 => k_is)
      (case l28 => k_is)
      (case c28 => k_is)
      (case k28 => k_is)
      (case a29 => k_is)
      (case l29 => k_is)
      (case c29 => k_is)
      (case k29 => k_is)
      (case a30 => k_is)
      (case l30 => k_is)
      (case c30 => k_is)
      (case k30 => k_is)
      (case a31 => k_is)
      (case l31 => k_is)
      (case c31 => k_is)
      (case k31 => k_is)
      (case hn => k_is)
      (case ht => k_is)
      (case h_MindError => kernel_rfl)
      (case xg_NoName => k_is)
      (case xh_NoName => k_is)
      (case xa_NoName => k_is)
      (case xm_NoName => k_is)
      (case xB_NoName => k_is)
      (case xd_NoName => k_is)
      (case u_NoName => kernel_rfl)
      (case e_NoName => k_exc)
      (case z_ValueError => k_is)
      (case z_list => k_is)
      (case z_sorted => k_is)
      (case z_sum => k_is)
      (case z_enumerate => k_is)
      (case z_min => k_is)
      (case z_tuple => k_is)
      (case z_range => k_is)
      (case z_all => k_is)
      (case z_len => k_is)
      (case z_isinstance => k_is)
      (case z_int => k_is)
      (case z_max => k_is)
      (case z_bool => k_is)
      (case z_str => k_is)
      (case z_reversed => k_is)
      (case z_set => k_is)
    obtain ⟨t, T⟩ := T
    have e0 := hmg.symm.trans T.m_law
    cases e0
    refine' ⟨t.fd_law, ?b, fun base kb nb => K24.ok_law T⟩
    exact T.bl
  case S => exact fun K H a ns hl hO hS => ⟨a, ns, rfl, hS, hl, fun _ => rfl⟩
#print axioms PySem.Challenge.cw_mindchange_k24_sentences_of_a_mind_holds

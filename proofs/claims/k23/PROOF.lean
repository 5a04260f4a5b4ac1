import PyProof.Rows.All
import Wide.All
import OpenK.AllK
import Wide.FinOn
import Lean
import PyProof.EqAt
import PyProof.EqKinds
import PyProof.TupleCall
import PySem.Challenge.RW_mindchange_k23_sentence_of_a_table
set_option Elab.async false
set_option linter.all false
set_option maxRecDepth 100000
set_option maxHeartbeats 8000000
-- CHANGE: your row's module here, as the last of these rows
set_option Elab.async false
set_option linter.all false
set_option maxRecDepth 100000
/-! THE HAND LAYER, for ints, bools, texts, own classes, LISTS and tuples (index, slices, in, append, pop ..), calls, loops. Paste it whole ahead of your own text; what your proof does not reach may be deleted. -/
namespace L2
open PySem PySem.Spec PyProof.Rows

/-- a key: an int or a str -/
abbrev Key := Sum Int Str
def keyIs : Key → Value → Bool
  | .inl k, v => Value.isInt k v
  | .inr x, v => Value.isStrOf x v
def keyH (w : World) : Key → Int
  | .inl k => hashInt k
  | .inr x => hashStr w x
theorem keyIs_shape : ∀ {k : Key} {v : Value}, keyIs k v = true → (∃ i t, k = Sum.inl i ∧ v = Value.int i t) ∨ (∃ x t, k = Sum.inr x ∧ v = Value.str x t)
  | .inl i, v, h => by
    obtain ⟨t, e⟩ := Value.isInt_shape (k := i) (v := v) h
    exact .inl ⟨i, t, rfl, e⟩
  | .inr x, v, h => by
    obtain ⟨t, e⟩ := Value.isStrOf_shape (x := x) (v := v) h
    exact .inr ⟨x, t, rfl, e⟩
theorem keyIs_int (i : Int) (t : Tok) : keyIs (.inl i) (.int i t) = true := by simp [keyIs, Value.isInt]
theorem keyIs_str (x : Str) (t : Tok) : keyIs (.inr x) (.str x t) = true := by simp [keyIs, Value.isStrOf]
theorem key_ll (a b : Int) : decide ((Sum.inl a : Key) = Sum.inl b) = (a == b) := by
  by_cases e : a = b
  · subst e; simp
  · have h : ¬ (Sum.inl a : Key) = Sum.inl b := fun q => e (Sum.inl.inj q)
    rw [decide_eq_false h]
    exact (beq_eq_false_iff_ne.mpr e).symm
theorem key_rr (a b : Str) : decide ((Sum.inr a : Key) = Sum.inr b) = decide (a = b) := by
  by_cases e : a = b
  · subst e; simp
  · have h : ¬ (Sum.inr a : Key) = Sum.inr b := fun q => e (Sum.inr.inj q)
    rw [decide_eq_false h, decide_eq_false e]
theorem key_lr (a : Int) (b : Str) : decide ((Sum.inl a : Key) = Sum.inr b) = false := decide_eq_false (fun q => nomatch q)
theorem key_rl (a : Str) (b : Int) : decide ((Sum.inr a : Key) = Sum.inl b) = false := decide_eq_false (fun q => nomatch q)

def mixKind (prog : Program) (w : World) : PySem.KeyKind prog w Key where
  is := keyIs
  hash := keyH w
  inj := fun v a b ha hb => by
    rcases keyIs_shape ha with ⟨i, t, rfl, rfl⟩ | ⟨x, t, rfl, rfl⟩
    · rcases keyIs_shape hb with ⟨j, u, rfl, e⟩ | ⟨y, u, rfl, e⟩
      · injection e with e1 _; rw [e1]
      · exact nomatch e
    · rcases keyIs_shape hb with ⟨j, u, rfl, e⟩ | ⟨y, u, rfl, e⟩
      · exact nomatch e
      · injection e with e1 _; rw [e1]
  byValue := fun k v h => by
    rcases keyIs_shape h with ⟨i, t, rfl, rfl⟩ | ⟨x, t, rfl, rfl⟩ <;> rfl
  pyHash := fun hv h => by
    rcases keyIs_shape hv with ⟨i, t, rfl, rfl⟩ | ⟨x, t, rfl, rfl⟩
    · exact wpAny_pyHash_int h
    · exact wpAny_pyHash_str h
  eqBool := fun hu hv h => by
    rcases keyIs_shape hu with ⟨i, t, rfl, rfl⟩ | ⟨x, t, rfl, rfl⟩
    · rcases keyIs_shape hv with ⟨j, u, rfl, rfl⟩ | ⟨y, u, rfl, rfl⟩
      · rw [key_ll] at h; exact wpAny_eqBool_int h
      · rw [key_lr] at h; exact SeqAt.EqAt.int_str i t y u _ _ _ _ h
    · rcases keyIs_shape hv with ⟨j, u, rfl, rfl⟩ | ⟨y, u, rfl, rfl⟩
      · rw [key_rl] at h; exact SeqAt.EqAt.str_int x t j u _ _ _ _ h
      · rw [key_rr] at h; exact wpAny_eqBool_str h
  «strs» := fun k x t v h => by
    rcases keyIs_shape h with ⟨i, u, rfl, e⟩ | ⟨y, u, rfl, e⟩
    · exact nomatch e
    · injection e with e1 _
      subst e1
      cases v <;> rfl

theorem mixKind_int (prog : Program) (w : World) (i : Int) (t : Tok) : (mixKind prog w).is (.inl i) (.int i t) = true := keyIs_int i t
theorem mixKind_str (prog : Program) (w : World) (x : Str) (t : Tok) : (mixKind prog w).is (.inr x) (.str x t) = true := keyIs_str x t
end L2

namespace L2
open PySem PySem.Spec PyProof.Rows

/-- a value, without the heap -/
inductive V where
  | non | bl (b : Bool) | int (i : Int) | str (x : Str) | byt (b : Array UInt8) | flt (b : UInt64) | ref (a : Addr) | ty (n : String)
  deriving DecidableEq

def RelV : V → Value → Prop
  | .non, u => u = Value.none
  | .bl b, u => u = Value.bool b
  | .int i, u => ∃ t, u = Value.int i t
  | .str x, u => ∃ t, u = Value.str x t
  | .byt b, u => ∃ t, u = Value.bytes b t
  | .flt b, u => ∃ t, u = Value.float b t
  | .ref a, u => u = Value.ref a
  | .ty n, u => u = Value.type n

abbrev Vals : List V → List Value → Prop := Paired RelV
theorem Vals.length {xs : List V} {us : List Value} (r : Vals xs us) : xs.length = us.length := Paired.length r
theorem Vals.get : ∀ {xs : List V} {us : List Value} {i : Nat} {x : V}, Vals xs us → xs[i]? = some x → ∃ u, us[i]? = some u ∧ RelV x u
  | _, _, _, _, .nil, e => by simp at e
  | _, _, 0, _, .cons r _, e => by simp at e; subst e; exact ⟨_, rfl, r⟩
  | _, _, i + 1, x, .cons _ t, e => by
    obtain ⟨u, h1, h2⟩ := Vals.get (i := i) (x := x) t (by simpa using e)
    exact ⟨u, by simpa using h1, h2⟩
theorem Vals.set {x : V} {u : Value} (r : RelV x u) : ∀ {xs : List V} {us : List Value} (i : Nat), Vals xs us → Vals (xs.set i x) (us.set i u)
  | _, _, _, .nil => .nil
  | _, _, 0, .cons _ t => .cons r t
  | _, _, i + 1, .cons q t => .cons q (Vals.set r i t)
theorem Vals.append : ∀ {xs ys : List V} {us ws : List Value}, Vals xs us → Vals ys ws → Vals (xs ++ ys) (us ++ ws)
  | _, _, _, _, .nil, s => s
  | _, _, _, _, .cons r t, s => .cons r (Vals.append t s)
theorem Vals.take : ∀ {xs : List V} {us : List Value} (n : Nat), Vals xs us → Vals (xs.take n) (us.take n)
  | _, _, 0, _ => .nil
  | _, _, _ + 1, .nil => .nil
  | _, _, n + 1, .cons r t => .cons r (Vals.take n t)
theorem Vals.drop : ∀ {xs : List V} {us : List Value} (n : Nat), Vals xs us → Vals (xs.drop n) (us.drop n)
  | _, _, 0, r => r
  | _, _, _ + 1, .nil => .nil
  | _, _, n + 1, .cons _ t => Vals.drop n t
def RelO : Option V → Option Value → Prop
  | some v, some u => RelV v u
  | none, none => True
  | _, _ => False
def KV {κ : Type} : List (κ × V) → List (κ × Value) → Prop := Paired fun (p : κ × V) (q : κ × Value) => p.1 = q.1 ∧ RelV p.2 q.2

/-- a key of a dict (00_mix): an int or a text -/
def kV : Key → V
  | .inl i => .int i
  | .inr x => .str x

/-- what stands at a tracked address -/
inductive HO where
  /-- a list -/
  | lst (xs : List V)
  /-- a tuple (never changes) -/
  | tup (xs : List V)
  /-- a dict whose keys are ints and texts; one whose keys are tuples of ints and texts (the empty one is both) -/
  | dK (kvs : List (Key × V)) | dT (kvs : List (List Key × V))
  /-- a set of ints: its members, its size -/
  | set (S : Int → Bool) (n : Nat)
  /-- an instance of the class at C, its dict at dx, its attributes -/
  | ins (C dx : Addr) (fs : List (Str × V))
  /-- the dict of the instance at x -/
  | own (x : Addr)
  /-- the dict of an exception -/
  | xd (fs : List (Str × V))
  /-- a bound method, f of x -/
  | met (f x : Addr)
  /-- a range object lo, lo + 1, .. below hi -/
  | rng (lo hi : Int)
  /-- a thing that is known to the object (the script; a dict while a loop walks it): read, never written while it is so -/
  | frz (o : Obj) (u : HO)
  /-- a code object's table -/
  | tbl (ps : Array Value)
  /-- any other thing, by what is true of its one object (a def of one's own: SetO a S n := HO.ext fun h => ..) -/
  | ext (φ : Heap → Prop)

abbrev Hp := Addr → Option HO
def upd (H : Hp) (a : Addr) (o : HO) : Hp := fun b => if b = a then some o else H b
theorem upd_same {H : Hp} {a : Addr} {o : HO} : upd H a o a = some o := by unfold upd; rw [if_pos rfl]
theorem upd_ne {H : Hp} {a b : Addr} {o : HO} (h : b ≠ a) : upd H a o b = H b := by unfold upd; rw [if_neg h]
theorem ne_of_none {H : Hp} {a b : Addr} {o : HO} (h : H a = some o) (h' : H b = none) : a ≠ b := by
  intro e; subst e; rw [h] at h'; cases h'

/-- a tuple without a dict of its own -/
def IsTupP (h : Heap) (a : Addr) (its : Array Value) : Prop := ∃ o, h.get? a = some o ∧ o.cls = .type "tuple" ∧ ∃ n, (o.data, o.dict) = (Data.seq its n, none)
theorem IsTupP.tup {h : Heap} {a : Addr} {its : Array Value} (x : IsTupP h a its) : IsTup h a its := let ⟨o, e, c, n, d⟩ := x; ⟨o, e, c, n, congrArg Prod.fst d⟩
theorem IsTupP.new (h : Heap) (its : Array Value) : IsTupP (h.push { cls := .type "tuple", data := .seq its }) h.objs.size its := ⟨_, Heap.get?_push_size _ rfl, rfl, _, rfl⟩
section
variable (P : Program) (w : World)
def ObjOk (H : Hp) (h : Heap) (a : Addr) : HO → Prop
  | .lst xs => xs.length ≤ sizeLine ∧ ∃ (its : List Value) (n : Nat), Vals xs its ∧ h.get? a = some { cls := .type "list", data := .seq its.toArray n }
  | .tup xs => xs.length ≤ sizeLine ∧ ∃ its : List Value, Vals xs its ∧ IsTupP h a its.toArray
  | .dK kvs => kvs.length ≤ sizeLine ∧ (a == sysModules) = false ∧ ∃ vs, KV kvs vs ∧ h.DictOf (mixKind P w) a vs
  | .dT kvs => kvs.length ≤ sizeLine ∧ (a == sysModules) = false ∧ ∃ xs : List (List Key × Addr × Value),
      Paired (fun (p : List Key × V) (q : List Key × Addr × Value) => p.1 = q.1 ∧ H q.2.1 = some (.tup (p.1.map kV)) ∧ RelV p.2 q.2.2) kvs xs ∧
      ∃ o es ep, h.get? a = some o ∧ o.ExactDict ∧ o.data = .dict es ep ∧ es.toList = xs.map (entryOfKey (tupleKind (mixKind P w))) ∧ (xs.map (·.1)).Nodup
  | .set S n => h.SetOf (intKind P w) a S n
  | .ins C dx fs => H dx = some (.own a) ∧ fs.length ≤ 1000 ∧ dx ≠ a ∧ h.get? a = some (PySem.W.instObj C dx) ∧
      ∃ mA, h.Ns1 dx mA ∧ (∀ f, RelO (fs.lookup f) (mA f)) ∧ PySem.Within mA (fs.map (·.1))
  | .own _ => ∃ o, h.get? a = some o
  | .xd fs => ∃ mA, h.Ns1 a mA ∧ ∀ f, RelO (fs.lookup f) (mA f)
  | .rng lo hi => ∃ t u v, h.get? a = some { cls := .type "range", data := .fields #[.int lo t, .int hi u, .int 1 v] }
  | .frz o u => h.get? a = some o ∧ ObjOk H h a u
  | .tbl ps => h.get? a = some { cls := .none, data := .fields ps }
  | .met f x => h.get? a = some (PySem.W.methodObj (.ref f) (.ref x))
  | .ext φ => φ h ∧ (∃ o, h.get? a = some o) ∧ ∀ h1 h2 : Heap, φ h1 → (∀ o, h1.get? a = some o → h2.get? a = some o) → φ h2
/-- the abstract heap is held -/
def HOk (H : Hp) (h : Heap) : Prop := ∀ a o, H a = some o → ObjOk P w H h a o
end

section
variable {P : Program} {w : World} {H H' : Hp} {h h' : Heap} {a : Addr} {o : HO}
theorem ObjOk.lt (x : ObjOk P w H h a o) : a < h.objs.size := by
  cases o with
  | lst xs => obtain ⟨_, _, _, _, e⟩ := x; exact Heap.lt_size e
  | tup xs => obtain ⟨_, _, _, p⟩ := x; exact p.tup.lt
  | dK kvs => obtain ⟨_, _, _, _, o, _, _, e, _⟩ := x; exact Heap.lt_size e
  | dT kvs => obtain ⟨_, _, _, _, o, _, _, e, _⟩ := x; exact Heap.lt_size e
  | set S n => obtain ⟨o, _, _, _, e, _⟩ := x; exact Heap.lt_size e
  | ins C dx fs => obtain ⟨_, _, _, e, _⟩ := x; exact Heap.lt_size e
  | own y => obtain ⟨_, e⟩ := x; exact Heap.lt_size e
  | xd fs => obtain ⟨_, ⟨_, _, _, e, _⟩, _⟩ := x; exact Heap.lt_size e
  | rng lo hi => obtain ⟨_, _, _, e⟩ := x; exact Heap.lt_size e
  | frz ob u => obtain ⟨e, _⟩ := x; exact Heap.lt_size e
  | tbl ps => exact Heap.lt_size (show h.get? a = some _ from x)
  | met f y => exact Heap.lt_size (show h.get? a = some _ from x)
  | ext φ => obtain ⟨_, ⟨_, e⟩, _⟩ := x; exact Heap.lt_size e
theorem Paired.mapP {α β : Type} {F G : α → β → Prop} : ∀ {l₁ : List α} {l₂ : List β}, Paired F l₁ l₂ → (∀ a b, F a b → G a b) → Paired G l₁ l₂
  | _, _, .nil, _ => .nil
  | _, _, .cons r t, f => .cons (f _ _ r) (Paired.mapP t f)
/-- what an object's description leans on: its own object, its own dict, the tuples -/
theorem ObjOk.stay (x : ObjOk P w H h a o) (k : ∀ b u, (b = a ∨ H b = some (.own a)) → h.get? b = some u → h'.get? b = some u)
    (ho : ∀ b, H b = some (.own a) → H' b = some (.own a)) (ht : ∀ b xs, H b = some (.tup xs) → H' b = some (.tup xs)) : ObjOk P w H' h' a o := by
  induction o with
  | lst xs => obtain ⟨z, its, n, r, e⟩ := x; exact ⟨z, its, n, r, k _ _ (.inl rfl) e⟩
  | tup xs => obtain ⟨z, its, r, ob, e, c⟩ := x; exact ⟨z, its, r, ob, k _ _ (.inl rfl) e, c⟩
  | dK kvs => obtain ⟨z, y, vs, r, ob, es, ep, e, c⟩ := x; exact ⟨z, y, vs, r, ob, es, ep, k _ _ (.inl rfl) e, c⟩
  | dT kvs =>
    obtain ⟨z, y, xs, r, ob, es, ep, e, c⟩ := x
    exact ⟨z, y, xs, Paired.mapP r fun p q z => ⟨z.1, ht _ _ z.2.1, z.2.2⟩, ob, es, ep, k _ _ (.inl rfl) e, c⟩
  | set S n => obtain ⟨ob, es, ep, t, e, c⟩ := x; exact ⟨ob, es, ep, t, k _ _ (.inl rfl) e, c⟩
  | ins C dx fs =>
    obtain ⟨d, z, ne, e, mA, ⟨od, es, ep, e2, c⟩, r⟩ := x
    exact ⟨ho _ d, z, ne, k _ _ (.inl rfl) e, mA, ⟨od, es, ep, k _ _ (.inr d) e2, c⟩, r⟩
  | own y => obtain ⟨ob, e⟩ := x; exact ⟨ob, k _ _ (.inl rfl) e⟩
  | xd fs => obtain ⟨mA, ⟨od, es, ep, e, c⟩, r⟩ := x; exact ⟨mA, ⟨od, es, ep, k _ _ (.inl rfl) e, c⟩, r⟩
  | rng lo hi => obtain ⟨t, u, v, e⟩ := x; exact ⟨t, u, v, k _ _ (.inl rfl) e⟩
  | frz ob u ih => obtain ⟨e, q⟩ := x; exact ⟨k _ _ (.inl rfl) e, ih q⟩
  | tbl ps =>
    have e : h.get? a = some { cls := .none, data := .fields ps } := x
    show h'.get? a = some { cls := .none, data := .fields ps }
    exact k a _ (.inl rfl) e
  | met f y =>
    have e : h.get? a = some (PySem.W.methodObj (.ref f) (.ref y)) := x
    show h'.get? a = some (PySem.W.methodObj (.ref f) (.ref y))
    exact k a _ (.inl rfl) e
  | ext φ => obtain ⟨p, ⟨o, e⟩, st⟩ := x; exact ⟨st _ _ p fun o q => k _ _ (.inl rfl) q, ⟨o, k _ _ (.inl rfl) e⟩, st⟩
theorem HOk.lt (x : HOk P w H h) (e : H a = some o) : a < h.objs.size := (x a o e).lt
theorem HOk.fresh (x : HOk P w H h) (e : h.objs.size ≤ a) : H a = none := by
  cases q : H a with
  | none => rfl
  | some u => exact absurd (Nat.lt_of_lt_of_le (x.lt q) e) (Nat.lt_irrefl _)
/-- every object of the heap is kept -/
theorem HOk.kept (x : HOk P w H h) (k : ∀ b u, h.get? b = some u → h'.get? b = some u) : HOk P w H h' := fun a o e =>
  (x a o e).stay (fun b u _ q => k b u q) (fun _ q => q) fun _ _ q => q
/-- a new object is laid and tracked -/
theorem HOk.laid (x : HOk P w H h) (k : ∀ b u, h.get? b = some u → h'.get? b = some u) (hp : h.objs.size ≤ a) (new : ObjOk P w (upd H a o) h' a o) : HOk P w (upd H a o) h' := fun b u e => by
  have hn := x.fresh hp
  by_cases hb : b = a
  · subst hb; rw [upd_same] at e; cases e; exact new
  · rw [upd_ne hb] at e
    exact (x b u e).stay (fun c v _ q => k c v q) (fun c q => by rw [upd_ne (ne_of_none q hn)]; exact q) fun c xs q => by rw [upd_ne (ne_of_none q hn)]; exact q
end

/-- what may be read as u: it is u, or a known u -/
def Rd (H : Hp) (a : Addr) (u : HO) : Prop := H a = some u ∨ ∃ o, H a = some (.frz o u)
theorem Rd.of {H : Hp} {a : Addr} {u : HO} (h : H a = some u) : Rd H a u := .inl h
theorem Rd.ok {P : Program} {w : World} {H : Hp} {h : Heap} {a : Addr} {u : HO} (r : Rd H a u) (x : HOk P w H h) : ObjOk P w H h a u := by
  rcases r with r | ⟨o, r⟩
  · exact x a u r
  · obtain ⟨_, q⟩ := x a _ r
    exact q
/-- what may be written -/
def Mut : Option HO → Prop
  | some (.lst _) => True
  | some (.dK _) => True
  | some (.dT _) => True
  | some (.set _ _) => True
  | some (.ins _ _ _) => True
  | some (.ext _) => True
  | _ => False
section
variable {P : Program} {w : World} {H : Hp} {h h' : Heap} {x e : Addr} {o' : HO}
/-- the object at e is changed: x itself, or the dict of the instance x -/
theorem HOk.write (ok : HOk P w H h) (mu : Mut (H x)) (he : e = x ∨ H e = some (.own x)) (k : ∀ b u, b ≠ e → h.get? b = some u → h'.get? b = some u) (heo : ∃ u, h'.get? e = some u)
    (new : ObjOk P w (upd H x o') h' x o') : HOk P w (upd H x o') h' := fun b u q => by
  have nown : ∀ c y, H c = some (.own y) → c ≠ x := fun c y r z => by subst z; rw [r] at mu; exact mu
  have ntup : ∀ c xs, H c = some (.tup xs) → c ≠ x := fun c xs r z => by subst z; rw [r] at mu; exact mu
  by_cases hb : b = x
  · subst hb; rw [upd_same] at q; cases q; exact new
  · rw [upd_ne hb] at q
    by_cases hbe : b = e
    · have q' : H b = some (.own x) := by
        rcases he with z | z
        · exact absurd (hbe.trans z) hb
        · rw [hbe]; exact z
      rw [q] at q'; cases q'
      obtain ⟨v, hv⟩ := heo
      exact ⟨v, by rw [hbe]; exact hv⟩
    · refine (ok b u q).stay (fun c v hc r => k c v ?_ r) (fun c r => by rw [upd_ne (nown c b r)]; exact r) fun c xs r => by rw [upd_ne (ntup c xs r)]; exact r
      rcases hc with rfl | hc
      · exact hbe
      · rintro rfl
        rcases he with z | z
        · exact nown c b hc z
        · rw [hc] at z; cases z; exact hb rfl
end

/-! ### kept unless tracked; of the frames at fs (the callers') the slots may change (an exception that passes writes there); of the records at ex (iterators) nothing is said -/
structure Un (fs ex : List Addr) (H H' : Hp) (h h' : Heap) : Prop where
  keep : ∀ b o, h.get? b = some o → H b = none → b ∉ fs → b ∉ ex → h'.get? b = some o
  slot : ∀ b o, h.get? b = some o → H b = none → b ∈ fs → b ∉ ex → ∃ sl, h'.get? b = some { o with slots := sl }
  free : ∀ b o, h.get? b = some o → H b = none → b ∉ ex → H' b = none
  there : ∀ b o, h.get? b = some o → b ∉ ex → ∃ o', h'.get? b = some o'
  tups : ∀ b xs, H b = some (.tup xs) → H' b = some (.tup xs)
  frzs : ∀ b o u, H b = some (.frz o u) → H' b = some (.frz o u)
  tbls : ∀ b ps, H b = some (.tbl ps) → ∃ more, H' b = some (.tbl (ps ++ more))
section
variable {fs fs' ex ex' : List Addr} {H H1 H2 : Hp} {h h1 h2 h' : Heap} {a x e : Addr} {o : HO}
theorem Un.any (u : Un fs ex H H1 h h1) {b : Addr} {ob : Obj} (q : h.get? b = some ob) (n : H b = none) (hx : b ∉ ex) : ∃ sl, h1.get? b = some { ob with slots := sl } := by
  by_cases hb : b ∈ fs
  · exact u.slot b ob q n hb hx
  · exact ⟨ob.slots, u.keep b ob q n hb hx⟩
theorem Un.trans (a : Un fs ex H H1 h h1) (b : Un fs ex H1 H2 h1 h2) : Un fs ex H H2 h h2 where
  keep := fun c ob q n hc hx => b.keep c ob (a.keep c ob q n hc hx) (a.free c ob q n hx) hc hx
  slot := fun c ob q n hc hx => by
    obtain ⟨sl, e1⟩ := a.slot c ob q n hc hx
    obtain ⟨sl', e2⟩ := b.slot c _ e1 (a.free c ob q n hx) hc hx
    exact ⟨sl', e2⟩
  free := fun c ob q n hx => by
    obtain ⟨o', e1⟩ := a.there c ob q hx
    exact b.free c o' e1 (a.free c ob q n hx) hx
  there := fun c ob q hx => by
    obtain ⟨o', e1⟩ := a.there c ob q hx
    exact b.there c o' e1 hx
  tups := fun c xs q => b.tups c xs (a.tups c xs q)
  frzs := fun c ob xs q => b.frzs c ob xs (a.frzs c ob xs q)
  tbls := fun c ps q => by
    obtain ⟨m1, e1⟩ := a.tbls c ps q
    obtain ⟨m2, e2⟩ := b.tbls c _ e1
    exact ⟨m1 ++ m2, by rw [e2, Array.append_assoc]⟩
theorem Un.kept (k : ∀ b u, h.get? b = some u → h'.get? b = some u) : Un fs ex H H h h' :=
  ⟨fun b ob q _ _ _ => k b ob q, fun b ob q _ _ _ => ⟨ob.slots, k b ob q⟩, fun _ _ _ n _ => n, fun b ob q _ => ⟨ob, k b ob q⟩, fun _ _ q => q, fun _ _ _ q => q, fun _ ps q => ⟨#[], by rw [q]; simp⟩⟩
theorem Un.refl : Un fs ex H H h h := Un.kept fun _ _ q => q
theorem Un.laid (k : ∀ b u, h.get? b = some u → h'.get? b = some u) (hp : h.objs.size ≤ a) (hn : H a = none) : Un fs ex H (upd H a o) h h' where
  keep := fun b u q _ _ _ => k b u q
  slot := fun b u q _ _ _ => ⟨u.slots, k b u q⟩
  free := fun b u q n _ => by rw [upd_ne (Nat.ne_of_lt (Nat.lt_of_lt_of_le (Heap.lt_size q) hp))]; exact n
  there := fun b u q _ => ⟨u, k b u q⟩
  tups := fun b xs q => by rw [upd_ne (ne_of_none q hn)]; exact q
  frzs := fun b u xs q => by rw [upd_ne (ne_of_none q hn)]; exact q
  tbls := fun b ps q => ⟨#[], by rw [upd_ne (ne_of_none q hn), q]; simp⟩
theorem Un.write (mu : Mut (H x)) (he : e = x ∨ H e = some (.own x)) (k : ∀ b u, b ≠ e → h.get? b = some u → h'.get? b = some u) (heo : ∃ u, h'.get? e = some u) : Un fs ex H (upd H x o) h h' := by
  have hx : ∀ b, H b = none → b ≠ x := fun b n z => by subst z; rw [n] at mu; exact mu
  have hb : ∀ b, H b = none → b ≠ e := fun b n z => by
    subst z
    rcases he with r | r
    · exact hx b n r
    · rw [n] at r; cases r
  have hm : ∀ b u, H b = some u → ¬ Mut (some u) → b ≠ x := fun b u q nm z => by subst z; rw [q] at mu; exact nm mu
  refine ⟨fun b u q n _ _ => k b u (hb b n) q, fun b u q n _ _ => ⟨u.slots, k b u (hb b n) q⟩, fun b u q n _ => by rw [upd_ne (hx b n)]; exact n, fun b u q _ => ?_,
    fun b xs q => by rw [upd_ne (hm b _ q fun z => z)]; exact q, fun b u xs q => by rw [upd_ne (hm b _ q fun z => z)]; exact q, fun b ps q => ⟨#[], by rw [upd_ne (hm b _ q fun z => z), q]; simp⟩⟩
  by_cases hbe : b = e
  · subst hbe; exact heo
  · exact ⟨u, k b u hbe q⟩
theorem Un.mono (u : Un fs ex H H1 h h1) (hs : ∀ b ∈ fs, b ∈ fs') (hx : ∀ b ∈ ex, b ∈ ex') : Un fs' ex' H H1 h h1 :=
  ⟨fun b ob q n hb he => u.keep b ob q n (fun z => hb (hs b z)) fun z => he (hx b z), fun _ _ q n _ he => u.any q n fun z => he (hx _ z), fun b ob q n he => u.free b ob q n fun z => he (hx b z), fun b ob q he => u.there b ob q fun z => he (hx b z), u.tups, u.frzs, u.tbls⟩
end

/-! ### the heap without what is tracked -/
def trk (h : Heap) (H : Hp) : List Addr := (List.range h.objs.size).filter fun a => (H a).isSome
def hidT (h : Heap) (H : Hp) : Heap := PySem.W.hideAll h (trk h H)
theorem hidT_size (h : Heap) (H : Hp) : (hidT h H).objs.size = h.objs.size := PySem.W.hideAll_size _ _
theorem hidT_get {h : Heap} {H : Hp} {b : Addr} {o : Obj} (e : h.get? b = some o) (n : H b = none) : (hidT h H).get? b = some o :=
  PySem.W.hideAll_get _ e fun hm => by
    have q : (H b).isSome = true := (List.mem_filter.mp hm).2
    rw [n] at q; simp at q
theorem of_hidT {h : Heap} {H : Hp} {b : Addr} {o : Obj} (e : (hidT h H).get? b = some o) : h.get? b = some o ∧ H b = none := by
  have e' : h.get? b = some o := PySem.W.of_hideAll (trk h H) e
  refine ⟨e', ?_⟩
  cases q : H b with
  | none => rfl
  | some x =>
    have hm : b ∈ trk h H := List.mem_filter.mpr ⟨List.mem_range.mpr (Heap.lt_size e'), by simp [q]⟩
    have z : (hidT h H).get? b = none := PySem.W.hideAll_none (trk h H) hm
    rw [z] at e; cases e

/-! ### OpenK's ledger, filled with every new object but one -/
def allNews (g h : Heap) (L : Addr) : List (Addr × Obj) := (List.range h.objs.size).filterMap fun a => if a = L ∨ (g.get? a).isSome = true then none else (h.get? a).map fun o => (a, o)
def rest (g h : Heap) (L d : Addr) : List (Addr × Obj) := (allNews g h L).filter fun p => decide (p.1 ≠ d)
end L2

namespace L2
open PySem PySem.Spec PyProof.Rows

/-- the module's facts, over the base: the heap at the law's entry without what is tracked there -/
structure Mod (K : PySem.W.Frag) (mg : Str → Option Value) (base : Heap) : Prop where
  kin : K.In base
  glob : base.Ns mainGlobals mg
  blt : ∃ mb, base.Ns builtinsNs mb ∧ ∀ x : Str, x ≠ "__name__" → mb x = bootBuiltins x
  nolimit : base.NoLimit

/-- the context: a def's body (or a comprehension's block) running. base: fixed through the whole law; s₀, H₀: the entry; outer: the frames whose slots others may change (a def's callers); stack: all frames that run;
   ex: iterators that were made ahead of the entry and are walked here (a comprehension's); fn: the names whose cells were made at the entry (a def: all; a comprehension's block: its own); calm: not within an except suite; pn: pins that every state bears; xe: what is wanted of an exception that leaves the code -/
structure Cx where
  prog : Program
  w : World
  K : PySem.W.Frag
  mg : Str → Option Value
  base : Heap
  A : Around
  N : List Str
  s₀ : Shared
  H₀ : Hp
  env : Env
  outer : List Env
  stack : List Env
  ex : List Addr
  fn : Str → Bool
  calm : Bool
  pn : List (Addr × Obj)
  xe : Value → Shared → Prop
/-- the callers' frames -/
def frs (l : List Env) : List Addr := l.filterMap (·.frame)
abbrev Cx.fs (X : Cx) : List Addr := frs X.outer

def Vis (sc : Scope) (x : Str) : Prop := sc.names.lookup x = some .local ∨ sc.names.lookup x = some .cell ∨ sc.names.lookup x = some .free
def Loc (sc : Scope) (x : Str) : Prop := sc.names.lookup x = some .local ∨ sc.names.lookup x = some .cell
def Look (env : Env) (h : Heap) (m : Str → Option Value) (x : Str) (u : Value) : Prop :=
  (env.kindOf x = some .local ∧ m x = some u) ∨ ((env.kindOf x = some .cell ∨ env.kindOf x = some .free) ∧ ∃ c, env.cells.lookup x = some c ∧ h.IsCell c (some u))

structure Cx.Ok (X : Cx) : Prop where
  mod : Mod X.K X.mg X.base
  kind : X.env.scope.kind = .function
  glob : X.env.globals = mainGlobals
  blt : X.env.builtins = builtinsNs
  above : X.s₀.heap.objs.size ≤ X.env.locals
  inj : ∀ x y c, X.env.cells.lookup x = some c → X.env.cells.lookup y = some c → x = y
  has : ∀ x, (X.env.kindOf x = some .cell ∨ X.env.kindOf x = some .free) → ∃ c, X.env.cells.lookup x = some c
  cab : ∀ x c, X.fn x = true → X.env.cells.lookup x = some c → X.s₀.heap.objs.size ≤ c
  hd : X.calm = true → X.A.handled = none
  frames : X.A.frames = some X.stack
  stk : X.stack = X.outer ∨ (X.stack = X.env :: X.outer ∧ X.env.frame = some X.env.locals)
  exf : ∀ b ∈ X.ex, b ≠ X.env.locals ∧ ∀ x c, X.env.cells.lookup x = some c → c ≠ b
  bs : ∀ b o, X.base.get? b = some o → X.s₀.heap.get? b = some o ∧ X.H₀ b = none
  bsz : X.base.objs.size ≤ X.s₀.heap.objs.size
  noex : ∀ b o, X.base.get? b = some o → b ∉ X.ex
  exfs : ∀ b ∈ X.ex, b ∉ X.fs
  funs : X.s₀.heap.FunFrames X.base X.outer
  frf : ∀ b ∈ X.fs, X.H₀ b = none

structure Inv (X : Cx) (pins : List (Addr × Obj)) (σ : List (Option V)) (H : Hp) (s : Shared) : Prop where
  ok : X.Ok
  os : s.os = X.s₀.os
  bare : AllBare s.gens
  base : Un X.fs X.ex X.H₀ H X.s₀.heap s.heap
  loc : ∃ m, s.heap.Ns X.env.locals m ∧ ∀ (i : Nat) (x : Str) (v : V), X.N[i]? = some x → σ[i]? = some (some v) → Vis X.env.scope x → ∃ u, RelV v u ∧ Look X.env s.heap m x u
  cell : ∀ x c, X.env.cells.lookup x = some c → ∃ v, s.heap.IsCell c v
  free : H X.env.locals = none
  freeC : ∀ x c, X.env.cells.lookup x = some c → H c = none
  pin : ∀ p ∈ X.pn ++ pins, s.heap.get? p.1 = some p.2 ∧ H p.1 = none ∧ p.1 ≠ X.env.locals ∧ p.1 ∉ X.fs ∧ ∀ v, p.2.data ≠ .cell v
  hok : HOk X.prog X.w H s.heap
  len : σ.length = X.N.length

section
variable {X : Cx} {pins : List (Addr × Obj)} {σ : List (Option V)} {H H' : Hp} {s : Shared} {h' : Heap}

theorem Cx.Ok.nofr (ok : X.Ok) {b : Addr} {o : Obj} (e : X.base.get? b = some o) : b ∉ X.fs := fun hb => by
  have := (ok.funs.mem hb).1
  rw [e] at this; cases this
theorem Inv.bs (I : Inv X pins σ H s) : ∀ b o, X.base.get? b = some o → s.heap.get? b = some o ∧ H b = none := fun b o e =>
  ⟨I.base.keep b o (I.ok.bs b o e).1 (I.ok.bs b o e).2 (I.ok.nofr e) (I.ok.noex b o e), I.base.free b o (I.ok.bs b o e).1 (I.ok.bs b o e).2 (I.ok.noex b o e)⟩
theorem Inv.bk (I : Inv X pins σ H s) : ∀ b o, X.base.get? b = some o → s.heap.get? b = some o := fun b o e => (I.bs b o e).1
theorem Inv.mod (I : Inv X pins σ H s) : Mod X.K X.mg X.base := I.ok.mod
theorem Inv.kIn (I : Inv X pins σ H s) : X.K.In s.heap := I.ok.mod.kin.keeps I.bk
theorem Inv.nolimit (I : Inv X pins σ H s) : s.heap.NoLimit := I.ok.mod.nolimit.keeps I.bk
theorem Inv.lt (I : Inv X pins σ H s) : X.env.locals < s.heap.objs.size := let ⟨_, hn, _⟩ := I.loc; hn.lt
theorem Inv.sz (I : Inv X pins σ H s) : X.s₀.heap.objs.size ≤ s.heap.objs.size := Nat.le_trans I.ok.above (Nat.le_of_lt I.lt)
theorem Inv.nofs (I : Inv X pins σ H s) {a : Addr} (h : s.heap.objs.size ≤ a) : a ∉ X.fs := fun hb => by
  obtain ⟨_, o, ho, _⟩ := I.ok.funs.mem hb
  exact absurd (Nat.lt_of_lt_of_le (Heap.lt_size ho) (Nat.le_trans I.sz h)) (Nat.lt_irrefl _)
theorem Inv.cne (I : Inv X pins σ H s) : ∀ x c, X.env.cells.lookup x = some c → c ≠ X.env.locals := fun x c e z => by
  obtain ⟨v, o, ho, hd⟩ := I.cell x c e
  obtain ⟨m, ⟨o', es, ep, ho', hd', _⟩, _⟩ := I.loc
  rw [z, ho'] at ho; cases ho; rw [hd'] at hd; cases hd
theorem Inv.funs (I : Inv X pins σ H s) : s.heap.FunFrames X.base X.outer := by
  have all : ∀ (l : List Env), (∀ b ∈ frs l, b ∈ X.fs) → X.s₀.heap.FunFrames X.base l → s.heap.FunFrames X.base l := by
    intro l
    induction l with
    | nil => intro _ _; trivial
    | cons env r ih =>
      intro hs hl
      obtain ⟨hk, ⟨L, o, hf, hn, ho, hd⟩, hr⟩ := hl
      have hL : L ∈ X.fs := hs L (by unfold frs; rw [List.filterMap_cons, hf]; exact List.mem_cons_self)
      obtain ⟨sl, e⟩ := I.base.slot L o ho (I.ok.frf L hL) hL fun z => I.ok.exfs L z hL
      exact ⟨hk, ⟨L, _, hf, hn, e, hd⟩, ih (fun b hb => hs b (by unfold frs; rw [List.filterMap_cons, hf]; exact List.mem_cons_of_mem _ hb)) hr⟩
  exact all X.outer (fun _ hb => hb) I.ok.funs

/-- the frames that run, for a call -/
theorem Inv.stack (I : Inv X pins σ H s) : s.heap.FunFrames X.base X.stack := by
  rcases I.ok.stk with e | ⟨e, hf⟩
  · rw [e]; exact I.funs
  · rw [e]
    obtain ⟨m, hn, _⟩ := I.loc
    refine .cons (by rw [I.ok.kind]; decide) hf hn ?_ I.funs
    exact Heap.get?_none_of_le (Nat.le_trans I.ok.bsz I.ok.above)
theorem Inv.stkSub (I : Inv X pins σ H s) : ∀ b ∈ frs X.stack, b ∈ X.env.locals :: X.fs := fun b hb => by
  rcases I.ok.stk with e | ⟨e, hf⟩
  · rw [e] at hb; exact List.mem_cons_of_mem _ hb
  · rw [e] at hb
    unfold frs at hb
    rw [List.filterMap_cons, hf] at hb
    exact hb
theorem Inv.stkFree (I : Inv X pins σ H s) : ∀ b ∈ frs X.stack, H b = none := fun b hb => by
  rcases List.mem_cons.mp (I.stkSub b hb) with e | hb
  · rw [e]; exact I.free
  · obtain ⟨_, o, ho, _⟩ := I.ok.funs.mem hb
    exact I.base.free b o ho (I.ok.frf b hb) fun z => I.ok.exfs b z hb

/-- THE STEP: the untracked objects but the frame and the records at ch are kept (the callers' frames up to slots), the frame's map is kept, the new abstract heap is held -/
theorem Inv.step {g' : Array GenState} {t' : Nat} {d' : Drawn} {ch : List Addr} (I : Inv X pins σ H s)
    (hch : ∀ b ∈ ch, (b ∈ X.ex ∨ X.s₀.heap.objs.size ≤ b) ∧ b ≠ X.env.locals ∧ (∀ x c, X.env.cells.lookup x = some c → c ≠ b) ∧ ∀ p ∈ X.pn ++ pins, p.1 ≠ b)
    (keep : ∀ b o, b ≠ X.env.locals → b ∉ X.fs → b ∉ ch → s.heap.get? b = some o → H b = none → h'.get? b = some o)
    (slot : ∀ b o, b ≠ X.env.locals → b ∈ X.fs → b ∉ ch → s.heap.get? b = some o → H b = none → ∃ sl, h'.get? b = some { o with slots := sl }) (free : ∀ b o, b ∉ ch → s.heap.get? b = some o → H b = none → H' b = none)
    (there : ∀ b o, b ∉ ch → s.heap.get? b = some o → ∃ o', h'.get? b = some o')
    (tups : ∀ b xs, H b = some (.tup xs) → H' b = some (.tup xs)) (frzs : ∀ b o u, H b = some (.frz o u) → H' b = some (.frz o u)) (tbls : ∀ b ps, H b = some (.tbl ps) → ∃ more, H' b = some (.tbl (ps ++ more)))
    (ns : ∀ m, s.heap.Ns X.env.locals m → h'.Ns X.env.locals m) (hok : HOk X.prog X.w H' h') (hg : AllBare g') :
    Inv X pins σ H' { s with heap := h', gens := g', drawn := d', toks := t' } := by
  have neL : ∀ b o, X.s₀.heap.get? b = some o → b ≠ X.env.locals := fun b o e => Nat.ne_of_lt (Nat.lt_of_lt_of_le (Heap.lt_size e) I.ok.above)
  have neC : ∀ b o, X.s₀.heap.get? b = some o → b ∉ X.ex → b ∉ ch := fun b o e hx hb => by
    rcases (hch b hb).1 with z | z
    · exact hx z
    · exact absurd (Nat.lt_of_lt_of_le (Heap.lt_size e) z) (Nat.lt_irrefl _)
  have cellK : ∀ x c, X.env.cells.lookup x = some c → ∀ v, s.heap.IsCell c v → h'.IsCell c v := fun x c e v ⟨o, ho, hd⟩ => by
    have nch : c ∉ ch := fun z => (hch c z).2.2.1 x c e rfl
    by_cases hc : c ∈ X.fs
    · obtain ⟨sl, q⟩ := slot c o (I.cne x c e) hc nch ho (I.freeC x c e)
      exact ⟨_, q, hd⟩
    · exact ⟨o, keep c o (I.cne x c e) hc nch ho (I.freeC x c e), hd⟩
  refine ⟨I.ok, I.os, hg, ⟨fun b o e n hb hx => ?_, fun b o e n hb hx => ?_, fun b o e n hx => ?_, fun b o e hx => ?_, fun b xs e => tups b xs (I.base.tups b xs e), fun b o xs e => frzs b o xs (I.base.frzs b o xs e), fun b ps e => ?_⟩, ?_, fun x c e => ?_, ?_, fun x c e => ?_, fun p hp => ?_, hok, I.len⟩
  · exact keep b o (neL b o e) hb (neC b o e hx) (I.base.keep b o e n hb hx) (I.base.free b o e n hx)
  · obtain ⟨sl, e1⟩ := I.base.slot b o e n hb hx
    obtain ⟨sl', e2⟩ := slot b _ (neL b o e) hb (neC b o e hx) e1 (I.base.free b o e n hx)
    exact ⟨sl', e2⟩
  · obtain ⟨o', e1⟩ := I.base.there b o e hx
    exact free b o' (neC b o e hx) e1 (I.base.free b o e n hx)
  · obtain ⟨o', e1⟩ := I.base.there b o e hx
    exact there b o' (neC b o e hx) e1
  · obtain ⟨m1, e1⟩ := I.base.tbls b ps e
    obtain ⟨m2, e2⟩ := tbls b _ e1
    exact ⟨m1 ++ m2, by rw [e2, Array.append_assoc]⟩
  · obtain ⟨m, hn, hl⟩ := I.loc
    refine ⟨m, ns m hn, fun i x v e1 e2 e3 => ?_⟩
    obtain ⟨u, r, l⟩ := hl i x v e1 e2 e3
    refine ⟨u, r, ?_⟩
    rcases l with l | ⟨k, c, e, z⟩
    · exact .inl l
    · exact .inr ⟨k, c, e, cellK x c e _ z⟩
  · obtain ⟨v, z⟩ := I.cell x c e
    exact ⟨v, cellK x c e v z⟩
  · obtain ⟨m, ⟨o, _, _, ho, _⟩, _⟩ := I.loc
    exact free _ o (fun z => (hch _ z).2.1 rfl) ho I.free
  · obtain ⟨v, o, ho, hd⟩ := I.cell x c e
    exact free c o (fun z => (hch c z).2.2.1 x c e rfl) ho (I.freeC x c e)
  · obtain ⟨e, n, ne, nf, d⟩ := I.pin p hp
    have nch : p.1 ∉ ch := fun z => (hch p.1 z).2.2.2 p hp rfl
    exact ⟨keep p.1 p.2 ne nf nch e n, free p.1 p.2 nch e n, ne, nf, d⟩
/-- .. where the frame's own object is kept too -/
theorem Inv.un {t' : Nat} (I : Inv X pins σ H s) (u : Un X.fs [] H H' s.heap h') (hok : HOk X.prog X.w H' h') : Inv X pins σ H' { s with heap := h', toks := t' } := by
  obtain ⟨m, ⟨o, es, ep, ho, r⟩, _⟩ := id I.loc
  obtain ⟨sl, hL⟩ := u.any ho I.free (by simp)
  exact I.step (g' := s.gens) (d' := s.drawn) (ch := []) (fun _ z => nomatch z) (fun b o _ hb _ e n => u.keep b o e n hb (by simp)) (fun b o _ hb _ e n => u.slot b o e n hb (by simp)) (fun b o _ e n => u.free b o e n (by simp)) (fun b o _ e => u.there b o e (by simp)) u.tups u.frzs u.tbls (fun m' hm => by
    obtain ⟨o', es', ep', ho', r'⟩ := hm
    rw [ho] at ho'; cases ho'
    exact ⟨_, es', ep', hL, r'⟩) hok I.bare
/-- behind a call (or a comprehension's block): the slots of this frame may have changed too, the records at ch may have turned -/
theorem Inv.call {g' : Array GenState} {t' : Nat} {d' : Drawn} {ch : List Addr} (I : Inv X pins σ H s) (u : Un (frs X.stack) ch H H' s.heap h') (hok : HOk X.prog X.w H' h') (hg : AllBare g')
    (hch : ∀ b ∈ ch, (b ∈ X.ex ∨ X.s₀.heap.objs.size ≤ b) ∧ b ≠ X.env.locals ∧ (∀ x c, X.env.cells.lookup x = some c → c ≠ b) ∧ ∀ p ∈ X.pn ++ pins, p.1 ≠ b) :
    Inv X pins σ H' { s with heap := h', gens := g', drawn := d', toks := t' } := by
  obtain ⟨m, ⟨o, es, ep, ho, r⟩, _⟩ := id I.loc
  obtain ⟨sl, hL⟩ := u.any ho I.free fun z => (hch _ z).2.1 rfl
  exact I.step (ch := ch) hch (fun b o hL hb hc e n => u.keep b o e n (fun z => (List.mem_cons.mp (I.stkSub b z)).elim hL hb) hc) (fun b o _ _ hc e n => u.any e n hc) (fun b o hc e n => u.free b o e n hc) (fun b o hc e => u.there b o e hc) u.tups u.frzs u.tbls (fun m' hm => by
    obtain ⟨o', es', ep', ho', r'⟩ := hm
    rw [ho] at ho'; cases ho'
    exact ⟨_, es', ep', hL, r'⟩) hok hg
/-- an untracked record of ours (an iterator) has turned -/
theorem Inv.turned {t' : Nat} {it : Addr} (I : Inv X pins σ H s) (k : ∀ b o, b ≠ it → s.heap.get? b = some o → h'.get? b = some o) (hn : H it = none) (hL : it ≠ X.env.locals)
    (h1 : it ∈ X.ex ∨ X.s₀.heap.objs.size ≤ it) (h2 : ∀ x c, X.env.cells.lookup x = some c → c ≠ it) (h3 : ∀ p ∈ X.pn ++ pins, p.1 ≠ it) : Inv X pins σ H { s with heap := h', toks := t' } := by
  have nit : ∀ b u, H b = some u → b ≠ it := fun b u e z => by rw [z, hn] at e; cases e
  refine I.step (g' := s.gens) (d' := s.drawn) (ch := [it]) (fun b hb => ?_) (fun b o _ _ hc e _ => k b o (fun z => hc (by simp [z])) e) (fun b o _ _ hc e _ => ⟨o.slots, k b o (fun z => hc (by simp [z])) e⟩) (fun _ _ _ _ n => n)
    (fun b o hc e => ⟨o, k b o (fun z => hc (by simp [z])) e⟩) (fun _ _ e => e) (fun _ _ _ e => e) (fun b ps e => ⟨#[], by rw [e]; simp⟩) (fun m hm => ?_) (fun b u e => ?_) I.bare
  · have e : b = it := by simpa using hb
    subst e
    exact ⟨h1, hL, h2, h3⟩
  · obtain ⟨o, es, ep, ho, r⟩ := hm
    exact ⟨o, es, ep, k _ o (Ne.symm hL) ho, r⟩
  · refine (I.hok b u e).stay (fun c v hc q => k c v ?_ q) (fun _ q => q) fun _ _ q => q
    rcases hc with z | z
    · rw [z]; exact nit b u e
    · exact nit c _ z
theorem Inv.tok (I : Inv X pins σ H s) (t : Nat) : Inv X pins σ H { s with toks := t } := I.un (h' := s.heap) (t' := t) Un.refl I.hok
/-- all objects kept -/
theorem Inv.kept {t' : Nat} (I : Inv X pins σ H s) (k : ∀ b u, s.heap.get? b = some u → h'.get? b = some u) : Inv X pins σ H { s with heap := h', toks := t' } := I.un (Un.kept k) (I.hok.kept k)
/-- a new object laid and tracked -/
theorem Inv.laid {a : Addr} {o : HO} {t' : Nat} (I : Inv X pins σ H s) (k : ∀ b u, s.heap.get? b = some u → h'.get? b = some u) (hp : s.heap.objs.size ≤ a) (new : ObjOk X.prog X.w (upd H a o) h' a o) :
    Inv X pins σ (upd H a o) { s with heap := h', toks := t' } := I.un (Un.laid k hp (I.hok.fresh hp)) (I.hok.laid k hp new)
/-- an object written -/
theorem Inv.write {x e : Addr} {o : HO} {t' : Nat} (I : Inv X pins σ H s) (mu : Mut (H x)) (he : e = x ∨ H e = some (.own x)) (k : ∀ b u, b ≠ e → s.heap.get? b = some u → h'.get? b = some u) (heo : ∃ u, h'.get? e = some u)
    (new : ObjOk X.prog X.w (upd H x o) h' x o) : Inv X pins σ (upd H x o) { s with heap := h', toks := t' } := I.un (Un.write mu he k heo) (I.hok.write mu he k heo new)
/-- forgetting slots, pins -/
theorem Inv.weak {σ' : List (Option V)} (I : Inv X pins σ H s) (hl : σ'.length = σ.length) (w : ∀ (i : Nat) v, σ'[i]? = some (some v) → σ[i]? = some (some v)) : Inv X pins σ' H s :=
  ⟨I.ok, I.os, I.bare, I.base, let ⟨m, hn, hl'⟩ := I.loc; ⟨m, hn, fun i x v e1 e2 e3 => hl' i x v e1 (w i v e2) e3⟩, I.cell, I.free, I.freeC, I.pin, I.hok, hl.trans I.len⟩
theorem Inv.pins_of {pins' : List (Addr × Obj)} (I : Inv X pins σ H s) (h : ∀ p ∈ pins', s.heap.get? p.1 = some p.2 ∧ H p.1 = none ∧ p.1 ≠ X.env.locals ∧ p.1 ∉ X.fs ∧ ∀ v, p.2.data ≠ .cell v) : Inv X pins' σ H s :=
  ⟨I.ok, I.os, I.bare, I.base, I.loc, I.cell, I.free, I.freeC, fun p hp => (List.mem_append.mp hp).elim (fun z => I.pin p (List.mem_append_left _ z)) (h p), I.hok, I.len⟩

theorem nodup_ix {N : List Str} (hN : N.Nodup) {i j : Nat} {x : Str} (a : N[i]? = some x) (b : N[j]? = some x) : i = j := by
  obtain ⟨h1, e1⟩ := List.getElem?_eq_some_iff.mp a
  obtain ⟨h2, e2⟩ := List.getElem?_eq_some_iff.mp b
  exact (List.getElem_inj hN).mp (e1.trans e2.symm)

/-- a name is stored; what changed -/
theorem store_ok2 {M : Model} {A : Around} {E : Value → Shared → Prop} {i : Nat} {x : Str} {v : V} {u : Value} {Q : Unit → Shared → Prop} (I : Inv X pins σ H s) (hN : X.N.Nodup) (hi : X.N[i]? = some x) (hx : Loc X.env.scope x) (r : RelV v u)
    (h : ∀ s', Inv X pins (σ.set i (some v)) H s' → (∃ a, Heap.SameBut a s.heap s'.heap ∧ (a = X.env.locals ∨ X.env.cells.lookup x = some a)) → Q () s') (hf : X.fn x = true ∨ X.env.scope.names.lookup x = some .local := by first | exact .inl rfl | exact .inr rfl | assumption) : wpAny M A (storeName X.env x u) Q E s := by
  obtain ⟨m, hn, hl⟩ := id I.loc
  have hcls : (X.env.scope.kind == .class || (X.env.scope.kind == .module && X.env.locals != X.env.globals)) = false := by rw [I.ok.kind]; rfl
  have hiσ : i < σ.length := by rw [I.len]; exact (List.getElem?_eq_some_iff.mp hi).1
  have cne := I.cne
  have tracked : ∀ {a : Addr} {h' : Heap}, (∃ o, s.heap.get? a = some o ∧ H a = none) → Heap.SameBut a s.heap h' → HOk X.prog X.w H h' := fun {a h'} ha hs b ob e => by
    obtain ⟨_, _, hfree⟩ := ha
    refine (I.hok b ob e).stay (fun c w' hc q => (hs.2 c ?_).trans q) (fun _ q => q) fun _ _ q => q
    rintro rfl
    rcases hc with rfl | hc
    · rw [hfree] at e; cases e
    · rw [hfree] at hc; cases hc
  rcases hx with hk | hk
  · refine wpAny_storeName_local hk hn (fun h' hn' hs => ?_) hcls
    obtain ⟨oL, _, _, hoL, _⟩ := id hn
    refine h _ ⟨I.ok, I.os, I.bare, ⟨fun b o e n hb hx => ?_, fun b o e n hb hx => ?_, I.base.free, fun b o e hx => ?_, I.base.tups, I.base.frzs, I.base.tbls⟩, ⟨_, hn', fun j y v' e1 e2 e3 => ?_⟩, fun y c e => ?_, I.free, I.freeC, fun p hp => ?_, tracked ⟨oL, hoL, I.free⟩ hs, by simpa using I.len⟩ ⟨_, hs, .inl rfl⟩
    · exact (hs.2 b (Nat.ne_of_lt (Nat.lt_of_lt_of_le (Heap.lt_size e) I.ok.above))).trans (I.base.keep b o e n hb hx)
    · obtain ⟨sl, e1⟩ := I.base.slot b o e n hb hx
      exact ⟨sl, (hs.2 b (Nat.ne_of_lt (Nat.lt_of_lt_of_le (Heap.lt_size e) I.ok.above))).trans e1⟩
    · obtain ⟨o', e1⟩ := I.base.there b o e hx
      exact ⟨o', (hs.2 b (Nat.ne_of_lt (Nat.lt_of_lt_of_le (Heap.lt_size e) I.ok.above))).trans e1⟩
    · by_cases hj : j = i
      · subst hj
        rw [hi] at e1; cases e1
        rw [List.getElem?_set_self hiσ] at e2
        cases e2
        exact ⟨u, r, .inl ⟨hk, by simp⟩⟩
      · rw [List.getElem?_set_ne (Ne.symm hj)] at e2
        obtain ⟨u', r', q⟩ := hl j y v' e1 e2 e3
        refine ⟨u', r', ?_⟩
        rcases q with ⟨k, e⟩ | ⟨k, c, e, z⟩
        · refine .inl ⟨k, ?_⟩
          have : y ≠ x := fun e => hj (nodup_ix hN e1 (e ▸ hi))
          simp [this, e]
        · exact .inr ⟨k, c, e, z.sameBut hs (cne y c e)⟩
    · obtain ⟨w', z⟩ := I.cell y c e
      exact ⟨w', z.sameBut hs (cne y c e)⟩
    · obtain ⟨e, n, ne, nf, d⟩ := I.pin p hp
      exact ⟨(hs.2 p.1 ne).trans e, n, ne, nf, d⟩
  · have hfn : X.fn x = true := by
      rcases hf with z | z
      · exact z
      · rw [z] at hk; cases hk
    obtain ⟨c, hc⟩ := I.ok.has x (.inl hk)
    obtain ⟨w', z⟩ := I.cell x c hc
    refine wpAny_storeName_cell I.ok.kind hk hc z (fun h' hc' hs => ?_)
    obtain ⟨oc, hoc, hocd⟩ := id z
    refine h { s with heap := h' } ⟨I.ok, I.os, I.bare, ⟨fun b o e n hb hx => ?_, fun b o e n hb hx => ?_, I.base.free, fun b o e hx => ?_, I.base.tups, I.base.frzs, I.base.tbls⟩, ⟨m, hn.sameBut hs (Ne.symm (cne x c hc)), fun j y v' e1 e2 e3 => ?_⟩, fun y c' e => ?_, I.free, I.freeC, fun p hp => ?_, tracked ⟨oc, hoc, I.freeC x c hc⟩ hs, by simpa using I.len⟩ ⟨c, hs, .inr hc⟩
    · exact (hs.2 b (Nat.ne_of_lt (Nat.lt_of_lt_of_le (Heap.lt_size e) (I.ok.cab x c hfn hc)))).trans (I.base.keep b o e n hb hx)
    · obtain ⟨sl, e1⟩ := I.base.slot b o e n hb hx
      exact ⟨sl, (hs.2 b (Nat.ne_of_lt (Nat.lt_of_lt_of_le (Heap.lt_size e) (I.ok.cab x c hfn hc)))).trans e1⟩
    · obtain ⟨o', e1⟩ := I.base.there b o e hx
      exact ⟨o', (hs.2 b (Nat.ne_of_lt (Nat.lt_of_lt_of_le (Heap.lt_size e) (I.ok.cab x c hfn hc)))).trans e1⟩
    · by_cases hj : j = i
      · subst hj
        rw [hi] at e1; cases e1
        rw [List.getElem?_set_self hiσ] at e2
        cases e2
        exact ⟨u, r, .inr ⟨.inl hk, c, hc, hc'⟩⟩
      · rw [List.getElem?_set_ne (Ne.symm hj)] at e2
        obtain ⟨u', r', q⟩ := hl j y v' e1 e2 e3
        refine ⟨u', r', ?_⟩
        rcases q with q | ⟨k, c', e, z'⟩
        · exact .inl q
        · refine .inr ⟨k, c', e, z'.sameBut hs ?_⟩
          rintro rfl
          exact hj (nodup_ix hN e1 (I.ok.inj _ _ _ e hc ▸ hi))
    · by_cases hcc : c' = c
      · subst hcc; exact ⟨_, hc'⟩
      · obtain ⟨w2, z2⟩ := I.cell y c' e
        exact ⟨w2, z2.sameBut hs hcc⟩
    · obtain ⟨e, n, ne, nf, d⟩ := I.pin p hp
      refine ⟨(hs.2 p.1 ?_).trans e, n, ne, nf, d⟩
      intro q
      rw [q, hoc] at e
      have q' : oc = p.2 := Option.some.inj e
      exact d w' (by rw [← q']; exact hocd)
theorem store_ok {M : Model} {A : Around} {E : Value → Shared → Prop} {i : Nat} {x : Str} {v : V} {u : Value} {Q : Unit → Shared → Prop} (I : Inv X pins σ H s) (hN : X.N.Nodup) (hi : X.N[i]? = some x) (hx : Loc X.env.scope x) (r : RelV v u)
    (h : ∀ s', Inv X pins (σ.set i (some v)) H s' → Q () s') (hf : X.fn x = true ∨ X.env.scope.names.lookup x = some .local := by first | exact .inl rfl | exact .inr rfl | assumption) : wpAny M A (storeName X.env x u) Q E s :=
  store_ok2 I hN hi hx r (fun s' I' _ => h s' I') hf
/-- behind a call or a block, the state as it is -/
theorem Inv.call' {s' : Shared} {ch : List Addr} (I : Inv X pins σ H s) (ho : s'.os = s.os) (u : Un (frs X.stack) ch H H' s.heap s'.heap) (hok : HOk X.prog X.w H' s'.heap) (hg : AllBare s'.gens)
    (hch : ∀ b ∈ ch, (b ∈ X.ex ∨ X.s₀.heap.objs.size ≤ b) ∧ b ≠ X.env.locals ∧ (∀ x c, X.env.cells.lookup x = some c → c ≠ b) ∧ ∀ p ∈ X.pn ++ pins, p.1 ≠ b) : Inv X pins σ H' s' := by
  obtain ⟨h', g', d', t', o'⟩ := s'
  have e : o' = s.os := ho
  subst e
  exact I.call (g' := g') (t' := t') (d' := d') u hok hg hch
end

/-! ### the judgements -/
/-- an exception: its class, its own dict's address (where it has one), the abstract heap behind it -/
abbrev XK := Value → Option Addr → Hp → Prop
abbrev St := List (Option V)
abbrev VK := V → Hp → Prop
/-- an expression's reading; a test's; an argument list's -/
abbrev TE := St → Hp → VK → Prop
abbrev TT := St → Hp → (Bool → Hp → Prop) → Prop
abbrev TA := St → Hp → (List V → Hp → Prop) → Prop
/-- what is wanted behind a statement -/
structure Ends where
  nx : St → Hp → Prop
  rt : VK
  bk : St → Hp → Prop := fun _ _ => False
  ct : St → Hp → Prop := fun _ _ => False
abbrev TS := Ends → St → Hp → Prop

def EP (X : Cx) (pins : List (Addr × Obj)) (σ : St) (Q : VK) (u : Value) (s' : Shared) : Prop := ∃ v H', Inv X pins σ H' s' ∧ RelV v u ∧ Q v H'
def TP (X : Cx) (pins : List (Addr × Obj)) (σ : St) (Q : Bool → Hp → Prop) (b : Bool) (s' : Shared) : Prop := ∃ H', Inv X pins σ H' s' ∧ Q b H'
def AP (X : Cx) (pins : List (Addr × Obj)) (σ : St) (Q : List V → Hp → Prop) (us : List Value) (s' : Shared) : Prop := ∃ vs H', Inv X pins σ H' s' ∧ Vals vs us ∧ Q vs H'
def SP (X : Cx) (pins : List (Addr × Obj)) (D : Ends) (f : Flow) (s' : Shared) : Prop :=
  match f with
  | .next => ∃ σ' H', Inv X pins σ' H' s' ∧ D.nx σ' H'
  | .brk => ∃ σ' H', Inv X pins σ' H' s' ∧ D.bk σ' H'
  | .cont => ∃ σ' H', Inv X pins σ' H' s' ∧ D.ct σ' H'
  | .ret u => ∃ v σ' H', Inv X pins σ' H' s' ∧ RelV v u ∧ D.rt v H'

def PE (X : Cx) (e : Expr) (t : TE) : Prop :=
  ∀ (pins : List (Addr × Obj)) (s : Shared) (σ : St) (H : Hp) (Q : VK), Inv X pins σ H s → t σ H Q → wpAny (model X.prog X.w) X.A (eval e X.env) (EP X pins σ Q) X.xe s
def PT (X : Cx) (e : Expr) (t : TT) : Prop :=
  ∀ (pins : List (Addr × Obj)) (s : Shared) (σ : St) (H : Hp) (Q : Bool → Hp → Prop), Inv X pins σ H s → t σ H Q → wpAny (model X.prog X.w) X.A (isTrue e X.env (eval e X.env)) (TP X pins σ Q) X.xe s
/-- a test whatever its 'whole' is (and, or) -/
def PW (X : Cx) (e : Expr) (t : TT) : Prop :=
  ∀ (whole : Sem Value) (pins : List (Addr × Obj)) (s : Shared) (σ : St) (H : Hp) (Q : Bool → Hp → Prop), Inv X pins σ H s → t σ H Q → wpAny (model X.prog X.w) X.A (isTrue e X.env whole) (TP X pins σ Q) X.xe s
theorem PW.pt {X : Cx} {e : Expr} {t : TT} (h : PW X e t) : PT X e t := h _
/-- an argument list (no star), from the left -/
def PA (X : Cx) (es : List Expr) (t : TA) : Prop :=
  ∀ (pos : Pos) (pins : List (Addr × Obj)) (s : Shared) (σ : St) (H : Hp) (Q : List V → Hp → Prop), Inv X pins σ H s → t σ H Q → wpAny (model X.prog X.w) X.A (spliced (backTo pos (starEach es X.env))) (AP X pins σ Q) X.xe s
def PS (X : Cx) (st : Stmt) (t : TS) : Prop :=
  ∀ (pins : List (Addr × Obj)) (s : Shared) (σ : St) (H : Hp) (D : Ends), Inv X pins σ H s → t D σ H → wpAny (model X.prog X.w) X.A (exec st X.env) (SP X pins D) X.xe s
def PSs (X : Cx) (st : List Stmt) (t : TS) : Prop :=
  ∀ (pins : List (Addr × Obj)) (s : Shared) (σ : St) (H : Hp) (D : Ends), Inv X pins σ H s → t D σ H → wpAny (model X.prog X.w) X.A (execs st X.env) (SP X pins D) X.xe s
/-- weaken the end -/
theorem thn {α : Type} {t : Sem α} {Q Q' : α → Shared → Prop} {M : Model} {A : Around} {E : Value → Shared → Prop} {s : Shared} (h : wpAny M A t Q E s) (hQ : ∀ a s, Q a s → Q' a s) : wpAny M A t Q' E s := wpAny_mono h hQ fun _ _ x => x
end L2

namespace L2
open PySem PySem.Spec PyProof.Rows
section
variable {X : Cx}

/-- two expressions in a row -/
theorem bin {a b : Expr} {ta tb : TE} (ha : PE X a ta) (hb : PE X b tb) {pins : List (Addr × Obj)} {s : Shared} {σ : St} {H : Hp} {R : V → V → Hp → Prop} (I : Inv X pins σ H s) (h : ta σ H fun x H1 => tb σ H1 fun y H2 => R x y H2)
    {α : Type} {Q : α → Shared → Prop} {f : Value → Value → Sem α}
    (hf : ∀ v u s2 x y H2, Inv X pins σ H2 s2 → RelV x v → RelV y u → R x y H2 → wpAny (model X.prog X.w) X.A (f v u) Q X.xe s2) :
    wpAny (model X.prog X.w) X.A (eval a X.env) (fun v s₁ => wpAny (model X.prog X.w) X.A (eval b X.env) (fun u s₂ => wpAny (model X.prog X.w) X.A (f v u) Q X.xe s₂) X.xe s₁) X.xe s := by
  refine thn (ha pins s σ H _ I h) fun v s1 ⟨x, H1, I1, r1, q1⟩ => ?_
  refine thn (hb pins s1 σ H1 _ I1 q1) fun u s2 ⟨y, H2, I2, r2, q2⟩ => ?_
  exact hf v u s2 x y H2 I2 r1 r2 q2

/-! ### names and constants -/
def tVar (i : Nat) : TE := fun σ H Q => ∃ v, σ[i]? = some (some v) ∧ Q v H
def tC (v : V) : TE := fun _ H Q => Q v H
theorem pe_var {i : Nat} {x : Str} {pos : Pos} (hN : X.N[i]? = some x) (hv : Vis X.env.scope x) (hd : (x == ("__debug__" : Str)) = false := by decide) (hcd : (x == ("__classdict__" : Str)) = false := by decide) : PE X (.Name x pos) (tVar i) := by
  intro pins s σ H Q I h
  obtain ⟨v, e, h⟩ := h
  obtain ⟨m, hn, hl⟩ := I.loc
  obtain ⟨u, r, l⟩ := hl i x v hN e hv
  have fin : EP X pins σ Q u s := ⟨v, H, I, r, h⟩
  rcases l with ⟨hk, hm⟩ | ⟨hk, c, hc, hcell⟩
  · exact wpAny_Name (wpAny_loadName_local I.ok.kind hk hn hm fin) hd
  · rcases hk with hk | hk
    · exact wpAny_Name (wpAny_loadName_cell I.ok.kind hk hc hcell fin) hd
    · exact wpAny_Name (wpAny_loadName_free I.ok.kind hk hc hcell fin hcd) hd
theorem pe_int {i j pos} : PE X (.Constant (.int i) j pos) (tC (.int i)) := fun _ _ _ H _ I h => wpAny_Constant_int ⟨.int i, H, I.tok _, ⟨_, rfl⟩, h⟩
theorem pe_str {x j pos} : PE X (.Constant (.str x) j pos) (tC (.str x)) := fun _ _ _ H _ I h => Calls.Constant_str ⟨.str x, H, I.tok _, ⟨_, rfl⟩, h⟩

/-- a global name of the def -/
def Gl (X : Cx) (x : Str) : Prop := X.env.kindOf x = some .globalImplicit
theorem ld_glob {E : Value → Shared → Prop} {pins : List (Addr × Obj)} {s : Shared} {σ : St} {H : Hp} {x : Str} {u : Value} {pos : Pos} {Q : Value → Shared → Prop} (I : Inv X pins σ H s) (hg : Gl X x) (hm : X.mg x = some u) (h : Q u s)
    (hd : (x == ("__debug__" : Str)) = false := by decide) : wpAny (model X.prog X.w) X.A (eval (.Name x pos) X.env) Q E s :=
  Calls.Name_function_global I.ok.kind hg (Calls.loadGlobal_global (by rw [I.ok.glob]; exact I.mod.glob.keeps I.bk) hm h) hd
theorem ld_blt {E : Value → Shared → Prop} {pins : List (Addr × Obj)} {s : Shared} {σ : St} {H : Hp} {x : Str} {u : Value} {pos : Pos} {Q : Value → Shared → Prop} (I : Inv X pins σ H s) (hg : Gl X x) (hm : X.mg x = none) (hv : bootBuiltins x = some u) (h : Q u s)
    (hn : x ≠ "__name__" := by decide) (hd : (x == ("__debug__" : Str)) = false := by decide) : wpAny (model X.prog X.w) X.A (eval (.Name x pos) X.env) Q E s := by
  obtain ⟨mb, h1, h2⟩ := I.mod.blt
  exact Calls.Name_function_global I.ok.kind hg (Calls.loadGlobal_builtin (by rw [I.ok.glob]; exact I.mod.glob.keeps I.bk) hm (by rw [I.ok.blt]; exact h1.keeps I.bk) ((h2 x hn).trans hv) h) hd
theorem pe_bltn {x : Str} {v : V} {u : Value} {pos : Pos} (hg : Gl X x) (hm : X.mg x = none) (hv : bootBuiltins x = some u) (r : RelV v u) (hn : x ≠ "__name__" := by decide) (hd : (x == ("__debug__" : Str)) = false := by decide) : PE X (.Name x pos) (tC v) :=
  fun _ _ _ H _ I h => ld_blt I hg hm hv ⟨v, H, I, r, h⟩ hn hd

/-! ### arithmetic -/
variable {a b : Expr} {ta tb : TE} {pos : Pos}
/-! ### comparisons -/
def PC (X : Cx) (op : CmpOp) (a b : Expr) (t : TE) : Prop :=
  ∀ (pins : List (Addr × Obj)) (s : Shared) (σ : St) (H : Hp) (Q : VK), Inv X pins σ H s → t σ H Q →
    wpAny (model X.prog X.w) X.A (eval a X.env) (fun v s₁ => wpAny (model X.prog X.w) X.A (eval b X.env) (fun u s₂ => wpAny (model X.prog X.w) X.A (compareOp op v u) (EP X pins σ Q) X.xe s₂) X.xe s₁) X.xe s
/-- a comparison as a value, as a test -/
def tB (t : TE) : TT := fun σ H Q => t σ H fun x H1 => ∃ c, x = .bl c ∧ Q c H1
/-- an expression whose value is a bool, as a test -/
theorem pt_val {e : Expr} {t : TE} (h : PE X e t) (he : ∀ whole, isTrue e X.env whole = (do let v ← whole; standAt e.pos; holding [v] (truthy v)) := by intro _; rfl) : PT X e (tB t) := by
  intro pins s σ H Q I hw
  refine isTrue_plain (thn (h pins s σ H _ I hw) fun v s1 ⟨x, H1, I1, r1, q1⟩ => ?_) (he _)
  obtain ⟨d, rfl, q⟩ := q1
  cases r1
  exact wpAny_truthy_bool ⟨H1, I1, q⟩

/-! ### and, or, not -/
variable {tA tB' : TT} {rest : List Expr}
def tAnd (t u : TT) : TT := fun σ H Q => t σ H fun c H1 => if c = true then u σ H1 Q else Q false H1
def tOr (t u : TT) : TT := fun σ H Q => t σ H fun c H1 => if c = true then Q true H1 else u σ H1 Q
def tNot (t : TT) : TT := fun σ H Q => t σ H fun c H1 => Q (!c) H1
theorem pw_and1 (ha : PT X a tA) : PW X (.BoolOp .And [a] pos) tA := by
  intro wh pins s σ H Q I h
  refine isTrue_and (thn (ha pins s σ H Q I h) fun c s1 e => ?_)
  cases c with
  | true => exact isTrue_and_nil e
  | false => exact e
theorem pw_or1 (ha : PT X a tA) : PW X (.BoolOp .Or [a] pos) tA := by
  intro wh pins s σ H Q I h
  refine isTrue_or (thn (ha pins s σ H Q I h) fun c s1 e => ?_)
  cases c with
  | false => exact isTrue_or_nil e
  | true => exact e
theorem pw_and (ha : PT X a tA) (hb : PW X (.BoolOp .And (b :: rest) pos) tB') : PW X (.BoolOp .And (a :: b :: rest) pos) (tAnd tA tB') := by
  intro wh pins s σ H Q I h
  refine isTrue_and (thn (ha pins s σ H _ I h) fun c s1 ⟨H1, I1, q1⟩ => ?_)
  cases c with
  | true => exact hb wh pins s1 σ H1 Q I1 q1
  | false => exact ⟨H1, I1, q1⟩
theorem pw_or (ha : PT X a tA) (hb : PW X (.BoolOp .Or (b :: rest) pos) tB') : PW X (.BoolOp .Or (a :: b :: rest) pos) (tOr tA tB') := by
  intro wh pins s σ H Q I h
  refine isTrue_or (thn (ha pins s σ H _ I h) fun c s1 ⟨H1, I1, q1⟩ => ?_)
  cases c with
  | true => exact ⟨H1, I1, q1⟩
  | false => exact hb wh pins s1 σ H1 Q I1 q1
theorem pt_not (ha : PT X a tA) : PT X (.UnaryOp .Not a pos) (tNot tA) := by
  intro pins s σ H Q I h
  exact isTrue_not (ha pins s σ H (fun c H1 => Q (!c) H1) I h)
/-- .. as values (bools) -/
def tAndV (ta tb : TE) : TE := fun σ H Q => ta σ H fun x H1 => ∃ c, x = .bl c ∧ if c = true then tb σ H1 Q else Q (.bl false) H1
theorem pe_one {op} {t : TE} (h : PE X a t) : PE X (.BoolOp op [a] pos) t := fun pins s σ H Q I hw => BoolOp_one (h pins s σ H Q I hw)
theorem pe_and (ha : PE X a ta) (hb : PE X (.BoolOp .And (b :: rest) pos) tb) : PE X (.BoolOp .And (a :: b :: rest) pos) (tAndV ta tb) := by
  intro pins s σ H Q I h
  refine BoolOp_and (thn (ha pins s σ H _ I h) fun v s1 ⟨x, H1, I1, r1, q1⟩ => ?_)
  obtain ⟨c, rfl, q1⟩ := q1
  cases r1
  refine wpAny_truthy_bool ?_
  cases c with
  | true => exact hb pins s1 σ H1 Q I1 q1
  | false => exact ⟨.bl false, H1, I1, rfl, q1⟩
/-- a if t else b -/
def tIf (t : TT) (ta tb : TE) : TE := fun σ H Q => t σ H fun c H1 => if c = true then ta σ H1 Q else tb σ H1 Q
theorem pe_ifExp {c : Expr} (hc : PT X c tA) (ha : PE X a ta) (hb : PE X b tb) : PE X (.IfExp c a b pos) (tIf tA ta tb) := by
  intro pins s σ H Q I h
  refine wpAny_IfExp (thn (hc pins s σ H _ I h) fun d s1 ⟨H1, I1, q1⟩ => ?_)
  cases d with
  | true => exact ha pins s1 σ H1 Q I1 q1
  | false => exact hb pins s1 σ H1 Q I1 q1
end
end L2

namespace L2
open PySem PySem.Spec PyProof.Rows

/-! ### a list, a tuple that is read: tracked, frozen, or an object of the module -/
def SqL (K : PySem.W.Frag) (H : Hp) (a : Addr) (xs : List V) : Prop :=
  Rd H a (.lst xs) ∨
    ∃ (o : Obj) (its : Array Value) (n : Nat), K.lookup a = some o ∧ o.cls = .type "list" ∧ o.dict = none ∧ o.data = .seq its n ∧ its.size ≤ sizeLine ∧ Vals xs its.toList
def SqT (K : PySem.W.Frag) (H : Hp) (a : Addr) (xs : List V) : Prop :=
  Rd H a (.tup xs) ∨
    ∃ (o : Obj) (its : Array Value) (n : Nat), K.lookup a = some o ∧ o.cls = .type "tuple" ∧ o.data = .seq its n ∧ its.size ≤ sizeLine ∧ Vals xs its.toList
def absV : Value → Option V
  | .none => some .non
  | .bool b => some (.bl b)
  | .int i _ => some (.int i)
  | .str x _ => some (.str x)
  | .bytes b _ => some (.byt b)
  | .float b _ => some (.flt b)
  | .ref a => some (.ref a)
  | .type n => some (.ty n)
  | _ => none
theorem RelV.abs {x : V} {u : Value} (r : RelV x u) : absV u = some x := by
  cases x with
  | non => cases r; rfl
  | bl _ => cases r; rfl
  | int _ => obtain ⟨t, rfl⟩ := r; rfl
  | str _ => obtain ⟨t, rfl⟩ := r; rfl
  | byt _ => obtain ⟨t, rfl⟩ := r; rfl
  | flt _ => obtain ⟨t, rfl⟩ := r; rfl
  | ref _ => cases r; rfl
  | ty _ => cases r; rfl
theorem RelV.inj {x y : V} {u : Value} (r : RelV x u) (q : RelV y u) : x = y := Option.some.inj (r.abs.symm.trans q.abs)
theorem Vals.inj : ∀ {xs ys : List V} {us : List Value}, Vals xs us → Vals ys us → xs = ys
  | _, _, _, .nil, .nil => rfl
  | _, _, _, .cons r t, .cons r' t' => by rw [r.inj r', Vals.inj t t']
section
variable {X : Cx} {pins : List (Addr × Obj)} {σ : St} {H : Hp} {s : Shared} {a : Addr} {xs ys : List V}
theorem SqL.of {K : PySem.W.Frag} (h : H a = some (.lst xs)) : SqL K H a xs := .inl (.inl h)
theorem SqT.of {K : PySem.W.Frag} (h : H a = some (.tup xs)) : SqT K H a xs := .inl (.inl h)
theorem Inv.list (I : Inv X pins σ H s) (h : SqL X.K H a xs) : ∃ its : List Value, Vals xs its ∧ PlainL s.heap a its.toArray ∧ xs.length ≤ sizeLine := by
  rcases h with h | ⟨o, its, n, hk, hc, hd, hs, hz, r⟩
  · obtain ⟨z, its, n, r, e⟩ := h.ok I.hok
    exact ⟨its, r, ⟨_, n, e, rfl, rfl, rfl⟩, z⟩
  · refine ⟨its.toList, r, ⟨o, n, I.kIn a o hk, hc, hd, by simpa using hs⟩, ?_⟩
    have e := r.length
    simp only [Array.length_toList] at e
    omega
theorem Inv.tuple (I : Inv X pins σ H s) (h : SqT X.K H a xs) : ∃ its : List Value, Vals xs its ∧ IsTup s.heap a its.toArray ∧ xs.length ≤ sizeLine := by
  rcases h with h | ⟨o, its, n, hk, hc, hs, hz, r⟩
  · obtain ⟨z, its, r, p⟩ := h.ok I.hok
    exact ⟨its, r, p.tup, z⟩
  · refine ⟨its.toList, r, ⟨o, I.kIn a o hk, hc, n, by simpa using hs⟩, ?_⟩
    have e := r.length
    simp only [Array.length_toList] at e
    omega
theorem Inv.list_inj (I : Inv X pins σ H s) (h : SqL X.K H a xs) (h' : SqL X.K H a ys) : xs = ys := by
  obtain ⟨its, r, ⟨o, n, e, _, _, d⟩, _⟩ := I.list h
  obtain ⟨its', r', ⟨o', n', e', _, _, d'⟩, _⟩ := I.list h'
  rw [e] at e'; cases e'
  rw [d] at d'
  injection d' with d1 _
  have : its = its' := by simpa using congrArg Array.toList d1
  subst this
  exact r.inj r'
end

/-! ### another wish about exceptions -/
abbrev Cx.wish (X : Cx) (E : Value → Shared → Prop) : Cx := { X with xe := E }
/-- no exception leaves -/
abbrev Cx.nox (X : Cx) : Cx := X.wish fun _ _ => False
theorem Cx.Ok.wish {X : Cx} (ok : X.Ok) (E : Value → Shared → Prop) : (X.wish E).Ok :=
  ⟨ok.mod, ok.kind, ok.glob, ok.blt, ok.above, ok.inj, ok.has, ok.cab, ok.hd, ok.frames, ok.stk, ok.exf, ok.bs, ok.bsz, ok.noex, ok.exfs, ok.funs, ok.frf⟩
theorem Cx.Ok.unwish {X : Cx} {E : Value → Shared → Prop} (ok : (X.wish E).Ok) : X.Ok :=
  ⟨ok.mod, ok.kind, ok.glob, ok.blt, ok.above, ok.inj, ok.has, ok.cab, ok.hd, ok.frames, ok.stk, ok.exf, ok.bs, ok.bsz, ok.noex, ok.exfs, ok.funs, ok.frf⟩
section
variable {X : Cx} {pins : List (Addr × Obj)} {σ : St} {H : Hp} {s : Shared} {E : Value → Shared → Prop}
theorem Inv.wish (I : Inv X pins σ H s) (E : Value → Shared → Prop) : Inv (X.wish E) pins σ H s := ⟨I.ok.wish E, I.os, I.bare, I.base, I.loc, I.cell, I.free, I.freeC, I.pin, I.hok, I.len⟩
theorem Inv.unwish (I : Inv (X.wish E) pins σ H s) : Inv X pins σ H s := ⟨I.ok.unwish, I.os, I.bare, I.base, I.loc, I.cell, I.free, I.freeC, I.pin, I.hok, I.len⟩
theorem SP.unwish {D : Ends} {f : Flow} {s' : Shared} (h : SP (X.wish E) pins D f s') : SP X pins D f s' := by
  cases f with
  | next => obtain ⟨σ', H', I, q⟩ := h; exact ⟨σ', H', I.unwish, q⟩
  | brk => obtain ⟨σ', H', I, q⟩ := h; exact ⟨σ', H', I.unwish, q⟩
  | cont => obtain ⟨σ', H', I, q⟩ := h; exact ⟨σ', H', I.unwish, q⟩
  | ret u => obtain ⟨v, σ', H', I, r, q⟩ := h; exact ⟨v, σ', H', I.unwish, r, q⟩
theorem PE.nox {e : Expr} {t : TE} (h : PE X.nox e t) : PE X e t := fun pins s σ H Q I hw =>
  wpAny_mono (h pins s σ H Q (I.wish _) hw) (fun _ _ ⟨v, H', I', r, q⟩ => ⟨v, H', I'.unwish, r, q⟩) fun _ _ z => False.elim z
theorem PT.nox {e : Expr} {t : TT} (h : PT X.nox e t) : PT X e t := fun pins s σ H Q I hw =>
  wpAny_mono (h pins s σ H Q (I.wish _) hw) (fun _ _ ⟨H', I', q⟩ => ⟨H', I'.unwish, q⟩) fun _ _ z => False.elim z
theorem PSs.nox {st : List Stmt} {t : TS} (h : PSs X.nox st t) : PSs X st t := fun pins s σ H D I hw =>
  wpAny_mono (h pins s σ H D (I.wish _) hw) (fun _ _ q => q.unwish) fun _ _ z => False.elim z
end

/-! ### blocks and small statements -/
section
variable {X : Cx} {st : Stmt} {rest : List Stmt} {t u : TS} {e : Expr} {te : TE} {pos : Pos}
def tNext : TS := fun D σ H => D.nx σ H
def tSeq (t u : TS) : TS := fun D σ H => t { D with nx := u D } σ H
theorem pss_nil : PSs X [] tNext := fun _ _ σ H _ I h => wpAny_execs_nil ⟨σ, H, I, h⟩
theorem pss_cons (h1 : PS X st t) (h2 : PSs X rest u) : PSs X (st :: rest) (tSeq t u) := by
  intro pins s σ H D I h
  refine wpAny_execs_cons (thn (h1 pins s σ H { D with nx := u D } I h) fun f s1 q => ?_)
  cases f with
  | next =>
    obtain ⟨σ', H', I', q⟩ := q
    exact h2 pins s1 σ' H' D I' q
  | ret v => exact q
  | brk => exact q
  | cont => exact q
theorem pss_one (h1 : PS X st t) : PSs X [st] t := by
  intro pins s σ H D I h
  refine wpAny_execs_cons (thn (h1 pins s σ H D I h) fun f s1 q => ?_)
  cases f with
  | next => exact wpAny_execs_nil q
  | ret v => exact q
  | brk => exact q
  | cont => exact q
def tRet (te : TE) : TS := fun D σ H => te σ H D.rt
theorem ps_ret (he : PE X e te) : PS X (.Return (some e) pos) (tRet te) := by
  intro pins s σ H D I h
  exact wpAny_Return_some (thn (he pins s σ H _ I h) fun v s1 ⟨x, H1, I1, r1, q1⟩ => ⟨x, σ, H1, I1, r1, q1⟩)
def tIfS (c : TT) (t u : TS) : TS := fun D σ H => c σ H fun b H1 => if b = true then t D σ H1 else u D σ H1
theorem ps_if {c : Expr} {a b : List Stmt} {tc : TT} (hc : PT X c tc) (ha : PSs X a t) (hb : PSs X b u) : PS X (.If c a b pos) (tIfS tc t u) := by
  intro pins s σ H D I h
  refine wpAny_If (thn (hc pins s σ H _ I h) fun d s1 ⟨H1, I1, q1⟩ => ?_)
  cases d with
  | true => exact ha pins s1 σ H1 D I1 q1
  | false => exact hb pins s1 σ H1 D I1 q1
end

/-! ### targets -/
abbrev TG := V → St → Hp → (St → Hp → Prop) → Prop
abbrev TGs := List V → St → Hp → (St → Hp → Prop) → Prop
def PG (X : Cx) (target : Expr) (t : TG) : Prop :=
  ∀ (pins : List (Addr × Obj)) (s : Shared) (σ : St) (H : Hp) (v : V) (u : Value) (Q : St → Hp → Prop), Inv X pins σ H s → RelV v u → t v σ H Q →
    wpAny (model X.prog X.w) X.A (assign target X.env u) (fun _ s' => ∃ σ' H', Inv X pins σ' H' s' ∧ Q σ' H') X.xe s
/-- several targets, one after another -/
def PGs (X : Cx) (ts : List Expr) (t : TGs) : Prop :=
  ∀ (pins : List (Addr × Obj)) (s : Shared) (σ : St) (H : Hp) (vs : List V) (us : List Value) (Q : St → Hp → Prop), Inv X pins σ H s → Vals vs us → t vs σ H Q →
    wpAny (model X.prog X.w) X.A (assignInOrder ((assignEach ts X.env).map (·.2)) us) (fun _ s' => ∃ σ' H', Inv X pins σ' H' s' ∧ Q σ' H') X.xe s
section
variable {X : Cx} {pos : Pos}
def gName (i : Nat) : TG := fun v σ H Q => Q (σ.set i (some v)) H
theorem pg_name {i : Nat} {x : Str} (hN : X.N.Nodup) (hi : X.N[i]? = some x) (hx : Loc X.env.scope x) (hf : X.fn x = true ∨ X.env.scope.names.lookup x = some .local := by first | exact .inl rfl | exact .inr rfl | assumption) : PG X (.Name x pos) (gName i) := by
  intro pins s σ H v u Q I r h
  exact wpAny_assign_Name (store_ok I hN hi hx r (fun s' I' => ⟨_, H, I', h⟩) hf)
/-- target = value -/
def tAsg (te : TE) (g : TG) : TS := fun D σ H => te σ H fun x H1 => g x σ H1 D.nx
/-- name = value -/
theorem ps_set {i : Nat} {x : Str} {e : Expr} {te : TE} {pos' : Pos} (hN : X.N.Nodup) (hi : X.N[i]? = some x) (hx : Loc X.env.scope x) (he : PE X e te) (hs : swapsWith e (some (.Name x pos')) pos.line X.env = pure false := by rfl) (hf : X.fn x = true ∨ X.env.scope.names.lookup x = some .local := by first | exact .inl rfl | exact .inr rfl | assumption) :
    PS X (.Assign [.Name x pos'] e pos) (tAsg te (gName i)) := by
  intro pins s σ H D I h
  refine wpAny_Assign_Name (thn (he pins s σ H _ I h) fun v s1 ⟨y, H1, I1, r1, q1⟩ => ?_) hs
  exact store_ok I1 hN hi hx r1 (fun s2 I2 => ⟨_, H1, I2, q1⟩) hf
end

/-! ### while -/
section
variable {X : Cx} {pos : Pos}
/-- the invariant W with its measure -/
def tWhile (c : TT) (tb : TS) : TS := fun D σ H => ∃ W : Nat → St → Hp → Prop, (∃ m, W m σ H) ∧ ∀ m σ H, W m σ H →
  c σ H fun b H1 => if b = true then ∃ N : St → Hp → Prop, (∀ σ' H', N σ' H' → ∃ m', m' < m ∧ W m' σ' H') ∧ tb { D with nx := N, ct := N, bk := D.nx } σ H1 else D.nx σ H1
theorem ps_while {c : Expr} {body : List Stmt} {tc : TT} {tb : TS} (hp : PassesOwn (model X.prog X.w) X.A X.env X.xe) (hc : PT X c tc) (hb : PSs X body tb) : PS X (.While c body [] pos) (tWhile tc tb) := by
  intro pins s σ H D I h
  obtain ⟨W, ⟨m0, w0⟩, turn⟩ := h
  refine wpAny_While (codeAny_whileLoop (fun n s' => ∃ σ' H', Inv X pins σ' H' s' ∧ W n σ' H') ?_ m0 ⟨σ, H, I, w0⟩)
  rintro n s1 ⟨σ1, H1, I1, w1⟩
  refine wpAny_passesOwn hp (thn (hc pins s1 σ1 H1 _ I1 (turn n σ1 H1 w1)) fun b s2 ⟨H2, I2, q2⟩ => ?_)
  cases b with
  | true =>
    obtain ⟨N, hN, q2⟩ := q2
    rw [if_pos rfl]
    refine wpAny_passesOwn hp (thn (hb pins s2 σ1 H2 _ I2 q2) fun f s3 q3 => ?_)
    cases f with
    | next =>
      obtain ⟨σ3, H3, I3, n3⟩ := q3
      obtain ⟨m', hm, w3⟩ := hN σ3 H3 n3
      exact ⟨m', hm, σ3, H3, I3, w3⟩
    | cont =>
      obtain ⟨σ3, H3, I3, n3⟩ := q3
      obtain ⟨m', hm, w3⟩ := hN σ3 H3 n3
      exact ⟨m', hm, σ3, H3, I3, w3⟩
    | brk => exact q3
    | ret v => exact q3
  | false =>
    rw [if_neg Bool.false_ne_true]
    exact wpAny_execs_nil ⟨σ1, H2, I2, q2⟩
end

/-! ### what a loop or a comprehension walks -/
/-- at turn i: it yields x (the heap may grow), or it stops -/
structure It where
  go : Nat → Hp → Prop
  yld : Nat → Hp → V → Hp → Prop
  stop : Nat → Hp → Prop
/-- the iterator's own objects may turn: they are not the frame's, not pinned, younger than the entry (or a comprehension's own) -/
def FpOk (X : Cx) (pins : List (Addr × Obj)) (H : Hp) (b : Addr) : Prop :=
  H b = none ∧ b ≠ X.env.locals ∧ b ∉ X.fs ∧ (b ∈ X.ex ∨ X.s₀.heap.objs.size ≤ b) ∧ (∀ x c, X.env.cells.lookup x = some c → c ≠ b) ∧ ∀ p ∈ X.pn ++ pins, p.1 ≠ b
theorem Inv.fpOk {X : Cx} {pins : List (Addr × Obj)} {σ : St} {H H' : Hp} {s : Shared} {b : Addr} (I : Inv X pins σ H s) (hb : s.heap.objs.size ≤ b) (hn : H' b = none) : FpOk X pins H' b := by
  refine ⟨hn, Nat.ne_of_gt (Nat.lt_of_lt_of_le I.lt hb), I.nofs hb, .inr (Nat.le_trans I.sz hb), fun x c e z => ?_, fun p hp z => ?_⟩
  · obtain ⟨v, q⟩ := I.cell x c e
    exact absurd (Nat.lt_of_lt_of_le q.lt (by rw [z]; exact hb)) (Nat.lt_irrefl _)
  · exact absurd (Nat.lt_of_lt_of_le (Heap.lt_size (I.pin p hp).1) (by rw [z]; exact hb)) (Nat.lt_irrefl _)
structure Turn (P : Program) (w : World) (K : PySem.W.Frag) (tg : Expr) (J : It) (fp : List Addr) (it : Addr) (tn : Nat → Heap → Prop) : Prop where
  mem : it ∈ fp
  obj : ∀ i h, tn i h → ∀ b ∈ fp, ∃ o, h.get? b = some o ∧ ∀ v, o.data ≠ .cell v
  keep : ∀ i h h', tn i h → (∀ b ∈ fp, ∀ o, h.get? b = some o → h'.get? b = some o) → tn i h'
  item : ∀ (X : Cx), X.prog = P → X.w = w → X.K = K → X.calm = true → ∀ (i : Nat) (pins : List (Addr × Obj)) (s : Shared) (σ : St) (H : Hp) (E : Value → Shared → Prop), Inv X pins σ H s → (∀ b ∈ fp, FpOk X pins H b) → tn i s.heap → J.go i H →
    wpAny (model P w) X.A (pyNext (.ref it)) (fun r s1 => ∃ u, r = some u ∧
      wpAny (model P w) X.A (letOwnedTupleGo tg (.ref it) u) (fun _ s2 => ∃ x H', Inv X pins σ H' s2 ∧ RelV x u ∧ J.yld i H x H' ∧ tn (i + 1) s2.heap ∧ ∀ b ∈ fp, H' b = none) E s1) E s
  done : ∀ (X : Cx), X.prog = P → X.w = w → X.K = K → X.calm = true → ∀ (i : Nat) (pins : List (Addr × Obj)) (s : Shared) (σ : St) (H : Hp) (E : Value → Shared → Prop), Inv X pins σ H s → (∀ b ∈ fp, FpOk X pins H b) → tn i s.heap → J.stop i H →
    wpAny (model P w) X.A (pyNext (.ref it)) (fun r s1 => r = none ∧ Inv X pins σ H s1) E s
  self : ∀ (A : Around) (i : Nat) (s : Shared) (Q : Value → Shared → Prop) (E : Value → Shared → Prop), tn i s.heap → Q (.ref it) s → wpAny (model P w) A (pyIter (.ref it)) Q E s
abbrev TI := St → Hp → (It → Hp → Prop) → Prop
/-- an iterator has come -/
def PIE (X : Cx) (pins : List (Addr × Obj)) (σ : St) (tg : Expr) (R : It → Hp → Prop) (itv : Value) (s2 : Shared) : Prop :=
  ∃ (it : Addr) (fp : List Addr) (tn : Nat → Heap → Prop) (J : It) (H' : Hp), itv = .ref it ∧ Inv X pins σ H' s2 ∧ Turn X.prog X.w X.K tg J fp it tn ∧ tn 0 s2.heap ∧ (∀ b ∈ fp, FpOk X pins H' b) ∧ R J H'
def PI (X : Cx) (tg iter : Expr) (wi : TI) : Prop :=
  ∀ (pins : List (Addr × Obj)) (s : Shared) (σ : St) (H : Hp) (R : It → Hp → Prop), Inv X pins σ H s → wi σ H R →
    wpAny (model X.prog X.w) X.A (eval iter X.env) (fun v s1 => wpAny (model X.prog X.w) X.A (pyIter v) (PIE X pins σ tg R) X.xe s1) X.xe s

/-- the step ahead of the store is nothing for an iterator that keeps no tuple -/
theorem go_of {M : Model} {A : Around} {E : Value → Shared → Prop} {s : Shared} {tg : Expr} {it : Addr} {u : Value} {o : Obj} {n : String} {vs : Array Value} {Q : Unit → Shared → Prop} (ho : s.heap.get? it = some o) (hc : o.cls = .type n) (hd : o.data = .fields vs)
    (hn : ["enumerate", "zip", "dict_itemiterator", "dict_reverseitemiterator", "odict_iterator", "itertools.zip_longest", "itertools.pairwise"].contains n = false) (hQ : Q () s) : wpAny M A (letOwnedTupleGo tg (.ref it) u) Q E s := by
  unfold letOwnedTupleGo
  cases tg <;> first
    | exact wpAny_pure hQ
    | (cases u <;> first
        | exact wpAny_pure hQ
        | (refine wpAny_bind (wpAny_load ho ?_)
           rw [hc, hd]
           show wpAny M A (if (["enumerate", "zip", "dict_itemiterator", "dict_reverseitemiterator", "odict_iterator", "itertools.zip_longest", "itertools.pairwise"].contains n && vs[0]? == some (rawInt _)) = true then _ else _) Q E s
           rw [if_neg (by intro h; rw [hn, Bool.false_and] at h; cases h)]
           exact wpAny_pure hQ))

/-- the list at a, as it stands at each turn (a loop may append to it) -/
def Itl (K : PySem.W.Frag) (a : Addr) : It :=
  ⟨fun i H => ∃ xs x, SqL K H a xs ∧ xs[i]? = some x, fun i H x H' => H' = H ∧ ∀ xs, SqL K H a xs → xs[i]? = some x, fun i H => ∃ xs, SqL K H a xs ∧ xs.length ≤ i⟩
/-- lo, lo + 1, .. (n of them) -/
def Itr (lo : Int) (n : Nat) : It := ⟨fun i _ => i < n, fun i H x H' => H' = H ∧ x = .int (lo + i), fun i _ => n ≤ i⟩
theorem turn_list {P : Program} {w : World} {K : PySem.W.Frag} {tg : Expr} (a it : Addr) : Turn P w K tg (Itl K a) [it] it (fun i h => h.IsListIter it a i) where
  mem := by simp
  obj := fun i h st b hb => by
    have e : b = it := by simpa using hb
    subst e
    obtain ⟨o, e, c, d⟩ := st
    exact ⟨o, e, fun v z => by rw [d] at z; cases z⟩
  keep := fun i h h' st k => st.at fun o e => k it (by simp) o e
  item := by
    intro X hP hw hK hc i pins s σ H E I hf st hg
    subst hP hw hK
    obtain ⟨xs, x, hq, hx⟩ := hg
    obtain ⟨its, rv, p, hz⟩ := I.list hq
    obtain ⟨u, hu, ru⟩ := rv.get hx
    obtain ⟨f0, f1, f2, f3, f4, f5⟩ := hf it (by simp)
    refine wpAny_pyNext_list_item st p.isList (x := u) (by simpa using hu) fun h' st' sb => ?_
    have I1 : Inv X pins σ H { s with heap := h' } := I.turned (t' := s.toks) (fun b o hb e => (sb.2 b hb).trans e) f0 f1 f3 f4 f5
    obtain ⟨o, e, c, d⟩ := id st'
    exact ⟨u, rfl, go_of (s := { s with heap := h' }) e c d (by decide) ⟨x, H, I1, ru, ⟨rfl, fun ys hy => by rw [I.list_inj hy hq]; exact hx⟩, st', fun b hb => (hf b hb).1⟩⟩
  done := by
    intro X hP hw hK hc i pins s σ H E I hf st hg
    subst hP hw hK
    obtain ⟨xs, hq, hx⟩ := hg
    obtain ⟨its, rv, p, hz⟩ := I.list hq
    obtain ⟨f0, f1, f2, f3, f4, f5⟩ := hf it (by simp)
    have hl := rv.length
    exact wpAny_pyNext_list_end (I.ok.hd hc) st p.isList (by simp; omega) fun h' eb => ⟨rfl, I.turned (t' := s.toks) (fun b o hb e => eb b o hb e) f0 f1 f3 f4 f5⟩
  self := fun _ _ _ _ _ st h => wpAny_pyIter_listiter st h
theorem turn_range {P : Program} {w : World} {K : PySem.W.Frag} {tg : Expr} (it : Addr) (lo : Int) (n : Nat) : Turn P w K tg (Itr lo n) [it] it (fun i h => IsRangeIter h it (lo + (i : Nat) * 1) ((n : Int) - (i : Nat)) 1) where
  mem := by simp
  obj := fun i h st b hb => by
    have e : b = it := by simpa using hb
    subst e
    exact ⟨_, st, fun v z => by
      have z' : Data.fields _ = Data.cell v := z
      cases z'⟩
  keep := fun i h h' st k => k it (by simp) _ st
  item := by
    intro X hP hw hK hc i pins s σ H E I hf st hg
    subst hP hw hK
    obtain ⟨f0, f1, f2, f3, f4, f5⟩ := hf it (by simp)
    have W := Walks.range (prog := X.prog) (w := X.w) (I.ok.hd hc) it lo 1 n
    refine W.item i s _ _ hg st fun v h' tk hv st' kk => ?_
    obtain ⟨t, rfl⟩ := hv
    have I1 : Inv X pins σ H { s with heap := h', toks := tk } := I.turned (fun b o hb e => kk b o (by simpa using hb) e) f0 f1 f3 f4 f5
    refine ⟨_, rfl, go_of (s := { s with heap := h', toks := tk }) (n := "range_iterator") st' rfl rfl (by decide) ⟨.int (lo + i), H, I1, ⟨t, ?_⟩, ⟨rfl, rfl⟩, st', fun b hb => (hf b hb).1⟩⟩
    rw [Int.mul_one]
  done := by
    intro X hP hw hK hc i pins s σ H E I hf st hg
    subst hP hw hK
    obtain ⟨f0, f1, f2, f3, f4, f5⟩ := hf it (by simp)
    exact wpAny_pyNext_range_end (I.ok.hd hc) st (by have : n ≤ i := hg; omega) fun h' eb => ⟨rfl, I.turned (t' := s.toks) (fun b o hb e => eb b o hb e) f0 f1 f3 f4 f5⟩
  self := fun _ _ _ _ _ st h => wpAny_pyIter_rangeiter st h
end L2

namespace L2
open PySem PySem.Spec PyProof.Rows
section
variable {X : Cx} {tg : Expr}
def iList (K : PySem.W.Frag) (tl : TE) : TI := fun σ H R => tl σ H fun x H1 => ∃ a, x = .ref a ∧ (∃ xs, SqL K H1 a xs) ∧ R (Itl K a) H1
theorem pi_list {l : Expr} {tl : TE} (hl : PE X l tl) : PI X tg l (iList X.K tl) := by
  intro pins s σ H R I h
  refine thn (hl pins s σ H _ I h) fun v s1 ⟨x, H1, I1, r1, q1⟩ => ?_
  obtain ⟨a, e, ⟨xs, hq⟩, q⟩ := q1
  subst e
  cases r1
  obtain ⟨its, rv, p, hz⟩ := I1.list hq
  refine wpAny_pyIter_list p.isList ?_
  refine ⟨s1.heap.objs.size, [s1.heap.objs.size], _, _, H1, rfl, I1.kept (t' := s1.toks) fun b o e => Heap.get?_push_of_some _ e, turn_list a _, ⟨_, Heap.get?_push_size _ rfl, rfl, rfl⟩, fun b hb => ?_, q⟩
  have e : b = s1.heap.objs.size := by simpa using hb
  subst e
  exact I1.fpOk (Nat.le_refl _) (I1.hok.fresh (Nat.le_refl _))
/-- a range object just made, walked -/
theorem range_it {pins : List (Addr × Obj)} {σ : St} {H : Hp} {s : Shared} {R : It → Hp → Prop} {E : Value → Shared → Prop} {lo hi : Int} {t u v : Tok} {tk : Nat} (I : Inv X pins σ H s) (h1 : -(2 ^ 62) ≤ lo) (h2 : lo < 2 ^ 62) (h3 : -(2 ^ 62) ≤ hi) (h4 : hi < 2 ^ 62)
    (q : R (Itr lo (hi - lo).toNat) H) : wpAny (model X.prog X.w) X.A (pyIter (.ref s.heap.objs.size)) (PIE X pins σ tg R) E { s with heap := s.heap.push { cls := .type "range", data := .fields #[.int lo t, .int hi u, .int 1 v] }, toks := tk } := by
  refine wpAny_pyIter_range (IsRange.new ..) (small_one h1 h2 h3 h4) ?_
  have I1 : Inv X pins σ H { s with heap := s.heap.push { cls := .type "range", data := .fields #[.int lo t, .int hi u, .int 1 v] }, toks := tk } := I.kept fun b o e => Heap.get?_push_of_some _ e
  refine ⟨(s.heap.push { cls := .type "range", data := .fields #[.int lo t, .int hi u, .int 1 v] }).objs.size, [(s.heap.push { cls := .type "range", data := .fields #[.int lo t, .int hi u, .int 1 v] }).objs.size], _, _, H, rfl,
    I1.kept (t' := tk) fun b o e => Heap.get?_push_of_some _ e, turn_range _ lo (hi - lo).toNat, ?_, fun b hb => ?_, q⟩
  · have e1 : lo + ((0 : Nat) : Int) * 1 = lo := by simp
    have e2 : (((hi - lo).toNat : Nat) : Int) - ((0 : Nat) : Int) = Builtin.Range.rangeSize lo hi 1 := by rw [rangeSize_one]; split <;> omega
    show IsRangeIter _ _ (lo + ((0 : Nat) : Int) * 1) ((((hi - lo).toNat : Nat) : Int) - ((0 : Nat) : Int)) 1
    rw [e1, e2]
    exact Heap.get?_push_size _ rfl
  · have e : b = (s.heap.push { cls := .type "range", data := .fields #[.int lo t, .int hi u, .int 1 v] }).objs.size := by simpa using hb
    subst e
    exact I1.fpOk (Nat.le_refl _) (I1.hok.fresh (Nat.le_refl _))
def iRng1 (ta : TA) : TI := fun σ H R => ta σ H fun vs H1 => ∃ j : Int, vs = [.int j] ∧ -(2 ^ 62) ≤ j ∧ j < 2 ^ 62 ∧ R (Itr 0 j.toNat) H1
theorem pi_range1 {a : Expr} {ta : TA} {p pos : Pos} (hg : Gl X "range") (hm : X.mg "range" = none) (ha : PA X [a] ta) (hs : starEach [a] X.env = [(false, eval a X.env)] := by rfl) : PI X tg (.Call (.Name "range" p) [a] [] pos) (iRng1 ta) := by
  intro pins s σ H R I h
  refine Call_ (ld_blt I hg hm boot_range (PyProof.Rows.callWith_type1 (thn (ha pos pins s σ H _ I h) fun us s1 ⟨vs, H1, I1, r1, q1⟩ => ?_) hs rfl))
  obtain ⟨j, e, q1, q2, q⟩ := q1
  subst e
  cases r1 with
  | cons r rr =>
    cases rr
    obtain ⟨t, rfl⟩ := r
    exact call_range_1 (range_it I1 (by omega) (by omega) q1 q2 (by simpa using q))
/-! ### for -/
/-- the records at fp as they stand -/
def pinsAt (fp : List Addr) (h : Heap) : List (Addr × Obj) := fp.filterMap fun b => (h.get? b).map fun o => (b, o)
theorem mem_pinsAt {fp : List Addr} {h : Heap} {b : Addr} {o : Obj} (hb : b ∈ fp) (e : h.get? b = some o) : (b, o) ∈ pinsAt fp h := List.mem_filterMap.mpr ⟨b, hb, by rw [e]; rfl⟩
theorem of_pinsAt {fp : List Addr} {h : Heap} {p : Addr × Obj} (hp : p ∈ pinsAt fp h) : p.1 ∈ fp ∧ h.get? p.1 = some p.2 := by
  obtain ⟨b, hb, e⟩ := List.mem_filterMap.mp hp
  cases q : h.get? b with
  | none => rw [q] at e; cases e
  | some o =>
    rw [q] at e
    have e' : (b, o) = p := Option.some.inj e
    subst e'
    exact ⟨hb, q⟩
theorem Inv.pinned {pins : List (Addr × Obj)} {σ : St} {H : Hp} {s : Shared} {fp : List Addr} (I : Inv X pins σ H s) (hf : ∀ b ∈ fp, FpOk X pins H b) (ho : ∀ b ∈ fp, ∃ o, s.heap.get? b = some o ∧ ∀ v, o.data ≠ .cell v) : Inv X (pins ++ pinsAt fp s.heap) σ H s :=
  I.pins_of fun p hp => (List.mem_append.mp hp).elim (fun z => I.pin p (List.mem_append_right _ z)) fun z => by
    obtain ⟨hb, e⟩ := of_pinsAt z
    obtain ⟨f0, f1, f2, _⟩ := hf p.1 hb
    obtain ⟨o, e', d⟩ := ho p.1 hb
    rw [e] at e'; cases e'
    exact ⟨e, f0, f1, f2, d⟩
theorem Inv.unpinned {pins pl : List (Addr × Obj)} {σ : St} {H : Hp} {s : Shared} (I : Inv X (pins ++ pl) σ H s) : Inv X pins σ H s := I.pins_of fun p hp => I.pin p (List.mem_append_right _ (List.mem_append_left _ hp))
end

/-! ### the forms one uses -/
end L2

namespace L2
open PySem PySem.Spec PyProof.Rows

abbrev R2 := V → V → Hp → VK → Prop
/-- a two-place operation on values: f is binaryOp op, inplaceOp op or compareOp op -/
def OpR (X : Cx) (f : Value → Value → Sem Value) (r : R2) : Prop :=
  ∀ (pins : List (Addr × Obj)) (s : Shared) (σ : St) (H : Hp) (x y : V) (v u : Value) (Q : VK), Inv X pins σ H s → RelV x v → RelV y u → r x y H Q →
    wpAny (model X.prog X.w) X.A (f v u) (EP X pins σ Q) X.xe s
/-- a one-place operation -/
def UnR (X : Cx) (f : Value → Sem Value) (r : V → Hp → VK → Prop) : Prop :=
  ∀ (pins : List (Addr × Obj)) (s : Shared) (σ : St) (H : Hp) (x : V) (v : Value) (Q : VK), Inv X pins σ H s → RelV x v → r x H Q →
    wpAny (model X.prog X.w) X.A (f v) (EP X pins σ Q) X.xe s
/-- a call of a value that is known (a builtin, a type) with values -/
def CallR (X : Cx) (f : Value) (r : List V → Hp → VK → Prop) : Prop :=
  ∀ (pins : List (Addr × Obj)) (s : Shared) (σ : St) (H : Hp) (xs : List V) (us : List Value) (Q : VK), Inv X pins σ H s → Vals xs us → r xs H Q →
    wpAny (model X.prog X.w) X.A (call f us) (EP X pins σ Q) X.xe s
def tOp (r : R2) (ta tb : TE) : TE := fun σ H Q => ta σ H fun x H1 => tb σ H1 fun y H2 => r x y H2 Q
def tUn (r : V → Hp → VK → Prop) (ta : TE) : TE := fun σ H Q => ta σ H fun x H1 => r x H1 Q
/-- ints in, under C, and a value out -/
def rI (C : Int → Int → Prop) (g : Int → Int → V) : R2 := fun x y H Q => ∃ i j, x = .int i ∧ y = .int j ∧ C i j ∧ Q (g i j) H
def rI0 (g : Int → Int → V) : R2 := fun x y H Q => ∃ i j, x = .int i ∧ y = .int j ∧ Q (g i j) H
def rU (g : Int → V) : V → Hp → VK → Prop := fun x H Q => ∃ i, x = .int i ∧ Q (g i) H

section
variable {X : Cx} {a b c : Expr} {ta tb tc : TE} {pos : Pos}

theorem binT (ha : PE X a ta) (hb : PE X b tb) {pins : List (Addr × Obj)} {s : Shared} {σ : St} {H : Hp} {R : V → V → Hp → Prop} (I : Inv X pins σ H s)
    (h : ta σ H fun x H1 => tb σ H1 fun y H2 => R x y H2) {Q : Value → Shared → Prop} {f : Value → Value → Sem Value}
    (hf : ∀ v u s2 x y H2, Inv X pins σ H2 s2 → RelV x v → RelV y u → R x y H2 → wpAny (model X.prog X.w) X.A (f v u) Q X.xe s2) :
    wpAny (model X.prog X.w) X.A (eval a X.env) (fun v s₁ => wpAny (model X.prog X.w) X.A (eval b X.env) (fun u s₂ => wpAny (model X.prog X.w) X.A (f v u) Q X.xe s₂) X.xe s₁) X.xe s := by
  refine thn (ha pins s σ H _ I h) fun v s1 ⟨x, H1, I1, r1, q1⟩ => ?_
  refine thn (hb pins s1 σ H1 _ I1 q1) fun u s2 ⟨y, H2, I2, r2, q2⟩ => ?_
  exact hf v u s2 x y H2 I2 r1 r2 q2

theorem pe_op {op : Operator} {r : R2} (ho : OpR X (binaryOp op) r) (ha : PE X a ta) (hb : PE X b tb) : PE X (.BinOp a op b pos) (tOp r ta tb) := by
  intro pins s σ H Q I h
  exact wpAny_BinOp (binT ha hb I h fun v u s2 x y H2 I2 rx ry q => ho pins s2 σ H2 x y v u Q I2 rx ry q)
theorem pe_un {op : UnaryOp} {r : V → Hp → VK → Prop} (ho : UnR X (unaryOp op) r) (ha : PE X a ta) : PE X (.UnaryOp op a pos) (tUn r ta) := by
  intro pins s σ H Q I h
  exact UnaryOp_ (thn (ha pins s σ H _ I h) fun v s1 ⟨x, H1, I1, r1, q1⟩ => ho pins s1 σ H1 x v Q I1 r1 q1)
/-! ### ints -/
theorem opI {f : Value → Value → Sem Value} {C : Int → Int → Prop} {g : Int → Int → Int}
    (rule : ∀ (i j : Int) (t u : Tok) (s : Shared) (Q : Value → Shared → Prop) (E : Value → Shared → Prop), C i j → Q (.int (g i j) s.toks) { s with toks := s.toks + 1 } → wpAny (model X.prog X.w) X.A (f (.int i t) (.int j u)) Q E s) :
    OpR X f (rI C fun i j => .int (g i j)) := by
  intro pins s σ H x y v u Q I rx ry h
  obtain ⟨i, j, rfl, rfl, hc, q⟩ := h
  obtain ⟨t, rfl⟩ := rx
  obtain ⟨t', rfl⟩ := ry
  exact rule i j t t' s _ _ hc ⟨.int (g i j), H, I.tok _, ⟨_, rfl⟩, q⟩
theorem opI0 {f : Value → Value → Sem Value} {g : Int → Int → Int}
    (rule : ∀ (i j : Int) (t u : Tok) (s : Shared) (Q : Value → Shared → Prop) (E : Value → Shared → Prop), Q (.int (g i j) s.toks) { s with toks := s.toks + 1 } → wpAny (model X.prog X.w) X.A (f (.int i t) (.int j u)) Q E s) :
    OpR X f (rI0 fun i j => .int (g i j)) := by
  intro pins s σ H x y v u Q I rx ry h
  obtain ⟨i, j, rfl, rfl, q⟩ := h
  obtain ⟨t, rfl⟩ := rx
  obtain ⟨t', rfl⟩ := ry
  exact rule i j t t' s _ _ ⟨.int (g i j), H, I.tok _, ⟨_, rfl⟩, q⟩
theorem opB0 {f : Value → Value → Sem Value} {g : Int → Int → Bool}
    (rule : ∀ (i j : Int) (t u : Tok) (s : Shared) (Q : Value → Shared → Prop) (E : Value → Shared → Prop), Q (.bool (g i j)) s → wpAny (model X.prog X.w) X.A (f (.int i t) (.int j u)) Q E s) :
    OpR X f (rI0 fun i j => .bl (g i j)) := by
  intro pins s σ H x y v u Q I rx ry h
  obtain ⟨i, j, rfl, rfl, q⟩ := h
  obtain ⟨t, rfl⟩ := rx
  obtain ⟨t', rfl⟩ := ry
  exact rule i j t t' s _ _ ⟨.bl (g i j), H, I, rfl, q⟩

def CDiv (i j : Int) : Prop := 0 < j ∧ j < 1073741824
def CPow (i j : Int) : Prop := 0 ≤ j ∧ j ≤ 1000000 ∧ i.natAbs < 2 ^ 64
def CMul (i j : Int) : Prop := (-(2 ^ 64) < i ∧ i < 2 ^ 64) ∨ (-(2 ^ 64) < j ∧ j < 2 ^ 64)
theorem CMul.ok {i j : Int} (h : CMul i j) : IntMulOk i j := by
  rcases h with ⟨h1, h2⟩ | ⟨h1, h2⟩
  · exact .of_left (intBits_le_64 h1 h2)
  · exact .of_right (intBits_le_64 h1 h2)
theorem two_pow_nn (k : Nat) : (0 : Int) ≤ 2 ^ k := by
  rw [two_pow_cast]
  exact Int.natCast_nonneg _

theorem op_add : OpR X (binaryOp .Add) (rI0 fun i j => .int (i + j)) := opI0 fun _ _ _ _ _ _ _ q => add_int q
theorem op_sub : OpR X (binaryOp .Sub) (rI0 fun i j => .int (i - j)) := opI0 fun _ _ _ _ _ _ _ q => sub_int q
theorem op_mul : OpR X (binaryOp .Mult) (rI CMul fun i j => .int (i * j)) := opI fun _ _ _ _ _ _ _ hc q => mul_int q hc.ok
/-- // by a positive divisor -/
theorem op_fdiv : OpR X (binaryOp .FloorDiv) (rI CDiv fun i j => .int (i / j)) := opI fun i j _ _ _ _ _ hc q => by
  have h1 : (0 : Int) < j := hc.1
  have h2 : j < 1073741824 := hc.2
  exact floordiv_int (by omega) (by rw [Int.fdiv_eq_ediv_of_nonneg i (by omega)]; exact q) (.inl (PyProof.noPylong_small (by omega)))
/-- % by a positive divisor of any size -/
theorem op_mod : OpR X (binaryOp .Mod) (rI (fun _ j => 0 < j) fun i j => .int (i % j)) := opI fun i j _ _ _ _ _ hc q => by
  have h1 : (0 : Int) < j := hc
  exact mod_int' (by omega) (by rw [Int.fmod_eq_emod_of_nonneg i (by omega)]; exact q)
theorem op_shl : OpR X (binaryOp .LShift) (rI CPow fun i j => .int (i * 2 ^ j.toNat)) := opI fun _ _ _ _ _ _ _ hc q => lshift_int_small hc.1 hc.2.1 hc.2.2 q
theorem op_shr : OpR X (binaryOp .RShift) (rI (fun _ j => 0 ≤ j) fun i j => .int (i / 2 ^ j.toNat)) := opI fun i j _ _ _ _ _ hc q =>
  rshift_int hc (by rw [Int.fdiv_eq_ediv_of_nonneg i (two_pow_nn _)]; exact q)
theorem op_and : OpR X (binaryOp .BitAnd) (rI0 fun i j => .int (Builtin.bitAnd i j)) := opI0 fun _ _ _ _ _ _ _ q => and_int q
theorem op_or : OpR X (binaryOp .BitOr) (rI0 fun i j => .int (Builtin.bitOr i j)) := opI0 fun _ _ _ _ _ _ _ q => or_int q
theorem op_xor : OpR X (binaryOp .BitXor) (rI0 fun i j => .int (Builtin.bitXor i j)) := opI0 fun _ _ _ _ _ _ _ q => xor_int q

theorem unI {f : Value → Sem Value} {g : Int → Int}
    (rule : ∀ (i : Int) (t : Tok) (s : Shared) (Q : Value → Shared → Prop) (E : Value → Shared → Prop), Q (.int (g i) s.toks) { s with toks := s.toks + 1 } → wpAny (model X.prog X.w) X.A (f (.int i t)) Q E s) :
    UnR X f (rU fun i => .int (g i)) := by
  intro pins s σ H x v Q I rx h
  obtain ⟨i, rfl, q⟩ := h
  obtain ⟨t, rfl⟩ := rx
  exact rule i t s _ _ ⟨.int (g i), H, I.tok _, ⟨_, rfl⟩, q⟩
theorem un_neg : UnR X (unaryOp .USub) (rU fun i => .int (-i)) := unI fun _ _ _ _ _ q => neg_int q
/-! ### bools among ints: n += (a < b) -/
end

/-! ### comparisons -/
/-- the scalars that == tells apart as data does -/
def scal : V → V → Bool
  | .non, .non => true | .non, .int _ => true | .int _, .non => true | .non, .bl _ => true | .bl _, .non => true | .non, .str _ => true | .str _, .non => true
  | .int _, .int _ => true | .bl _, .bl _ => true | .str _, .str _ => true | .byt _, .byt _ => true
  | .int _, .str _ => true | .str _, .int _ => true | .bl _, .str _ => true | .str _, .bl _ => true
  | _, _ => false
def rEq : R2 := fun x y H Q => scal x y = true ∧ Q (.bl (decide (x = y))) H
def rNe : R2 := fun x y H Q => scal x y = true ∧ Q (.bl (!decide (x = y))) H

theorem dec_int {i j : Int} : decide (V.int i = V.int j) = (i == j) := by
  rw [Bool.eq_iff_iff]
  simp
theorem dec_bl {i j : Bool} : decide (V.bl i = V.bl j) = (i == j) := by
  rw [Bool.eq_iff_iff]
  simp
theorem dec_str {i j : Str} : decide (V.str i = V.str j) = (i == j) := by
  rw [Bool.eq_iff_iff]
  simp
theorem dec_byt {i j : Array UInt8} : decide (V.byt i = V.byt j) = (i.toList == j.toList) := by
  rw [Bool.eq_iff_iff]
  cases i
  cases j
  simp

section
variable {X : Cx} {a b c : Expr} {ta tb tc : TE} {pos : Pos}
theorem fin_bl {pins : List (Addr × Obj)} {σ : St} {H : Hp} {s : Shared} {Q : VK} {k k' : Bool} (I : Inv X pins σ H s) (q : Q (.bl k) H) (e : k = k') : EP X pins σ Q (.bool k') s := by
  subst e
  exact ⟨.bl k, H, I, rfl, q⟩
theorem op_eq : OpR X (compareOp .Eq) rEq := by
  intro pins s σ H x y v u Q I rx ry h
  obtain ⟨hs, q⟩ := h
  cases x with
  | non =>
    cases rx
    cases y with
    | non => cases ry; exact PySem.EqNone.eq_none_none (fin_bl I q (by simp))
    | bl j => cases ry; exact PySem.EqNone.eq_none_bool (fin_bl I q (by simp))
    | int j => obtain ⟨t', rfl⟩ := ry; exact PySem.EqNone.eq_none_int (fin_bl I q (by simp))
    | str j => obtain ⟨t', rfl⟩ := ry; exact PySem.EqNone.eq_none_str (fin_bl I q (by simp))
    | _ => exact absurd (show false = true from hs) Bool.false_ne_true
  | bl i =>
    cases rx
    cases y with
    | non => cases ry; exact PySem.EqNone.eq_bool_none (fin_bl I q (by simp))
    | bl j => cases ry; exact eq_bool (fin_bl I q dec_bl)
    | str j => obtain ⟨t', rfl⟩ := ry; exact PySem.EqMixed.eq_bool_str (fin_bl I q (by simp))
    | _ => exact absurd (show false = true from hs) Bool.false_ne_true
  | int i =>
    obtain ⟨t, rfl⟩ := rx
    cases y with
    | non => cases ry; exact PySem.EqNone.eq_int_none (fin_bl I q (by simp))
    | int j => obtain ⟨t', rfl⟩ := ry; exact eq_int (fin_bl I q dec_int)
    | str j => obtain ⟨t', rfl⟩ := ry; exact PySem.EqMixed.eq_int_str (fin_bl I q (by simp))
    | _ => exact absurd (show false = true from hs) Bool.false_ne_true
  | str i =>
    obtain ⟨t, rfl⟩ := rx
    cases y with
    | non => cases ry; exact PySem.EqNone.eq_str_none (fin_bl I q (by simp))
    | bl j => cases ry; exact PySem.EqMixed.eq_str_bool (fin_bl I q (by simp))
    | int j => obtain ⟨t', rfl⟩ := ry; exact PySem.EqMixed.eq_str_int (fin_bl I q (by simp))
    | str j => obtain ⟨t', rfl⟩ := ry; exact eq_str (fin_bl I q dec_str)
    | _ => exact absurd (show false = true from hs) Bool.false_ne_true
  | byt i =>
    obtain ⟨t, rfl⟩ := rx
    cases y with
    | byt j => obtain ⟨t', rfl⟩ := ry; exact PySem.W.eq_bytes (fin_bl I q dec_byt)
    | _ => exact absurd (show false = true from hs) Bool.false_ne_true
  | _ => cases y <;> exact absurd (show false = true from hs) Bool.false_ne_true
theorem op_ne : OpR X (compareOp .NotEq) rNe := by
  intro pins s σ H x y v u Q I rx ry h
  obtain ⟨hs, q⟩ := h
  cases x with
  | non =>
    cases rx
    cases y with
    | non => cases ry; exact PySem.EqNone.ne_none_none (fin_bl I q (by simp))
    | bl j => cases ry; exact PySem.EqNone.ne_none_bool (fin_bl I q (by simp))
    | int j => obtain ⟨t', rfl⟩ := ry; exact PySem.EqNone.ne_none_int (fin_bl I q (by simp))
    | str j => obtain ⟨t', rfl⟩ := ry; exact PySem.EqNone.ne_none_str (fin_bl I q (by simp))
    | _ => exact absurd (show false = true from hs) Bool.false_ne_true
  | bl i =>
    cases rx
    cases y with
    | non => cases ry; exact PySem.EqNone.ne_bool_none (fin_bl I q (by simp))
    | bl j => cases ry; exact ne_bool (fin_bl I q (congrArg not dec_bl))
    | str j => obtain ⟨t', rfl⟩ := ry; exact PySem.EqMixed.ne_bool_str (fin_bl I q (by simp))
    | _ => exact absurd (show false = true from hs) Bool.false_ne_true
  | int i =>
    obtain ⟨t, rfl⟩ := rx
    cases y with
    | non => cases ry; exact PySem.EqNone.ne_int_none (fin_bl I q (by simp))
    | int j => obtain ⟨t', rfl⟩ := ry; exact ne_int (fin_bl I q (congrArg not dec_int))
    | str j => obtain ⟨t', rfl⟩ := ry; exact PySem.EqMixed.ne_int_str (fin_bl I q (by simp))
    | _ => exact absurd (show false = true from hs) Bool.false_ne_true
  | str i =>
    obtain ⟨t, rfl⟩ := rx
    cases y with
    | non => cases ry; exact PySem.EqNone.ne_str_none (fin_bl I q (by simp))
    | bl j => cases ry; exact PySem.EqMixed.ne_str_bool (fin_bl I q (by simp))
    | int j => obtain ⟨t', rfl⟩ := ry; exact PySem.EqMixed.ne_str_int (fin_bl I q (by simp))
    | str j => obtain ⟨t', rfl⟩ := ry; exact ne_str (fin_bl I q (congrArg not dec_str))
    | _ => exact absurd (show false = true from hs) Bool.false_ne_true
  | byt i =>
    obtain ⟨t, rfl⟩ := rx
    cases y with
    | byt j => obtain ⟨t', rfl⟩ := ry; exact PySem.W.ne_bytes (fin_bl I q (congrArg not dec_byt))
    | _ => exact absurd (show false = true from hs) Bool.false_ne_true
  | _ => cases y <;> exact absurd (show false = true from hs) Bool.false_ne_true

theorem op_lt : OpR X (compareOp .Lt) (rI0 fun i j => .bl (decide (i < j))) := opB0 fun _ _ _ _ _ _ _ q => lt_int q
theorem op_le : OpR X (compareOp .LtE) (rI0 fun i j => .bl (decide (i ≤ j))) := opB0 fun _ _ _ _ _ _ _ q => le_int q
theorem op_gt : OpR X (compareOp .Gt) (rI0 fun i j => .bl (decide (j < i))) := opB0 fun _ _ _ _ _ _ _ q => gt_int q
/-- two rules for one operation: by cases -/
theorem OpR.or {f : Value → Value → Sem Value} {r r' : R2} (h : OpR X f r) (h' : OpR X f r') : OpR X f (fun x y H Q => r x y H Q ∨ r' x y H Q) := by
  intro pins s σ H x y v u Q I rx ry q
  rcases q with q | q
  · exact h pins s σ H x y v u Q I rx ry q
  · exact h' pins s σ H x y v u Q I rx ry q

theorem nomark (b : Expr) {op : CmpOp} (h : op ≠ .In := by decide) (h2 : op ≠ .NotIn := by decide) : behindInMarks op b = false := by
  have e1 : (op == CmpOp.In) = false := by cases op <;> first | rfl | exact absurd rfl h
  have e2 : (op == CmpOp.NotIn) = false := by cases op <;> first | rfl | exact absurd rfl h2
  cases b <;> simp [behindInMarks, e1, e2]
/-- a comparison as a value; hm: nomark b, or (for in, not in) by with_unfolding_all rfl -/
theorem pe_cmpR {op : CmpOp} {r : R2} (ho : OpR X (compareOp op) r) (ha : PE X a ta) (hb : PE X b tb) (hm : behindInMarks op b = false) : PE X (.Compare a [op] [b] pos) (tOp r ta tb) := by
  intro pins s σ H Q I h
  exact wpAny_Compare1 (binT ha hb I h fun v u s2 x y H2 I2 rx ry q => ho pins s2 σ H2 x y v u Q I2 rx ry q) hm
/-- a reading of a value as a test -/
def tTest (t : TE) : TT := fun σ H Q => t σ H fun x H' => ∃ k, x = .bl k ∧ Q k H'
theorem pt_cmpR {op : CmpOp} {r : R2} (ho : OpR X (compareOp op) r) (ha : PE X a ta) (hb : PE X b tb) (hm : behindInMarks op b = false) : PT X (.Compare a [op] [b] pos) (tTest (tOp r ta tb)) := by
  intro pins s σ H Q I h
  refine wpAny_isTrue_Compare1 (thn (ha pins s σ H _ I h) fun v s1 ⟨x, H1, I1, r1, q1⟩ => thn (hb pins s1 σ H1 _ I1 q1) fun u s2 ⟨y, H2, I2, r2, q2⟩ =>
    thn (ho pins s2 σ H2 x y v u _ I2 r1 r2 q2) fun c s3 ⟨z, H3, I3, r3, k, e, q3⟩ => ?_) hm
  subst e
  cases r3
  exact wpAny_truthy_bool ⟨H3, I3, q3⟩
/-! ### truth -/
theorem line63 : (sizeLine : Nat) < 2 ^ 63 := by rw [sizeLine_eq]; decide
/-! ### strs and bytes -/
theorem op_add_str : OpR X (binaryOp .Add) (fun x y H Q => ∃ i j, x = .str i ∧ y = .str j ∧ i.length + j.length ≤ sizeLine ∧ Q (.str (i ++ j)) H) := by
  intro pins s σ H x y v u Q I rx ry h
  obtain ⟨i, j, rfl, rfl, hz, q⟩ := h
  obtain ⟨t, rfl⟩ := rx
  obtain ⟨t', rfl⟩ := ry
  exact add_str (fun t' tk => ⟨.str (i ++ j), H, I.tok _, ⟨_, rfl⟩, q⟩) hz
/-! ### scalar builtins, by CallR -/
theorem vals1 {x : V} {us : List Value} (r : Vals [x] us) : ∃ u, us = [u] ∧ RelV x u := by
  cases r with
  | cons r1 r2 => cases r2; exact ⟨_, rfl, r1⟩
theorem vals2 {x y : V} {us : List Value} (r : Vals [x, y] us) : ∃ u w', us = [u, w'] ∧ RelV x u ∧ RelV y w' := by
  cases r with
  | cons r1 r2 =>
    cases r2 with
    | cons r3 r4 => cases r4; exact ⟨_, _, rfl, r1, r3⟩
theorem call_int1 : CallR X (.type "int") (fun xs H Q => (∃ i, xs = [.int i] ∧ Q (.int i) H) ∨ ∃ k, xs = [.bl k] ∧ Q (.int (if k then 1 else 0)) H) := by
  intro pins s σ H xs us Q I r h
  rcases h with ⟨i, rfl, q⟩ | ⟨k, rfl, q⟩
  · obtain ⟨u, rfl, t, rfl⟩ := vals1 r
    exact call_int_int ⟨.int i, H, I, ⟨_, rfl⟩, q⟩
  · obtain ⟨u, rfl, r1⟩ := vals1 r
    cases r1
    exact call_int_bool ⟨.int (if k then 1 else 0), H, I.tok _, ⟨_, rfl⟩, q⟩
end
end L2

namespace L2
open PySem PySem.Spec PyProof.Rows

/-! ### an instance, its attributes a map -/
structure ObjM (h : Heap) (x dx C : Addr) (mA : Str → Option Value) : Prop where
  obj : h.get? x = some (PySem.W.instObj C dx)
  ns : h.Ns1 dx mA
  ne : dx ≠ x

theorem lookIn_ns {h : Heap} {dx : Addr} {mA : Str → Option Value} (n : h.Ns1 dx mA) : ∃ od, h.get? dx = some od ∧ ∀ name, PySem.W.lookIn name od = some (mA name) := by
  obtain ⟨o, es, ep, ho, hd, hk, _, hm⟩ := n
  refine ⟨o, ho, fun name => ?_⟩
  have e := hm name
  unfold nsFind findBy at e
  rw [← Array.find?_toList] at e
  unfold PySem.W.lookIn
  rw [hd]
  dsimp only
  split
  · rename_i y q
    rw [q] at e
    exact congrArg some e
  · rename_i q
    rw [q] at e
    have a : es.toList.any (·.refKey) = false := by
      rw [List.any_eq_false]
      intro y hy
      obtain ⟨z, t, hkey⟩ := hk y (Array.mem_toList_iff.mp hy)
      simp [DictEntry.refKey, hkey]
    have a' : ¬ es.toList.any (·.refKey) = true := by rw [a]; exact Bool.false_ne_true
    rw [if_neg a']
    exact congrArg some e

theorem ObjM.look {h : Heap} {x dx C : Addr} {mA : Str → Option Value} (I : ObjM h x dx C mA) : ∃ od, PySem.W.InstAt h x (PySem.W.instObj C dx) C (some od) ∧ ∀ name, PySem.W.lookIn name od = some (mA name) :=
  let ⟨od, ho, hl⟩ := lookIn_ns I.ns
  ⟨od, ⟨I.obj, rfl, rfl, ho⟩, hl⟩

section
variable {prog : Program} {w : World} {A : Around} {E : Value → Shared → Prop} {s : Shared} {K : PySem.W.Frag} {x dx C f : Addr} {mA : Str → Option Value} {name : Str} {v : Value}

end

/-! ### the attributes as a list of pairs -/
section
variable {P : Program} {w : World} {H H' : Hp} {h h' : Heap} {a C dx : Addr} {fs fs' : List (Str × V)}
theorem ins_get (hok : HOk P w H h) (e : H a = some (.ins C dx fs)) : ∃ mA, ObjM h a dx C mA ∧ (∀ f, RelO (fs.lookup f) (mA f)) ∧ PySem.Within mA (fs.map (·.1)) ∧ fs.length ≤ 1000 ∧ H dx = some (.own a) := by
  obtain ⟨d, z, ne, ob, mA, n, r, q⟩ := (show ObjOk P w H h a (.ins C dx fs) from hok a _ e)
  exact ⟨mA, ⟨ob, n, ne⟩, r, q, z, d⟩
end

/-! ### what of the text a class must have -/
structure Cls (K : PySem.W.Frag) (C : Addr) : Prop where
  pg : PySem.W.plainGet K C Str.empty = true
  hd : PySem.W.hasDictIn K C = true
  po : PySem.W.plainOver K C = true
  sa : PySem.W.findIn K (.ref C) "__setattr__" = some (some (.builtin "object.__setattr__"))
theorem Cls.get {K : PySem.W.Frag} {C : Addr} (c : Cls K C) (f : Str) : PySem.W.plainGet K C f = true := c.pg
section
variable {X : Cx} {pins : List (Addr × Obj)} {σ : St} {H : Hp} {s : Shared} {a C dx : Addr} {fs : List (Str × V)} {f : Str} {v : V} {A : Around} {E : Value → Shared → Prop}

/-- a new instance, tracked, without attributes -/
theorem Inv.made (I : Inv X pins σ H s) : Inv X pins σ (upd (upd H s.heap.objs.size (.own (s.heap.objs.size + 1))) (s.heap.objs.size + 1) (.ins C s.heap.objs.size []))
    { s with heap := (s.heap.push PySem.W.emptyDict).push (PySem.W.instObj C s.heap.objs.size) } := by
  have e1 : (s.heap.push PySem.W.emptyDict).get? s.heap.objs.size = some PySem.W.emptyDict := Heap.get?_push_size s.heap rfl
  have e2 : ((s.heap.push PySem.W.emptyDict).push (PySem.W.instObj C s.heap.objs.size)).get? (s.heap.objs.size + 1) = some (PySem.W.instObj C s.heap.objs.size) := by
    have := Heap.get?_push_size (s.heap.push PySem.W.emptyDict) (o := PySem.W.instObj C s.heap.objs.size) rfl
    rwa [Heap.size_push] at this
  have e3 : (s.heap.push PySem.W.emptyDict).Ns s.heap.objs.size (fun _ => none) := ⟨PySem.W.emptyDict, #[], _, e1, rfl, (fun e he => absurd he (by simp)), fun _ => rfl⟩
  have I1 := I.laid (a := s.heap.objs.size) (o := .own (s.heap.objs.size + 1)) (h' := s.heap.push PySem.W.emptyDict) (t' := s.toks) (fun b u q => Heap.get?_push_of_some _ q) (Nat.le_refl _) ⟨_, e1⟩
  refine I1.laid (a := s.heap.objs.size + 1) (o := .ins C s.heap.objs.size []) (t' := s.toks) (fun b u q => Heap.get?_push_of_some _ q) (Nat.le_of_eq (Heap.size_push _ _)) ?_
  have ne : s.heap.objs.size ≠ s.heap.objs.size + 1 := Nat.ne_of_lt (Nat.lt_succ_self _)
  refine ⟨by rw [upd_ne ne, upd_same], Nat.zero_le _, ne, e2, fun _ => none, (Heap.Ns1.of_empty e3).at fun o q => Heap.get?_push_of_some _ q, fun _ => True.intro, fun y hy => absurd rfl hy⟩

end

/-! ### readings and rules -/
section
variable {X : Cx} {o e value : Expr} {f : Str} {pos pos' tpos : Pos} {ta tv : TE}
end

/-! ### isinstance -/
section
variable {X : Cx} {pins : List (Addr × Obj)} {σ : St} {H : Hp} {s : Shared} {A : Around} {E : Value → Shared → Prop} {Q : Value → Shared → Prop} {c : Value} {b : Bool}
/-- the type of a value, as the fragment's deciders take it; for an instance its class -/
inductive TyOf (K : PySem.W.Frag) (H : Hp) : V → Value → Prop where
  | non : TyOf K H .non (.type "NoneType")
  | bl (x : Bool) : TyOf K H (.bl x) (.type "bool")
  | int (i : Int) : TyOf K H (.int i) (.type "int")
  | str (x : Str) : TyOf K H (.str x) (.type "str")
  | flt (x : UInt64) : TyOf K H (.flt x) (.type "float")
  | lst {a : Addr} {xs : List V} (e : H a = some (.lst xs)) : TyOf K H (.ref a) (.type "list")
  | frz {a : Addr} {o : Obj} {xs : List V} (e : H a = some (.frz o (.lst xs))) : TyOf K H (.ref a) (.type "list")
  | tup {a : Addr} {xs : List V} (e : H a = some (.tup xs)) : TyOf K H (.ref a) (.type "tuple")
  | dK {a : Addr} {kvs : List (Key × V)} (e : H a = some (.dK kvs)) : TyOf K H (.ref a) (.type "dict")
  | dT {a : Addr} {kvs : List (List Key × V)} (e : H a = some (.dT kvs)) : TyOf K H (.ref a) (.type "dict")
  | ins {a C dx : Addr} {fs : List (Str × V)} (e : H a = some (.ins C dx fs)) (cl : Cls K C) (ha : PySem.W.findIn K (.ref C) "__class__" = some (some (.builtin "object.__class__")))
      (hn : PySem.W.specialIn K (.builtin "object.__class__") "__get__" = some (some (.builtin "getset_descriptor.__get__"))) (htk : PySem.W.takesIn K (.builtin "object.__class__") = some true)
      (hm : PySem.W.mroIn K C (.type "object") = some true) : TyOf K H (.ref a) (.ref C)
/-- isinstance(x, c) for one class c, a built-in or an own one: kitOne's answer -/
theorem isinst_ok {x : V} {u t : Value} (I : Inv X pins σ H s) (rx : RelV x u) (ty : TyOf X.K H x t) (e : PySem.W.kitOne X.K t c = some b) (h : ∀ tk, Q (.bool b) { s with toks := tk }) :
    wpAny (model X.prog X.w) A (call (.builtin "isinstance") [u, c]) Q E s := by
  cases ty with
  | non => cases (show u = Value.none from rx); exact PySem.W.kia_one PySem.W.kitx_none I.kIn True.intro e (fun z => nomatch z) h
  | bl y => cases (show u = Value.bool y from rx); exact PySem.W.kia_one PySem.W.kitx_bool I.kIn True.intro e (fun z => nomatch z) h
  | int i => obtain ⟨t, q⟩ := (show ∃ t, u = Value.int i t from rx); cases q; exact PySem.W.kia_one PySem.W.kitx_int I.kIn True.intro e (fun z => nomatch z) h
  | str y => obtain ⟨t, q⟩ := (show ∃ t, u = Value.str y t from rx); cases q; exact PySem.W.kia_one PySem.W.kitx_str I.kIn True.intro e (fun z => nomatch z) h
  | flt y => obtain ⟨t, q⟩ := (show ∃ t, u = Value.float y t from rx); cases q; exact PySem.W.kia_one PySem.W.kitx_float I.kIn True.intro e (fun z => nomatch z) h
  | @lst a xs ea =>
    cases (show u = Value.ref a from rx)
    obtain ⟨_, _, n, _, h1⟩ := (show ObjOk X.prog X.w H s.heap a (.lst xs) from I.hok a _ ea)
    exact PySem.W.kia_one PySem.W.kitx_list I.kIn ⟨_, h1, rfl⟩ e (fun z => nomatch z) h
  | @frz a ob xs ea =>
    cases (show u = Value.ref a from rx)
    obtain ⟨_, _, _, n, _, h1⟩ := (show ObjOk X.prog X.w H s.heap a (.frz ob (.lst xs)) from I.hok a _ ea)
    exact PySem.W.kia_one PySem.W.kitx_list I.kIn ⟨_, h1, rfl⟩ e (fun z => nomatch z) h
  | @tup a xs ea =>
    cases (show u = Value.ref a from rx)
    obtain ⟨_, _, _, p⟩ := (show ObjOk X.prog X.w H s.heap a (.tup xs) from I.hok a _ ea)
    obtain ⟨o, h1, h2, _⟩ := p
    exact PySem.W.kia_one PySem.W.kitx_tuple I.kIn ⟨o, h1, h2⟩ e (fun z => nomatch z) h
  | @dK a kvs ea =>
    cases (show u = Value.ref a from rx)
    obtain ⟨_, _, vs, _, p⟩ := (show ObjOk X.prog X.w H s.heap a (.dK kvs) from I.hok a _ ea)
    obtain ⟨o, es, ep, h1, h2, _⟩ := p
    exact PySem.W.kia_one PySem.W.kitx_dict I.kIn ⟨o, h1, h2.1⟩ e (fun z => nomatch z) h
  | @dT a kvs ea =>
    cases (show u = Value.ref a from rx)
    obtain ⟨_, _, xs, _, o, es, ep, h1, h2, _⟩ := (show ObjOk X.prog X.w H s.heap a (.dT kvs) from I.hok a _ ea)
    exact PySem.W.kia_one PySem.W.kitx_dict I.kIn ⟨o, h1, h2.1⟩ e (fun z => nomatch z) h
  | @ins a C dx fs ea cl ha hn htk hm =>
    cases (show u = Value.ref a from rx)
    obtain ⟨mA, O, _⟩ := ins_get I.hok ea
    obtain ⟨od, J, _⟩ := O.look
    exact PySem.W.kia_one (PySem.W.kitx_own (cl.get _) cl.hd ha hn htk hm) I.kIn J e (fun z => nomatch z) h
end
end L2

namespace L2
open PySem PySem.Spec PyProof.Rows

/-! ### room -/
structure Room (k : Nat) (A : Around) : Prop where
  hd : A.handled = none
  dp : A.depth + 3 * k + 5 < recursionLimit
  un : A.units + 16 * k + 200 < cLine
theorem Room.mono {j k : Nat} {A : Around} (r : Room k A) (h : j ≤ k) : Room j A := ⟨r.hd, by have := r.dp; omega, by have := r.un; omega⟩
theorem Room.deeper {k : Nat} {A : Around} (r : Room (k + 1) A) (env : Env) : Room k (A.deeper env) :=
  ⟨r.hd, by have := r.dp; show A.depth + 1 + 3 * k + 5 < _; omega, by have := r.un; show A.units + 3 + 16 * k + 200 < _; omega⟩
theorem Room.in1 {k : Nat} {A : Around} (r : Room (k + 1) A) : Room k A.in1 :=
  ⟨r.hd, by have := r.dp; show A.depth + 3 * k + 5 < _; omega, by have := r.un; show A.units + 1 + 16 * k + 200 < _; omega⟩
theorem Room.depth {k : Nat} {A : Around} (r : Room k A) : A.depth < recursionLimit := by have := r.dp; omega
theorem Room.units {k : Nat} {A : Around} (r : Room k A) : A.units + 64 < cLine := by have := r.un; omega
/-! ### argument lists and displays -/
def tNil : TA := fun _ H Q => Q [] H
def tCons (ta : TE) (tr : TA) : TA := fun σ H Q => ta σ H fun x H1 => tr σ H1 fun xs H2 => Q (x :: xs) H2
section
variable {X : Cx} {e : Expr} {es : List Expr} {te : TE} {t : TA} {pos : Pos}
theorem pa_nil : PA X [] tNil := fun _ _ _ _ H Q I h => Calls.spliced_nil ⟨[], H, I, .nil, h⟩
theorem pa_cons (ha : PE X e te) (hr : PA X es t) (hs : starEach (e :: es) X.env = (false, eval e X.env) :: starEach es X.env := by rfl) : PA X (e :: es) (tCons te t) := by
  intro pos pins s σ H Q I h
  rw [hs]
  show wpAny _ _ (spliced ((false, eval e X.env) :: backTo pos (starEach es X.env))) _ _ s
  refine Calls.spliced_cons (thn (ha pins s σ H _ I h) fun u s1 ⟨x, H1, I1, r1, q1⟩ => ?_)
  exact thn (hr pos pins s1 σ H1 _ I1 q1) fun us s2 ⟨xs, H2, I2, r2, q2⟩ => ⟨x :: xs, H2, I2, .cons r1 r2, q2⟩

/-- a tuple, a list of written items -/
def tTup (t : TA) : TE := fun σ H Q => t σ H fun xs H1 => xs.length ≤ sizeLine ∧ ∀ p, H1 p = none → Q (.ref p) (upd H1 p (.tup xs))
def tLst (t : TA) : TE := fun σ H Q => t σ H fun xs H1 => xs.length ≤ sizeLine ∧ ∀ p, H1 p = none → Q (.ref p) (upd H1 p (.lst xs))
theorem pe_tup {x1} (h : PA X es t) : PE X (.Tuple es x1 pos) (tTup t) := by
  intro pins s σ H Q I hq
  refine wpAny_Tuple_spliced (thn (h pos pins s σ H _ I hq) fun us s1 ⟨xs, H1, I1, r, z, q⟩ => ⟨by rw [← r.length]; exact z, ?_⟩)
  have hf : H1 s1.heap.objs.size = none := I1.hok.fresh (Nat.le_refl _)
  refine ⟨.ref s1.heap.objs.size, upd H1 s1.heap.objs.size (.tup xs), I1.laid (t' := s1.toks) (fun b u e => Heap.get?_push_of_some _ e) (Nat.le_refl _) ?_, rfl, q _ hf⟩
  exact ⟨z, us, r, ⟨_, Heap.get?_push_size _ rfl, rfl, _, rfl⟩⟩
theorem pe_lst (h : PA X es t) : PE X (.List es pos) (tLst t) := by
  intro pins s σ H Q I hq
  refine wpAny_List_spliced (thn (h pos pins s σ H _ I hq) fun us s1 ⟨xs, H1, I1, r, z, q⟩ => ⟨by rw [← r.length]; exact z, ?_⟩)
  have hf : H1 s1.heap.objs.size = none := I1.hok.fresh (Nat.le_refl _)
  refine ⟨.ref s1.heap.objs.size, upd H1 s1.heap.objs.size (.lst xs), I1.laid (t' := s1.toks) (fun b u e => Heap.get?_push_of_some _ e) (Nat.le_refl _) ?_, rfl, q _ hf⟩
  exact ⟨z, us, 0, r, Heap.get?_push_size _ rfl⟩
end

/-! ### what a def promises -/
/-- a def's promise: the bound arguments in the parameters' order, the heap, the wanted end, the wanted exception -/
abbrev Sp := List V → Hp → VK → XK → Prop
/-- how an exception lies behind a call (file 08 gives it): the callers' frames, abstract heap and state ahead of the call, the wish, the exception, the state -/
abbrev CXT := List Env → Hp → Shared → XK → Value → Shared → Prop

/-- the state at a call -/
structure Env0 (P : Program) (w : World) (K : PySem.W.Frag) (mg : Str → Option Value) (base : Heap) (A : Around) (outer : List Env) (s : Shared) (H : Hp) : Prop where
  frames : A.frames = some outer
  mod : Mod K mg base
  bs : ∀ b o, base.get? b = some o → s.heap.get? b = some o ∧ H b = none
  bsz : base.objs.size ≤ s.heap.objs.size
  funs : s.heap.FunFrames base outer
  frf : ∀ b ∈ frs outer, H b = none
  hok : HOk P w H s.heap
  bare : AllBare s.gens
/-- a call's end -/
def CE (outer : List Env) (P : Program) (w : World) (H : Hp) (s : Shared) (Q : VK) (u : Value) (s' : Shared) : Prop :=
  ∃ v H', s'.os = s.os ∧ AllBare s'.gens ∧ Un (frs outer) [] H H' s.heap s'.heap ∧ HOk P w H' s'.heap ∧ RelV v u ∧ Q v H'
def CR (CX : CXT) (outer : List Env) (P : Program) (w : World) (H : Hp) (s : Shared) (Q : VK) (E : XK) (r : Result) (s' : Shared) : Prop :=
  match r with
  | .ok (.ret u) => CE outer P w H s Q u s'
  | .ok _ => False
  | .error e => CX outer H s E e s'
structure FnOk (P : Program) (w : World) (K : PySem.W.Frag) (mg : Str → Option Value) (base : Heap) (CX : CXT) (k : Nat) (f : Addr) (fd : FuncData) (ps : List Str) (sp : Sp) : Prop where
  len : ∀ vs H Q E, sp vs H Q E → vs.length = ps.length
  run : ∀ (A : Around) (outer : List Env) (s : Shared) (H : Hp) (args : Args) (us : List Value) (vs : List V) (Q : VK) (E : XK), Room k A → Env0 P w K mg base A outer s H → BindsTo s fd args (ps.zip us) → Vals vs us → sp vs H Q E →
    codeAny (model P w) A (.call (.ref f) args) (CR CX outer P w H s Q E) s
theorem FnOk.mono {P : Program} {w : World} {K : PySem.W.Frag} {mg : Str → Option Value} {base : Heap} {CX : CXT} {j k : Nat} {f : Addr} {fd : FuncData} {ps : List Str} {sp : Sp} (F : FnOk P w K mg base CX j f fd ps sp) (h : j ≤ k) :
    FnOk P w K mg base CX k f fd ps sp := ⟨F.len, fun A outer s H args us vs Q E hr => F.run A outer s H args us vs Q E (hr.mono h)⟩
theorem Env0.in1 {P : Program} {w : World} {K : PySem.W.Frag} {mg : Str → Option Value} {base : Heap} {A : Around} {outer : List Env} {s : Shared} {H : Hp} (e : Env0 P w K mg base A outer s H) :
    Env0 P w K mg base A.in1 outer s H := ⟨e.frames, e.mod, e.bs, e.bsz, e.funs, e.frf, e.hok, e.bare⟩

section
variable {X : Cx} {pins : List (Addr × Obj)} {σ : St} {H : Hp} {s s' : Shared}
/-- from a body: what a callee wants -/
theorem Inv.env0 (I : Inv X pins σ H s) : Env0 X.prog X.w X.K X.mg X.base X.A X.stack s H :=
  ⟨I.ok.frames, I.ok.mod, I.bs, Nat.le_trans I.ok.bsz I.sz, I.stack, I.stkFree, I.hok, I.bare⟩
/-- behind a call -/
theorem Inv.after {Q : VK} {u : Value} (I : Inv X pins σ H s) (h : CE X.stack X.prog X.w H s Q u s') : EP X pins σ Q u s' := by
  obtain ⟨v, H', os, bare, un, hok, r, q⟩ := h
  obtain ⟨hh, g, d, t, os'⟩ := s'
  obtain rfl : os' = s.os := os
  exact ⟨v, H', I.call (h' := hh) (g' := g) (d' := d) (t' := t) (ch := []) un hok bare (fun b z => absurd z (by simp)), r, q⟩
end

/-! ### calls -/
/-- f(..): the written arguments, then the defaults dvs; E: what is wanted of an exception -/
def tCall (sp : Sp) (dvs : List V) (E : XK) (t : TA) : TE := fun σ H Q => t σ H fun vs H1 => sp (vs ++ dvs) H1 Q E
/-- how the parameters are bound: us the positional arguments, kw the keywords' values by name, ds the defaults that fill up -/
def Binds (K : PySem.W.Frag) (fd : FuncData) (ps : List Str) (ds : List Value) : Prop :=
  ∀ (s : Shared) (us : List Value), K.In s.heap → (us ++ ds).length = ps.length → BindsTo s fd ⟨us, []⟩ (ps.zip (us ++ ds))
/-- every parameter is given -/
theorem Binds.all {K : PySem.W.Frag} {fd : FuncData} {ps : List Str} (h : ∀ us : List Value, us.length = ps.length → bindArgs fd ⟨us, []⟩ = pure (ps.zip us)) : Binds K fd ps [] := fun s us _ hl => by
  rw [List.append_nil] at hl ⊢
  exact .of_eq (h us hl)

/-- an exception of a callee reaches what this body wants of exceptions -/
def Passes (CX : CXT) (X : Cx) (E : XK) : Prop := ∀ (pins : List (Addr × Obj)) (σ : St) (H : Hp) (s : Shared) (e : Value) (s' : Shared), Inv X pins σ H s → CX X.stack H s E e s' → X.xe e s'

section
variable {X : Cx} {CX : CXT} {k : Nat} {f C : Addr} {fd : FuncData} {ps : List Str} {sp : Sp} {dvs : List V} {ds : List Value} {E : XK} {x m : Str} {p pos apos : Pos} {e o : Expr} {es : List Expr} {ta : TE} {t : TA}

/-- the callee runs -/
theorem run_fn {pins : List (Addr × Obj)} {σ : St} {H : Hp} {s : Shared} {Q : VK} {us : List Value} {vs : List V} (F : FnOk X.prog X.w X.K X.mg X.base CX k f fd ps sp) (hr : Room k X.A) (hb : Binds X.K fd ps ds) (hd : Vals dvs ds) (hx : Passes CX X E)
    (I : Inv X pins σ H s) (r : Vals vs us) (h : sp (vs ++ dvs) H Q E) : wpAny (model X.prog X.w) X.A (call (.ref f) us) (EP X pins σ Q) X.xe s := by
  have r2 : Vals (vs ++ dvs) (us ++ ds) := r.append hd
  have hl : (us ++ ds).length = ps.length := by rw [← r2.length]; exact F.len _ _ _ _ h
  refine wpAny_call (codeAny_mono (F.run X.A X.stack s H ⟨us, []⟩ (us ++ ds) (vs ++ dvs) Q E hr I.env0 (hb s us I.kIn hl) r2 h) fun r s' hq => ?_)
  cases r with
  | error e => exact hx pins σ H s e s' I hq
  | ok fl =>
    cases fl with
    | ret u => exact I.after hq
    | next => exact False.elim hq
    | brk => exact False.elim hq
    | cont => exact False.elim hq

theorem pe_call (F : FnOk X.prog X.w X.K X.mg X.base CX k f fd ps sp) (hr : Room k X.A) (hg : Gl X x) (hm : X.mg x = some (.ref f)) (hk : PySem.W.keepIn X.K (.ref f) = true) (hb : Binds X.K fd ps ds) (hd : Vals dvs ds) (hx : Passes CX X E)
    (ha : PA X (e :: es) t) (hdb : (x == ("__debug__" : Str)) = false := by decide) (he : starEach (e :: es) X.env = (false, eval e X.env) :: starEach es X.env := by rfl) (hpl : (backTo pos (starEach es X.env)).any (·.1) = false := by rfl) :
    PE X (.Call (.Name x p) (e :: es) [] pos) (tCall sp dvs E t) := by
  intro pins s σ H Q I h
  refine wpAny_Call_Name_kw (ld_glob I hg hm ?_ hdb)
  refine PySem.W.callWith_K (h₀ := X.base) I.ok.mod.kin hk (thn (ha pos pins s σ H _ I h) fun us s1 ⟨vs, H1, I1, r, q⟩ => ⟨I1.kIn, ?_⟩) he hpl
  exact run_fn F hr hb hd hx I1 r q
end

/-! ### keywords -/
section
variable {X : Cx} {CX : CXT} {k : Nat} {f C : Addr} {fd : FuncData} {ps ks : List Str} {sp : Sp} {E : XK} {x m : Str} {p pos apos kpos : Pos} {e o : Expr} {es : List Expr} {kws : List Keyword} {te ta : TE} {t tk : TA} {nm : Option Str}
variable {g : List Value → List Value → List Value} {gV : List V → List V → List V}
end

/-! ### a def's body keeps its promise -/
/-- names: the parameters first -/
structure FnScope (N P : List Str) (sc : Scope) : Prop where
  kind : sc.kind = .function
  co : sc.isCoroutine = false
  gen : sc.isGenerator = false
  nd : N.Nodup
  pre : N.take P.length = P
  par : ∀ x ∈ P, sc.names.lookup x = some .local ∨ sc.names.lookup x = some .cell
  nofree : ∀ y ∈ sc.names, y.2 ≠ .free

theorem bindL_out {kindOf : Str → Option NameKind} {x : Str} : ∀ {binds : List (Str × Value)} {m : Str → Option Value}, (∀ v, (x, v) ∉ binds) → bindL kindOf binds m x = m x
  | [], _, _ => rfl
  | (n, v) :: r, m, h => by
    unfold bindL
    rw [bindL_out fun w hw => h w (List.mem_cons_of_mem _ hw)]
    split
    · have : x ≠ n := by rintro rfl; exact h v List.mem_cons_self
      simp [this]
    · rfl
theorem bindC_out {kindOf : Str → Option NameKind} {x : Str} : ∀ {binds : List (Str × Value)} {m : Str → Option Value}, (∀ v, (x, v) ∉ binds) → bindC kindOf binds m x = m x
  | [], _, _ => rfl
  | (n, v) :: r, m, h => by
    unfold bindC
    rw [bindC_out fun w hw => h w (List.mem_cons_of_mem _ hw)]
    split
    · rfl
    · have : x ≠ n := by rintro rfl; exact h v List.mem_cons_self
      simp [this]
theorem bindL_get {kindOf : Str → Option NameKind} {x : Str} {v : Value} : ∀ {P : List Str} {vs : List Value} {i : Nat} {m : Str → Option Value}, P.Nodup → P[i]? = some x → vs[i]? = some v → kindOf x = some .local →
    bindL kindOf (P.zip vs) m x = some v
  | [], _, _, _, _, h, _, _ => by simp at h
  | _ :: _, [], _, _, _, _, h, _ => by simp at h
  | p :: P, w :: vs, 0, m, nd, h1, h2, hk => by
    simp at h1 h2; subst h1; subst h2
    show bindL kindOf ((p, w) :: P.zip vs) m p = _
    unfold bindL
    rw [bindL_out fun v hv => (List.nodup_cons.mp nd).1 (List.of_mem_zip hv).1, if_pos hk]
    simp
  | p :: P, w :: vs, i + 1, m, nd, h1, h2, hk => by
    show bindL kindOf ((p, w) :: P.zip vs) m x = _
    unfold bindL
    exact bindL_get (i := i) (List.nodup_cons.mp nd).2 (by simpa using h1) (by simpa using h2) hk
theorem bindC_get {kindOf : Str → Option NameKind} {x : Str} {v : Value} : ∀ {P : List Str} {vs : List Value} {i : Nat} {m : Str → Option Value}, P.Nodup → P[i]? = some x → vs[i]? = some v → kindOf x ≠ some .local →
    bindC kindOf (P.zip vs) m x = some v
  | [], _, _, _, _, h, _, _ => by simp at h
  | _ :: _, [], _, _, _, _, h, _ => by simp at h
  | p :: P, w :: vs, 0, m, nd, h1, h2, hk => by
    simp at h1 h2; subst h1; subst h2
    show bindC kindOf ((p, w) :: P.zip vs) m p = _
    unfold bindC
    rw [bindC_out fun v hv => (List.nodup_cons.mp nd).1 (List.of_mem_zip hv).1, if_neg hk]
    simp
  | p :: P, w :: vs, i + 1, m, nd, h1, h2, hk => by
    show bindC kindOf ((p, w) :: P.zip vs) m x = _
    unfold bindC
    exact bindC_get (i := i) (List.nodup_cons.mp nd).2 (by simpa using h1) (by simpa using h2) hk

/-- the names' values at the entry -/
def start (N : List Str) (vs : List V) : St := vs.map some ++ List.replicate (N.length - vs.length) none

/-- the context of a def's body, at its entry; an exception leaves the frame, then lies as CX says -/
def cxOf (CX : CXT) (P : Program) (w : World) (K : PySem.W.Frag) (mg : Str → Option Value) (base : Heap) (N : List Str) (qual : Str) (scope : Scope) (f : Addr) (cd : Value) (A : Around) (outer : List Env) (s : Shared) (H : Hp) (E : XK) : Cx where
  prog := P
  w := w
  K := K
  mg := mg
  base := base
  A := A.deeper (envOfC qual scope s.heap.objs.size f cd)
  N := N
  s₀ := s
  H₀ := H
  env := envOfC qual scope s.heap.objs.size f cd
  outer := outer
  stack := envOfC qual scope s.heap.objs.size f cd :: outer
  ex := []
  calm := true
  fn := fun _ => true
  pn := []
  xe := fun e s' => wpAny (model P w) (A.deeper (envOfC qual scope s.heap.objs.size f cd)) (leaving (envOfC qual scope s.heap.objs.size f cd) e) (fun _ s'' => CX outer H s E e s'') (fun e' s'' => CX outer H s E e' s'') s'

theorem cell_has {sc : Scope} {n : Nat} {x : Str} (h : sc.names.lookup x = some .cell) : ∃ c, (cellsFrom n sc.names []).lookup x = some c := by
  have q := PySem.W.cellsFrom_some sc.names n [] (.inl h)
  exact Option.isSome_iff_exists.mp q

theorem inv_start {CX : CXT} {P : Program} {w : World} {K : PySem.W.Frag} {mg : Str → Option Value} {base : Heap} {N ps : List Str} {qual : Str} {scope : Scope} {f : Addr} {cd : Value} {A : Around} {outer : List Env} {s s1 : Shared} {H : Hp} {E : XK} {us : List Value} {vs : List V}
    (S : FnScope N ps scope) (hd : A.handled = none) (e0 : Env0 P w K mg base A outer s H) (hl : vs.length = ps.length) (r : Vals vs us)
    (x : InCallC s s.heap.objs.size (bindL (envOfC qual scope s.heap.objs.size f cd).kindOf (ps.zip us) fun _ => none) (cellsFrom (s.heap.objs.size + 1) scope.names []) (bindC (envOfC qual scope s.heap.objs.size f cd).kindOf (ps.zip us) fun _ => none) s1) :
    Inv (cxOf CX P w K mg base N qual scope f cd A outer s H E) [] (start N vs) H s1 := by
  have hpl : ps.length ≤ N.length := by have := congrArg List.length S.pre; rw [List.length_take] at this; omega
  obtain ⟨h1, tk, rfl, hk⟩ := x.done
  have noA : ∀ b : Addr, b ∉ (cxOf CX P w K mg base N qual scope f cd A outer s H E).ex := fun b z => absurd (show b ∈ ([] : List Addr) from z) (by simp)
  refine ⟨⟨e0.mod, S.kind, rfl, rfl, Nat.le_refl _, fun y z c h1 h2 => ?_, fun y hy => ?_, fun y c _ h => ?_, fun _ => hd, Around.frames_deeper e0.frames, .inr ⟨rfl, rfl⟩, fun b z => absurd z (noA b), e0.bs, e0.bsz, fun b _ _ => noA b, fun b z => absurd z (noA b), e0.funs, e0.frf⟩,
    rfl, e0.bare, Un.kept hk, ⟨_, x.toInCall.ns, fun i y v h1 h2 h3 => ?_⟩, fun y c h => ⟨_, x.cell y c h⟩, e0.hok.fresh (Nat.le_refl _), fun y c h => ?_, fun p hp => absurd (show p ∈ ([] : List (Addr × Obj)) from hp) (by simp), e0.hok.kept hk, ?_⟩
  · exact name_of_addr x.apart (PySem.mem_of_lookup h1) (PySem.mem_of_lookup h2)
  · have hy : scope.names.lookup y = some .cell ∨ scope.names.lookup y = some .free := hy
    rcases hy with hy | hy
    · exact cell_has hy
    · exact absurd rfl (S.nofree _ (PySem.mem_of_lookup hy))
  · exact Nat.le_of_lt (x.above y c (PySem.mem_of_lookup h))
  · have hi : i < vs.length := by
      unfold start at h2
      by_cases hi : i < vs.length
      · exact hi
      · rw [List.getElem?_append_right (by simpa using hi)] at h2
        rw [List.getElem?_replicate] at h2
        split at h2 <;> cases h2
    have ha : vs[i]? = some v := by
      unfold start at h2
      rw [List.getElem?_append_left (by simpa using hi), List.getElem?_map] at h2
      cases e : vs[i]? with
      | none => rw [e] at h2; cases h2
      | some a => rw [e] at h2; cases h2; rfl
    obtain ⟨u, hu, rv⟩ := r.get ha
    have hp : ps[i]? = some y := by
      rw [← S.pre, List.getElem?_take_of_lt (by omega)]; exact h1
    have ndP : ps.Nodup := by rw [← S.pre]; exact S.nd.sublist (List.take_sublist _ _)
    refine ⟨u, rv, ?_⟩
    rcases S.par y (List.mem_of_getElem? hp) with k | k
    · exact .inl ⟨k, bindL_get ndP hp hu k⟩
    · obtain ⟨c, e⟩ := cell_has (n := s.heap.objs.size + 1) k
      refine .inr ⟨.inl k, c, e, ?_⟩
      have q := x.cell y c e
      rw [bindC_get ndP hp hu (by show scope.names.lookup y ≠ _; rw [k]; decide)] at q
      exact q
  · exact e0.hok.fresh (Nat.le_of_lt (x.above y c (PySem.mem_of_lookup h)))
  · unfold start
    show _ = N.length
    rw [List.length_append, List.length_map, List.length_replicate]
    omega

/-- THE RULE: a def (or a method) of the text, by its body. The body's reading t is chosen for each entry; it is run at the parameters' values -/
theorem fn_of {CX : CXT} {P : Program} {w : World} {K : PySem.W.Frag} {mg : Str → Option Value} {base : Heap} {k : Nat} {f : Addr} {name qual : Str} {params : Arguments} {body : List Stmt} {scope : Scope} {dV kV doc pm cdv ct oc : Value} {an od : Option Addr}
    {osl : Array (Option Value)} {N ps : List Str} {sp : Sp} (lk : K.lookup f = some ⟨oc, od, .func (PySem.W.fnOf name qual params body scope dV kV doc pm an cdv ct), osl⟩) (hcd : PySem.W.codeIn K cdv qual = true) (S : FnScope N ps scope)
    (len : ∀ vs H Q E, sp vs H Q E → vs.length = ps.length)
    (hbody : ∀ (A : Around) (outer : List Env) (s : Shared) (H : Hp) (vs : List V) (Q : VK) (E : XK), Room k (A.deeper (envOfC qual scope s.heap.objs.size f cdv)) → sp vs H Q E →
      ∃ t, PSs (cxOf CX P w K mg base N qual scope f cdv A outer s H E) body t ∧ t { nx := fun _ H' => Q .non H', rt := Q } (start N vs) H) :
    FnOk P w K mg base CX (k + 1) f (PySem.W.fnOf name qual params body scope dV kV doc pm an cdv ct) ps sp := by
  refine ⟨len, fun A outer s H args us vs Q E hr e0 hb r hsp => ?_⟩
  have hl := len _ _ _ _ hsp
  have KX : K.In s.heap := e0.mod.kin.keeps fun b o e => (e0.bs b o e).1
  have lim : s.heap.NoLimit := e0.mod.nolimit.keeps fun b o e => (e0.bs b o e).1
  have hkind : ∀ y ∈ ps.zip us, scope.names.lookup y.1 = some .local ∨ (scope.names.lookup y.1 = some .cell ∧ ((cellsFrom (s.heap.objs.size + 1) scope.names []).lookup y.1).isSome = true) := fun ⟨n, v⟩ hy => by
    rcases S.par n (List.of_mem_zip hy).1 with q | q
    · exact .inl q
    · exact .inr ⟨q, PySem.W.cellsFrom_some _ _ _ (.inl q)⟩
  refine codeAny_call_function hr.depth (KX _ _ lk) rfl S.co S.gen rfl (PySem.W.codeRec_of KX hcd) (hb _ _ _ _ ?_)
  refine wpAny_newFunctionEnv_cells S.kind hkind fun env he s1 x => ?_
  subst he
  refine ⟨lim.keeps x.toInCall.keep, codeAny_func ?_⟩
  obtain ⟨t, ht, hq⟩ := hbody A outer s H vs Q E (hr.deeper _) hsp
  have I : Inv (cxOf CX P w K mg base N qual scope f cdv A outer s H E) [] (start N vs) H s1 := inv_start S hr.hd e0 hl r x
  refine wpAny_mono (ht [] s1 (start N vs) H _ I hq) (fun fl s' hs => ?_) fun e s' hs => hs
  have fin : ∀ {σ' : St} {H' : Hp} {v : V} {u : Value}, Inv (cxOf CX P w K mg base N qual scope f cdv A outer s H E) [] σ' H' s' → RelV v u → Q v H' → CE outer P w H s Q u s' :=
    fun {σ' H' v u} J rv q => ⟨v, H', J.os, J.bare, J.base, J.hok, rv, q⟩
  cases fl with
  | ret u =>
    obtain ⟨v, σ', H', J, rv, q⟩ := hs
    exact fin J rv q
  | next =>
    obtain ⟨σ', H', J, q⟩ := hs
    exact fin (v := V.non) (u := Value.none) J rfl q
  | brk =>
    obtain ⟨_, _, _, q⟩ := hs
    exact False.elim q
  | cont =>
    obtain ⟨_, _, _, q⟩ := hs
    exact False.elim q
end L2

namespace L2
open PySem PySem.Spec PyProof.Rows
section
variable {X : Cx} {x : Str} {p pos : Pos} {e : Expr} {es : List Expr} {t : TA} {id T : String} {r : List V → Hp → VK → Prop}

def tCB (r : List V → Hp → VK → Prop) (t : TA) : TE := fun σ H Q => t σ H fun vs H1 => r vs H1 Q
/-- f(e, ..), f a built-in function -/
theorem pe_callB (hc : CallR X (.builtin id) r) (hg : Gl X x) (hm : X.mg x = none) (hv : bootBuiltins x = some (.builtin id)) (ha : PA X (e :: es) t) (hn : x ≠ "__name__" := by decide) (hdb : (x == ("__debug__" : Str)) = false := by decide)
    (he : starEach (e :: es) X.env = (false, eval e X.env) :: starEach es X.env := by rfl) (hpl : (backTo pos (starEach es X.env)).any (·.1) = false := by rfl) : PE X (.Call (.Name x p) (e :: es) [] pos) (tCB r t) := by
  intro pins s σ H Q I h
  refine wpAny_Call_Name_kw (ld_blt I hg hm hv ?_ hn hdb)
  exact PyProof.Rows.callWith_builtin1 (thn (ha pos pins s σ H _ I h) fun us s1 ⟨vs, H1, I1, r1, q1⟩ => hc pins s1 σ H1 vs us Q I1 r1 q1) he hpl
/-- T(e, ..), T a built-in type -/
theorem pe_callTy (hc : CallR X (.type T) r) (hg : Gl X x) (hm : X.mg x = none) (hv : bootBuiltins x = some (.type T)) (ha : PA X (e :: es) t) (hn : x ≠ "__name__" := by decide) (hdb : (x == ("__debug__" : Str)) = false := by decide)
    (he : starEach (e :: es) X.env = (false, eval e X.env) :: starEach es X.env := by rfl) (hpl : (backTo pos (starEach es X.env)).any (·.1) = false := by rfl) : PE X (.Call (.Name x p) (e :: es) [] pos) (tCB r t) := by
  intro pins s σ H Q I h
  refine wpAny_Call_Name_kw (ld_blt I hg hm hv ?_ hn hdb)
  exact PyProof.Rows.callWith_type1 (thn (ha pos pins s σ H _ I h) fun us s1 ⟨vs, H1, I1, r1, q1⟩ => hc pins s1 σ H1 vs us Q I1 r1 q1) he hpl
end
end L2

namespace HT
open PySem PyProof.Rows

section
open PySem.SeqAt
open PySem.AutoSeq1 (wpAny_loadPart')
open PySem.MeetsSeq PySem.MeetsSeq2 PySem.MeetsSeq3

end

section
variable {prog : Program} {w : World} {A : Around} {E : Value → Shared → Prop} {s : Shared}

/-! ### t[a:b], not the whole -/
/-- a slice's bound as a place among n (d where it is left out) -/
def sIx (n d : Nat) : Option Int → Nat
  | none => d
  | some v => if v < 0 then (v + (n : Int)).toNat else min v.toNat n
theorem sIx_le (n d : Nat) (hd : d ≤ n) (o : Option Int) : sIx n d o ≤ n := by
  cases o with
  | none => exact hd
  | some v =>
    show (if v < 0 then (v + (n : Int)).toNat else min v.toNat n) ≤ n
    by_cases hv : v < 0
    · rw [if_pos hv]; omega
    · rw [if_neg hv]; exact Nat.min_le_right _ _
theorem clip_eq (v : Int) (n d : Nat) : (if v < 0 then max (v + (n : Int)) 0 else min v (n : Int)) = ((sIx n d (some v) : Nat) : Int) := by
  show (if v < 0 then max (v + (n : Int)) 0 else min v (n : Int)) = (((if v < 0 then (v + (n : Int)).toNat else min v.toNat n) : Nat) : Int)
  by_cases hv : v < 0
  · simp only [if_pos hv]; omega
  · simp only [if_neg hv]; omega
theorem adjust_gen (lo hi : Option Int) (n : Nat) : Builtin.Slice.sliceAdjust lo hi 1 (n : Int) = (((sIx n 0 lo : Nat) : Int), ((sIx n n hi : Nat) : Int)) := by
  have h1 : ¬ ((1 : Int) < 0) := by omega
  unfold Builtin.Slice.sliceAdjust
  simp only [h1, if_false]
  refine Prod.ext ?_ ?_
  · cases lo with
    | none => rfl
    | some v => exact clip_eq v n 0
  · cases hi with
    | none => rfl
    | some v => exact clip_eq v n n
theorem places_gen (i j : Nat) : Builtin.Slice.slicePlaces (i : Int) (j : Int) 1 = j - i := by
  unfold Builtin.Slice.slicePlaces
  have h1 : (1 : Int) > 0 := by omega
  simp only [h1, if_true, Int.ediv_one]
  split <;> omega
theorem slicePart_ {v : Value} {o : Option Int} {Q : Option Int → Shared → Prop} (p : IsPart v o) (h : Q o s) : wpAny (model prog w) A (Builtin.Slice.slicePartIndex v) Q E s := by
  cases p with
  | none => exact slicePart_none h
  | int i t => exact slicePart_int h
theorem sliceApplied_gen {sl : Addr} {vl vu : Value} {lo hi : Option Int} {n : Nat} {Q : Int × Int × Nat → Shared → Prop} (hs : s.heap.IsSliceOf sl vl vu .none) (pl : IsPart vl lo) (pu : IsPart vu hi)
    (h : Q (((sIx n 0 lo : Nat) : Int), 1, sIx n n hi - sIx n 0 lo) s) : wpAny (model prog w) A (Builtin.Slice.sliceApplied (.ref sl) (pure (n : Int))) Q E s := by
  obtain ⟨os, hos, hcs, hds⟩ := id hs
  unfold Builtin.Slice.sliceApplied Builtin.Slice.sliceFields
  refine wpAny_bind (wpAny_bind (wpAny_field hos hds (x := vl) rfl (wpAny_bind (wpAny_field hos hds (x := vu) rfl (wpAny_bind (wpAny_field hos hds (x := .none) rfl (wpAny_pure ?_)))))))
  refine wpAny_bind (slicePart_none ?_)
  show wpAny _ _ (if ((1 : Int) == 0) = true then _ else _) _ _ s
  rw [if_neg (by decide)]
  refine wpAny_bind (slicePart_ pl (wpAny_bind (slicePart_ pu (wpAny_bind (wpAny_pure ?_)))))
  show wpAny _ _ (match Builtin.Slice.sliceAdjust lo hi 1 (n : Int) with | (lo, hi) => pure (lo, (1 : Int), Builtin.Slice.slicePlaces lo hi 1)) _ _ s
  rw [adjust_gen lo hi n]
  show wpAny _ _ (pure (((sIx n 0 lo : Nat) : Int), (1 : Int), Builtin.Slice.slicePlaces ((sIx n 0 lo : Nat) : Int) ((sIx n n hi : Nat) : Int) 1)) _ _ s
  rw [places_gen]
  exact wpAny_pure h
theorem pick_gen (xs : Array Value) (i k : Nat) : ((List.range k).filterMap fun (m : Nat) => xs[((i : Int) + (m : Int) * 1).toNat]?).toArray = ((xs.toList.drop i).take k).toArray := by
  have e : (fun (m : Nat) => xs[((i : Int) + (m : Int) * 1).toNat]?) = fun m => xs[i + m]? := by
    funext m
    have : ((i : Int) + (m : Int) * 1).toNat = i + m := by omega
    rw [this]
  rw [e]
  have := pick_run xs i k
  rw [List.filterMap_map] at this
  have e2 : ((fun x => xs[x]?) ∘ fun x => i + x) = fun m => xs[i + m]? := rfl
  rw [e2] at this
  rw [this]

theorem getItem_tuple_cut {t sl : Addr} {items : Array Value} {vl vu : Value} {lo hi : Option Int} {Q : Value → Shared → Prop} (ht : IsTup s.heap t items) (hs : s.heap.IsSliceOf sl vl vu .none) (pl : IsPart vl lo) (pu : IsPart vu hi)
    (hw : ¬ (sIx items.size 0 lo = 0 ∧ sIx items.size items.size hi = items.size))
    (h : Q (.ref s.heap.objs.size) { s with heap := s.heap.push { cls := .type "tuple", data := .seq ((items.toList.drop (sIx items.size 0 lo)).take (sIx items.size items.size hi - sIx items.size 0 lo)).toArray } })
    (hsz : items.size ≤ sizeLine) : wpAny (model prog w) A (getItem (.ref t) (.ref sl)) Q E s := by
  have htake : sizeOk (.seq ((items.toList.drop (sIx items.size 0 lo)).take (sIx items.size items.size hi - sIx items.size 0 lo)).toArray) := by
    show ((items.toList.drop (sIx items.size 0 lo)).take (sIx items.size items.size hi - sIx items.size 0 lo)).toArray.size ≤ sizeLine
    rw [List.size_toArray, List.length_take, List.length_drop, Array.length_toList]
    omega
  have hj : sIx items.size items.size hi ≤ items.size := sIx_le _ _ (Nat.le_refl _) hi
  obtain ⟨os, hos, hcs, hds⟩ := id hs
  have hTs : s.TypeIs (.ref sl) "slice" := ⟨os, hos, hcs⟩
  unfold getItem
  try with_reducible refine wpAny_holding ?_
  first | refine wpAny_bind (wpAny_pure ?_) | skip
  refine wpAny_bind (wpAny_sequenceKey ht.typeIs (by decide) ?_)
  refine wpAny_bind (wpAny_callSpecial?_slot (name := Str.ofString "__getitem__") ht.typeIs PyProof.Rows.slot_tuple_getitem
    (wpAny_call_entry PyProof.Rows.slot_tuple_getitem ht.typeIs entry_tuple_getitem ?_ (args_tuple_getitem _ _)))
  show wpAny _ _ (Builtin.Tuple.tupleItemsOf (.ref t) >>= _) _ _ s
  refine wpAny_bind (tupleItemsOf_ ht ?_)
  refine wpAny_bind (wpAny_typeOf hTs ?_)
  rw [if_pos (by decide)]
  refine wpAny_bind (sliceApplied_gen hs pl pu ?_)
  have hno : ¬ ((((sIx items.size 0 lo : Nat) : Int) == 0 && (1 : Int) == 1 && (sIx items.size items.size hi - sIx items.size 0 lo) == items.size) = true) := by
    intro q
    rw [Bool.and_eq_true, Bool.and_eq_true] at q
    have q1 : ((sIx items.size 0 lo : Nat) : Int) = 0 := eq_of_beq q.1.1
    have q2 : sIx items.size items.size hi - sIx items.size 0 lo = items.size := eq_of_beq q.2
    exact hw ⟨by omega, by omega⟩
  show wpAny _ _ (if (((sIx items.size 0 lo : Nat) : Int) == 0 && (1 : Int) == 1 && (sIx items.size items.size hi - sIx items.size 0 lo) == items.size) = true then _ else _) _ _ s
  rw [if_neg hno, pick_gen]
  first
    | exact wpAny_bind (m := Builtin.Tuple.tupleExact _) (wpAny_newObj_type (wpAny_pure ⟨_, rfl, wpAny_pure h⟩) htake)
    | exact wpAny_bind (m := Builtin.Tuple.tupleExact _) (wpAny_newObj_type (wpAny_bind (wpAny_pure (wpAny_pure ⟨_, rfl, wpAny_pure h⟩))) htake)
    | exact wpAny_bind (wpAny_bind (m := Builtin.Tuple.tupleExact _) (wpAny_newObj_type (wpAny_pure (wpAny_pure ⟨_, rfl, wpAny_pure h⟩)) htake))
    | exact wpAny_bind (wpAny_bind (m := Builtin.Tuple.tupleExact _) (wpAny_newObj_type (wpAny_pure ⟨_, rfl, wpAny_pure h⟩) htake))
end
end HT

namespace L2
open PySem PySem.Spec PyProof.Rows

/-! ### the parts of a slice -/
abbrev TO := St → Hp → (Option Int → Hp → Prop) → Prop
/-- a slice's part (left out, or an int) -/
def PO (X : Cx) (e : Option Expr) (t : TO) : Prop :=
  ∀ (pins : List (Addr × Obj)) (s : Shared) (σ : St) (H : Hp) (Q : Option Int → Hp → Prop), Inv X pins σ H s → t σ H Q →
    wpAny (model X.prog X.w) X.A (evalPart e X.env) (fun u s' => ∃ o H', Inv X pins σ H' s' ∧ IsPart u o ∧ Q o H') X.xe s
def tNoPart : TO := fun _ H Q => Q none H
def tPart (t : TE) : TO := fun σ H Q => t σ H fun x H1 => ∃ i, x = .int i ∧ Q (some i) H1

section
variable {X : Cx} {e : Expr} {te : TE} {lo hi : Option Expr} {tl th : TO} {pos p2 : Pos}

theorem po_none : PO X none tNoPart := by
  intro pins s σ H Q I h
  rw [evalPart_none]
  exact wpAny_pure ⟨none, H, I, .none, h⟩
theorem po_some (h : PE X e te) : PO X (some e) (tPart te) := by
  intro pins s σ H Q I hw
  rw [evalPart_some]
  refine thn (h pins s σ H _ I hw) fun u s1 ⟨x, H1, I1, r1, q1⟩ => ?_
  obtain ⟨i, rfl, q⟩ := q1
  obtain ⟨t, rfl⟩ := r1
  exact ⟨some i, H1, I1, .int i t, q⟩

/-- what a slice of a value is, by values: the slice object stands at sl -/
def SlR (X : Cx) (r : V → Option Int → Option Int → Hp → VK → Prop) : Prop :=
  ∀ (pins : List (Addr × Obj)) (s : Shared) (σ : St) (H : Hp) (x : V) (v vl vu : Value) (lo hi : Option Int) (sl : Addr) (Q : VK), Inv X pins σ H s → RelV x v → s.heap.IsSliceOf sl vl vu .none → IsPart vl lo → IsPart vu hi → r x lo hi H Q →
    ∃ T id, typeLookup (.type T) "__getitem__" = pure (some (.builtin id)) ∧ s.TypeIs v T ∧ wpAny (model X.prog X.w) X.A (getItem v (.ref sl)) (EP X pins σ Q) X.xe s
theorem SlR.or {r r' : V → Option Int → Option Int → Hp → VK → Prop} (h : SlR X r) (h' : SlR X r') : SlR X (fun x lo hi H Q => r x lo hi H Q ∨ r' x lo hi H Q) := by
  intro pins s σ H x v vl vu lo hi sl Q I rx hs pl pu q
  rcases q with q | q
  · exact h pins s σ H x v vl vu lo hi sl Q I rx hs pl pu q
  · exact h' pins s σ H x v vl vu lo hi sl Q I rx hs pl pu q
def tSl (r : V → Option Int → Option Int → Hp → VK → Prop) (te : TE) (tl th : TO) : TE := fun σ H Q => te σ H fun x H1 => tl σ H1 fun l H2 => th σ H2 fun u H3 => r x l u H3 Q
/-- a[lo:hi], any a -/
theorem pe_slice {r : V → Option Int → Option Int → Hp → VK → Prop} (hr : SlR X r) (he : PE X e te) (hl : PO X lo tl) (hu : PO X hi th) : PE X (.Subscript e (.Slice lo hi none p2) pos) (tSl r te tl th) := by
  intro pins s σ H Q I h
  refine Subscript_ (thn (he pins s σ H _ I h) fun v s1 ⟨x, H1, I1, r1, q1⟩ => ?_)
  refine wpAny_Slice (thn (hl pins s1 σ H1 _ I1 q1) fun vl s2 ⟨l, H2, I2, pl, q2⟩ => thn (hu pins s2 σ H2 _ I2 q2) fun vu s3 ⟨u, H3, I3, pu, q3⟩ => ?_)
  rw [evalPart_none]
  refine wpAny_pure ?_
  have I4 : Inv X pins σ H3 { s3 with heap := s3.heap.push { cls := .type "slice", data := .fields #[vl, vu, .none] } } := I3.kept (t' := s3.toks) fun b ob q => Heap.get?_push_of_some _ q
  obtain ⟨T, id, hT, ht, hg⟩ := hr pins { s3 with heap := s3.heap.push { cls := .type "slice", data := .fields #[vl, vu, .none] } } σ H3 x v vl vu l u s3.heap.objs.size Q I4 r1 (Heap.IsSliceOf.new ..) pl pu q3
  show wpAny (model X.prog X.w) X.A (subscriptTail e (.Slice lo hi none p2) v (.ref s3.heap.objs.size)) (EP X pins σ Q) X.xe { s3 with heap := s3.heap.push { cls := .type "slice", data := .fields #[vl, vu, .none] } }
  exact tail_any (ops := [.ref s3.heap.objs.size, v]) ht hT hg (by with_unfolding_all rfl)

/-- the items of xs[lo:hi] -/
def cutV (xs : List V) (lo hi : Option Int) : List V := (xs.drop (HT.sIx xs.length 0 lo)).take (HT.sIx xs.length xs.length hi - HT.sIx xs.length 0 lo)
theorem cutV_length (xs : List V) (lo hi : Option Int) : (cutV xs lo hi).length ≤ xs.length := by
  unfold cutV
  rw [List.length_take, List.length_drop]
  omega
/-- t[lo:hi], not the whole of it (the whole would be t itself) -/
def rSlT (K : PySem.W.Frag) : V → Option Int → Option Int → Hp → VK → Prop := fun x lo hi H Q => ∃ a xs, x = .ref a ∧ SqT K H a xs ∧
  ¬ (HT.sIx xs.length 0 lo = 0 ∧ HT.sIx xs.length xs.length hi = xs.length) ∧ ∀ p, H p = none → Q (.ref p) (upd H p (.tup (cutV xs lo hi)))
theorem sl_tup : SlR X (rSlT X.K) := by
  intro pins s σ H x v vl vu lo hi sl Q I rx hs pl pu h
  obtain ⟨a, xs, rfl, hx, hw, q⟩ := h
  cases rx
  obtain ⟨its, r, ht, hz⟩ := I.tuple hx
  have hlen : its.toArray.size = xs.length := by rw [List.size_toArray]; exact r.length.symm
  refine ⟨"tuple", _, PyProof.Rows.slot_tuple_getitem.lookup, ht.typeIs, ?_⟩
  refine HT.getItem_tuple_cut ht hs pl pu (by rw [hlen]; exact hw) ?_ (by rw [hlen]; exact hz)
  rw [hlen]
  refine ⟨.ref s.heap.objs.size, _, I.laid (t' := s.toks) (o := .tup (cutV xs lo hi)) (fun b ob q => Heap.get?_push_of_some _ q) (Nat.le_refl _) ?_, rfl, q _ (I.hok.fresh (Nat.le_refl _))⟩
  exact ⟨Nat.le_trans (cutV_length xs lo hi) hz, _, (r.drop (HT.sIx xs.length 0 lo)).take (HT.sIx xs.length xs.length hi - HT.sIx xs.length 0 lo), IsTupP.new _ _⟩

/-! ### t < u, t + u -/
end
end L2

namespace L2
open PySem PySem.Spec PyProof.Rows

/-! ### places -/
/-- the place that an index of any sign means -/
def ixN (n : Nat) (i : Int) : Option Nat := if 0 ≤ i then (if i < n then some i.toNat else none) else if -(n : Int) ≤ i then some (i + n).toNat else none
def atI {α : Type} (xs : List α) (i : Int) : Option α := (ixN xs.length i).bind fun j => xs[j]?
theorem ixN_seq {n : Nat} {i : Int} {j : Nat} (h : ixN n i = some j) : seqIndex? i n = some j ∧ j < n ∧ -(n : Int) ≤ i ∧ i < n := by
  unfold ixN at h
  by_cases h0 : 0 ≤ i
  · rw [if_pos h0] at h
    by_cases h1 : i < n
    · rw [if_pos h1] at h
      have e : i.toNat = j := Option.some.inj h
      exact ⟨by rw [seqIndex_of h0 h1, e], by omega, by omega, h1⟩
    · rw [if_neg h1] at h; cases h
  · rw [if_neg h0] at h
    by_cases h1 : -(n : Int) ≤ i
    · rw [if_pos h1] at h
      have e : (i + n).toNat = j := Option.some.inj h
      exact ⟨by rw [seqIndex_neg (by omega) h1, e], by omega, h1, by omega⟩
    · rw [if_neg h1] at h; cases h
theorem atI_get {α : Type} {xs : List α} {i : Int} {v : α} (h : atI xs i = some v) : ∃ j, seqIndex? i xs.length = some j ∧ xs[j]? = some v ∧ j < xs.length ∧ -(xs.length : Int) ≤ i ∧ i < xs.length := by
  unfold atI at h
  cases e : ixN xs.length i with
  | none => rw [e] at h; cases h
  | some j =>
    rw [e] at h
    obtain ⟨h1, h2, h3, h4⟩ := ixN_seq e
    exact ⟨j, h1, h, h2, h3, h4⟩
theorem atI_nat {α : Type} {xs : List α} {j : Nat} {v : α} (h : xs[j]? = some v) : atI xs (j : Int) = some v := by
  have hj : j < xs.length := (List.getElem?_eq_some_iff.mp h).1
  have e : ixN xs.length (j : Int) = some j := by
    unfold ixN
    rw [if_pos (by omega), if_pos (by omega)]; simp
  unfold atI; rw [e]; exact h
theorem atI_last {α : Type} (xs : List α) (v : α) : atI (xs ++ [v]) (-1) = some v := by
  have hl : (xs ++ [v]).length = xs.length + 1 := by simp
  have e : ixN (xs ++ [v]).length (-1) = some xs.length := by
    unfold ixN
    rw [hl, if_neg (by decide), if_pos (by omega)]
    congr 1
    omega
  unfold atI
  rw [e]
  show (xs ++ [v])[xs.length]? = some v
  simp

/-! ### what may be subscripted -/
/-- what stands as an index of a plain subscript -/
def PlainIx (b : Expr) : Prop := ∀ o i, subscripted b false o i = operate [o, i] (getItem o i)
/-- a subscript by values -/
def IxR (X : Cx) (r : R2) : Prop :=
  ∀ (value slice : Expr) (pins : List (Addr × Obj)) (s : Shared) (σ : St) (H : Hp) (x y : V) (v u : Value) (Q : VK), Inv X pins σ H s → RelV x v → RelV y u → r x y H Q →
    subscripted slice false v u = operate [v, u] (getItem v u) → wpAny (model X.prog X.w) X.A (subscriptTail value slice v u) (EP X pins σ Q) X.xe s
/-- a call of a builtin's method by values: the receiver, the arguments -/
def MtR (X : Cx) (id : String) (r : V → List V → Hp → VK → Prop) : Prop :=
  ∀ (pins : List (Addr × Obj)) (s : Shared) (σ : St) (H : Hp) (x : V) (xs : List V) (v : Value) (us : List Value) (Q : VK), Inv X pins σ H s → RelV x v → Vals xs us → r x xs H Q →
    wpAny (model X.prog X.w) X.A (call (.builtin id) (v :: us)) (EP X pins σ Q) X.xe s
section
variable {X : Cx} {a b : Expr} {ta tb : TE} {pos : Pos}
theorem IxR.or {r r' : R2} (h : IxR X r) (h' : IxR X r') : IxR X (fun x y H Q => r x y H Q ∨ r' x y H Q) := by
  intro value slice pins s σ H x y v u Q I rx ry q hs
  rcases q with q | q
  · exact h value slice pins s σ H x y v u Q I rx ry q hs
  · exact h' value slice pins s σ H x y v u Q I rx ry q hs
theorem MtR.or {id : String} {r r' : V → List V → Hp → VK → Prop} (h : MtR X id r) (h' : MtR X id r') : MtR X id (fun x xs H Q => r x xs H Q ∨ r' x xs H Q) := by
  intro pins s σ H x xs v us Q I rx rs q
  rcases q with q | q
  · exact h pins s σ H x xs v us Q I rx rs q
  · exact h' pins s σ H x xs v us Q I rx rs q
/-- a[b] -/
theorem pe_ix {r : R2} (hr : IxR X r) (ha : PE X a ta) (hb : PE X b tb) (hs : PlainIx b) : PE X (.Subscript a b pos) (tOp r ta tb) := by
  intro pins s σ H Q I h
  exact Subscript_ (binT ha hb I h fun v u s2 x y H2 I2 rx ry q => hr a b pins s2 σ H2 x y v u Q I2 rx ry q (hs _ _))

def rIxL (K : PySem.W.Frag) : R2 := fun x y H Q => ∃ p xs i v, x = .ref p ∧ y = .int i ∧ SqL K H p xs ∧ atI xs i = some v ∧ Q v H
def rIxT (K : PySem.W.Frag) : R2 := fun x y H Q => ∃ p xs i v, x = .ref p ∧ y = .int i ∧ SqT K H p xs ∧ atI xs i = some v ∧ Q v H
def rIxS : R2 := fun x y H Q => ∃ z i c, x = .str z ∧ y = .int i ∧ z.length ≤ sizeLine ∧ atI z.cps.toList i = some c ∧ Q (.str ⟨#[c]⟩) H
theorem ix_list : IxR X (rIxL X.K) := by
  intro value slice pins s σ H x y v u Q I rx ry h hs
  obtain ⟨p, xs, i, z, rfl, rfl, hq, he, q⟩ := h
  cases rx
  obtain ⟨t, rfl⟩ := ry
  obtain ⟨its, r, pl, hz⟩ := I.list hq
  obtain ⟨j, h1, h2, h3, h4, h5⟩ := atI_get he
  obtain ⟨w, ew, rw'⟩ := r.get h2
  have hl := r.length
  have hn := line63
  have fin : EP X pins σ Q w s := ⟨z, H, I, rw', q⟩
  by_cases h0 : 0 ≤ i
  · have hj : i.toNat = j := by
      rw [seqIndex_of h0 h5] at h1
      exact Option.some.inj h1
    exact item_listR pl.isList h0 (by omega) (by rw [hj]; simpa using ew) fin hs
  · have hj : (i + (its.toArray.size : Int)).toNat = j := by
      rw [seqIndex_neg (by omega) h4] at h1
      rw [List.size_toArray, ← hl]
      exact Option.some.inj h1
    exact subscriptTail_builtinR (x := w) pl.isList.typeIs slot_list_getitem.lookup
      (wpAny_getItem_list_neg (Q := fun r s' => r = w ∧ EP X pins σ Q r s') pl.isList (by omega) (by rw [List.size_toArray] <;> omega) (by omega) (by rw [hj]; simpa using ew) ⟨rfl, fin⟩) hs
theorem ix_tup : IxR X (rIxT X.K) := by
  intro value slice pins s σ H x y v u Q I rx ry h hs
  obtain ⟨p, xs, i, z, rfl, rfl, hq, he, q⟩ := h
  cases rx
  obtain ⟨t, rfl⟩ := ry
  obtain ⟨its, r, pl, hz⟩ := I.tuple hq
  obtain ⟨j, h1, h2, h3, h4, h5⟩ := atI_get he
  obtain ⟨w, ew, rw'⟩ := r.get h2
  have hl := r.length
  have hn := line63
  have fin : EP X pins σ Q w s := ⟨z, H, I, rw', q⟩
  exact subscriptTail_builtinR (x := w) pl.typeIs slot_tuple_getitem.lookup
    (getItem_tuple (j := j) (Q := fun r s' => r = w ∧ EP X pins σ Q r s') pl (by omega) (by omega) (by rw [List.size_toArray, ← hl]; exact h1) (by simpa using ew) ⟨rfl, fin⟩) hs
theorem ix_str : IxR X rIxS := by
  intro value slice pins s σ H x y v u Q I rx ry h hs
  obtain ⟨z, i, c, rfl, rfl, hz, he, q⟩ := h
  obtain ⟨t, rfl⟩ := rx
  obtain ⟨t', rfl⟩ := ry
  obtain ⟨j, h1, h2, h3, h4, h5⟩ := atI_get he
  have hl : z.cps.toList.length = z.length := by simp [Str.length]
  rw [hl] at h1 h4 h5
  have hn := line63
  exact tail_any (typeIs_str s z t) slot_str_getitem.lookup (getItem_str (c := c) (by
    have e1 : decide (i < -(2 ^ 63 : Int)) = false := decide_eq_false (by omega)
    have e2 : decide (i ≥ 2 ^ 63) = false := decide_eq_false (by omega)
    rw [e1, e2, Bool.or_false]) (by rw [h1]; simpa using h2) ⟨.str ⟨#[c]⟩, H, I.tok _, ⟨_, rfl⟩, q⟩) hs
/-! ### xs[i] = v, any sign -/
theorem Inv.lst {pins : List (Addr × Obj)} {σ : St} {H : Hp} {s : Shared} {p : Addr} {xs : List V} (I : Inv X pins σ H s) (h : H p = some (.lst xs)) :
    ∃ (its : List Value) (n : Nat), Vals xs its ∧ s.heap.get? p = some { cls := .type "list", data := .seq its.toArray n } ∧ xs.length ≤ sizeLine := by
  obtain ⟨z, its, n, r, e⟩ := I.hok p _ h
  exact ⟨its, n, r, e, z⟩
/-! ### slices -/
/-! ### in, not in: flat items -/
def flatV : V → Bool
  | .non => true
  | .bl _ => true
  | .int _ => true
  | .str _ => true
  | _ => false
/-- == of flat values -/
def eqV : V → V → Bool
  | .non, .non => true
  | .bl a, .bl b => a == b
  | .bl a, .int b => (if a then 1 else 0) == b
  | .int a, .bl b => a == (if b then 1 else 0)
  | .int a, .int b => a == b
  | .str a, .str b => a == b
  | _, _ => false
theorem eqAt_V {A : Around} {s : Shared} {y x : V} {u v : Value} (ry : RelV y u) (rx : RelV x v) (fy : flatV y = true) (fx : flatV x = true) : SeqAt.EqAt A s u v (eqV y x) := by
  cases y with
  | non =>
    cases ry
    cases x with
    | non => cases rx; exact SeqAt.EqAt.same _
    | bl b => cases rx; exact SeqAt.EqAt.none_bool b
    | int b => obtain ⟨t, rfl⟩ := rx; exact SeqAt.EqAt.none_int b t
    | str b => obtain ⟨t, rfl⟩ := rx; exact SeqAt.EqAt.none_str b t
    | _ => exact absurd (show false = true from fx) Bool.false_ne_true
  | bl a =>
    cases ry
    cases x with
    | non => cases rx; exact SeqAt.EqAt.bool_none a
    | bl b => cases rx; exact SeqAt.EqAt.bool_bool a b
    | int b => obtain ⟨t, rfl⟩ := rx; exact SeqAt.EqAt.bool_int a b t
    | str b => obtain ⟨t, rfl⟩ := rx; exact SeqAt.EqAt.bool_str a b t
    | _ => exact absurd (show false = true from fx) Bool.false_ne_true
  | int a =>
    obtain ⟨t', rfl⟩ := ry
    cases x with
    | non => cases rx; exact SeqAt.EqAt.int_none a t'
    | bl b => cases rx; exact SeqAt.EqAt.int_bool a t' b
    | int b => obtain ⟨t, rfl⟩ := rx; exact SeqAt.EqAt.int_int a t' b t
    | str b => obtain ⟨t, rfl⟩ := rx; exact SeqAt.EqAt.int_str a t' b t
    | _ => exact absurd (show false = true from fx) Bool.false_ne_true
  | str a =>
    obtain ⟨t', rfl⟩ := ry
    cases x with
    | non => cases rx; exact SeqAt.EqAt.str_none a t'
    | bl b => cases rx; exact SeqAt.EqAt.str_bool a t' b
    | int b => obtain ⟨t, rfl⟩ := rx; exact SeqAt.EqAt.str_int a t' b t
    | str b => obtain ⟨t, rfl⟩ := rx; exact SeqAt.EqAt.str_str a t' b t
    | _ => exact absurd (show false = true from fx) Bool.false_ne_true
  | _ => exact absurd (show false = true from fy) Bool.false_ne_true
/-- the items' answers, read off the values (a value's own answer does not lean on its token) -/
def eqU (x : V) (u : Value) : Bool := match u with
  | .none => eqV .non x
  | .bool b => eqV (.bl b) x
  | .int i _ => eqV (.int i) x
  | .str z _ => eqV (.str z) x
  | _ => false
theorem eqU_of {x y : V} {u : Value} (r : RelV y u) (f : flatV y = true) : eqU x u = eqV y x := by
  cases y with
  | non => cases r; rfl
  | bl b => cases r; rfl
  | int i => obtain ⟨t, rfl⟩ := r; rfl
  | str z => obtain ⟨t, rfl⟩ := r; rfl
  | _ => exact absurd (show false = true from f) Bool.false_ne_true
theorem any_eqU {x : V} : ∀ {xs : List V} {us : List Value}, Vals xs us → xs.all flatV = true → us.any (eqU x) = xs.any fun y => eqV y x
  | _, _, .nil, _ => rfl
  | y :: xs, u :: us, .cons r t, f => by
    rw [List.all_cons, Bool.and_eq_true] at f
    rw [List.any_cons, List.any_cons, eqU_of r f.1, any_eqU t f.2]
theorem mem_eqAt {A : Around} {s : Shared} {x : V} {v : Value} (rx : RelV x v) (fx : flatV x = true) : ∀ {xs : List V} {us : List Value}, Vals xs us → xs.all flatV = true → ∀ u ∈ us, SeqAt.EqAt A s u v (eqU x u)
  | _, _, .nil, _ => fun u hu => by cases hu
  | y :: xs, u :: us, .cons r t, f => fun u' hu => by
    rw [List.all_cons, Bool.and_eq_true] at f
    rcases List.mem_cons.mp hu with rfl | hu
    · rw [eqU_of r f.1]; exact eqAt_V r rx f.1 fx
    · exact mem_eqAt rx fx t f.2 u' hu
def inV (x : V) (xs : List V) : Bool := xs.any fun y => eqV y x
/-- x in a list or tuple of flat items -/
def rIn (K : PySem.W.Frag) (neg : Bool) : R2 := fun x y H Q => ∃ p xs, y = .ref p ∧ (SqL K H p xs ∨ SqT K H p xs) ∧ flatV x = true ∧ xs.all flatV = true ∧ Q (.bl (if neg then !inV x xs else inV x xs)) H
theorem op_in_seq : OpR X (compareOp .In) (rIn X.K false) := by
  intro pins s σ H x y v u Q I rx ry h
  obtain ⟨p, xs, rfl, hq, fx, fs, q⟩ := h
  cases ry
  rcases hq with hq | hq
  · obtain ⟨its, r, pl, hz⟩ := I.list hq
    refine SeqAt.in_listAt (eqU x) pl.isList (fun w hw => mem_eqAt rx fx r fs w (by simpa using hw)) ⟨.bl _, H, I, rfl, ?_⟩
    rw [show its.toArray.any (eqU x) = its.any (eqU x) by simp, any_eqU r fs]
    exact q
  · obtain ⟨its, r, pl, hz⟩ := I.tuple hq
    refine SeqAt.in_tupleAt (eqU x) pl (fun w hw => mem_eqAt rx fx r fs w (by simpa using hw)) ⟨.bl _, H, I, rfl, ?_⟩
    rw [show its.toArray.any (eqU x) = its.any (eqU x) by simp, any_eqU r fs]
    exact q
theorem op_notIn_seq : OpR X (compareOp .NotIn) (rIn X.K true) := by
  intro pins s σ H x y v u Q I rx ry h
  obtain ⟨p, xs, rfl, hq, fx, fs, q⟩ := h
  cases ry
  rcases hq with hq | hq
  · obtain ⟨its, r, pl, hz⟩ := I.list hq
    refine SeqAt.notIn_listAt (eqU x) pl.isList (fun w hw => mem_eqAt rx fx r fs w (by simpa using hw)) ⟨.bl _, H, I, rfl, ?_⟩
    rw [show its.toArray.any (eqU x) = its.any (eqU x) by simp, any_eqU r fs]
    exact q
  · obtain ⟨its, r, pl, hz⟩ := I.tuple hq
    refine SeqAt.notIn_tupleAt (eqU x) pl (fun w hw => mem_eqAt rx fx r fs w (by simpa using hw)) ⟨.bl _, H, I, rfl, ?_⟩
    rw [show its.toArray.any (eqU x) = its.any (eqU x) by simp, any_eqU r fs]
    exact q
/-! ### len, list(x), tuple(x) of any list or tuple that is read -/
theorem call_len_seq : CallR X (.builtin "len") (fun xs H Q => ∃ p ys, xs = [.ref p] ∧ (SqL X.K H p ys ∨ SqT X.K H p ys) ∧ Q (.int ys.length) H) := by
  intro pins s σ H xs us Q I r h
  obtain ⟨p, ys, rfl, hq, q⟩ := h
  obtain ⟨u, rfl, rx⟩ := vals1 r
  cases rx
  have hn := line63
  rcases hq with hq | hq
  · obtain ⟨its, r', pl, hz⟩ := I.list hq
    have hlen := r'.length
    exact Calls.call_len_list pl.isList (by simp only [List.size_toArray] <;> omega) ⟨.int ys.length, H, I.tok _, ⟨s.toks + 1, by rw [List.size_toArray, hlen]⟩, q⟩
  · obtain ⟨its, r', pl, hz⟩ := I.tuple hq
    have hlen := r'.length
    exact len_tuple pl (by simp only [List.size_toArray] <;> omega) ⟨.int ys.length, H, I.tok _, ⟨s.toks + 1, by rw [List.size_toArray, hlen]⟩, q⟩
theorem CallR.or {f : Value} {r r' : List V → Hp → VK → Prop} (h : CallR X f r) (h' : CallR X f r') : CallR X f (fun xs H Q => r xs H Q ∨ r' xs H Q) := by
  intro pins s σ H xs us Q I rs q
  rcases q with q | q
  · exact h pins s σ H xs us Q I rs q
  · exact h' pins s σ H xs us Q I rs q
theorem call_tuple_of : CallR X (.type "tuple") (fun xs H Q => ∃ p ys, xs = [.ref p] ∧ ((SqL X.K H p ys ∧ ∀ l, H l = none → Q (.ref l) (upd H l (.tup ys))) ∨ (SqT X.K H p ys ∧ Q (.ref p) H))) := by
  intro pins s σ H xs us Q I r h
  obtain ⟨p, ys, rfl, h⟩ := h
  obtain ⟨u, rfl, rx⟩ := vals1 r
  cases rx
  rcases h with ⟨hq, q⟩ | ⟨hq, q⟩
  · obtain ⟨its, r', pl, hz⟩ := I.list hq
    have hlen := r'.length
    refine call_tuple_list pl.isList (fun h' kp => ?_) (by simp only [List.size_toArray] <;> omega)
    have I1 : Inv X pins σ H { s with heap := h' } := I.kept (t' := s.toks) kp
    have I2 : Inv X pins σ (upd H h'.objs.size (.tup ys)) { s with heap := h'.push { cls := .type "tuple", data := .seq its.toArray } } :=
      I1.laid (t' := s.toks) (fun b o e => Heap.get?_push_of_some _ e) (Nat.le_refl _) (show ObjOk X.prog X.w _ _ _ (.tup ys) from ⟨hz, its, r', IsTupP.new _ _⟩)
    exact ⟨.ref h'.objs.size, _, I2, rfl, q _ (I1.hok.fresh (Nat.le_refl _))⟩
  · obtain ⟨its, r', pl, hz⟩ := I.tuple hq
    exact call_tuple_same pl ⟨.ref p, H, I, rfl, q⟩

/-! ### the call of a builtin's method: o.m(..) -/
variable {o e : Expr} {es : List Expr} {to : TE} {t : TA} {name : Str} {apos cpos : Pos} {T id : String} {r : V → List V → Hp → VK → Prop}
end
end L2

namespace L2
open PySem PySem.Spec PyProof.Rows

/-! ### lists of values -/
theorem Vals.one : ∀ {x : V} {us : List Value}, Vals [x] us → ∃ u, us = [u] ∧ RelV x u
  | _, _, .cons r .nil => ⟨_, rfl, r⟩
theorem Vals.two : ∀ {x y : V} {us : List Value}, Vals [x, y] us → ∃ u v, us = [u, v] ∧ RelV x u ∧ RelV y v
  | _, _, _, .cons r (.cons q .nil) => ⟨_, _, rfl, r, q⟩
theorem Vals.zero : ∀ {us : List Value}, Vals [] us → us = []
  | _, .nil => rfl
theorem Vals.dropLast {xs : List V} {us : List Value} (h : Vals xs us) : Vals xs.dropLast us.dropLast := by
  induction h with
  | nil => exact .nil
  | cons r t ih =>
    cases t with
    | nil => exact .nil
    | cons q t' => exact .cons r ih
theorem Vals.reverse {xs : List V} {us : List Value} (h : Vals xs us) : Vals xs.reverse us.reverse := by
  induction h with
  | nil => exact .nil
  | cons r t ih => rw [List.reverse_cons, List.reverse_cons]; exact Vals.append ih (.cons r .nil)
section
variable {X : Cx} {pins : List (Addr × Obj)} {σ : St} {H : Hp} {s : Shared} {l b : Addr} {xs ys zs : List V}

/-! ### the two steps: a tracked list is rewritten, a new list is laid -/
theorem Inv.fresh (I : Inv X pins σ H s) : H s.heap.objs.size = none := I.hok.fresh (Nat.le_refl _)
end

section
variable {X : Cx}

/-! ### methods -/
/-! ### list + list, list += list, list * int -/
/-! ### del xs[i] -/
end

/-! ### xs[a:b] = ys -/
section
variable {prog : Program} {w : World} {A : Around} {E : Value → Shared → Prop} {s : Shared}
set_option maxRecDepth 100000 in
end

section
variable {X : Cx}
end
end L2

namespace Att
open PySem PySem.W PySem.Calls PyProof.Rows

/-! ### the script -/
theorem ints_of_wellAll {P : Params} {h : Heap} : ∀ (ns : List Int) (vs : List Value), WellAll P h vs (ns.map WData.int) → IntsAre vs ns := by
  intro ns
  induction ns with
  | nil =>
    intro vs w
    rw [List.map_nil] at w
    cases w
    exact .nil
  | cons n ns ih =>
    intro vs w
    rw [List.map_cons] at w
    cases w with
    | cons a b =>
      cases a
      exact .cons _ _ (ih _ b)

theorem script_of {l : OpenLaw} {n : Nat} (hn : l.most = some n) {P : Params} {h : Heap} {args : List WData} {vals : List Value}
    (hpre : l.row.toRowW.claim.pre args = true) (hwl : WellAll P h vals args) :
    ∃ a vs ns, vals = [Value.ref a] ∧ args = [WData.list (ns.map WData.int)] ∧ h.get? a = some { cls := .type "list", data := .seq vs.toArray } ∧ IntsAre vs ns ∧ ns.length ≤ n := by
  have hsh : WShape.hasAll [] args [.list .int] = true := (pre_splitW hpre).1
  have hc : l.pre.holds [] { args := args } = true := (pre_splitW hpre).2
  obtain ⟨d, r, rfl, h1, h2⟩ := hasAllW_cons hsh
  obtain rfl := hasAllW_nil h2
  obtain ⟨xs, rfl, h3⟩ := hasW_list h1
  obtain ⟨ns, rfl⟩ := items_int h3
  have hlen : ns.length ≤ n := by
    unfold OpenLaw.pre at hc
    have h4 : (WTm.not (.lt (.lit (.int (n : Int))) (.len (.arg 0)))).holds [] { args := [.list (ns.map .int)] } = true := by
      have h4 := (holds_andW hc).1
      rw [hn] at h4
      exact h4
    have h5 := condW_of h4 (w_not (w_lt w_lit (w_len_list (w_arg rfl))))
    rw [List.length_map] at h5
    refine Nat.le_of_not_lt fun q => ?_
    have q' : (n : Int) < ((ns.length : Nat) : Int) := by omega
    first
      | (rw [decide_eq_true q'] at h5; exact absurd h5 (by decide))
      | (simp at h5; omega)
  cases hwl with
  | cons w1 w2 =>
    cases w2
    cases w1 with
    | list ho hall => exact ⟨_, _, ns, rfl, rfl, ho, ints_of_wellAll ns _ hall, hlen⟩

theorem post_true (l : OpenLaw) (args : List WData) : l.row.toRowW.claim.post args (.bool true) args = true :=
  postW_of (r := l.row.toRowW) (X := (true == true))
    (show WShape.has [] (.bool true) .bool = true by first | rfl | decide | simp [WShape.has, WShape.arms, WShape.armsAll])
    (show (WTm.eq .res (.lit (.bool true))).value [] { args := args, res := some (.bool true), after := args } = some (.bool (true == true)) from w_eq_bool (w_res rfl) w_lit) rfl

/-! ### the attachment: holds_open's last premise (the goal 'hc' behind k_head) from a wpAny of the law's body -/
/-- the same from a codeAny of the CALL (for a layer whose function contracts speak of calls) -/
theorem attach_call {l : OpenLaw} {n : Nat} {q : Program} {loose : List Str} {XP : (Str → Option Value) → Heap → Prop} {YP : World → Heap → Prop} {d : DefRec}
    (hn : l.most = some n) (hdf : d.params.defaults = [])
    (call : ∀ (w : World) (s₀ s₁ : Shared) (mg mb : Str → Option Value) (fa : Addr) (o : Obj) (pm cd doc : Value) (a : Addr) (vs : List Value) (ns : List Int),
      Ground q loose [] XP w s₀ mg mb s₁.heap → YP w s₁.heap →
      s₁.heap.get? fa = some o → o.data = .func (docDef d.name d.params d.body d.scope pm cd doc) → s₁.heap.CodeRec cd d.name → mg d.name = some (.ref fa) →
      s₁.heap.get? a = some { cls := .type "list", data := .seq vs.toArray } → IntsAre vs ns → ns.length ≤ n → s₁.gens = #[] →
      codeAny (model l.prog w) callerA (.call (.ref fa) ⟨[.ref a], []⟩) (fun r s' => r = .ok (.ret (.bool true)) ∧ OldK s₁.heap s'.heap ∧ s'.os = s₁.os ∧ AllBare s'.gens) s₁) :
    WalkO q loose XP YP l.row.toRowW d [] (fun f vs => PySem.call f vs) := by
  intro w s₀ s₁ mg mb G Y fa o pm cd doc dV kV ho hd hcd hD hmg hg args vals as hpre hlay hrd hwl hlo
  obtain rfl : dV = .none := Dflts.none hD hdf
  obtain rfl : kV = .none := Dflts.noKw hD
  obtain ⟨a, vs, ns, rfl, rfl, hobj, hints, hlen⟩ := script_of hn hpre hwl
  refine enter_call (codeAny_mono (call w s₀ s₁ mg mb fa o pm cd doc a vs ns G Y ho (fd_plain hd) hcd hmg hobj hints hlen hg) fun r s' hq => ?_)
  obtain ⟨rfl, h2, h3, h4⟩ := hq
  exact ⟨.inl ⟨.bool true, .bool true, [], rfl, fun _ => rfl, .bool true, post_true l _, fun _ => ⟨List.Pairwise.nil, fun _ hm => (nomatch hm)⟩⟩, h2, h3, h4⟩

/-! ### rules over ANY heap (no ledger) from facts about the written part K: the library's own take a ledger (News) for what they write -/
section
variable {prog : Program} {w : World} {A : Around} {E : Value → Shared → Prop} {s : Shared} {K : Frag}

/-! the whole heap as the ledger: makes every rule that writes through a ledger a rule over any heap -/
def ledger (h : Heap) (L d : Addr) : List (Addr × Obj) := (List.range h.objs.size).filterMap fun a => if a = L ∨ a = d then none else (h.get? a).map fun o => (a, o)
end
end Att

namespace L2
open PySem PySem.Spec PyProof.Rows

theorem vals_ints : ∀ {vs : List Value} {ns : List Int}, IntsAre vs ns → Vals (ns.map V.int) vs
  | _, _, .nil => .nil
  | _, _, .cons n t h => .cons ⟨t, rfl⟩ (vals_ints h)

/-- nothing is tracked but the script, known to the object (or it is an object of the module) -/
def Only (H : Hp) : Prop := ∀ b, H b = none ∨ ∃ o xs, H b = some (.frz o (.lst xs))

/-- THE HEAD: the law's promise, at the heap behind the top. F, the promise of the law's def, may use that base is part of the heap (so K.In base, base.Ns mainGlobals mg stand in Mod) -/
theorem law_call {P : Program} {w : World} {K : PySem.W.Frag} {mg mb : Str → Option Value} {CX : CXT} {k : Nat} {fa a : Addr} {fd : FuncData} {x : Str} {sp : Sp} {s₁ : Shared} {vs : List Value} {ns : List Int}
    (KX : K.In s₁.heap) (hns : s₁.heap.Ns mainGlobals mg) (hb : s₁.heap.Ns builtinsNs mb) (hbb : ∀ x : Str, x ≠ "__name__" → mb x = bootBuiltins x) (hlim : s₁.heap.NoLimit) (hg : s₁.gens = #[])
    (ha : s₁.heap.get? a = some { cls := .type "list", data := .seq vs.toArray }) (hi : IntsAre vs ns) (hl : ns.length ≤ sizeLine) (hr : Room k callerA)
    (F : ∀ base : Heap, K.In base → base.Ns mainGlobals mg → FnOk P w K mg base CX k fa fd [x] sp) (hbind : ∀ (s : Shared) (u : Value), BindsTo s fd ⟨[u], []⟩ [(x, u)])
    (hsp : ∀ H : Hp, Only H → SqL K H a (ns.map V.int) → sp [.ref a] H (fun v _ => v = .bl true) fun _ _ _ => False)
    (hCX : ∀ H e s', CX [] H s₁ (fun _ _ _ => False) e s' → False) :
    codeAny (model P w) callerA (.call (.ref fa) ⟨[.ref a], []⟩) (fun r s' => r = .ok (.ret (.bool true)) ∧ OldK s₁.heap s'.heap ∧ s'.os = s₁.os ∧ AllBare s'.gens) s₁ := by
  have rv := vals_ints hi
  have lenV := hi.length
  -- from an abstract heap in which nothing but the script may be tracked
  have core : ∀ H : Hp, Only H → SqL K H a (ns.map V.int) → HOk P w H s₁.heap → (∀ b, H b ≠ none → b = a) → (H a ≠ none → K.lookup a = none) →
      codeAny (model P w) callerA (.call (.ref fa) ⟨[.ref a], []⟩) (fun r s' => r = .ok (.ret (.bool true)) ∧ OldK s₁.heap s'.heap ∧ s'.os = s₁.os ∧ AllBare s'.gens) s₁ := by
    intro H hO hS hok hA hK
    have base_of : ∀ {b : Addr} {o : Obj}, s₁.heap.get? b = some o → H b = none → (hidT s₁.heap H).get? b = some o := fun e n => hidT_get e n
    have noA : ∀ {b : Addr} {o : Obj} {es : Array DictEntry} {ep : Nat}, s₁.heap.get? b = some o → o.data = .dict es ep → H b = none := fun {b o es ep} e d => by
      cases q : H b with
      | none => rfl
      | some u =>
        have e' : b = a := hA b (by rw [q]; simp)
        subst e'
        rw [ha] at e; cases e
        have d' : Data.seq vs.toArray _ = Data.dict es ep := d
        cases d'
    have nsK : ∀ {b : Addr} {m : Str → Option Value}, s₁.heap.Ns b m → (hidT s₁.heap H).Ns b m := fun {b m} ⟨o, es, ep, e, d, r⟩ => ⟨o, es, ep, base_of e (noA e d), d, r⟩
    have hKb : K.In (hidT s₁.heap H) := fun b o e => base_of (KX b o e) (by
      cases q : H b with
      | none => rfl
      | some u =>
        have e' : b = a := hA b (by rw [q]; simp)
        subst e'
        rw [hK (by rw [q]; simp)] at e; cases e)
    have hM : Mod K mg (hidT s₁.heap H) := ⟨hKb, nsK hns, ⟨mb, nsK hb, hbb⟩, let ⟨mc, h1, h2⟩ := hlim; ⟨mc, nsK h1, h2⟩⟩
    have e0 : Env0 P w K mg (hidT s₁.heap H) callerA [] s₁ H := ⟨rfl, hM, fun b o e => of_hidT e, Nat.le_of_eq (hidT_size _ _), trivial, fun b hb => absurd (show b ∈ ([] : List Addr) from hb) (by simp), hok, .of_eq hg⟩
    refine codeAny_mono ((F _ hKb (nsK hns)).run callerA [] s₁ H ⟨[.ref a], []⟩ [.ref a] [.ref a] _ _ hr e0 (hbind s₁ (.ref a)) (.cons rfl .nil) (hsp H hO hS)) fun r s' h => ?_
    cases r with
    | error e => exact (hCX H e s' h).elim
    | ok fl =>
      cases fl with
      | next => exact False.elim h
      | brk => exact False.elim h
      | cont => exact False.elim h
      | ret u =>
        obtain ⟨v, H', os, bare, un, hok', r', q⟩ := h
        have q' : v = .bl true := q
        subst q'
        obtain rfl : u = Value.bool true := r'
        refine ⟨rfl, OldK.of_keep fun b o e => ?_, os, bare⟩
        cases q : H b with
        | none => exact un.keep b o e q (by intro z; exact absurd (show b ∈ ([] : List Addr) from z) (by simp)) (by simp)
        | some u =>
          rcases hO b with z | ⟨ob, xs, z⟩
          · rw [q] at z; cases z
          · have z2 := un.frzs b ob _ z
            obtain ⟨e1, _⟩ := hok b _ z
            obtain ⟨e2, _⟩ := hok' b _ z2
            rw [e] at e1; cases e1
            exact e2
  cases hk : K.lookup a with
  | some o =>
    -- the script is one of the module's own objects
    have e := KX a o hk
    rw [ha] at e
    cases e
    refine core (fun _ => none) (fun _ => .inl rfl) (.inr ⟨_, vs.toArray, _, hk, rfl, rfl, rfl, by rw [List.size_toArray, lenV]; exact hl, by simpa using rv⟩) (fun b u z => by have z' : (none : Option HO) = some u := z; cases z') (fun b z => absurd rfl z) fun z => absurd rfl z
  | none =>
    refine core (fun b => if b = a then some (.frz { cls := .type "list", data := .seq vs.toArray } (.lst (ns.map V.int))) else none) (fun b => ?_) (.inl (.inr ⟨{ cls := .type "list", data := .seq vs.toArray }, if_pos rfl⟩)) (fun b u z => ?_) (fun b z => ?_) fun _ => hk
    · by_cases hb : b = a
      · exact .inr ⟨_, _, if_pos hb⟩
      · exact .inl (if_neg hb)
    · by_cases hb : b = a
      · have z' := (if_pos hb).symm.trans z
        cases z'
        subst hb
        exact ⟨ha, by rw [List.length_map]; exact hl, vs, _, rv, ha⟩
      · have z' := (if_neg hb).symm.trans z
        cases z'
    · by_cases hb : b = a
      · exact hb
      · exact absurd (if_neg hb) z
end L2

namespace L2
open PySem PySem.Spec PyProof.Rows

abbrev KOf {K : PySem.W.Frag} {h : Heap} (_ : K.In h) : PySem.W.Frag := K

/-- the goal that k_head leaves (case hc), from the law's promise. F gives the function object fd (K's own) once, then the promise over every base -/
theorem walk_of {l : PySem.W.OpenLaw} {n k : Nat} {q : Program} {loose : List Str} {XP : (Str → Option Value) → Heap → Prop} {YP : World → Heap → Prop} {d : DefRec} {K : Params → PySem.W.Frag} {CX : World → CXT} {sp : World → Sp} {x : Str}
    (hn : l.most = some n) (hn2 : n ≤ sizeLine) (hdf : d.params.defaults = []) (hr : Room k callerA)
    (hY : ∀ (w : World) (h : Heap), YP w h → (K w.params).In h)
    (F : ∀ (w : World) (mg : Str → Option Value) (fa : Addr) (h : Heap), (K w.params).In h → h.Ns mainGlobals mg → mg d.name = some (.ref fa) →
      ∃ fd : FuncData, (∀ (s : Shared) (u : Value), BindsTo s fd ⟨[u], []⟩ [(x, u)]) ∧
        ∀ base : Heap, (K w.params).In base → base.Ns mainGlobals mg → FnOk l.prog w (K w.params) mg base (CX w) k fa fd [x] (sp w))
    (hsp : ∀ (w : World) (H : Hp) (a : Addr) (ns : List Int), ns.length ≤ n → Only H → SqL (K w.params) H a (ns.map V.int) → sp w [.ref a] H (fun v _ => v = .bl true) fun _ _ _ => False)
    (hCX : ∀ (w : World) (H : Hp) (s : Shared) (e : Value) (s' : Shared), CX w [] H s (fun _ _ _ => False) e s' → False) :
    PySem.W.WalkO q loose XP YP l.row.toRowW d [] (fun f vs => PySem.call f vs) := by
  refine Att.attach_call hn hdf fun w s₀ s₁ mg mb fa o pm cd doc a vs ns G Y ho hd hcd hmg hobj hints hlen hg => ?_
  have KX := hY w _ Y
  obtain ⟨fd, hb, hF⟩ := F w mg fa _ KX G.T.g hmg
  exact law_call KX G.T.g G.T.b G.T.builtins G.T.nolimit hg hobj hints (Nat.le_trans hlen hn2) hr hF hb (fun H hO hS => hsp w H a ns hlen hO hS) fun H e s' => hCX w H s₁ e s'
end L2


/-! SHORT WORDS over the layer: a def of the text, its body, what a loop and a test want. -/
namespace L2
open PySem PySem.Spec PyProof.Rows

/-! ### the text by places -/
def defArgs (s : Stmt) : Arguments := match s with
  | .FunctionDef _ a _ _ _ _ _ _ _ _ => a
  | _ => { posonlyargs := [], args := [], vararg := none, kwonlyargs := [], kw_defaults := [], kwarg := none, defaults := [] }
def defBody (s : Stmt) : List Stmt := match s with
  | .FunctionDef _ _ b _ _ _ _ _ _ _ => b
  | _ => []
def defScope (s : Stmt) : Scope := match s with
  | .FunctionDef _ _ _ _ _ _ sc _ _ _ => sc
  | _ => { kind := .function, names := [], isGenerator := false, isCoroutine := false }

/-! ### no exception leaves a def -/
abbrev CX0 : CXT := fun _ _ _ _ _ _ => False
abbrev E0 : XK := fun _ _ _ => False
/-! ### a def (or method) of the text as it stands behind the top -/
structure Fun (K : PySem.W.Frag) (x qual : Str) (st : Stmt) (f : Addr) (fd : FuncData) : Prop where
  ex : ∃ (oc : Value) (od : Option Addr) (kV doc pm : Value) (an : Option Addr) (cdv ct : Value) (osl : Array (Option Value)),
    fd = PySem.W.fnOf x qual (defArgs st) (defBody st) (defScope st) .none kV doc pm an cdv ct ∧ K.lookup f = some ⟨oc, od, .func fd, osl⟩ ∧ PySem.W.codeIn K cdv qual = true
  kp : PySem.W.keepIn K (.ref f) = true
section
variable {P : Program} {w : World} {K : PySem.W.Frag} {mg : Str → Option Value} {base : Heap}
/-- THE RULE for a def: its body as a term of rules, and the reading of that term -/
theorem Fun.ok {x qual : Str} {st : Stmt} {f : Addr} {fd : FuncData} {N ps : List Str} {k : Nat} {sp : Sp} (F : Fun K x qual st f fd) (S : FnScope N ps (defScope st)) (len : ∀ vs H Q E, sp vs H Q E → vs.length = ps.length)
    (hbody : ∀ (cdv : Value) (A : Around) (outer : List Env) (s : Shared) (H : Hp) (vs : List V) (Q : VK) (E : XK), Room k (A.deeper (envOfC qual (defScope st) s.heap.objs.size f cdv)) → sp vs H Q E →
      ∃ t, PSs (cxOf CX0 P w K mg base N qual (defScope st) f cdv A outer s H E).nox (defBody st) t ∧ t { nx := fun _ H' => Q .non H', rt := Q } (start N vs) H) : FnOk P w K mg base CX0 (k + 1) f fd ps sp := by
  obtain ⟨oc, od, kV, doc, pm, an, cdv, ct, osl, rfl, lk, hcd⟩ := F.ex
  refine fn_of lk hcd S len fun A outer s H vs Q E hr hsp => ?_
  obtain ⟨t, h, q⟩ := hbody cdv A outer s H vs Q E hr hsp
  exact ⟨t, h.nox, q⟩
/-- how its arguments bind (no defaults): h is «fun _ _ _ _ _ _ us hl => match us, hl with | [_, _], _ => rfl», one _ a parameter -/
theorem Fun.binds {x qual : Str} {st : Stmt} {f : Addr} {fd : FuncData} {ps : List Str} (F : Fun K x qual st f fd)
    (h : ∀ (kV doc pm : Value) (an : Option Addr) (cdv ct : Value) (us : List Value), us.length = ps.length → bindArgs (PySem.W.fnOf x qual (defArgs st) (defBody st) (defScope st) .none kV doc pm an cdv ct) ⟨us, []⟩ = pure (ps.zip us)) : Binds K fd ps [] := by
  obtain ⟨oc, od, kV, doc, pm, an, cdv, ct, osl, rfl, lk, hcd⟩ := F.ex
  exact .all (h kV doc pm an cdv ct)
theorem fun_mk {x qual : Str} {st : Stmt} {f : Addr} {oc : Value} {od an : Option Addr} {osl : Array (Option Value)} {kV doc pm cdv ct : Value} (l : K.lookup f = some ⟨oc, od, .func (PySem.W.fnOf x qual (defArgs st) (defBody st) (defScope st) .none kV doc pm an cdv ct), osl⟩)
    (c : PySem.W.codeIn K cdv qual = true) (k : PySem.W.keepIn K (.ref f) = true) : Fun K x qual st f (PySem.W.fnOf x qual (defArgs st) (defBody st) (defScope st) .none kV doc pm an cdv ct) := ⟨⟨oc, od, kV, doc, pm, an, cdv, ct, osl, rfl, l, c⟩, k⟩
end
theorem hu_of {A : Around} {k : Nat} (hr : Room k A) : A.units + 1 < cLine := Nat.lt_of_le_of_lt (Nat.add_le_add_left (by decide : 1 ≤ 64) _) hr.units
theorem small1000 {n : Nat} (h : n ≤ 1000) : n < sizeLine := Nat.lt_of_le_of_lt h (by decide)

/-! ### expressions in short: the name that stands in the i-th slot -/
section
variable {X : Cx}
end

/-! ### tests -/
theorem iteF {A B : Prop} (h : B) : if false = true then A else B := by
  rw [if_neg Bool.false_ne_true]
  exact h
theorem iteT {A B : Prop} (h : A) : if true = true then A else B := by
  rw [if_pos rfl]
  exact h
theorem ite2 {c A B : Prop} [Decidable c] (h1 : c → A) (h2 : ¬ c → B) : if c then A else B := by
  by_cases h : c
  · rw [if_pos h]
    exact h1 h
  · rw [if_neg h]
    exact h2 h
/-! ### heaps -/
/-- all that was tracked is as it was -/
def Same (H H' : Hp) : Prop := ∀ b o, H b = some o → H' b = some o
theorem Same.refl (H : Hp) : Same H H := fun _ _ h => h
theorem Same.trans {H H1 H2 : Hp} (a : Same H H1) (b : Same H1 H2) : Same H H2 := fun c o h => b c o (a c o h)
theorem Same.free {H H' : Hp} (e : Same H H') {l : Addr} (h : H' l = Option.none) : H l = Option.none := by
  cases q : H l with
  | none => rfl
  | some o =>
    rw [e l o q] at h
    cases h
theorem Same.seq {K : PySem.W.Frag} {H H' : Hp} {a : Addr} {xs : List V} (e : Same H H') (h : SqL K H a xs) : SqL K H' a xs := by
  rcases h with (h | ⟨o, h⟩) | h
  · exact .inl (.inl (e _ _ h))
  · exact .inl (.inr ⟨o, e _ _ h⟩)
  · exact .inr h

end L2

-- CHANGE: your row's module here, as the last of these rows
set_option Elab.async false
set_option linter.all false
set_option maxRecDepth 100000
/-! THE HAND LAYER, for ints, bools, texts, own classes, DICTS (int and text keys), calls, loops. Paste it whole ahead of your own text; what your proof does not reach may be deleted. -/
namespace L2
open PySem PySem.Spec PyProof.Rows

end L2

namespace L2
open PySem PySem.Spec PyProof.Rows

section
variable (P : Program) (w : World)
end

section
variable {P : Program} {w : World} {H H' : Hp} {h h' : Heap} {a : Addr} {o : HO}
end

section
variable {P : Program} {w : World} {H : Hp} {h h' : Heap} {x e : Addr} {o' : HO}
end

/-! ### kept unless tracked; of the frames at fs (the callers') the slots may change (an exception that passes writes there); of the records at ex (iterators) nothing is said -/
section
variable {fs fs' ex ex' : List Addr} {H H1 H2 : Hp} {h h1 h2 h' : Heap} {a x e : Addr} {o : HO}
end

/-! ### the heap without what is tracked -/
/-! ### OpenK's ledger, filled with every new object but one -/
end L2

namespace L2
open PySem PySem.Spec PyProof.Rows

section
variable {X : Cx} {pins : List (Addr × Obj)} {σ : List (Option V)} {H H' : Hp} {s : Shared} {h' : Heap}

end

/-! ### the judgements -/
end L2

namespace L2
open PySem PySem.Spec PyProof.Rows
section
variable {X : Cx}

/-! ### names and constants -/
/-! ### arithmetic -/
variable {a b : Expr} {ta tb : TE} {pos : Pos}
/-! ### comparisons -/
/-! ### and, or, not -/
variable {tA tB' : TT} {rest : List Expr}
end
end L2

namespace L2
open PySem PySem.Spec PyProof.Rows

/-! ### a list, a tuple that is read: tracked, frozen, or an object of the module -/
section
variable {X : Cx} {pins : List (Addr × Obj)} {σ : St} {H : Hp} {s : Shared} {a : Addr} {xs ys : List V}
end

/-! ### another wish about exceptions -/
section
variable {X : Cx} {pins : List (Addr × Obj)} {σ : St} {H : Hp} {s : Shared} {E : Value → Shared → Prop}
end

/-! ### blocks and small statements -/
section
variable {X : Cx} {st : Stmt} {rest : List Stmt} {t u : TS} {e : Expr} {te : TE} {pos : Pos}
end

/-! ### targets -/
section
variable {X : Cx} {pos : Pos}
end

/-! ### while -/
section
variable {X : Cx} {pos : Pos}
end

/-! ### what a loop or a comprehension walks -/
end L2

namespace L2
open PySem PySem.Spec PyProof.Rows
section
variable {X : Cx} {tg : Expr}
/-! ### for -/
end

/-! ### the forms one uses -/
end L2

namespace L2
open PySem PySem.Spec PyProof.Rows

section
variable {X : Cx} {a b c : Expr} {ta tb tc : TE} {pos : Pos}

/-! ### ints -/
/-! ### bools among ints: n += (a < b) -/
end

/-! ### comparisons -/
section
variable {X : Cx} {a b c : Expr} {ta tb tc : TE} {pos : Pos}
/-! ### truth -/
/-! ### strs and bytes -/
/-! ### scalar builtins, by CallR -/
end
end L2

namespace L2
open PySem PySem.Spec PyProof.Rows

/-! ### an instance, its attributes a map -/
section
variable {prog : Program} {w : World} {A : Around} {E : Value → Shared → Prop} {s : Shared} {K : PySem.W.Frag} {x dx C f : Addr} {mA : Str → Option Value} {name : Str} {v : Value}

end

/-! ### the attributes as a list of pairs -/
section
variable {P : Program} {w : World} {H H' : Hp} {h h' : Heap} {a C dx : Addr} {fs fs' : List (Str × V)}
end

/-! ### what of the text a class must have -/
section
variable {X : Cx} {pins : List (Addr × Obj)} {σ : St} {H : Hp} {s : Shared} {a C dx : Addr} {fs : List (Str × V)} {f : Str} {v : V} {A : Around} {E : Value → Shared → Prop}

end

/-! ### readings and rules -/
section
variable {X : Cx} {o e value : Expr} {f : Str} {pos pos' tpos : Pos} {ta tv : TE}
end

/-! ### isinstance -/
section
variable {X : Cx} {pins : List (Addr × Obj)} {σ : St} {H : Hp} {s : Shared} {A : Around} {E : Value → Shared → Prop} {Q : Value → Shared → Prop} {c : Value} {b : Bool}
end
end L2

namespace L2
open PySem PySem.Spec PyProof.Rows

/-! ### room -/
/-! ### argument lists and displays -/
section
variable {X : Cx} {e : Expr} {es : List Expr} {te : TE} {t : TA} {pos : Pos}
end

/-! ### what a def promises -/
section
variable {X : Cx} {pins : List (Addr × Obj)} {σ : St} {H : Hp} {s s' : Shared}
end

/-! ### calls -/
section
variable {X : Cx} {CX : CXT} {k : Nat} {f C : Addr} {fd : FuncData} {ps : List Str} {sp : Sp} {dvs : List V} {ds : List Value} {E : XK} {x m : Str} {p pos apos : Pos} {e o : Expr} {es : List Expr} {ta : TE} {t : TA}

end

/-! ### keywords -/
section
variable {X : Cx} {CX : CXT} {k : Nat} {f C : Addr} {fd : FuncData} {ps ks : List Str} {sp : Sp} {E : XK} {x m : Str} {p pos apos kpos : Pos} {e o : Expr} {es : List Expr} {kws : List Keyword} {te ta : TE} {t tk : TA} {nm : Option Str}
variable {g : List Value → List Value → List Value} {gV : List V → List V → List V}
end

/-! ### a def's body keeps its promise -/
end L2

namespace L2
open PySem PySem.Spec PyProof.Rows
section
variable {X : Cx} {x : Str} {p pos : Pos} {e : Expr} {es : List Expr} {t : TA} {id T : String} {r : List V → Hp → VK → Prop}

end
end L2

namespace L2
open PySem PySem.Spec PyProof.Rows

/-! ### lists of pairs as tables -/
section
variable {κ : Type} [DecidableEq κ]
def valV (kvs : List (κ × V)) (k : κ) : Option V := (kvs.find? fun kv => decide (kv.1 = k)).map (·.2)
/-- in its place, or at the end -/
def putK (kvs : List (κ × V)) (k : κ) (v : V) : List (κ × V) :=
  if (kvs.any fun kv => decide (kv.1 = k)) = true then kvs.map (fun kv => if kv.1 = k then (kv.1, v) else kv) else kvs ++ [(k, v)]
def dropK (kvs : List (κ × V)) (k : κ) : List (κ × V) := kvs.filter fun kv => decide (kv.1 ≠ k)

theorem valV_pos {p : κ × V} {r : List (κ × V)} {k : κ} (e : p.1 = k) : valV (p :: r) k = some p.2 := by simp [valV, List.find?_cons, e]
theorem valV_neg {p : κ × V} {r : List (κ × V)} {k : κ} (e : ¬ p.1 = k) : valV (p :: r) k = valV r k := by simp [valV, List.find?_cons, e]
theorem valV_any (k : κ) : ∀ kvs : List (κ × V), (kvs.any fun kv => decide (kv.1 = k)) = (valV kvs k).isSome
  | [] => rfl
  | p :: r => by
    rw [List.any_cons]
    by_cases e : p.1 = k
    · simp only [valV_pos e, decide_eq_true e, Bool.true_or, Option.isSome_some]
    · rw [valV_neg e, decide_eq_false e, Bool.false_or]; exact valV_any k r
theorem RelO.isSome_eq {o : Option V} {u : Option Value} (r : RelO o u) : o.isSome = u.isSome := by
  cases o with
  | none => cases u with
    | none => rfl
    | some _ => exact (show False from r).elim
  | some _ => cases u with
    | none => exact (show False from r).elim
    | some _ => rfl
theorem RelO.getD {o : Option V} {u : Option Value} {d : V} {d' : Value} (r : RelO o u) (rd : RelV d d') : RelV (o.getD d) (u.getD d') := by
  cases o with
  | none => cases u with
    | none => exact rd
    | some _ => exact (show False from r).elim
  | some _ => cases u with
    | none => exact (show False from r).elim
    | some _ => exact r

/-- raw tables of the same keys -/
theorem KV.val {kvs : List (κ × V)} {vs : List (κ × Value)} (r : KV kvs vs) (k : κ) : RelO (valV kvs k) (valueAt vs k) := by
  unfold KV at r
  induction r with
  | nil => exact True.intro
  | @cons p q ps qs h t ih =>
    obtain ⟨h1, h2⟩ := h
    by_cases e : p.1 = k
    · have e' : q.1 = k := h1.symm.trans e
      have b : valueAt (q :: qs) k = some q.2 := by simp [valueAt, List.find?_cons, e']
      rw [valV_pos e, b]; exact h2
    · have e' : ¬ q.1 = k := fun z => e (h1.trans z)
      have b : valueAt (q :: qs) k = valueAt qs k := by simp [valueAt, List.find?_cons, e']
      rw [valV_neg e, b]; exact ih
theorem KV.any {kvs : List (κ × V)} {vs : List (κ × Value)} (r : KV kvs vs) (k : κ) : (kvs.any fun kv => decide (kv.1 = k)) = vs.any fun kv => decide (kv.1 = k) := by
  unfold KV at r
  induction r with
  | nil => rfl
  | cons h t ih => rw [List.any_cons, List.any_cons, ih, h.1]
theorem KV.repl {kvs : List (κ × V)} {vs : List (κ × Value)} (r : KV kvs vs) (k : κ) {y : V} {u : Value} (ry : RelV y u) :
    KV (kvs.map fun kv => if kv.1 = k then (kv.1, y) else kv) (vs.map fun kv => if kv.1 = k then (kv.1, u) else kv) := by
  unfold KV at r ⊢
  induction r with
  | nil => exact .nil
  | @cons p q ps qs h t ih =>
    rw [List.map_cons, List.map_cons]
    refine .cons ?_ ih
    obtain ⟨h1, h2⟩ := h
    by_cases e : p.1 = k
    · rw [if_pos e, if_pos (h1.symm.trans e)]; exact ⟨h1, ry⟩
    · rw [if_neg e, if_neg (fun z => e (h1.trans z))]; exact ⟨h1, h2⟩
theorem KV.put {kvs : List (κ × V)} {vs : List (κ × Value)} (r : KV kvs vs) (k : κ) {y : V} {u : Value} (ry : RelV y u) : KV (putK kvs k y) (stored vs k u) := by
  unfold putK stored
  rw [r.any k]
  by_cases e : (vs.any fun kv => decide (kv.1 = k)) = true
  · rw [if_pos e, if_pos e]; exact r.repl k ry
  · rw [if_neg e, if_neg e]; exact Paired.snoc r ⟨rfl, ry⟩
theorem KV.drop {kvs : List (κ × V)} {vs : List (κ × Value)} (r : KV kvs vs) (k : κ) : KV (dropK kvs k) (without vs k) := by
  unfold KV at r ⊢
  unfold dropK without
  induction r with
  | nil => exact .nil
  | @cons p q ps qs h t ih =>
    obtain ⟨h1, h2⟩ := h
    rw [List.filter_cons, List.filter_cons]
    by_cases e : p.1 = k
    · have a : ¬ decide (p.1 ≠ k) = true := by simp [e]
      have b : ¬ decide (q.1 ≠ k) = true := by simp [h1.symm.trans e]
      rw [if_neg a, if_neg b]; exact ih
    · have e' : ¬ q.1 = k := fun z => e (h1.trans z)
      have a : decide (p.1 ≠ k) = true := by simp [e]
      have b : decide (q.1 ≠ k) = true := by simp [e']
      rw [if_pos a, if_pos b]; exact .cons ⟨h1, h2⟩ ih
theorem KV.keys {kvs : List (κ × V)} {vs : List (κ × Value)} (r : KV kvs vs) : kvs.map (·.1) = vs.map (·.1) := by
  unfold KV at r
  induction r with
  | nil => rfl
  | cons h t ih => rw [List.map_cons, List.map_cons, ih, h.1]
theorem KV.length {kvs : List (κ × V)} {vs : List (κ × Value)} (r : KV kvs vs) : kvs.length = vs.length := Paired.length r
end


/-! ### a tracked dict, its keys ints and texts or tuples of these -/
/-- raw entries of a dict with tuple keys -/
abbrev KT (H : Hp) : List (List Key × V) → List (List Key × Addr × Value) → Prop := Paired fun p q => p.1 = q.1 ∧ H q.2.1 = some (.tup (p.1.map kV)) ∧ RelV p.2 q.2.2
theorem KT.val {H : Hp} {kvs : List (List Key × V)} {xs : List (List Key × Addr × Value)} (r : KT H kvs xs) (k : List Key) : RelO (valV kvs k) ((atKey xs k).map (·.2)) := by
  induction r with
  | nil => exact True.intro
  | @cons p q ps qs h t ih =>
    obtain ⟨h1, _, h2⟩ := h
    by_cases e : p.1 = k
    · have e' : q.1 = k := h1.symm.trans e
      have b : atKey (q :: qs) k = some q.2 := by simp [atKey, List.find?_cons, e']
      rw [valV_pos e, b]; exact h2
    · have e' : ¬ q.1 = k := fun z => e (h1.trans z)
      have b : atKey (q :: qs) k = atKey qs k := by simp [atKey, List.find?_cons, e']
      rw [valV_neg e, b]; exact ih
theorem KT.repl {H : Hp} {kvs : List (List Key × V)} {xs : List (List Key × Addr × Value)} (r : KT H kvs xs) (k : List Key) {y : V} {u : Value} (ry : RelV y u) :
    KT H (kvs.map fun kv => if kv.1 = k then (kv.1, y) else kv) (xs.map (putAt k u)) := by
  induction r with
  | nil => exact .nil
  | @cons p q ps qs h t ih =>
    rw [List.map_cons, List.map_cons]
    refine .cons ?_ ih
    obtain ⟨h1, h2, h3⟩ := h
    unfold putAt
    by_cases e : p.1 = k
    · rw [if_pos e, if_pos (h1.symm.trans e)]; exact ⟨h1, h2, ry⟩
    · rw [if_neg e, if_neg (fun z => e (h1.trans z))]; exact ⟨h1, h2, h3⟩
theorem KT.put {H : Hp} {kvs : List (List Key × V)} {xs : List (List Key × Addr × Value)} (r : KT H kvs xs) (k : List Key) {b : Addr} {y : V} {u : Value} (hb : H b = some (.tup (k.map kV))) (ry : RelV y u) :
    KT H (putK kvs k y) (storedH xs k b u) := by
  have e : (kvs.any fun kv => decide (kv.1 = k)) = (atKey xs k).isSome := by
    rw [valV_any, (r.val k).isSome_eq, Option.isSome_map]
  unfold putK storedH
  rw [e]
  by_cases q : (atKey xs k).isSome = true
  · rw [if_pos q, if_pos q]; exact r.repl k ry
  · rw [if_neg q, if_neg q]; exact Paired.snoc r ⟨rfl, hb, ry⟩
theorem KT.keeps {H H' : Hp} {kvs : List (List Key × V)} {xs : List (List Key × Addr × Value)} (r : KT H kvs xs) (ht : ∀ b ys, H b = some (.tup ys) → H' b = some (.tup ys)) : KT H' kvs xs :=
  Paired.mapP r fun _ _ z => ⟨z.1, ht _ _ z.2.1, z.2.2⟩

section
variable {P : Program} {w : World} {H : Hp} {h : Heap} {a : Addr}
end

/-- what the dict at a holds at the key y -/
def DGet (H : Hp) (a : Addr) (y : V) (r : Option V) : Prop :=
  (∃ kvs k, Rd H a (.dK kvs) ∧ y = kV k ∧ r = valV kvs k) ∨ ∃ kvs k b, Rd H a (.dT kvs) ∧ y = .ref b ∧ H b = some (.tup (k.map kV)) ∧ r = valV kvs k
/-- the heap behind a[y] = v -/
def DPut (H : Hp) (a : Addr) (y v : V) (H' : Hp) : Prop :=
  (∃ kvs k, H a = some (.dK kvs) ∧ y = kV k ∧ kvs.length < sizeLine ∧ H' = upd H a (.dK (putK kvs k v))) ∨
  ∃ kvs k b, H a = some (.dT kvs) ∧ y = .ref b ∧ H b = some (.tup (k.map kV)) ∧ kvs.length < sizeLine ∧ H' = upd H a (.dT (putK kvs k v))
theorem DGet.k {H : Hp} {a : Addr} {kvs : List (Key × V)} {k : Key} (e : H a = some (.dK kvs)) : DGet H a (kV k) (valV kvs k) := .inl ⟨kvs, k, .inl e, rfl, rfl⟩
theorem DGet.t {H : Hp} {a b : Addr} {kvs : List (List Key × V)} {k : List Key} (e : H a = some (.dT kvs)) (eb : H b = some (.tup (k.map kV))) : DGet H a (.ref b) (valV kvs k) := .inr ⟨kvs, k, b, .inl e, rfl, eb, rfl⟩
theorem DPut.k {H : Hp} {a : Addr} {kvs : List (Key × V)} {k : Key} {v : V} (e : H a = some (.dK kvs)) (hl : kvs.length < sizeLine) : DPut H a (kV k) v (upd H a (.dK (putK kvs k v))) := .inl ⟨kvs, k, e, rfl, hl, rfl⟩
theorem DPut.t {H : Hp} {a b : Addr} {kvs : List (List Key × V)} {k : List Key} {v : V} (e : H a = some (.dT kvs)) (eb : H b = some (.tup (k.map kV))) (hl : kvs.length < sizeLine) :
    DPut H a (.ref b) v (upd H a (.dT (putK kvs k v))) := .inr ⟨kvs, k, b, e, rfl, eb, hl, rfl⟩


section
variable {X : Cx} {pins : List (Addr × Obj)} {σ : St} {H : Hp} {s : Shared} {a : Addr} {y v : V} {u r : Value} {o : Option V} {A : Around} {E : Value → Shared → Prop}

theorem Inv.big (I : Inv X pins σ H s) : sysModules < s.heap.objs.size := by
  have h : mainGlobals < s.heap.objs.size := (I.mod.glob.keeps I.bk).lt
  exact Nat.lt_trans (by decide) h

end

section
variable {X : Cx} {pins : List (Addr × Obj)} {σ : St} {H : Hp} {s : Shared} {a : Addr} {kvs : List (Key × V)} {k : Key} {u : Value} {A : Around} {E : Value → Shared → Prop}
end


/-! ### readings and rules -/
section
variable {X : Cx} {o i e value : Expr} {pos pos' tpos : Pos} {td ty tv : TE}
end


/-! ### displays -/
section
variable {X : Cx} {pos : Pos}
end

/-! ### methods -/
section
variable {X : Cx} {pins : List (Addr × Obj)} {σ : St} {H : Hp} {s : Shared} {a : Addr} {y d : V} {u r : Value} {o : Option V} {A : Around} {E : Value → Shared → Prop}
end

section
variable {X : Cx} {o e f : Expr} {apos cpos : Pos} {td ty tx : TE}
end

/-! ### dict(d): a copy -/
section
variable {X : Cx} {pins : List (Addr × Obj)} {σ : St} {H : Hp} {s : Shared} {a : Addr} {kvs : List (Key × V)} {A : Around} {E : Value → Shared → Prop}
end


section
variable {X : Cx} {pins : List (Addr × Obj)} {σ : St} {H : Hp} {s : Shared} {a : Addr} {y : V} {u : Value} {A : Around} {E : Value → Shared → Prop}
end
end L2

namespace Att
open PySem PySem.W PySem.Calls PyProof.Rows

/-! ### the script -/
/-! ### the attachment: holds_open's last premise (the goal 'hc' behind k_head) from a wpAny of the law's body -/
/-! ### rules over ANY heap (no ledger) from facts about the written part K: the library's own take a ledger (News) for what they write -/
section
variable {prog : Program} {w : World} {A : Around} {E : Value → Shared → Prop} {s : Shared} {K : Frag}

/-! the whole heap as the ledger: makes every rule that writes through a ledger a rule over any heap -/
end
end Att

namespace L2
open PySem PySem.Spec PyProof.Rows

end L2

namespace L2
open PySem PySem.Spec PyProof.Rows

end L2


/-! SHORT WORDS over the layer: a def of the text, its body, what a loop and a test want. -/
namespace L2
open PySem PySem.Spec PyProof.Rows

/-! ### the text by places -/
/-! ### no exception leaves a def -/
/-! ### a def (or method) of the text as it stands behind the top -/
section
variable {P : Program} {w : World} {K : PySem.W.Frag} {mg : Str → Option Value} {base : Heap}
end
/-! ### expressions in short: the name that stands in the i-th slot -/
section
variable {X : Cx}
end

/-! ### tests -/
/-! ### heaps -/
/-! ### a dict's pairs: keys that differ -/
section
variable {κ : Type} [DecidableEq κ]
end
end L2

namespace L2
open PySem PySem.Spec PyProof.Rows

/-! ### the closure of a comprehension's block -/
theorem forIn_yield_fold {α β : Type} {l : List α} {f : α → β → Sem (ForInStep β)} (g : α → β → β) (c : β) (h : ∀ x ∈ l, ∀ c, f x c = pure (.yield (g x c))) :
    forIn l c f = (pure (l.foldl (fun c x => g x c) c) : Sem β) := by
  induction l generalizing c with
  | nil => rfl
  | cons x l ih =>
    rw [List.forIn_cons, h x List.mem_cons_self, pure_bind]
    exact ih (g x c) fun y hy => h y (List.mem_cons_of_mem _ hy)
def closeL (env : Env) (names : List (Str × NameKind)) : List (Str × Addr) :=
  names.foldl (fun c x => if x.2 == .free then (x.1, (env.cells.lookup x.1).getD 0) :: c else c) []
theorem closureFor_eq {scope : Scope} {env : Env} (h : ∀ y ∈ scope.names, y.2 = .free → ∃ c, env.cells.lookup y.1 = some c) : closureFor scope env = pure (closeL env scope.names) := by
  unfold closeL
  simp only [closureFor]
  rw [forIn_yield_fold (fun x c => if x.2 == .free then (x.1, (env.cells.lookup x.1).getD 0) :: c else c) [] (fun x hx c => by
    obtain ⟨n, kind⟩ := x
    by_cases e : kind = NameKind.free
    · subst e
      obtain ⟨a, ha⟩ := h _ hx rfl
      have ha' : env.cells.lookup n = some a := ha
      simp only [beq_self_eq_true, if_true, cellOf, ha', Option.getD_some, pure_bind]
    · have e' : (kind == NameKind.free) = false := by simpa using e
      simp only [e', Bool.false_eq_true, if_false])]
  rfl
theorem mem_closeL {env : Env} : ∀ {names : List (Str × NameKind)} {acc : List (Str × Addr)} {p : Str × Addr},
    p ∈ names.foldl (fun c x => if x.2 == .free then (x.1, (env.cells.lookup x.1).getD 0) :: c else c) acc ↔ p ∈ acc ∨ ∃ y ∈ names, y.2 = .free ∧ p = (y.1, (env.cells.lookup y.1).getD 0)
  | [], acc, p => by simp
  | x :: r, acc, p => by
    rw [List.foldl_cons, mem_closeL]
    by_cases e : x.2 = NameKind.free
    · rw [if_pos (by simpa using e)]
      constructor
      · rintro (h | ⟨y, hy, h1, h2⟩)
        · rcases List.mem_cons.mp h with h | h
          · exact .inr ⟨x, List.mem_cons_self, e, h⟩
          · exact .inl h
        · exact .inr ⟨y, List.mem_cons_of_mem _ hy, h1, h2⟩
      · rintro (h | ⟨y, hy, h1, h2⟩)
        · exact .inl (List.mem_cons_of_mem _ h)
        · rcases List.mem_cons.mp hy with rfl | hy
          · exact .inl (h2 ▸ List.mem_cons_self)
          · exact .inr ⟨y, hy, h1, h2⟩
    · rw [if_neg (by simpa using e)]
      constructor
      · rintro (h | ⟨y, hy, h1, h2⟩)
        · exact .inl h
        · exact .inr ⟨y, List.mem_cons_of_mem _ hy, h1, h2⟩
      · rintro (h | ⟨y, hy, h1, h2⟩)
        · exact .inl h
        · rcases List.mem_cons.mp hy with rfl | hy
          · exact absurd h1 e
          · exact .inr ⟨y, hy, h1, h2⟩
theorem mem_of_lookup {β : Type} : ∀ {l : List (Str × β)} {x : Str} {c : β}, l.lookup x = some c → (x, c) ∈ l
  | [], _, _, h => by simp at h
  | (n, d) :: r, x, c, h => by
    rw [List.lookup_cons] at h
    cases e : x == n with
    | true =>
      rw [e] at h
      have e' : x = n := by simpa using e
      subst e'
      cases h
      exact List.mem_cons_self
    | false =>
      rw [e] at h
      exact List.mem_cons_of_mem _ (mem_of_lookup h)
theorem lookup_of_mem {β : Type} : ∀ {l : List (Str × β)} {x : Str} {c : β}, (x, c) ∈ l → ∃ d, l.lookup x = some d
  | [], _, _, h => nomatch h
  | (n, d) :: r, x, c, h => by
    rw [List.lookup_cons]
    cases e : x == n with
    | true => exact ⟨d, rfl⟩
    | false =>
      rcases List.mem_cons.mp h with h | h
      · injection h with h1 _
        subst h1
        simp at e
      · exact lookup_of_mem h
theorem closeL_sub {env : Env} {names : List (Str × NameKind)} (h : ∀ y ∈ names, y.2 = .free → ∃ c, env.cells.lookup y.1 = some c) {x : Str} {c : Addr} (e : (closeL env names).lookup x = some c) : env.cells.lookup x = some c := by
  rcases mem_closeL.mp (mem_of_lookup e) with z | ⟨y, hy, h1, h2⟩
  · cases z
  · obtain ⟨d, hd⟩ := h y hy h1
    injection h2 with e1 e2
    subst e1
    rw [hd] at e2
    rw [hd, e2]
    rfl
theorem closeL_has {env : Env} {names : List (Str × NameKind)} {x : Str} (h : (x, NameKind.free) ∈ names) : ∃ c, (closeL env names).lookup x = some c :=
  lookup_of_mem (mem_closeL.mpr (.inr ⟨_, h, rfl, rfl⟩))
theorem relabel_lookup {env : Env} : ∀ {names : List (Str × NameKind)} {x : Str} {k : NameKind},
    (names.map fun (n, k) => if (k == NameKind.free && env.scope.kind == .function && env.kindOf n == some .cell) then (n, NameKind.cell) else (n, k)).lookup x = some k →
    ∃ k0, names.lookup x = some k0 ∧ (k = k0 ∨ (k0 = .free ∧ k = .cell))
  | [], _, _, h => by simp at h
  | (n, k) :: r, x, k', h => by
    have ih := @relabel_lookup env r x k'
    rw [List.map_cons] at h
    by_cases hc : (k == NameKind.free && env.scope.kind == .function && env.kindOf n == some .cell) = true
    · dsimp only at h
      rw [if_pos hc, List.lookup_cons] at h
      rw [List.lookup_cons]
      cases e : x == n with
      | true =>
        rw [e] at h
        cases h
        refine ⟨k, rfl, .inr ⟨?_, rfl⟩⟩
        simp only [Bool.and_eq_true, beq_iff_eq] at hc
        exact hc.1.1
      | false =>
        rw [e] at h
        exact ih h
    · dsimp only at h
      rw [if_neg hc, List.lookup_cons] at h
      rw [List.lookup_cons]
      cases e : x == n with
      | true =>
        rw [e] at h
        cases h
        exact ⟨k, rfl, .inl rfl⟩
      | false =>
        rw [e] at h
        exact ih h
theorem relabel_free {env : Env} : ∀ {names : List (Str × NameKind)} {x : Str}, names.lookup x = some .free →
    (names.map fun (n, k) => if (k == NameKind.free && env.scope.kind == .function && env.kindOf n == some .cell) then (n, NameKind.cell) else (n, k)).lookup x = some .cell ∨
    (names.map fun (n, k) => if (k == NameKind.free && env.scope.kind == .function && env.kindOf n == some .cell) then (n, NameKind.cell) else (n, k)).lookup x = some .free
  | [], _, h => by simp at h
  | (n, k) :: r, x, h => by
    have ih := @relabel_free env r x
    rw [List.map_cons]
    rw [List.lookup_cons] at h
    by_cases hc : (k == NameKind.free && env.scope.kind == .function && env.kindOf n == some .cell) = true
    · dsimp only
      rw [if_pos hc, List.lookup_cons]
      cases e : x == n with
      | true => exact .inl rfl
      | false =>
        rw [e] at h
        exact ih h
    · dsimp only
      rw [if_neg hc, List.lookup_cons]
      cases e : x == n with
      | true =>
        rw [e] at h
        cases h
        exact .inr rfl
      | false =>
        rw [e] at h
        exact ih h

/-! ### a comprehension's loop, no exception -/
theorem comp_loop {prog : Program} {w : World} {A : Around} {R : Result → Shared → Prop} {s : Shared} {elt target iter : Expr} {ifs : List Expr} {scope : Scope} {pos : Pos} {it acc : Value} {env : Env} (I : Nat → Shared → Prop)
    (turn : ∀ n s, I n s → wpAny (model prog w) A (pyNext it) (fun r s₁ => match r with
      | none => R (.ok .next) s₁
      | some v => wpAny (model prog w) A (letOwnedTupleGo target it v) (fun _ s₁' => wpAny (model prog w) A (assign target env v) (fun _ s₂ =>
          wpAny (model prog w) A (forIn ifs true fun c r => if r = true then do let ok ← isTrue c env (eval c env); pure (ForInStep.yield ok) else pure (ForInStep.yield r)) (fun ok s₃ =>
            if ok = true then wpAny (model prog w) A (eval elt env) (fun x s₄ =>
              wpAny (model prog w) A (call (.builtin "list.append") [acc, x]) (fun _ s₅ => ∃ m, m < n ∧ I m s₅) (fun _ _ => False) s₄) (fun _ _ => False) s₃
            else ∃ m, m < n ∧ I m s₃) (fun _ _ => False) s₂) (fun _ _ => False) s₁') (fun _ _ => False) s₁) (fun _ _ => False) s)
    (n : Nat) (h : I n s) :
    codeAny (model prog w) A (.compLoop (.ListComp elt [⟨target, iter, ifs, 0⟩] scope pos) 0 it acc env) R s := by
  refine codeAny_loop rfl I (fun n s hI => ?_) n h
  show wpAny _ A ((compTurn (.ListComp elt [⟨target, iter, ifs, 0⟩] scope pos) 0 it acc env).onRaise (fun x => do noteFrame x env; theTreesLotGoes x)) _ _ s
  refine wpAny_noted ?_
  rw [compTurn_list]
  refine wpAny_bind (wpAny_standAt (wpAny_bind (wpAny_mono (turn n s hI) (fun r s₁ h₁ => ?_) fun _ _ h' => h'.elim)))
  cases r with
  | none => exact wpAny_pure h₁
  | some v =>
    refine wpAny_bind (wpAny_mono h₁ (fun _ s₁' h₁' => ?_) fun _ _ h' => h'.elim)
    refine wpAny_bind (wpAny_mono h₁' (fun _ s₂ h₂ => wpAny_bind (wpAny_mono h₂ (fun ok s₃ h₃ => ?_) fun _ _ h' => h'.elim)) fun _ _ h' => h'.elim)
    cases ok with
    | false => exact wpAny_pure ⟨rfl, h₃⟩
    | true =>
      exact wpAny_bind (wpAny_bind (wpAny_mono h₃ (fun x s₄ h₄ => wpAny_bind (wpAny_mono h₄ (fun _ s₅ h₅ => wpAny_pure (wpAny_pure ⟨rfl, h₅⟩)) fun _ _ h' => h'.elim)) fun _ _ h' => h'.elim))

/-! ### the block's context -/
def Cx.blk (X : Cx) (pins : List (Addr × Obj)) (scope : Scope) (cl : List (Str × Addr)) (C : Addr) (N' : List Str) (fp : List Addr) (s : Shared) (H : Hp) : Cx :=
  { X with N := N', s₀ := s, H₀ := H, env := compEnvC scope cl C X.env, outer := X.stack, ex := fp, fn := fun _ => false, pn := X.pn ++ pins, xe := fun _ _ => False }
/-- the block's names at its entry: for each its slot ahead (none: the block's own) -/
def blkSt (ix : List (Option Nat)) (σ : St) : St := ix.map fun o => o.bind fun i => (σ[i]?).join
/-- what is known ahead is known behind -/
def Ext : St → St → Prop
  | [], [] => True
  | none :: a, _ :: b => Ext a b
  | some v :: a, o :: b => o = some v ∧ Ext a b
  | _, _ => False
theorem Ext.get : ∀ {a b : St}, Ext a b → ∀ (j : Nat) (v : V), a[j]? = some (some v) → b[j]? = some (some v)
  | [], [], _, j, v, h => by simp at h
  | none :: a, _ :: b, e, 0, v, h => by simp at h
  | none :: a, _ :: b, e, j + 1, v, h => by
    have e : Ext a b := e
    rw [List.getElem?_cons_succ] at h ⊢
    exact e.get j v h
  | some u :: a, o :: b, e, 0, v, h => by
    have e1 : o = some u := e.1
    rw [List.getElem?_cons_zero] at h ⊢
    rw [e1]
    exact h
  | some u :: a, o :: b, e, j + 1, v, h => by
    have e : Ext a b := e.2
    rw [List.getElem?_cons_succ] at h ⊢
    exact e.get j v h
  | [], _ :: _, e, _, _, _ => e.elim
  | none :: _, [], e, _, _, _ => e.elim
  | some _ :: _, [], e, _, _, _ => e.elim
theorem Ext.length : ∀ {a b : St}, Ext a b → a.length = b.length
  | [], [], _ => rfl
  | none :: a, _ :: b, e => by
    have e : Ext a b := e
    simp [e.length]
  | some u :: a, o :: b, e => by
    have e : Ext a b := e.2
    simp [e.length]
  | [], _ :: _, e => e.elim
  | none :: _, [], e => e.elim
  | some _ :: _, [], e => e.elim

def blkOk (sc : Scope) (N : List Str) (scope : Scope) (N' : List Str) (ix : List (Option Nat)) : Bool :=
  decide (scope.kind = .function) && decide (∀ y ∈ scope.names, y.2 ≠ .cell) && decide (∀ y ∈ scope.names, y.2 = .local → scope.names.lookup y.1 = some .local) &&
  decide (∀ y ∈ scope.names, y.2 = .free → sc.names.lookup y.1 = some .cell ∨ sc.names.lookup y.1 = some .free) && decide (ix.length = N'.length) &&
  ((N'.zip ix).all fun p => p.2.all fun i => decide (N[i]? = some p.1) && decide (scope.names.lookup p.1 = some .free))
structure BlkOk (sc : Scope) (N : List Str) (scope : Scope) (N' : List Str) (ix : List (Option Nat)) : Prop where
  kind : scope.kind = .function
  nocell : ∀ y ∈ scope.names, y.2 ≠ .cell
  names : ∀ y ∈ scope.names, y.2 = .local → scope.names.lookup y.1 = some .local
  free : ∀ y ∈ scope.names, y.2 = .free → sc.names.lookup y.1 = some .cell ∨ sc.names.lookup y.1 = some .free
  len : ix.length = N'.length
  at_ : ∀ (j : Nat) (x : Str) (i : Nat), N'[j]? = some x → ix[j]? = some (some i) → N[i]? = some x ∧ scope.names.lookup x = some .free
theorem BlkOk.of {sc : Scope} {N : List Str} {scope : Scope} {N' : List Str} {ix : List (Option Nat)} (h : blkOk sc N scope N' ix = true) : BlkOk sc N scope N' ix := by
  unfold blkOk at h
  simp only [Bool.and_eq_true, decide_eq_true_eq] at h
  obtain ⟨⟨⟨⟨⟨h1, h2⟩, h3⟩, h4⟩, h5⟩, h6⟩ := h
  refine ⟨h1, h2, h3, h4, h5, fun j x i e1 e2 => ?_⟩
  have hz : (N'.zip ix)[j]? = some (x, some i) := by
    rw [List.getElem?_zip_eq_some]
    exact ⟨e1, e2⟩
  have hm : (x, some i) ∈ N'.zip ix := List.mem_of_getElem? hz
  have q := List.all_eq_true.mp h6 _ hm
  simp only [Option.all_some, Bool.and_eq_true, decide_eq_true_eq] at q
  exact q

abbrev aL (its : List Value) : Obj := { cls := .type "list", data := .seq its.toArray its.length }

section
variable {X : Cx} {pins : List (Addr × Obj)} {σ : St} {H : Hp} {s : Shared} {sc : Scope} {N N' : List Str} {scope : Scope} {ix : List (Option Nat)} {fp : List Addr} {C : Addr}
theorem blk_cells (ok : X.Ok) (hsc : X.env.scope = sc) (B : BlkOk sc N scope N' ix) : ∀ y ∈ scope.names, y.2 = .free → ∃ c, X.env.cells.lookup y.1 = some c := fun y hy e => by
  have q := B.free y hy e
  rw [← hsc] at q
  exact ok.has y.1 q
theorem blk_ok (I : Inv X pins σ H s) (hsc : X.env.scope = sc) (B : BlkOk sc N scope N' ix) (hf : ∀ b ∈ fp, FpOk X pins H b) (hlt : ∀ b ∈ fp, b < s.heap.objs.size) (hC : s.heap.objs.size ≤ C) :
    (X.blk pins scope (closeL X.env scope.names) C N' fp s H).Ok where
  mod := I.ok.mod
  kind := B.kind
  glob := I.ok.glob
  blt := I.ok.blt
  above := hC
  inj := fun x y c a b => I.ok.inj x y c (closeL_sub (blk_cells I.ok hsc B) a) (closeL_sub (blk_cells I.ok hsc B) b)
  has := fun x h => by
    have z : ∃ k, (relabel scope X.env).names.lookup x = some k ∧ (k = .cell ∨ k = .free) := by
      rcases h with h | h
      · exact ⟨_, h, .inl rfl⟩
      · exact ⟨_, h, .inr rfl⟩
    obtain ⟨k, hk, hk'⟩ := z
    obtain ⟨k0, h0, h1⟩ := relabel_lookup (env := X.env) (names := scope.names) hk
    have hm := mem_of_lookup h0
    have e : k0 = .free := by
      rcases h1 with h1 | h1
      · subst h1
        rcases hk' with e | e
        · exact absurd e (B.nocell _ hm)
        · exact e
      · exact h1.1
    subst e
    exact closeL_has hm
  cab := fun x c h _ => by cases h
  hd := I.ok.hd
  frames := I.ok.frames
  stk := .inl rfl
  exf := fun b hb => ⟨fun e => by
      have := hlt b hb
      have e' : b = C := e
      subst e'
      exact absurd (Nat.lt_of_lt_of_le this hC) (Nat.lt_irrefl _), fun x c e => (hf b hb).2.2.2.2.1 x c (closeL_sub (blk_cells I.ok hsc B) e)⟩
  bs := I.bs
  bsz := Nat.le_trans I.ok.bsz I.sz
  noex := fun b o e hb => by
    rcases (hf b hb).2.2.2.1 with z | z
    · exact I.ok.noex b o e z
    · have q := Heap.lt_size (I.ok.bs b o e).1
      exact absurd (Nat.lt_of_lt_of_le q z) (Nat.lt_irrefl _)
  exfs := fun b hb z => by
    rcases List.mem_cons.mp (I.stkSub b z) with e | e
    · exact (hf b hb).2.1 e
    · exact (hf b hb).2.2.1 e
  funs := I.stack
  frf := I.stkFree

/-- the block is entered -/
theorem blk_inv {s1 : Shared} {h1 : Heap} {tk : Nat} {D : Addr} {its : List Value} (I : Inv X pins σ H s) (hsc : X.env.scope = sc) (hN : X.N = N) (B : BlkOk sc N scope N' ix) (hf : ∀ b ∈ fp, FpOk X pins H b) (hlt : ∀ b ∈ fp, b < s.heap.objs.size) (hC : s.heap.objs.size ≤ C)
    (hD : s.heap.objs.size ≤ D) (hDC : D ≠ C) (old : ∀ b o, s.heap.get? b = some o → h1.get? b = some o) (hns : h1.Ns C (fun _ => none)) (ho : h1.get? D = some (aL its)) (e : s1 = { s with heap := h1, toks := tk }) :
    Inv (X.blk pins scope (closeL X.env scope.names) C N' fp s H) [(D, aL its)] (blkSt ix σ) H s1 := by
  subst e
  have ok' := blk_ok (C := C) I hsc B hf hlt hC
  have cells := blk_cells I.ok hsc B
  have fresh : ∀ a, s.heap.objs.size ≤ a → H a = none := fun a ha => I.hok.fresh ha
  refine ⟨ok', rfl, I.bare, Un.kept old, ?_, ?_, fresh C hC, ?_, ?_, I.hok.kept old, ?_⟩
  · refine ⟨_, hns, fun j x v e1 e2 hv => ?_⟩
    have e2 : (blkSt ix σ)[j]? = some (some v) := e2
    unfold blkSt at e2
    rw [List.getElem?_map] at e2
    cases q : ix[j]? with
    | none => rw [q] at e2; cases e2
    | some o =>
      rw [q] at e2
      cases o with
      | none => cases e2
      | some i =>
        have e3 : (σ[i]?).join = some v := by simpa using e2
        have e4 : σ[i]? = some (some v) := by
          cases r : σ[i]? with
          | none => rw [r] at e3; cases e3
          | some o =>
            rw [r] at e3
            have e3 : o = some v := e3
            rw [e3]
        obtain ⟨n1, n2⟩ := B.at_ j x i e1 q
        have n3 := B.free _ (mem_of_lookup n2) rfl
        obtain ⟨m, hm, hl⟩ := I.loc
        have vis : Vis X.env.scope x := by
          rw [hsc]
          exact .inr n3
        obtain ⟨u, r, l⟩ := hl i x v (by rw [hN]; exact n1) e4 vis
        refine ⟨u, r, .inr ⟨relabel_free (env := X.env) n2, ?_⟩⟩
        obtain ⟨c, hc⟩ := closeL_has (env := X.env) (mem_of_lookup n2)
        refine ⟨c, hc, ?_⟩
        have hc' := closeL_sub cells hc
        rcases l with ⟨k, _⟩ | ⟨_, c', e5, o', z1, z2⟩
        · have k : X.env.scope.names.lookup x = some .local := k
          rw [hsc] at k
          rcases n3 with z | z
          · rw [k] at z; cases z
          · rw [k] at z; cases z
        · rw [hc'] at e5
          cases e5
          exact ⟨o', old _ _ z1, z2⟩
  · intro x c e
    obtain ⟨v, o, z1, z2⟩ := I.cell x c (closeL_sub cells e)
    exact ⟨v, o, old _ _ z1, z2⟩
  · intro x c e
    exact I.freeC x c (closeL_sub cells e)
  · intro p hp
    rcases List.mem_append.mp hp with hp | hp
    · obtain ⟨p1, p2, p3, p4, p5⟩ := I.pin p hp
      refine ⟨old _ _ p1, p2, fun z => ?_, fun z => ?_, p5⟩
      · have z : p.1 = C := z
        have := Heap.lt_size p1
        rw [z] at this
        exact absurd (Nat.lt_of_lt_of_le this hC) (Nat.lt_irrefl _)
      · rcases List.mem_cons.mp (I.stkSub p.1 z) with e | e
        · exact p3 e
        · exact p4 e
    · have hp : p = (D, aL its) := List.mem_singleton.mp hp
      subst hp
      refine ⟨ho, fresh D hD, hDC, fun z => ?_, fun v e => by cases e⟩
      have q : ∃ o, s.heap.get? D = some o := by
        obtain ⟨_, o, z, _⟩ := I.stack.mem z
        exact ⟨o, z⟩
      obtain ⟨o, q⟩ := q
      exact absurd (Nat.lt_of_lt_of_le (Heap.lt_size q) hD) (Nat.lt_irrefl _)
  · show (ix.map _).length = N'.length
    rw [List.length_map]
    exact B.len

/-- the block is left: its list is tracked -/
theorem blk_leave {s4 : Shared} {H4 : Hp} {σ' : St} {D : Addr} {its : List Value} {ys : List V} {cl : List (Str × Addr)} (I : Inv X pins σ H s) (hf : ∀ b ∈ fp, FpOk X pins H b) (hD : s.heap.objs.size ≤ D) (hC : s.heap.objs.size ≤ C)
    (J : Inv (X.blk pins scope cl C N' fp s H) [(D, aL its)] σ' H4 s4) (rv : Vals ys its) (hl : ys.length ≤ sizeLine) : Inv X pins σ (upd H4 D (.lst ys)) s4 := by
  have pD := J.pin (D, aL its) (List.mem_append_right _ List.mem_cons_self)
  have hD4 : H4 D = none := pD.2.1
  have neD : ∀ b o, s.heap.get? b = some o → b ≠ D := fun b o e z => by
    have := Heap.lt_size e
    rw [z] at this
    exact absurd (Nat.lt_of_lt_of_le this hD) (Nat.lt_irrefl _)
  have u := J.base
  have u : Un (frs X.stack) fp H H4 s.heap s4.heap := u
  refine I.call' (ch := fp) J.os ⟨u.keep, u.slot, fun b o e n hx => ?_, u.there, fun b xs e => ?_, fun b o x e => ?_, fun b ps e => ?_⟩ ?_ J.bare (fun b hb => ⟨(hf b hb).2.2.2.1, (hf b hb).2.1, (hf b hb).2.2.2.2.1, (hf b hb).2.2.2.2.2⟩)
  · rw [upd_ne (neD b o e)]
    exact u.free b o e n hx
  · have q := u.tups b xs e
    rw [upd_ne (ne_of_none q hD4)]
    exact q
  · have q := u.frzs b o x e
    rw [upd_ne (ne_of_none q hD4)]
    exact q
  · obtain ⟨more, q⟩ := u.tbls b ps e
    exact ⟨more, by rw [upd_ne (ne_of_none q hD4)]; exact q⟩
  · intro b o e
    by_cases hb : b = D
    · subst hb
      rw [upd_same] at e
      cases e
      exact ⟨hl, its, _, rv, pD.1⟩
    · rw [upd_ne hb] at e
      exact (J.hok b o e).stay (fun _ _ _ q => q) (fun c q => by rw [upd_ne (ne_of_none q hD4)]; exact q) fun c xs q => by rw [upd_ne (ne_of_none q hD4)]; exact q
end

/-! ### the tests of a comprehension -/
def PTs (X : Cx) (ifs : List Expr) (t : TT) : Prop :=
  ∀ (pins : List (Addr × Obj)) (s : Shared) (σ : St) (H : Hp) (Q : Bool → Hp → Prop), Inv X pins σ H s → t σ H Q →
    wpAny (model X.prog X.w) X.A (forIn ifs true fun c r => if r = true then do let ok ← isTrue c X.env (eval c X.env); pure (ForInStep.yield ok) else pure (ForInStep.yield r)) (TP X pins σ Q) X.xe s
def tTrue : TT := fun _ H Q => Q true H
theorem pts_nil {X : Cx} : PTs X [] tTrue := fun pins s σ H Q I h => wpAny_tests_nil ⟨H, I, h⟩
/-- [elt for target in iter if ..]: W: the turn, a measure, the items so far, the heap -/
def CompGo (J : It) (ix : List (Option Nat)) (g : TG) (tt : TT) (te : TE) (σ : St) (H : Hp) (Q : VK) : Prop :=
  ∃ W : Nat → Nat → List V → Hp → Prop, (∃ m, W 0 m [] H) ∧ ∀ i m ys H, W i m ys H → ys.length ≤ sizeLine ∧
    ((J.stop i H ∧ ∀ p, H p = none → Q (.ref p) (upd H p (.lst ys))) ∨
    (J.go i H ∧ ∃ N : List V → Hp → Prop, (∀ ys' H', N ys' H' → ∃ m', m' < m ∧ W (i + 1) m' ys' H') ∧
      ∀ x H', J.yld i H x H' → g x (blkSt ix σ) H' fun σ2 H2 => Ext (blkSt ix σ) σ2 ∧ tt σ2 H2 fun ok H3 => if ok = true then te σ2 H3 fun y H4 => N (ys ++ [y]) H4 else N ys H3))
def tComp (wi : TI) (ix : List (Option Nat)) (g : TG) (tt : TT) (te : TE) : TE := fun σ H Q => wi σ H fun J H1 => CompGo J ix g tt te σ H1 Q

section
variable {X : Cx} {sc : Scope} {N N' : List Str} {scope : Scope} {ix : List (Option Nat)} {tg iter elt : Expr} {ifs : List Expr} {pos : Pos} {wi : TI} {g : TG} {tt : TT} {te : TE}
theorem blk_run {use : Option (Value → Sem Unit)} {QQ : Value → Shared → Prop} {pins : List (Addr × Obj)} {σ : St} {H : Hp} {s : Shared} {Q : VK} {cpos : Pos} (hc : X.calm = true) (hi : PI X tg iter wi)
    (hsc : X.env.scope = sc) (hN : X.N = N) (B : BlkOk sc N scope N' ix)
    (hg : ∀ pins cl C fp s H, PG (X.blk pins scope cl C N' fp s H) tg g) (ht : ∀ pins cl C fp s H, PTs (X.blk pins scope cl C N' fp s H) ifs tt) (he : ∀ pins cl C fp s H, PE (X.blk pins scope cl C N' fp s H) elt te)
    (hs : ∀ x, foldedSetIterable iter X.env x = pure x) (I : Inv X pins σ H s) (h : tComp wi ix g tt te σ H Q)
    (fin : ∀ (D C : Addr) (s4 : Shared) (H4 : Hp) (m : Str → Option Value), Inv X pins σ H4 s4 → Q (.ref D) H4 → s4.heap.Ns C m → FpOk X pins H4 C →
      compPost (model X.prog X.w) X.A X.xe use QQ (.ref D) C (.ok .next) s4) :
    wpAny (model X.prog X.w) X.A (comprehension (.ListComp elt [⟨tg, iter, ifs, 0⟩] scope pos) scope X.env cpos (newList []) false (eval iter X.env) use) QQ X.xe s := by
  refine wpAny_comprehension_free (use := use) rfl hs (closureFor_eq (blk_cells I.ok hsc B)) B.kind B.names (thn (hi pins s σ H _ I h) fun v s1 h1 => thn h1 fun itv s2 h2 => ?_)
  obtain ⟨it, fp, tn, J, H2, e, I2, T, st2, f2, W, ⟨m0, w0⟩, turn⟩ := h2
  subst e
  refine wpAny_newObj_type (wpAny_newFunctionEnv B.nocell (by intro y hy; simp at hy) (fun h₁ hns₁ hsb₁ => ?_) B.kind)
  dsimp only at hns₁ hsb₁ ⊢
  generalize hH2 : s2.heap.push { cls := .type "list", dict := none, data := .seq ([] : List Value).toArray } = G2 at hns₁ hsb₁ ⊢
  have hC : G2.objs.size = s2.heap.objs.size + 1 := by rw [← hH2, Heap.size_push]
  have hCle : s2.heap.objs.size ≤ G2.objs.size := by rw [hC]; exact Nat.le_succ _
  have hDC : s2.heap.objs.size ≠ G2.objs.size := by rw [hC]; exact Nat.ne_of_lt (Nat.lt_succ_self _)
  have old : ∀ b o, s2.heap.get? b = some o → h₁.get? b = some o := fun b o e => hsb₁.extBut b o (by rw [hC]; exact Nat.ne_of_lt (Nat.lt_succ_of_lt (Heap.lt_size e))) (Heap.get?_push_of_some _ (hH2 ▸ Heap.get?_push_of_some _ e))
  have hacc : h₁.get? s2.heap.objs.size = some (aL []) := hsb₁.extBut _ _ hDC (Heap.get?_push_of_some _ (hH2 ▸ Heap.get?_push_size _ rfl))
  have hlt : ∀ b ∈ fp, b < s2.heap.objs.size := fun b hb => by
    obtain ⟨o, e, _⟩ := T.obj _ _ st2 b hb
    exact Heap.lt_size e
  have st1 : tn 0 h₁ := T.keep _ _ _ st2 fun b _ o e => old b o e
  have I1 := blk_inv (fp := fp) (C := G2.objs.size) (D := s2.heap.objs.size) (its := []) (h1 := h₁) (tk := s2.toks + ([] : List (Str × Value)).length) I2 hsc hN B f2 hlt hCle (Nat.le_refl _) hDC old hns₁ hacc rfl
  -- the loop
  have fpk : ∀ {H' : Hp} {pl : List (Addr × Obj)}, (∀ b ∈ fp, H' b = none) → (∀ p ∈ pl, p.1 = s2.heap.objs.size) → ∀ b ∈ fp, FpOk (X.blk pins scope (closeL X.env scope.names) G2.objs.size N' fp s2 H2) pl H' b := fun hn hpl b hb => by
    refine ⟨hn b hb, fun z => ?_, fun z => ?_, .inl hb, fun x c e => (f2 b hb).2.2.2.2.1 x c (closeL_sub (blk_cells I2.ok hsc B) e), fun p hp => ?_⟩
    · have z : b = G2.objs.size := z
      have := hlt b hb
      rw [z, hC] at this
      exact absurd (Nat.lt_of_succ_lt this) (Nat.lt_irrefl _)
    · rcases List.mem_cons.mp (I2.stkSub b z) with e | e
      · exact (f2 b hb).2.1 e
      · exact (f2 b hb).2.2.1 e
    · rcases List.mem_append.mp hp with hp | hp
      · exact (f2 b hb).2.2.2.2.2 p hp
      · rw [hpl p hp]
        exact Nat.ne_of_gt (hlt b hb)
  have hpl1 : ∀ (o : Obj), ∀ p ∈ [(s2.heap.objs.size, o)], p.1 = s2.heap.objs.size := fun o p hp => by
    rw [List.mem_singleton.mp hp]
  have loop : codeAny (model X.prog X.w) X.A (.compLoop (.ListComp elt [⟨tg, iter, ifs, 0⟩] scope pos) 0 (.ref it) (.ref s2.heap.objs.size) (compEnvC scope (closeL X.env scope.names) G2.objs.size X.env))
      (compPost (model X.prog X.w) X.A X.xe use QQ (.ref s2.heap.objs.size) G2.objs.size) { s2 with heap := h₁, toks := s2.toks + ([] : List (Str × Value)).length } := by
    refine comp_loop (fun n s' => ∃ i ys H' its, Inv (X.blk pins scope (closeL X.env scope.names) G2.objs.size N' fp s2 H2) [(s2.heap.objs.size, aL its)] (blkSt ix σ) H' s' ∧ Vals ys its ∧ tn i s'.heap ∧ (∀ b ∈ fp, H' b = none) ∧ W i n ys H') ?_ m0
      ⟨0, [], H2, [], I1, .nil, st1, fun b hb => (f2 b hb).1, w0⟩
    rintro n s3 ⟨i, ys, H3, its, I3, rv, st3, fr3, w3⟩
    obtain ⟨hl, tr⟩ := turn i n ys H3 w3
    rcases tr with ⟨stop, q⟩ | ⟨go, N, hN, step⟩
    · refine thn (T.done (X.blk pins scope (closeL X.env scope.names) G2.objs.size N' fp s2 H2) rfl rfl rfl hc i _ s3 _ H3 _ I3 (fpk fr3 (hpl1 _)) st3 stop) fun r s4 ⟨hr, I4⟩ => ?_
      subst hr
      have I5 := blk_leave I2 f2 (Nat.le_refl _) hCle I4 rv hl
      obtain ⟨m, hm, _⟩ := I4.loc
      have hD4 := (I4.pin (s2.heap.objs.size, aL its) (List.mem_append_right _ List.mem_cons_self)).2.1
      refine fin _ _ s4 _ m I5 (q _ hD4) hm ?_
      have hCn : H3 G2.objs.size = none := I4.free
      refine I2.fpOk hCle ?_
      rw [upd_ne (Ne.symm hDC)]
      exact hCn
    · refine thn (T.item (X.blk pins scope (closeL X.env scope.names) G2.objs.size N' fp s2 H2) rfl rfl rfl hc i _ s3 _ H3 _ I3 (fpk fr3 (hpl1 _)) st3 go) fun r s4 ⟨u, hr, h4⟩ => ?_
      subst hr
      refine thn h4 fun _ s5 ⟨x, H5, I5, r5, y5, st5, fr5⟩ => ?_
      have I5' := I5.pinned (fpk fr5 (hpl1 _)) (T.obj _ _ st5)
      refine thn (hg _ _ _ _ _ _ _ s5 _ H5 x u _ I5' r5 (step x H5 y5)) fun _ s6 ⟨σ6, H6, I6, ex6, q6⟩ => ?_
      refine thn (ht _ _ _ _ _ _ _ s6 σ6 H6 _ I6 q6) fun ok s7 ⟨H7, I7, q7⟩ => ?_
      have back : ∀ {s8 : Shared} {H8 : Hp} {its' : List Value} {ys' : List V}, Inv (X.blk pins scope (closeL X.env scope.names) G2.objs.size N' fp s2 H2) ([(s2.heap.objs.size, aL its')] ++ pinsAt fp s5.heap) σ6 H8 s8 → Vals ys' its' → N ys' H8 →
          ∃ m, m < n ∧ ∃ i ys H' its, Inv (X.blk pins scope (closeL X.env scope.names) G2.objs.size N' fp s2 H2) [(s2.heap.objs.size, aL its)] (blkSt ix σ) H' s8 ∧ Vals ys its ∧ tn i s8.heap ∧ (∀ b ∈ fp, H' b = none) ∧ W i m ys H' := fun {s8 H8 its' ys'} I8 rv8 n8 => by
        obtain ⟨m', hm, w8⟩ := hN ys' H8 n8
        refine ⟨m', hm, i + 1, ys', H8, its', (I8.weak ex6.length fun j v e => ex6.get j v e).unpinned, rv8, T.keep _ _ _ st5 fun b hb o e => (I8.pin (b, o) (List.mem_append_right _ (List.mem_append_right _ (mem_pinsAt hb e)))).1, fun b hb => ?_, w8⟩
        obtain ⟨o, e, d⟩ := T.obj _ _ st5 b hb
        exact (I8.pin (b, o) (List.mem_append_right _ (List.mem_append_right _ (mem_pinsAt hb e)))).2.1
      cases ok with
      | false =>
        rw [if_neg Bool.false_ne_true] at q7 ⊢
        exact back I7 rv q7
      | true =>
        rw [if_pos rfl] at q7 ⊢
        refine thn (he _ _ _ _ _ _ _ s7 σ6 H7 _ I7 q7) fun yv s8 ⟨y, H8, I8, r8, q8⟩ => ?_
        have pD := I8.pin (s2.heap.objs.size, aL its) (List.mem_append_right _ (List.mem_append_left _ List.mem_cons_self))
        refine append_at (hsz := by show its.toArray.size ≤ sizeLine; rw [List.size_toArray, ← rv.length]; exact hl) pD.1 fun h9 hs9 hD9 => ?_
        have e9 : h9.get? s2.heap.objs.size = some (aL (its ++ [yv])) := by
          rw [hD9]
          show some ({ cls := .type "list", data := .seq (its.toArray.push yv) (its.length + 1) } : Obj) = some { cls := .type "list", data := .seq (its ++ [yv]).toArray (its ++ [yv]).length }
          rw [List.length_append, List.length_singleton, List.push_toArray]
        have I8' : Inv (X.blk pins scope (closeL X.env scope.names) G2.objs.size N' fp s2 H2) (pinsAt fp s5.heap) σ6 H8 s8 := I8.pins_of fun p hp => I8.pin p (List.mem_append_right _ (List.mem_append_right _ hp))
        have hpn : ∀ p ∈ (X.blk pins scope (closeL X.env scope.names) G2.objs.size N' fp s2 H2).pn ++ pinsAt fp s5.heap, p.1 ≠ s2.heap.objs.size := fun p hp => by
          rcases List.mem_append.mp hp with hp | hp
          · exact Nat.ne_of_lt (Heap.lt_size (I2.pin p hp).1)
          · exact Nat.ne_of_lt (hlt _ (of_pinsAt hp).1)
        have I9 := I8'.turned (t' := s8.toks) (it := s2.heap.objs.size) (fun b o hb e => hs9.extBut b o hb e) pD.2.1 hDC (.inr (Nat.le_refl _)) (fun x c e z => by
          subst z
          obtain ⟨v, o, z1, z2⟩ := I8.cell x _ e
          rw [pD.1] at z1
          cases z1
          cases z2) hpn
        refine back (its' := its ++ [yv]) (ys' := ys ++ [y]) (I9.pins_of fun p hp => ?_) (rv.append (.cons r8 .nil)) q8
        rcases List.mem_append.mp hp with hp | hp
        · rw [List.mem_singleton.mp hp]
          exact ⟨e9, pD.2.1, pD.2.2.1, pD.2.2.2.1, fun v e => by cases e⟩
        · exact I9.pin p (List.mem_append_right _ hp)
  exact codeAny_compStart_list loop (T.self X.A 0 _ _ _ st1 loop)

/-- a list comprehension of one clause -/
theorem pe_comp (hc : X.calm = true) (N' : List Str) (ix : List (Option Nat)) (hi : PI X tg iter wi) (hB : blkOk X.env.scope X.N scope N' ix = true)
    (hg : ∀ pins cl C fp s H, PG (X.blk pins scope cl C N' fp s H) tg g) (ht : ∀ pins cl C fp s H, PTs (X.blk pins scope cl C N' fp s H) ifs tt) (he : ∀ pins cl C fp s H, PE (X.blk pins scope cl C N' fp s H) elt te)
    (hs : ∀ x, foldedSetIterable iter X.env x = pure x := by intro _; rfl) : PE X (.ListComp elt [⟨tg, iter, ifs, 0⟩] scope pos) (tComp wi ix g tt te) := by
  intro pins s σ H Q I h
  rw [eval_ListComp]
  refine blk_run (use := none) hc hi rfl rfl (BlkOk.of hB) hg ht he hs I h fun D C s4 H4 m I4 q4 hm hf => ?_
  refine ⟨m, hm, fun h' hs' => ?_⟩
  exact ⟨.ref D, H4, I4.turned (t' := s4.toks) (fun b o hb e => hs'.extBut b o hb e) hf.1 hf.2.1 hf.2.2.2.1 hf.2.2.2.2.1 hf.2.2.2.2.2, rfl, q4⟩
/-- name = [..], the name a plain local of the def on the same line -/
theorem ps_setComp {i : Nat} {x : Str} {pos' spos : Pos} (hc : X.calm = true) (N' : List Str) (ix : List (Option Nat)) (hNd : X.N.Nodup) (hxi : X.N[i]? = some x) (hx : X.env.scope.names.lookup x = some .local) (hi : PI X tg iter wi) (hB : blkOk X.env.scope X.N scope N' ix = true)
    (hg : ∀ pins cl C fp s H, PG (X.blk pins scope cl C N' fp s H) tg g) (ht : ∀ pins cl C fp s H, PTs (X.blk pins scope cl C N' fp s H) ifs tt) (he : ∀ pins cl C fp s H, PE (X.blk pins scope cl C N' fp s H) elt te)
    (hsw : swapsWith (.ListComp elt [⟨tg, iter, ifs, 0⟩] scope pos) (some (.Name x pos')) spos.line X.env = pure true := by rfl)
    (hs : ∀ x, foldedSetIterable iter X.env x = pure x := by intro _; rfl) : PS X (.Assign [.Name x pos'] (.ListComp elt [⟨tg, iter, ifs, 0⟩] scope pos) spos) (tAsg (tComp wi ix g tt te) (gName i)) := by
  intro pins s σ H D I h
  rw [exec_Assign_Name_used _ _ _ _ hsw]
  refine wpAny_bind (wpAny_standAt (wpAny_bind ?_))
  show wpAny _ X.A (do let _ ← comprehension (.ListComp elt [⟨tg, iter, ifs, 0⟩] scope pos) scope X.env _ (newList []) false (eval iter X.env) (some (assign (.Name x pos') X.env))) _ _ s
  refine wpAny_bind (wpAny_mono (blk_run (use := some (assign (.Name x pos') X.env)) (QQ := fun _ s' => SP X pins D .next s') hc hi rfl rfl (BlkOk.of hB) hg ht he hs I h fun Da C s4 H4 m I4 q4 hm hf => ?_) (fun _ s' hq => wpAny_pure (wpAny_pure hq)) fun _ _ e => e)
  show wpAny _ X.A (assign (.Name x pos') X.env (.ref Da)) _ _ _
  refine wpAny_assign_Name (store_ok2 (v := .ref Da) I4 hNd hxi (.inl hx) rfl (fun s5 I5 hsb => ?_) (.inr hx))
  obtain ⟨a, hsb, ha⟩ := hsb
  have hCa : C ≠ a := by
    rcases ha with z | z
    · rw [z]; exact hf.2.1
    · exact fun e => hf.2.2.2.2.1 x a z e.symm
  refine ⟨m, hm.sameBut hsb hCa, fun h' hs' => ?_⟩
  exact ⟨_, H4, I5.turned (t' := s5.toks) (fun b o hb e => hs'.extBut b o hb e) hf.1 hf.2.1 hf.2.2.2.1 hf.2.2.2.2.1 hf.2.2.2.2.2, q4⟩
end
end L2

namespace L2
open PySem PySem.Spec PyProof.Rows

/-! ### slices of texts -/
section
variable {X : Cx}
/-! ### lists of texts -/
/-! ### any, all of bools -/
/-! ### max of a list of ints -/
/-! ### isinstance -/
def clsV : V → Option Value
  | .ty n => some (.type n)
  | .ref a => some (.ref a)
  | _ => none
def rIsI (K : PySem.W.Frag) : List V → Hp → VK → Prop := fun xs H Q => ∃ x c t cv b, xs = [x, c] ∧ clsV c = some cv ∧ TyOf K H x t ∧ PySem.W.kitOne K t cv = some b ∧ Q (.bl b) H
theorem call_isI : CallR X (.builtin "isinstance") (rIsI X.K) := by
  intro pins s σ H xs us Q I r h
  obtain ⟨x, c, t, cv, b, rfl, hc, ty, hk, q⟩ := h
  obtain ⟨u, w', rfl, ru, rw'⟩ := vals2 r
  have e : w' = cv := by
    cases c with
    | ty n => have rw' : w' = Value.type n := rw'; rw [rw']; exact Option.some.inj hc
    | ref a => have rw' : w' = Value.ref a := rw'; rw [rw']; exact Option.some.inj hc
    | _ => cases hc
  subst e
  exact isinst_ok I ru ty hk fun tk => ⟨.bl b, H, I.tok tk, rfl, q⟩

/-! ### == of two lists of flat items -/
end
end L2

namespace L2
open PySem PySem.Spec PyProof.Rows
/-! ### comprehensions: the forms one uses -/
section
variable {ix : List (Option Nat)} {g : TG} {tt : TT} {te : TE} {σ : St} {H : Hp} {Q : VK} {K : PySem.W.Frag}
theorem comp_range {lo : Int} {n : Nat} (Pv : Nat → List V → Hp → Prop) (h0 : Pv 0 [] H) (hn : n ≤ sizeLine) (hl : ∀ i ys H, Pv i ys H → ys.length ≤ i)
    (hs : ∀ i ys H, i < n → Pv i ys H → g (.int (lo + i)) (blkSt ix σ) H fun σ2 H2 => Ext (blkSt ix σ) σ2 ∧ tt σ2 H2 fun ok H3 => if ok = true then te σ2 H3 fun y H4 => Pv (i + 1) (ys ++ [y]) H4 else Pv (i + 1) ys H3)
    (hd : ∀ ys H, Pv n ys H → ∀ p, H p = none → Q (.ref p) (upd H p (.lst ys))) : CompGo (Itr lo n) ix g tt te σ H Q := by
  refine ⟨fun i m ys H => m = n - i ∧ i ≤ n ∧ Pv i ys H, ⟨n, by simp, Nat.zero_le _, h0⟩, ?_⟩
  rintro i m ys H ⟨rfl, hi, p⟩
  refine ⟨Nat.le_trans (hl _ _ _ p) (Nat.le_trans hi hn), ?_⟩
  by_cases hlt : i < n
  · refine .inr ⟨hlt, Pv (i + 1), fun ys' H' p' => ⟨n - (i + 1), by omega, rfl, hlt, p'⟩, fun x H' y => ?_⟩
    obtain ⟨e, y⟩ := y
    subst e y
    exact hs i ys _ hlt p
  · have e : i = n := by omega
    subst e
    exact .inl ⟨Nat.le_refl _, hd ys H p⟩
theorem comp_list {a : Addr} {xs : List V} (Pv : Nat → List V → Hp → Prop) (h0 : Pv 0 [] H) (hn : xs.length ≤ sizeLine) (hl : ∀ i ys H, Pv i ys H → ys.length ≤ i) (hx : ∀ i ys H, Pv i ys H → SqL K H a xs)
    (hs : ∀ i x ys H, xs[i]? = some x → Pv i ys H → g x (blkSt ix σ) H fun σ2 H2 => Ext (blkSt ix σ) σ2 ∧ tt σ2 H2 fun ok H3 => if ok = true then te σ2 H3 fun y H4 => Pv (i + 1) (ys ++ [y]) H4 else Pv (i + 1) ys H3)
    (hd : ∀ ys H, Pv xs.length ys H → ∀ p, H p = none → Q (.ref p) (upd H p (.lst ys))) : CompGo (Itl K a) ix g tt te σ H Q := by
  refine ⟨fun i m ys H => m = xs.length - i ∧ i ≤ xs.length ∧ Pv i ys H, ⟨xs.length, by simp, Nat.zero_le _, h0⟩, ?_⟩
  rintro i m ys H ⟨rfl, hi, p⟩
  have q := hx i ys H p
  refine ⟨Nat.le_trans (hl _ _ _ p) (Nat.le_trans hi hn), ?_⟩
  by_cases hlt : i < xs.length
  · refine .inr ⟨⟨xs, xs[i], q, by simp [hlt]⟩, Pv (i + 1), fun ys' H' p' => ⟨xs.length - (i + 1), by omega, rfl, hlt, p'⟩, fun x H' y => ?_⟩
    obtain ⟨e, y⟩ := y
    subst e
    exact hs i x ys _ (y xs q) p
  · have e : i = xs.length := by omega
    subst e
    exact .inl ⟨⟨xs, q, Nat.le_refl _⟩, hd ys H p⟩
/-- [te for k in range(n)]: a value for each k, the heap stays -/
theorem comp_range_map {lo : Int} {n : Nat} (f : Nat → V) (hn : n ≤ sizeLine)
    (hs : ∀ i (R : VK), i < n → R (f i) H → Ext (blkSt ix σ) ((blkSt ix σ).set 0 (some (.int (lo + i)))) ∧ te ((blkSt ix σ).set 0 (some (.int (lo + i)))) H R)
    (hd : ∀ p, H p = none → Q (.ref p) (upd H p (.lst ((List.range n).map f)))) : CompGo (Itr lo n) ix (gName 0) tTrue te σ H Q := by
  refine comp_range (fun i ys H' => H' = H ∧ ys = (List.range i).map f) ⟨rfl, rfl⟩ hn (fun i ys H' ⟨_, e⟩ => by rw [e]; simp) ?_ (fun ys H' ⟨e1, e2⟩ p hp => by subst e1 e2; exact hd p hp)
  rintro i ys H' hi ⟨rfl, rfl⟩
  obtain ⟨h1, h2⟩ := hs i (fun y H4 => H4 = H' ∧ (List.range i).map f ++ [y] = (List.range (i + 1)).map f) hi ⟨rfl, by rw [List.range_succ, List.map_append]; rfl⟩
  exact ⟨h1, h2⟩
/-- [te for x in xs] -/
theorem comp_list_map {a : Addr} {xs : List V} (f : V → V) (hn : xs.length ≤ sizeLine) (hx : SqL K H a xs)
    (hs : ∀ x (R : VK), x ∈ xs → R (f x) H → Ext (blkSt ix σ) ((blkSt ix σ).set 0 (some x)) ∧ te ((blkSt ix σ).set 0 (some x)) H R)
    (hd : ∀ p, H p = none → Q (.ref p) (upd H p (.lst (xs.map f)))) : CompGo (Itl K a) ix (gName 0) tTrue te σ H Q := by
  refine comp_list (K := K) (a := a) (xs := xs) (fun i ys H' => H' = H ∧ ys = (xs.take i).map f) ⟨rfl, rfl⟩ hn (fun i ys H' ⟨_, e⟩ => by rw [e, List.length_map, List.length_take]; omega) (fun i ys H' ⟨e, _⟩ => by subst e; exact hx) ?_ (fun ys H' ⟨e1, e2⟩ p hp => by subst e1 e2; rw [List.take_length]; exact hd p hp)
  rintro i x ys H' hi ⟨rfl, rfl⟩
  obtain ⟨h1, h2⟩ := hs x (fun y H4 => H4 = H' ∧ (xs.take i).map f ++ [y] = (xs.take (i + 1)).map f) (List.mem_of_getElem? hi) ⟨rfl, by rw [List.take_add_one, hi, List.map_append]; rfl⟩
  exact ⟨h1, h2⟩
end
/-! ### places and slices -/
theorem atI_some {α : Type} {xs : List α} {i : Int} {v : α} (h0 : 0 ≤ i) (h : xs[i.toNat]? = some v) : atI xs i = some v := by
  have e : i = ((i.toNat : Nat) : Int) := by omega
  rw [e]
  exact atI_nat h
end L2

/-! ### the rules with K written (in a comprehension's block) -/
namespace L2
open PySem PySem.Spec PyProof.Rows
section
variable {X : Cx} {K : PySem.W.Frag} {tg l : Expr} {tl : TE} {pos : Pos} {es : List Expr} {t : TGs} {n : Nat}
variable {o e : Expr} {to : TE} {ta : TA} {name : Str} {apos cpos : Pos} {T id : String} {r : V → List V → Hp → VK → Prop}
end
end L2

namespace Bt
open PySem
theorem len : bootBuiltins "len" = some (.builtin "len") := by decide +kernel
theorem max : bootBuiltins "max" = some (.builtin "max") := by decide +kernel
theorem min : bootBuiltins "min" = some (.builtin "min") := by decide +kernel
theorem sum : bootBuiltins "sum" = some (.builtin "sum") := by decide +kernel
theorem sorted : bootBuiltins "sorted" = some (.builtin "sorted") := by decide +kernel
theorem any : bootBuiltins "any" = some (.builtin "any") := by decide +kernel
theorem all : bootBuiltins "all" = some (.builtin "all") := by decide +kernel
theorem isinstance : bootBuiltins "isinstance" = some (.builtin "isinstance") := by decide +kernel
theorem abs : bootBuiltins "abs" = some (.builtin "abs") := by decide +kernel
theorem int : bootBuiltins "int" = some (.type "int") := by decide +kernel
theorem str : bootBuiltins "str" = some (.type "str") := by decide +kernel
theorem bool : bootBuiltins "bool" = some (.type "bool") := by decide +kernel
theorem list : bootBuiltins "list" = some (.type "list") := by decide +kernel
theorem tuple : bootBuiltins "tuple" = some (.type "tuple") := by decide +kernel
theorem dict : bootBuiltins "dict" = some (.type "dict") := by decide +kernel
theorem range : bootBuiltins "range" = some (.type "range") := by decide +kernel
theorem zip : bootBuiltins "zip" = some (.type "zip") := by decide +kernel
theorem enumerate : bootBuiltins "enumerate" = some (.type "enumerate") := by decide +kernel
end Bt

/-! ### the rules whose looks at names the kernel alone checks -/
namespace L2
open PySem PySem.Spec PyProof.Rows
section
variable {X : Cx} {CX : CXT} {k : Nat} {f C : Addr} {fd : FuncData} {ps : List Str} {sp : Sp} {dvs : List V} {ds : List Value} {E : XK} {x m : Str} {p pos apos pos' : Pos} {e o : Expr} {es : List Expr} {ta te : TE} {t : TA} {id T : String} {r : List V → Hp → VK → Prop}
/-- a name of the frame's own -/
theorem pvl (i : Nat) (hN : X.N[i]? = some x := by kernel_rfl) (hv : X.env.scope.names.lookup x = some .local := by kernel_rfl) (hd : (x == ("__debug__" : Str)) = false := by kernel_rfl) (hcd : (x == ("__classdict__" : Str)) = false := by kernel_rfl) :
    PE X (.Name x pos) (tVar i) := pe_var hN (.inl hv) hd hcd
/-- a name with a cell -/
theorem pvc (i : Nat) (hN : X.N[i]? = some x := by kernel_rfl) (hv : X.env.scope.names.lookup x = some .cell := by kernel_rfl) (hd : (x == ("__debug__" : Str)) = false := by kernel_rfl) (hcd : (x == ("__classdict__" : Str)) = false := by kernel_rfl) :
    PE X (.Name x pos) (tVar i) := pe_var hN (.inr (.inl hv)) hd hcd
theorem pgl (i : Nat) (hN : X.N.Nodup) (hi : X.N[i]? = some x := by kernel_rfl) (hx : X.env.scope.names.lookup x = some .local := by kernel_rfl) : PG X (.Name x pos) (gName i) := pg_name hN hi (.inl hx) (.inr hx)
theorem psl (i : Nat) (hN : X.N.Nodup) (he : PE X e te) (hi : X.N[i]? = some x := by kernel_rfl) (hx : X.env.scope.names.lookup x = some .local := by kernel_rfl) (hs : swapsWith e (some (.Name x pos')) pos.line X.env = pure false := by rfl) :
    PS X (.Assign [.Name x pos'] e pos) (tAsg te (gName i)) := ps_set hN hi (.inl hx) he hs (.inr hx)
theorem psc (i : Nat) (hN : X.N.Nodup) (he : PE X e te) (hi : X.N[i]? = some x := by kernel_rfl) (hx : X.env.scope.names.lookup x = some .cell := by kernel_rfl) (hf : X.fn x = true := by kernel_rfl) (hs : swapsWith e (some (.Name x pos')) pos.line X.env = pure false := by kernel_rfl) :
    PS X (.Assign [.Name x pos'] e pos) (tAsg te (gName i)) := ps_set hN hi (.inr hx) he hs (.inl hf)
theorem pcall (F : FnOk X.prog X.w X.K X.mg X.base CX k f fd ps sp) (hr : Room k X.A) (hm : X.mg x = some (.ref f)) (hk : PySem.W.keepIn X.K (.ref f) = true) (hb : Binds X.K fd ps []) (hx : Passes CX X E) (ha : PA X (e :: es) t)
    (hg : X.env.scope.names.lookup x = some .globalImplicit := by kernel_rfl) (hdb : (x == ("__debug__" : Str)) = false := by kernel_rfl) (he : starEach (e :: es) X.env = (false, eval e X.env) :: starEach es X.env := by rfl) (hpl : (backTo pos (starEach es X.env)).any (·.1) = false := by rfl) :
    PE X (.Call (.Name x p) (e :: es) [] pos) (tCall sp [] E t) := pe_call F hr hg hm hk hb .nil hx ha hdb he hpl
theorem pcallB (hc : CallR X (.builtin id) r) (hm : X.mg x = none) (hv : bootBuiltins x = some (.builtin id)) (ha : PA X (e :: es) t) (hg : X.env.scope.names.lookup x = some .globalImplicit := by kernel_rfl) (hn : (x == ("__name__" : Str)) = false := by kernel_rfl) (hdb : (x == ("__debug__" : Str)) = false := by kernel_rfl)
    (he : starEach (e :: es) X.env = (false, eval e X.env) :: starEach es X.env := by rfl) (hpl : (backTo pos (starEach es X.env)).any (·.1) = false := by rfl) : PE X (.Call (.Name x p) (e :: es) [] pos) (tCB r t) := pe_callB hc hg hm hv ha (by simpa using hn) hdb he hpl
theorem pcallT (hc : CallR X (.type T) r) (hm : X.mg x = none) (hv : bootBuiltins x = some (.type T)) (ha : PA X (e :: es) t) (hg : X.env.scope.names.lookup x = some .globalImplicit := by kernel_rfl) (hn : (x == ("__name__" : Str)) = false := by kernel_rfl) (hdb : (x == ("__debug__" : Str)) = false := by kernel_rfl)
    (he : starEach (e :: es) X.env = (false, eval e X.env) :: starEach es X.env := by rfl) (hpl : (backTo pos (starEach es X.env)).any (·.1) = false := by rfl) : PE X (.Call (.Name x p) (e :: es) [] pos) (tCB r t) := pe_callTy hc hg hm hv ha (by simpa using hn) hdb he hpl
theorem pbltn {v : V} {u : Value} (hm : X.mg x = none) (hv : bootBuiltins x = some u) (hr : RelV v u) (hg : X.env.scope.names.lookup x = some .globalImplicit := by kernel_rfl) (hn : (x == ("__name__" : Str)) = false := by kernel_rfl) (hdb : (x == ("__debug__" : Str)) = false := by kernel_rfl) :
    PE X (.Name x pos) (tC v) := pe_bltn hg hm hv hr (by simpa using hn) hdb
theorem prange1 {tg a : Expr} (hm : X.mg "range" = none) (ha : PA X [a] t) (hg : X.env.scope.names.lookup ("range" : Str) = some .globalImplicit := by kernel_rfl) (hs : starEach [a] X.env = [(false, eval a X.env)] := by rfl) : PI X tg (.Call (.Name "range" p) [a] [] pos) (iRng1 t) := pi_range1 hg hm ha hs
end
end L2

/-! ### exceptions of own classes: raised, passed on -/
namespace L2
open PySem PySem.Spec PyProof.Rows
/-- an exception of the class at C flies out of a call: s, H ahead of it, s', H' behind it -/
structure Fly (P : Program) (w : World) (outer : List Env) (H H' : Hp) (s s' : Shared) (a C : Addr) : Prop where
  os : s'.os = s.os
  bare : AllBare s'.gens
  un : Un (frs outer) [] H H' s.heap s'.heap
  hok : HOk P w H' s'.heap
  free : H' a = none
  fl : ∃ (B : Heap) (a0 : Value), Heap.FlyingW B outer a (.ref C) a0 s'.heap ∧ (∀ b o, s.heap.get? b = some o → H b = none → b ∉ frs outer → B.get? b = some o) ∧ (∀ b o, s.heap.get? b = some o → b ∉ frs outer → ∃ o', B.get? b = some o') ∧ ∀ b, H' b ≠ none → ∃ o, s'.heap.get? b = some o ∧ B.get? b = some o
/-- how an exception lies behind a call -/
def CX1 (P : Program) (w : World) : CXT := fun outer H s E e s' => ∃ a C H', e = .ref a ∧ Fly P w outer H H' s s' a C ∧ E (.ref C) none H'
section
variable {P : Program} {w : World} {K : PySem.W.Frag} {mg : Str → Option Value} {base : Heap} {N : List Str} {qual : Str} {scope : Scope} {f : Addr} {cd : Value} {A : Around} {outer : List Env} {s : Shared} {H : Hp} {E : XK}
end
end L2

namespace L2
open PySem PySem.Spec PyProof.Rows
section
variable {P : Program} {w : World} {K : PySem.W.Frag} {mg : Str → Option Value} {base : Heap} {N : List Str} {qual : Str} {scope : Scope} {f : Addr} {cd : Value} {A : Around} {outer : List Env} {s : Shared} {H : Hp} {E : XK}
theorem own1 : PassesOwn (model (cxOf (CX1 P w) P w K mg base N qual scope f cd A outer s H E).prog (cxOf (CX1 P w) P w K mg base N qual scope f cd A outer s H E).w) (cxOf (CX1 P w) P w K mg base N qual scope f cd A outer s H E).A (cxOf (CX1 P w) P w K mg base N qual scope f cd A outer s H E).env (cxOf (CX1 P w) P w K mg base N qual scope f cd A outer s H E).xe :=
  PassesOwn.leaving
end
/-- a callee that is shown not to raise -/
theorem never1 {P : Program} {w : World} {X : Cx} : Passes (CX1 P w) X E0 := fun _ _ _ _ _ _ _ ⟨_, _, _, _, _, q⟩ => q.elim
section
variable {P : Program} {w : World} {K : PySem.W.Frag} {mg : Str → Option Value} {base : Heap}
/-- THE RULE for a def that may raise -/
theorem Fun.ok1 {x qual : Str} {st : Stmt} {f : Addr} {fd : FuncData} {N ps : List Str} {k : Nat} {sp : Sp} (F : Fun K x qual st f fd) (S : FnScope N ps (defScope st)) (len : ∀ vs H Q E, sp vs H Q E → vs.length = ps.length)
    (hbody : ∀ (cdv : Value) (A : Around) (outer : List Env) (s : Shared) (H : Hp) (vs : List V) (Q : VK) (E : XK), Room k (A.deeper (envOfC qual (defScope st) s.heap.objs.size f cdv)) → sp vs H Q E →
      ∃ t, PSs (cxOf (CX1 P w) P w K mg base N qual (defScope st) f cdv A outer s H E) (defBody st) t ∧ t { nx := fun _ H' => Q .non H', rt := Q } (start N vs) H) : FnOk P w K mg base (CX1 P w) (k + 1) f fd ps sp := by
  obtain ⟨oc, od, kV, doc, pm, an, cdv, ct, osl, rfl, lk, hcd⟩ := F.ex
  exact fn_of lk hcd S len fun A outer s H vs Q E hr hsp => hbody cdv A outer s H vs Q E hr hsp
end
section
variable {X : Cx} {E : XK} {C : Addr} {x : Str} {np cpos pos : Pos} {e : Expr} {es : List Expr} {t : TA}
end
end L2

/-! ### try: .. except C as n: .. -/
namespace L2
open PySem PySem.Spec PyProof.Rows
/-- an exception out of a callee, ahead of it the state with these locals -/
def XP (X : Cx) (pins : List (Addr × Obj)) (σ : St) (EX : XK) : Value → Shared → Prop := fun e s' => ∃ H1 s1, Inv X pins σ H1 s1 ∧ CX1 X.prog X.w X.stack H1 s1 EX e s'
section
variable {X : Cx} {k : Nat} {f C : Addr} {fd : FuncData} {ps : List Str} {sp : Sp} {dvs : List V} {ds : List Value} {x m : Str} {p pos apos : Pos} {e o : Expr} {es : List Expr} {ta : TE} {t : TA}
end
/-- a class of exceptions of one's own: the mro behind it -/
def ecls (K : PySem.W.Frag) (C : Addr) : Option (List Value) := match K.lookup C with
  | some ⟨.type "type", _, .cls cd, sl⟩ => (match cd.mro, sl.toList with
    | .ref C' :: bm, [_, _, _, _, some (.builtin _), _] => if (C' == C && !cd.hasDel) = true then some bm else none
    | _, _ => none)
  | _ => none
/-- the class at C is one of the class at M's -/
def under (K : PySem.W.Frag) (C M : Addr) : Bool := (ecls K C).any fun bm => (Value.ref C :: bm).contains (.ref M)
section
variable {M : Model} {A : Around} {E : Value → Shared → Prop}
variable {nm q nm' q' : Str} {C N C' N' : Addr} {bs bm bs' bm' : List Value} {hdct hdct' : Bool} {sn sn' : List Str} {sub sub' : List Value} {ab ab' : Bool} {col col' : Option Bool} {dd dd' : Option Addr} {k0 k1 k2 k3 k5 j0 j1 j2 j3 j5 : Option Value} {newId newId' : String}
end
end L2

namespace L2
open PySem PySem.Spec PyProof.Rows
/-- within the handler of the exception at e -/
abbrev Cx.caught (X : Cx) (e : Addr) : Cx := { X with A := X.A.mark (some (.ref e)), calm := false, xe := fun _ _ => False }
theorem Cx.Ok.caught {X : Cx} (ok : X.Ok) (e : Addr) : (X.caught e).Ok :=
  ⟨ok.mod, ok.kind, ok.glob, ok.blt, ok.above, ok.inj, ok.has, ok.cab, (fun z => by cases z), ok.frames, ok.stk, ok.exf, ok.bs, ok.bsz, ok.noex, ok.exfs, ok.funs, ok.frf⟩
section
variable {X : Cx} {pins : List (Addr × Obj)} {σ : St} {H : Hp} {s : Shared}
theorem Inv.caught (I : Inv X pins σ H s) (e : Addr) : Inv (X.caught e) pins σ H s := ⟨I.ok.caught e, I.os, I.bare, I.base, I.loc, I.cell, I.free, I.freeC, I.pin, I.hok, I.len⟩
end
section
variable {X : Cx} {pins : List (Addr × Obj)} {σ : St} {H : Hp} {s : Shared}
end
end L2

/-! ### the class of a caught exception -/
namespace L2
open PySem PySem.Spec PyProof.Rows PySem.W
section
open PySem.Builtin PySem.Builtin.ObjectAttr PySem.Builtin.Getset_descriptor
variable {prog : Program} {w : World} {A : Around} {E : Value → Shared → Prop} {s : Shared} {K : PySem.W.Frag} {x C : Addr} {R : Result → Shared → Prop} {ox : Obj}
variable (hg : PySem.W.findIn K (.ref C) "__getattribute__" = some (some (.builtin "BaseException.__getattribute__"))) (hh : PySem.W.findIn K (.ref C) "__getattr__" = some none)
  (ha : PySem.W.findIn K (.ref C) "__class__" = some (some (.builtin "object.__class__")))
  (hn : PySem.W.specialIn K (.builtin "object.__class__") "__get__" = some (some (.builtin "getset_descriptor.__get__"))) (ht : PySem.W.takesIn K (.builtin "object.__class__") = some true)
  (hm : PySem.W.mroIn K C (.type "object") = some true) (hB : PySem.W.mroIn K C (.type "BaseException") = some true)
include hg hh ha hn ht hm hB
end
section
variable {X : Cx} {pins : List (Addr × Obj)} {σ : St} {H : Hp} {s : Shared} {A : Around} {E : Value → Shared → Prop} {Q : Value → Shared → Prop} {c : Value} {b : Bool}
end
end L2

namespace L2
open PySem PySem.Spec PyProof.Rows
section
variable {X : Cx}
/-! ### min of a list of ints -/
/-! ### sum of a list of small ints -/
/-! ### list.index, tuple.index -/
theorem idx_eqU {x : V} {xs : List V} {us : List Value} (r : Vals xs us) (f : xs.all flatV = true) {j : Nat} {u : Value} (e : us[j]? = some u) : eqU x u = eqV (xs.getD j .non) x := by
  induction r generalizing j with
  | nil => simp at e
  | @cons y v ys vs rv t ih =>
    rw [List.all_cons, Bool.and_eq_true] at f
    cases j with
    | zero => simp at e; subst e; simpa using eqU_of rv f.1
    | succ j => simpa using ih f.2 (by simpa using e)
theorem wpAny_rng {β : Type} {M : Model} {A : Around} {E : Value → Shared → Prop} {s : Shared} {Q : β → Shared → Prop} (f : Nat → β → Sem (ForInStep β)) (n : Nat) (J : Nat → β → Shared → Prop) (b : β)
    (turn : ∀ i b s, i < n → J i b s → wpAny M A (f i b) (fun r s' => match r with | .yield b' => J (i + 1) b' s' | .done b' => Q b' s') E s) (fin : ∀ b s, J n b s → Q b s) (h : J 0 b s) : wpAny M A (forIn [:n] b f) Q E s := by
  rw [Std.Legacy.Range.forIn_eq_forIn_range']
  have key : ∀ (k i : Nat) (b : β) (s : Shared), i + k = n → J i b s → wpAny M A (forIn (List.range' i k 1) b f) Q E s := by
    intro k
    induction k with
    | zero => intro i b s e hj; rw [List.range'_zero, List.forIn_nil]; obtain rfl : i = n := by omega
              exact wpAny_pure (fin _ _ hj)
    | succ k ih =>
      intro i b s e hj
      rw [List.range'_succ, List.forIn_cons]
      refine wpAny_bind (wpAny_mono (turn i b s (by omega) hj) (fun r s' hr => ?_) fun _ _ z => z)
      cases r with
      | done b' => exact wpAny_pure hr
      | yield b' => exact ih (i + 1) b' s' (by omega) hr
  have e : (Std.Legacy.Range.size [:n]) = n := by simp [Std.Legacy.Range.size]
  rw [e]
  exact key n 0 b s (by omega) h
theorem tuple_ixAt (l : Addr) (items : Array Value) (n : Nat) (dd : Option Addr) (sl : Array (Option Value)) (x : Value) (e : Value → Bool) (j : Nat) (hj : j < items.size)
    (hit : e items[j] = true) (hno : ∀ m (hm : m < items.size), m < j → e items[m] = false) :
    Meets (Builtin.«tuple.index» ⟨[.ref l, x], []⟩)
      (fun A R s => s.heap.get? l = some { cls := .type "tuple", dict := dd, data := .seq items n, slots := sl } ∧ (∀ y, y ∈ items → SeqAt.EqAt A.in1 s y x (e y)) ∧ R (.ok (.ret (.int j s.toks))) { s with toks := s.toks + 1 }) :=
  .of_wp fun prog w A R s h => by
    obtain ⟨hp, g, d, tk, os⟩ := s; obtain ⟨hl, he, h⟩ := h
    wp_walk using wpAny_loadPart' hl
    show wpAny _ _ (forIn [:min items.size items.size] _ _) _ _ _
    rw [Nat.min_self]
    refine wpAny_rng _ _ (fun i b s' => b.1 = none ∧ i ≤ j ∧ s' = ⟨hp, g, d, tk, os⟩) _ (fun i b s' hi ⟨hb, hij, hs⟩ => ?_) (fun b s' ⟨_, hij, _⟩ => absurd hj (by omega)) ⟨rfl, Nat.zero_le _, rfl⟩
    subst hs
    have hi' : items[i]? = some items[i] := Array.getElem?_eq_getElem hi
    simp only [hi']
    refine wpAny_bind (he _ (Array.getElem_mem hi) prog w _ _ ?_)
    by_cases hij' : i = j
    · subst hij'
      rw [hit]
      wp_walk
      exact ⟨_, rfl, h⟩
    · rw [hno i hi (by omega)]
      wp_walk
      exact ⟨rfl, by omega, rfl⟩
def rIndexT (K : PySem.W.Frag) : V → List V → Hp → VK → Prop := fun y vs H Q => ∃ (p : Addr) (xs : List V) (x : V) (j : Nat), y = .ref p ∧ vs = [x] ∧ SqT K H p xs ∧ flatV x = true ∧ xs.all flatV = true ∧ j < xs.length ∧ eqV (xs.getD j .non) x = true ∧ (∀ m, m < j → eqV (xs.getD m .non) x = false) ∧ Q (.int j) H
theorem mt_indexT : MtR X "tuple.index" (rIndexT X.K) := by
  intro pins s σ H y vs v us Q I ry r h
  obtain ⟨p, xs, x, j, rfl, rfl, hp, fx, fs, hj, hit, hno, q⟩ := h
  cases ry
  obtain ⟨u, rfl, ru⟩ := vals1 r
  obtain ⟨its, rv, pl, hz⟩ := I.tuple hp
  obtain ⟨⟨cls, dd, data, sl⟩, ho, hc, n, hd⟩ := pl
  simp only at hc hd
  subst hc hd
  have hlen := rv.length
  refine call_meets PySem.F.slot_tuple_index ⟨_, ho, rfl⟩ PySem.F.entry_tuple_index (PySem.F.args_tuple_index_2 _ _)
    (tuple_ixAt p its.toArray n dd sl u (eqU x) j (by simpa [hlen] using hj) ?_ ?_) ⟨ho, fun y hy => mem_eqAt ru fx rv fs y (by simpa using hy), ⟨.int j, H, I.tok _, ⟨_, rfl⟩, q⟩⟩
  · rw [idx_eqU (x := x) rv fs (j := j) (by simp)]; exact hit
  · intro m hm hlt
    rw [idx_eqU (x := x) rv fs (j := m) (by simp)]; exact hno m hlt
end
end L2

/-! ### for i, x in enumerate(list) -/
namespace L2
open PySem PySem.Spec PyProof.Rows
end L2

/-! ### for c in text -/
namespace L2
open PySem PySem.Spec PyProof.Rows
/-! ### the loops' and the comprehensions' ends -/
section
variable {K : PySem.W.Frag} {g : TG} {tb : TS} {D : Ends} {σ : St} {H : Hp} {ix : List (Option Nat)} {tt : TT} {te : TE} {Q : VK}
end
end L2

/-! ### f-strings of two parts -/
namespace L2
open PySem PySem.Spec PyProof.Rows
section
variable {X : Cx} {e a b : Expr} {te ta tb : TE} {pos : Pos}
end
end L2

/-! ### a module's dict of texts and ints: read alone -/
namespace L2
open PySem PySem.Spec PyProof.Rows
/-- the dict that the module has written at a -/
def MdK (P : Program) (w : World) (K : PySem.W.Frag) (a : Addr) (kvs : List (Key × V)) : Prop :=
  (a == sysModules) = false ∧ ∃ o es ep vs, K.lookup a = some o ∧ o.ExactDict ∧ o.data = .dict es ep ∧ KeysOf (mixKind P w) es ∧ Pairs (mixKind P w) es.toList vs ∧ (vs.map (·.1)).Nodup ∧ KV kvs vs
section
variable {X : Cx} {pins : List (Addr × Obj)} {σ : St} {H : Hp} {s : Shared} {a : Addr} {kvs : List (Key × V)} {o i : Expr} {td ty : TE} {pos : Pos}
theorem MdK.at (M : MdK X.prog X.w X.K a kvs) (I : Inv X pins σ H s) : ∃ vs, KV kvs vs ∧ s.heap.DictOf (mixKind X.prog X.w) a vs := by
  obtain ⟨_, o, es, ep, vs, h1, h2, h3, h4, h5, h6, h7⟩ := M
  exact ⟨vs, h7, o, es, ep, I.kIn a o h1, h2, h3, h4, h5, h6⟩
end
/-- a dict as the module has written it: its entries, one by one -/
def MdE (w : World) : List DictEntry → List (Key × V) → Prop
  | e :: es, (.inr x, v) :: r => e.hash = hashStr w x ∧ (∃ t, e.key = .str x t) ∧ RelV v e.val ∧ MdE w es r
  | e :: es, (.inl i, v) :: r => e.hash = hashInt i ∧ (∃ t, e.key = .int i t) ∧ RelV v e.val ∧ MdE w es r
  | [], [] => True
  | _, _ => False
theorem MdE.out {P : Program} {w : World} : ∀ {es : List DictEntry} {kvs : List (Key × V)}, MdE w es kvs → ∃ vs, (∀ e ∈ es, ∃ k, (mixKind P w).is k e.key = true ∧ e.hash = (mixKind P w).hash k) ∧ Pairs (mixKind P w) es vs ∧ vs.map (·.1) = kvs.map (·.1) ∧ KV kvs vs
  | [], [], _ => ⟨[], (fun _ z => nomatch z), .nil, rfl, .nil⟩
  | e :: es, (.inr x, v) :: r, ⟨h1, ⟨t, h2⟩, h3, h4⟩ => by
    obtain ⟨vs, a1, a2, a3, a4⟩ := MdE.out (P := P) h4
    have q : (mixKind P w).is (.inr x) e.key = true := by rw [h2]; exact mixKind_str P w x t
    refine ⟨(.inr x, e.val) :: vs, fun e' he => ?_, .cons q rfl a2, by simp [a3], .cons ⟨rfl, h3⟩ a4⟩
    rcases List.mem_cons.mp he with rfl | he
    · exact ⟨.inr x, q, h1⟩
    · exact a1 e' he
  | e :: es, (.inl i, v) :: r, ⟨h1, ⟨t, h2⟩, h3, h4⟩ => by
    obtain ⟨vs, a1, a2, a3, a4⟩ := MdE.out (P := P) h4
    have q : (mixKind P w).is (.inl i) e.key = true := by rw [h2]; exact mixKind_int P w i t
    refine ⟨(.inl i, e.val) :: vs, fun e' he => ?_, .cons q rfl a2, by simp [a3], .cons ⟨rfl, h3⟩ a4⟩
    rcases List.mem_cons.mp he with rfl | he
    · exact ⟨.inl i, q, h1⟩
    · exact a1 e' he
end L2

/-! ### texts compared; short words for calls in programs with refusals -/
namespace L2
open PySem PySem.Spec PyProof.Rows
section
variable {X : Cx}
end
namespace Bt
end Bt
section
variable {X : Cx} {CX : CXT} {k : Nat} {f C : Addr} {fd : FuncData} {ps : List Str} {sp : Sp} {E : XK} {x m : Str} {p pos apos : Pos} {e o : Expr} {es : List Expr} {ta : TE} {t : TA}
end
/-- the walk of a law whose defs may raise -/
theorem walk_ofX {l : PySem.W.OpenLaw} {n k : Nat} {q : Program} {loose : List Str} {XP : (Str → Option Value) → Heap → Prop} {YP : World → Heap → Prop} {d : DefRec} {K : Params → PySem.W.Frag} {sp : PySem.W.Frag → Sp} {x : Str}
    (hn : l.most = some n) (hn2 : n ≤ sizeLine) (hdf : d.params.defaults = []) (hr : Room k callerA)
    (hY : ∀ (w : World) (h : Heap), YP w h → (K w.params).In h)
    (F : ∀ (w : World) (mg : Str → Option Value) (fa : Addr) (h : Heap), (K w.params).In h → h.Ns mainGlobals mg → mg d.name = some (.ref fa) →
      ∃ fd : FuncData, (∀ (s : Shared) (u : Value), BindsTo s fd ⟨[u], []⟩ [(x, u)]) ∧
        ∀ base : Heap, (K w.params).In base → base.Ns mainGlobals mg → FnOk l.prog w (K w.params) mg base (CX1 l.prog w) k fa fd [x] (sp (K w.params)))
    (hsp : ∀ (K : PySem.W.Frag) (H : Hp) (a : Addr) (ns : List Int), ns.length ≤ n → Only H → SqL K H a (ns.map V.int) → sp K [.ref a] H (fun v _ => v = .bl true) fun _ _ _ => False) :
    PySem.W.WalkO q loose XP YP l.row.toRowW d [] (fun f vs => PySem.call f vs) :=
  walk_of (K := K) (CX := fun w => CX1 l.prog w) (sp := fun w => sp (K w.params)) hn hn2 hdf hr hY F (fun w H a ns h1 h2 h3 => hsp (K w.params) H a ns h1 h2 h3) fun _ _ _ _ _ ⟨_, _, _, _, _, z⟩ => z
end L2

/-! ### f-strings of three parts, plain fields -/
namespace L2
open PySem PySem.Spec PyProof.Rows
section
variable {X : Cx} {e a b c : Expr} {te ta tb tc : TE} {pos : Pos}
end
end L2

/-! ### sum of ints of any size -/
namespace L2
open PySem PySem.Spec PyProof.Rows
section
variable {X : Cx}
end
end L2
/-! ### enumerate(tuple) -/
namespace PySem
open AutoSeq1 (wpAny_loadPart')
section
variable {P : Program} {w : World} {A : Around} {E : Value → Shared → Prop} {z : Shared}
end
theorem Heap.IsTuple.on {h h' : Heap} {c0 : Addr} {its : Array Value} (y : h.IsTuple c0 its) (k : ∀ o, h.get? c0 = some o → h'.get? c0 = some o) : h'.IsTuple c0 its := let ⟨o, e, r⟩ := y; ⟨o, k o e, r⟩
theorem Heap.IsTupleIter.on {h h' : Heap} {it c0 : Addr} {i : Nat} (y : h.IsTupleIter it c0 i) (k : ∀ o, h.get? it = some o → h'.get? it = some o) : h'.IsTupleIter it c0 i := let ⟨o, e, r⟩ := y; ⟨o, k o e, r⟩
end PySem
namespace L2
open PySem PySem.Spec PyProof.Rows
section
variable {X : Cx} {elts : List Expr} {x1 : Nat} {pt p cpos : Pos} {l : Expr} {tl : TE}
end
section
variable {K : PySem.W.Frag} {g : TG} {tb : TS} {D : Ends} {σ : St} {H : Hp} {ix : List (Option Nat)} {tt : TT} {te : TE} {Q : VK}
end
end L2

/-! ### t[a:b], also the whole -/
namespace HT
open PySem PySem.Spec PyProof.Rows
section
variable {P : Program} {w : World} {A : Around} {E : Value → Shared → Prop} {z : Shared}
end
end HT
namespace L2
open PySem PySem.Spec PyProof.Rows
section
variable {X : Cx}
/-- the whole slice -/
def Whole (n : Nat) (lo hi : Option Int) : Prop := HT.sIx n 0 lo = 0 ∧ HT.sIx n n hi = n
instance (n : Nat) (lo hi : Option Int) : Decidable (Whole n lo hi) := by unfold Whole; infer_instance
/-! ### t.m(..) of a tuple that was made -/
def tBMT (r : V → List V → Hp → VK → Prop) (to : TE) (t : TA) : TE := fun σ H Q => to σ H fun x H1 => ∃ p ys, x = .ref p ∧ H1 p = some (.tup ys) ∧ t σ H1 fun xs H2 => r x xs H2 Q
variable {o e : Expr} {es : List Expr} {to : TE} {t : TA} {name : Str} {apos cpos : Pos} {id : String} {r : V → List V → Hp → VK → Prop}
theorem pe_bmT (slot : Slot "tuple" name id) (hty : typeOf (.builtin id) = pure (.type "method_descriptor")) (hm : MtR X id r) (ho : PE X o to) (ha : PA X (e :: es) t) (hbase : attributeBase o name X.env (eval o X.env) = eval o X.env := by rfl)
    (hfew : ((backTo cpos (starEach (e :: es) X.env)).all (fun x => !x.1) && (backToKw cpos (keywordEach [] X.env)).all (fun x => x.1.isSome) && decide ((e :: es).length + ([] : List Keyword).length + (if ([] : List Keyword).isEmpty then 0 else 1) < 30)) = true := by rfl)
    (hline : (apos.endLine == cpos.line) = true := by rfl) (hs : starEach (e :: es) X.env = (false, eval e X.env) :: starEach es X.env := by rfl) (hplain : (backTo cpos (starEach es X.env)).any (·.1) = false := by rfl) :
    PE X (.Call (.Attribute o name apos) (e :: es) [] cpos) (tBMT r to t) := by
  intro pins s σ H Q I h
  refine wpAny_Call_method_late hbase hfew hline rfl (thn (ho pins s σ H _ I h) fun v s1 ⟨x, H1, I1, r1, p, ys, ex, hp, q1⟩ => ?_)
  subst ex
  have ev : v = Value.ref p := r1
  subst ev
  obtain ⟨_, its, _, ob, e1, c1, n, d1⟩ := (show ObjOk X.prog X.w H1 s1.heap p (.tup ys) from I1.hok p _ hp)
  refine ⟨"tuple", id, PySem.F.plainAttrs_tuple, slot, hty, ⟨ob, e1, c1⟩, fun a ea => ?_, ?_⟩
  · cases ea
    exact ⟨ob, e1, congrArg Prod.snd d1⟩
  have hA := ha cpos pins s1 σ H1 _ I1 q1
  rw [hs] at hA ⊢
  refine Calls.callWith_builtin (by show (false || (backTo cpos (starEach es X.env)).any (·.1)) = false; rw [hplain] <;> rfl) (Calls.evalArgs_plain ?_)
  exact thn hA fun us s2 ⟨vs, H2, I2, r2, q2⟩ => hm pins s2 σ H2 _ vs _ us Q I2 r1 r2 q2
end
end L2

/-! ### min(list, default=d) -/
namespace PySem
section
variable {P0 : Program} {w : World} {A : Around} {R : Result → Shared → Prop} {I : Addr} {fp wr : List Addr} {n : Nat} {P : Nat → Value → Prop} {St : Nat → Heap → Prop}
end
section
variable {P0 : Program} {w : World} {A : Around} {E : Value → Shared → Prop} {z : Shared} {l : Addr} {xs : Array (Int × Tok)}
end
end PySem
namespace L2
open PySem PySem.Spec PyProof.Rows
/-- a text times an int -/
theorem op_mul_str {X : Cx} : OpR X (binaryOp .Mult) (fun x y H Q => ∃ z n, x = .str z ∧ y = .int n ∧ z.length ≤ 1000 ∧ -1000 ≤ n ∧ n ≤ 1000 ∧ Q (.str (Txt.mul z n)) H) := by
  intro pins s σ H x y v u Q I rx ry h
  obtain ⟨z, n, rfl, rfl, hz, h1, h2, q⟩ := h
  obtain ⟨t, rfl⟩ := rx
  obtain ⟨t', rfl⟩ := ry
  exact SB.mul (mulOk_of 1000 1000 hz h2 (by omega) (by decide) (by decide)) fun t' k => ⟨.str _, H, I.tok _, ⟨t', rfl⟩, q⟩
/-- great ints shifted -/
theorem bits_fit {a n : Int} (ha : a.natAbs < 2 ^ 1024) (hn : n ≤ 1000000) : (Builtin.Int.intBits a : Int) + n ≤ 2 ^ 27 := by
  have h : Builtin.Int.intBits a ≤ 1024 := intBits_le ha
  omega
def CShl (i j : Int) : Prop := 0 ≤ j ∧ j ≤ 1000000 ∧ i.natAbs < 2 ^ 1024
theorem op_shlB {X : Cx} : OpR X (binaryOp .LShift) (rI CShl fun i j => .int (i * 2 ^ j.toNat)) := opI fun _ _ _ _ _ _ _ hc q => lshift_int hc.1 (bits_fit hc.2.2 hc.2.1) q
end L2

/-! ### a list of objects beside another one of the same -/
namespace L2
open PySem
variable {X : Cx}
end L2

/-! ### tuples beside one another; a list beside another one of the same objects, == -/
namespace L2
open PySem PyProof.Rows
variable {X : Cx}
end L2

namespace PySem
open Sem (wp)
open Builtin
open AutoSeq1 (wpAny_loadPart')
end PySem
namespace L2
open PySem PyProof.Rows
variable {X : Cx}
end L2

/-! ### two minds beside one another: the same names, ranks of their own -/
namespace L2
open PySem PyProof.Rows
variable {X : Cx}
end L2

/-! ### zip(list, tuple) -/
namespace PySem
open AutoSeq1 (wpAny_loadPart')
section
variable {P : Program} {w : World} {A : Around} {E : Value → Shared → Prop} {z : Shared}
/-- the five records of zip(list, tuple), as they lie one behind the other -/
structure ZipSt (n a b : Nat) (i : Nat) (f : Value) (h : Heap) : Prop where
  out : IsZip h (n + 4) (n + 2) (n + 3) f
  its : IsPair h (n + 2) (.ref n) (.ref (n + 1))
  own : ∃ x y, IsPair h (n + 3) x y
  fst : h.IsListIter n a i
  snd : h.IsTupleIter (n + 1) b i
theorem ZipSt.on {n a b : Nat} {i : Nat} {f : Value} {h h' : Heap} (x : ZipSt n a b i f h) (k : ∀ c : Nat, n ≤ c → c ≤ n + 4 → ∀ o, h.get? c = some o → h'.get? c = some o) : ZipSt n a b i f h' :=
  ⟨k (n + 4) (Nat.le_add_right _ _) (Nat.le_refl _) _ x.out, k (n + 2) (Nat.le_add_right _ _) (Nat.add_le_add_left (by decide) _) _ x.its, let ⟨u, v, q⟩ := x.own; ⟨u, v, k (n + 3) (Nat.le_add_right _ _) (Nat.add_le_add_left (by decide) _) _ q⟩, x.fst.at fun o q => k n (Nat.le_refl _) (Nat.le_add_right _ _) o q, x.snd.on fun o q => k (n + 1) (Nat.le_add_right _ _) (Nat.add_le_add_left (by decide) _) o q⟩
end
end PySem
namespace L2
open PySem PySem.Spec PyProof.Rows
section
variable {K : PySem.W.Frag} {g : TG} {σ : St} {H : Hp} {ix : List (Option Nat)} {tt : TT} {te : TE} {Q : VK}
end
/-! ### great products -/
/-! ### two tuples of texts -/
end L2

/-! ### two lists of the same numbers -/
namespace L2
open PySem PyProof.Rows
variable {X : Cx}
end L2

/-! ### a list turned about, and something put into one -/
namespace L2
open PySem PyProof.Rows
variable {X : Cx}
end L2

/-! ### max of a tuple -/
namespace L2
open PySem PySem.Spec PyProof.Rows
variable {X : Cx}
end L2

namespace L2
open PySem PySem.Spec PyProof.Rows
/-! ### sorted(dict whose keys are ints, reverse=True) -/
/-! ### a list against the empty one -/
/-! ### list(range(n)) -/
end L2

/-! ### (list of ints, list) against (list of ints, []) -/
namespace L2
open PySem PyProof.Rows
variable {X : Cx}
end L2
namespace L2
open PySem PyProof.Rows
variable {X : Cx}
end L2

/-! ### a module's dict whose keys are ints and None -/
namespace L2
open PySem PySem.Spec PyProof.Rows
section
variable {X : Cx} {pins : List (Addr × Obj)} {σ : St} {H : Hp} {s : Shared} {a : Addr} {kvs : List (Option Int × V)} {o i : Expr} {td ty : TE} {pos : Pos}
end
/-! ### two dicts of the same content -/
end L2

namespace Mc
open PySem PySem.Spec PyProof.Rows

/-! ### sentences -/
inductive Op where
  | and | or | thn | same
  deriving DecidableEq
def Op.str : Op → Str
  | .and => "and"
  | .or => "or"
  | .thn => "then"
  | .same => "same"
inductive Tr where
  | nm (x : Str) | yes | no | not (t : Tr) | bin (o : Op) (a b : Tr)
def Tr.tag : Tr → Str
  | .nm _ => "name"
  | .yes => "yes"
  | .no => "no"
  | .not _ => "not"
  | .bin o _ _ => o.str
def Tr.kids : Tr → List Tr
  | .not t => [t]
  | .bin _ a b => [a, b]
  | _ => []
def Tr.depth : Tr → Nat
  | .not t => t.depth + 1
  | .bin _ a b => max a.depth b.depth + 1
  | _ => 1
def Tr.size : Tr → Nat
  | .not t => t.size + 1
  | .bin _ a b => a.size + b.size + 1
  | _ => 1
def Tr.names : Tr → List Str
  | .nm x => [x]
  | .not t => t.names
  | .bin _ a b => a.names ++ b.names
  | _ => []
def Tr.isNm : Tr → Bool
  | .nm _ => true
  | _ => false
theorem Tr.size_pos (t : Tr) : 1 ≤ t.size := by cases t <;> simp [Tr.size]
theorem Tr.depth_pos (t : Tr) : 1 ≤ t.depth := by cases t <;> simp [Tr.depth]
theorem tag_name (t : Tr) : (t.tag = ("name" : Str)) ↔ t.isNm = true := by
  cases t with
  | nm x => simp [Tr.tag, Tr.isNm]
  | yes => simp only [Tr.tag, Tr.isNm]; decide +kernel
  | no => simp only [Tr.tag, Tr.isNm]; decide +kernel
  | not t => simp only [Tr.tag, Tr.isNm]; decide +kernel
  | bin o a b => cases o <;> (simp only [Tr.tag, Tr.isNm, Op.str]; decide +kernel)

/-! ### rows of sentences -/
/-! ### sorted rows of texts -/
end Mc
namespace Mc
open PySem

abbrev Str.l (x : Str) : List Nat := x.cps.toList
theorem str_ext {a b : Str} (h : a.cps.toList = b.cps.toList) : a = b := by
  have e2 : a.cps = b.cps := Array.toList_inj.mp h
  cases a; cases b; exact congrArg Str.mk e2
theorem app_l (a b : Str) : (a ++ b).cps.toList = a.cps.toList ++ b.cps.toList := by
  show (a.cps ++ b.cps).toList = _
  simp
theorem len_l (a : Str) : a.length = a.cps.toList.length := by
  show a.cps.size = _
  simp
/-! ### names -/
abbrev letters : Str := "abcdefghijklmnopqrstuvwxyz"
theorem letters_at (i : Nat) (h : i < 26) : letters.cps.toList[i]? = some (97 + i) := by
  have : ∀ i : _root_.Fin 26, letters.cps.toList[i.val]? = some (97 + i.val) := by decide +kernel
  exact this ⟨i, h⟩
theorem letters_len : letters.length = 26 := by decide +kernel
/-- a name of point 3 -/
structure IsName (y : Str) : Prop where
  pos : 1 ≤ y.cps.toList.length
  le : y.cps.toList.length ≤ 8
  ok : ∀ c ∈ y.cps.toList, 97 ≤ c ∧ c ≤ 122
end Mc
/-! ### sentences in the heap -/
namespace Mc
open PySem PySem.Spec PyProof.Rows L2

inductive TrAt (H : Hp) : V → Tr → Prop where
  | nm {a : Addr} {x : Str} : H a = some (.tup [.str "name", .str x]) → TrAt H (.ref a) (.nm x)
  | yes {a : Addr} : H a = some (.tup [.str "yes"]) → TrAt H (.ref a) .yes
  | no {a : Addr} : H a = some (.tup [.str "no"]) → TrAt H (.ref a) .no
  | not {a : Addr} {v : V} {t : Tr} : H a = some (.tup [.str "not", v]) → TrAt H v t → TrAt H (.ref a) (.not t)
  | bin {a : Addr} {o : Op} {v u : V} {t t' : Tr} : H a = some (.tup [.str o.str, v, u]) → TrAt H v t → TrAt H u t' → TrAt H (.ref a) (.bin o t t')
/-- the tuples stay -/
def Tups (H H' : Hp) : Prop := ∀ b xs, H b = some (.tup xs) → H' b = some (.tup xs)
theorem Tups.refl (H : Hp) : Tups H H := fun _ _ h => h
theorem Tups.trans {H H1 H2 : Hp} (a : Tups H H1) (b : Tups H1 H2) : Tups H H2 := fun c o h => b c o (a c o h)
theorem _root_.L2.Same.tups {H H' : Hp} (s : Same H H') : Tups H H' := fun b xs h => s b _ h
theorem TrAt.mono {H H' : Hp} (k : Tups H H') {v : V} {t : Tr} (h : TrAt H v t) : TrAt H' v t := by
  induction h with
  | nm e => exact .nm (k _ _ e)
  | yes e => exact .yes (k _ _ e)
  | no e => exact .no (k _ _ e)
  | not e _ ih => exact .not (k _ _ e) ih
  | bin e _ _ ih1 ih2 => exact .bin (k _ _ e) ih1 ih2
theorem TrAt.open {H : Hp} {v : V} {t : Tr} (h : TrAt H v t) : ∃ a rest, v = .ref a ∧ H a = some (.tup (.str t.tag :: rest)) ∧ (t.isNm = true → ∃ x, t = .nm x ∧ rest = [.str x]) ∧ (t.isNm = false → Paired (TrAt H) rest t.kids) := by
  cases h with
  | nm e => exact ⟨_, _, rfl, e, fun _ => ⟨_, rfl, rfl⟩, fun z => by cases z⟩
  | yes e => exact ⟨_, _, rfl, e, (fun z => by cases z), fun _ => .nil⟩
  | no e => exact ⟨_, _, rfl, e, (fun z => by cases z), fun _ => .nil⟩
  | not e h1 => exact ⟨_, _, rfl, e, (fun z => by cases z), fun _ => .cons h1 .nil⟩
  | bin e h1 h2 => exact ⟨_, _, rfl, e, (fun z => by cases z), fun _ => .cons h1 (.cons h2 .nil)⟩
theorem same_upd {H : Hp} {l : Addr} {o : HO} (h : H l = none) : Same H (upd H l o) := fun b u e => by
  rw [upd_ne (ne_of_none e h)]
  exact e
end Mc
namespace Mc
open PySem PySem.Spec PyProof.Rows L2
theorem lk {n : Nat} (h : n ≤ 1000) : n ≤ sizeLine := Nat.le_of_lt (small1000 h)
end Mc

/-! ### bits, worlds, tables -/
namespace Mc
open PySem
theorem bnot_nat (a : Nat) : (Builtin.bitNot (Builtin.bitNot (a : Int))) = a := by unfold Builtin.bitNot; omega
theorem band (a b : Nat) : Builtin.bitAnd (a : Int) (b : Int) = ((a &&& b : Nat) : Int) := by
  unfold Builtin.bitAnd
  rw [decide_eq_true (Int.natCast_nonneg a), decide_eq_true (Int.natCast_nonneg b)]
  rfl
theorem bor (a b : Nat) : Builtin.bitOr (a : Int) (b : Int) = ((a ||| b : Nat) : Int) := by
  unfold Builtin.bitOr Builtin.bitAnd
  have h1 : ¬ (0 : Int) ≤ Builtin.bitNot (a : Int) := by unfold Builtin.bitNot; omega
  have h2 : ¬ (0 : Int) ≤ Builtin.bitNot (b : Int) := by unfold Builtin.bitNot; omega
  rw [decide_eq_false h1, decide_eq_false h2]
  show Builtin.bitNot (Builtin.bitNot (((Builtin.bitNot (Builtin.bitNot (a : Int))).toNat ||| (Builtin.bitNot (Builtin.bitNot (b : Int))).toNat : Nat) : Int)) = _
  rw [bnot_nat, bnot_nat, bnot_nat]
  rfl
theorem xor_add_and : ∀ (a b : Nat), (a ^^^ b) + (a &&& b) = a ||| b := by
  intro a
  induction a using Nat.strongRecOn with
  | ind a ih =>
    intro b
    by_cases h : a = 0
    · subst h
      simp
    · have q := ih (a / 2) (by omega) (b / 2)
      have e1 : (a ^^^ b) / 2 = a / 2 ^^^ b / 2 := Nat.xor_div_two
      have e2 : (a &&& b) / 2 = a / 2 &&& b / 2 := Nat.and_div_two
      have e3 : (a ||| b) / 2 = a / 2 ||| b / 2 := Nat.or_div_two
      have m : ∀ x : Nat, x % 2 = if x.testBit 0 then 1 else 0 := fun x => by
        rw [Nat.testBit_zero]
        by_cases z : x % 2 = 1
        · simp [z]
        · simp [z]; omega
      have f1 := m (a ^^^ b)
      have f2 := m (a &&& b)
      have f3 := m (a ||| b)
      rw [Nat.testBit_xor] at f1
      rw [Nat.testBit_and] at f2
      rw [Nat.testBit_or] at f3
      have d1 := Nat.div_add_mod (a ^^^ b) 2
      have d2 := Nat.div_add_mod (a &&& b) 2
      have d3 := Nat.div_add_mod (a ||| b) 2
      rw [e1] at d1
      rw [e2] at d2
      rw [e3] at d3
      have key : ∀ (u v : Bool) (x y z : Nat), x = (if (u ^^ v) = true then 1 else 0) → y = (if (u && v) = true then 1 else 0) → z = (if (u || v) = true then 1 else 0) → x + y = z := by
        intro u v x y z h1 h2 h3
        subst h1 h2 h3
        cases u <;> cases v <;> rfl
      have := key _ _ _ _ _ f1 f2 f3
      omega
theorem bxor (a b : Nat) : Builtin.bitXor (a : Int) (b : Int) = ((a ^^^ b : Nat) : Int) := by
  unfold Builtin.bitXor
  rw [bor, band]
  have := xor_add_and a b
  omega
/-- the sum of 2 ^ w over the w below m of which p says yes -/
def bsum (p : Nat → Bool) : Nat → Nat
  | 0 => 0
  | m + 1 => bsum p m + if p m = true then 2 ^ m else 0
theorem bsum_lt (p : Nat → Bool) : ∀ m, bsum p m < 2 ^ m
  | 0 => Nat.one_pos
  | m + 1 => by
    have := bsum_lt p m
    have e : 2 ^ (m + 1) = 2 ^ m + 2 ^ m := by rw [Nat.pow_succ]; omega
    show bsum p m + (if p m = true then 2 ^ m else 0) < _
    split <;> omega
theorem bsum_bit (p : Nat → Bool) : ∀ m i, (bsum p m).testBit i = (decide (i < m) && p i)
  | 0, i => by simp [bsum]
  | m + 1, i => by
    have hlt := bsum_lt p m
    have ih := bsum_bit p m
    by_cases h1 : i < m
    · have e : (bsum p (m + 1)).testBit i = (bsum p m).testBit i := by
        show (bsum p m + if p m = true then 2 ^ m else 0).testBit i = _
        split
        · rw [Nat.add_comm]; exact Nat.testBit_two_pow_add_gt h1 _
        · rfl
      rw [e, ih i, decide_eq_true h1, decide_eq_true (show i < m + 1 by omega)]
    · by_cases h2 : i = m
      · subst h2
        rw [decide_eq_true (show i < i + 1 by omega)]
        show (bsum p i + if p i = true then 2 ^ i else 0).testBit i = _
        have z : (bsum p i).testBit i = false := Nat.testBit_lt_two_pow hlt
        cases hp : p i with
        | true => rw [if_pos rfl, Nat.add_comm, Nat.testBit_two_pow_add_eq, z]; rfl
        | false => rw [if_neg (by decide)]; exact z
      · rw [decide_eq_false (show ¬ i < m + 1 by omega)]
        have := bsum_lt p (m + 1)
        have e : 2 ^ (m + 1) ≤ 2 ^ i := Nat.pow_le_pow_right (by decide) (by omega)
        exact Nat.testBit_lt_two_pow (by omega)
theorem bsum_all (m : Nat) : bsum (fun _ => true) m = 2 ^ m - 1 := by
  refine Nat.eq_of_testBit_eq fun i => ?_
  rw [bsum_bit, Nat.testBit_two_pow_sub_one, Bool.and_true]
theorem bsum_none (m : Nat) : bsum (fun _ => false) m = 0 := by
  refine Nat.eq_of_testBit_eq fun i => ?_
  rw [bsum_bit, Nat.zero_testBit, Bool.and_false]
/-- the value of a sentence -/
def evalB (g : Str → Bool) : Tr → Bool
  | .nm x => g x
  | .yes => true
  | .no => false
  | .not t => !evalB g t
  | .bin .and a b => evalB g a && evalB g b
  | .bin .or a b => evalB g a || evalB g b
  | .bin .thn a b => !evalB g a || evalB g b
  | .bin .same a b => evalB g a == evalB g b
theorem evalB_congr {g h : Str → Bool} : ∀ {t : Tr}, (∀ x ∈ t.names, g x = h x) → evalB g t = evalB h t
  | .nm x, e => e x List.mem_cons_self
  | .yes, _ => rfl
  | .no, _ => rfl
  | .not t, e => congrArg (!·) (evalB_congr (t := t) e)
  | .bin o a b, e => by
    have e1 := evalB_congr (t := a) fun x hx => e x (List.mem_append_left _ hx)
    have e2 := evalB_congr (t := b) fun x hx => e x (List.mem_append_right _ hx)
    cases o <;> simp only [evalB, e1, e2]
/-! the sides of a sentence -/
/-- the name's value in a world of these names -/
def inW (ns : List Str) (i : Nat) (x : Str) : Bool := i.testBit (ns.idxOf x)
/-- the worlds in which the name at place k is 1 -/
def colN (n k : Nat) : Nat := bsum (fun i => i.testBit k) (2 ^ n)
def fullN (n : Nat) : Nat := 2 ^ (2 ^ n) - 1
def tableN (ns : List Str) (t : Tr) : Nat := bsum (fun i => evalB (inW ns i) t) (2 ^ ns.length)
theorem fullN_bit (n i : Nat) : (fullN n).testBit i = decide (i < 2 ^ n) := by unfold fullN; rw [Nat.testBit_two_pow_sub_one]
end Mc

/-! ### columns, tables by bits, the least of some ranks -/
namespace Mc
open PySem
theorem col_bit (n k i : Nat) : (colN n k).testBit i = (decide (i < 2 ^ n) && i.testBit k) := bsum_bit _ _ _
theorem col_start (k : Nat) : (2 ^ (2 ^ k) - 1) * 2 ^ (2 ^ k) = colN (k + 1) k := by
  refine Nat.eq_of_testBit_eq fun i => ?_
  have e2 : 2 ^ (k + 1) = 2 ^ k + 2 ^ k := by rw [Nat.pow_succ]; omega
  rw [col_bit, Nat.mul_comm, Nat.testBit_two_pow_mul, Nat.testBit_two_pow_sub_one]
  by_cases h1 : i < 2 ^ k
  · have z : i.testBit k = false := Nat.testBit_lt_two_pow h1
    rw [z, Bool.and_false, decide_eq_false (show ¬ i ≥ 2 ^ k by omega), Bool.false_and]
  · by_cases h2 : i < 2 ^ (k + 1)
    · have z : i.testBit k = true := by
        have e : i = 2 ^ k + (i - 2 ^ k) := by omega
        rw [e, Nat.testBit_two_pow_add_eq, Nat.testBit_lt_two_pow (show i - 2 ^ k < 2 ^ k by omega)]
        rfl
      rw [z, decide_eq_true h2, decide_eq_true (show i ≥ 2 ^ k by omega), decide_eq_true (show i - 2 ^ k < 2 ^ k by omega)]
    · rw [decide_eq_false h2, decide_eq_false (show ¬ i - 2 ^ k < 2 ^ k by omega)]
      simp
theorem col_step {j k : Nat} (h : k < j) : colN j k ||| (colN j k * 2 ^ (2 ^ j)) = colN (j + 1) k := by
  refine Nat.eq_of_testBit_eq fun i => ?_
  have e2 : 2 ^ (j + 1) = 2 ^ j + 2 ^ j := by rw [Nat.pow_succ]; omega
  rw [Nat.testBit_or, col_bit, col_bit, Nat.mul_comm, Nat.testBit_two_pow_mul, col_bit]
  by_cases h1 : i < 2 ^ j
  · rw [decide_eq_true h1, decide_eq_true (show i < 2 ^ (j + 1) by omega), decide_eq_false (show ¬ i ≥ 2 ^ j by omega)]
    simp
  · rw [decide_eq_false h1, decide_eq_true (show i ≥ 2 ^ j by omega)]
    by_cases h2 : i < 2 ^ (j + 1)
    · have z : (i - 2 ^ j).testBit k = i.testBit k := by
        have e : i = 2 ^ j + (i - 2 ^ j) := by omega
        conv => rhs; rw [e]
        rw [Nat.testBit_two_pow_add_gt h]
      rw [decide_eq_true h2, decide_eq_true (show i - 2 ^ j < 2 ^ j by omega), z]
      simp
    · rw [decide_eq_false h2, decide_eq_false (show ¬ i - 2 ^ j < 2 ^ j by omega)]
      simp
theorem table_bit (ns : List Str) (t : Tr) (i : Nat) : (tableN ns t).testBit i = (decide (i < 2 ^ ns.length) && evalB (inW ns i) t) := bsum_bit _ _ _
theorem tb_yes (ns : List Str) : tableN ns .yes = fullN ns.length := bsum_all _
theorem tb_no (ns : List Str) : tableN ns .no = 0 := bsum_none _
theorem tb_not (ns : List Str) (t : Tr) : tableN ns (.not t) = fullN ns.length ^^^ tableN ns t := by
  refine Nat.eq_of_testBit_eq fun i => ?_
  rw [Nat.testBit_xor, table_bit, table_bit, fullN_bit]
  show (decide (i < 2 ^ ns.length) && !evalB (inW ns i) t) = _
  cases decide (i < 2 ^ ns.length) <;> cases evalB (inW ns i) t <;> rfl
theorem tb_and (ns : List Str) (a b : Tr) : tableN ns (.bin .and a b) = tableN ns a &&& tableN ns b := by
  refine Nat.eq_of_testBit_eq fun i => ?_
  rw [Nat.testBit_and, table_bit, table_bit, table_bit]
  show (decide (i < 2 ^ ns.length) && (evalB (inW ns i) a && evalB (inW ns i) b)) = _
  cases decide (i < 2 ^ ns.length) <;> cases evalB (inW ns i) a <;> cases evalB (inW ns i) b <;> rfl
theorem tb_or (ns : List Str) (a b : Tr) : tableN ns (.bin .or a b) = tableN ns a ||| tableN ns b := by
  refine Nat.eq_of_testBit_eq fun i => ?_
  rw [Nat.testBit_or, table_bit, table_bit, table_bit]
  show (decide (i < 2 ^ ns.length) && (evalB (inW ns i) a || evalB (inW ns i) b)) = _
  cases decide (i < 2 ^ ns.length) <;> cases evalB (inW ns i) a <;> cases evalB (inW ns i) b <;> rfl
theorem tb_thn (ns : List Str) (a b : Tr) : tableN ns (.bin .thn a b) = (fullN ns.length ^^^ tableN ns a) ||| tableN ns b := by
  refine Nat.eq_of_testBit_eq fun i => ?_
  rw [Nat.testBit_or, Nat.testBit_xor, table_bit, table_bit, table_bit, fullN_bit]
  show (decide (i < 2 ^ ns.length) && (!evalB (inW ns i) a || evalB (inW ns i) b)) = _
  cases decide (i < 2 ^ ns.length) <;> cases evalB (inW ns i) a <;> cases evalB (inW ns i) b <;> rfl
theorem tb_same (ns : List Str) (a b : Tr) : tableN ns (.bin .same a b) = (fullN ns.length ^^^ tableN ns a) ^^^ tableN ns b := by
  refine Nat.eq_of_testBit_eq fun i => ?_
  rw [Nat.testBit_xor, Nat.testBit_xor, table_bit, table_bit, table_bit, fullN_bit]
  show (decide (i < 2 ^ ns.length) && (evalB (inW ns i) a == evalB (inW ns i) b)) = _
  cases decide (i < 2 ^ ns.length) <;> cases evalB (inW ns i) a <;> cases evalB (inW ns i) b <;> rfl
end Mc

/-! ### ranks that are turned -/
namespace Mc
open PySem
end Mc

/-! ### minds that are poured together -/
namespace Mc
open PySem
/-- the least of a row -/
def leastOf (l : List Int) (m : Int) : Prop := m ∈ l ∧ ∀ a ∈ l, m ≤ a
theorem leastOf.eq {l : List Int} {m k : Int} (h1 : leastOf l m) (h2 : leastOf l k) : m = k := by
  have := h1.2 k h2.1
  have := h2.2 m h1.1
  omega
end Mc

/-! ### a sentence of which some names are known -/
namespace Mc
open PySem
end Mc

/-! ### two sentences beside one another -/
namespace Mc
open PySem
def datT : Tr → PyData
  | .nm x => .tuple [.str "name", .str x]
  | .yes => .tuple [.str "yes"]
  | .no => .tuple [.str "no"]
  | .not t => .tuple [.str "not", datT t]
  | .bin o a b => .tuple [.str o.str, datT a, datT b]
theorem datT_depth : ∀ t : Tr, (datT t).depth ≤ t.depth
  | .nm x => Nat.le_refl _
  | .yes => Nat.le_refl _
  | .no => Nat.le_refl _
  | .not t => by
    have := datT_depth t
    show max 0 (max (datT t).depth 0) + 1 ≤ t.depth + 1
    omega
  | .bin o a b => by
    have := datT_depth a
    have := datT_depth b
    show max 0 (max (datT a).depth (max (datT b).depth 0)) + 1 ≤ max a.depth b.depth + 1
    omega
theorem opS_ok (o : Op) : PyData.strOk o.str = true := by cases o <;> decide +kernel
theorem datT_lay : ∀ {t : Tr}, (∀ x ∈ t.names, PyData.strOk x = true) → (datT t).canLay0 = true
  | .nm x, h => by
    show (PyData.strOk "name" && (PyData.strOk x && true)) = true
    rw [h x List.mem_cons_self]
    decide +kernel
  | .yes, _ => by decide +kernel
  | .no, _ => by decide +kernel
  | .not t, h => by
    show (PyData.strOk "not" && ((datT t).canLay0 && true)) = true
    rw [datT_lay (t := t) h]
    decide +kernel
  | .bin o a b, h => by
    show (PyData.strOk o.str && ((datT a).canLay0 && ((datT b).canLay0 && true))) = true
    rw [datT_lay (t := a) fun x hx => h x (List.mem_append_left _ hx), datT_lay (t := b) fun x hx => h x (List.mem_append_right _ hx), opS_ok]
    rfl
def eqvT (t u : Tr) : Bool := PyData.eqv (datT t) (datT u)
theorem op_beq (o p : Op) : (o.str == p.str) = true ↔ o = p := by
  constructor
  · intro h
    revert h
    cases o <;> cases p <;> first | exact fun _ => rfl | (intro h; exact absurd h (by decide +kernel))
  · rintro rfl
    exact beq_self_eq_true _
theorem eqvT_iff : ∀ (t u : Tr), eqvT t u = true ↔ t = u
  | .nm x, .nm y => by
    show ((("name" : Str) == "name") && ((x == y) && true)) = true ↔ _
    rw [Bool.and_true, beq_self_eq_true, Bool.true_and, beq_iff_eq]
    exact ⟨fun h => by rw [h], fun h => by cases h; rfl⟩
  | .yes, .yes => ⟨fun _ => rfl, fun _ => by decide +kernel⟩
  | .no, .no => ⟨fun _ => rfl, fun _ => by decide +kernel⟩
  | .not t, .not u => by
    have ih := eqvT_iff t u
    show ((("not" : Str) == "not") && (eqvT t u && true)) = true ↔ _
    rw [Bool.and_true, beq_self_eq_true, Bool.true_and, ih]
    exact ⟨fun h => by rw [h], fun h => by cases h; rfl⟩
  | .bin o a b, .bin p c d => by
    have i1 := eqvT_iff a c
    have i2 := eqvT_iff b d
    show ((o.str == p.str) && (eqvT a c && (eqvT b d && true))) = true ↔ _
    rw [Bool.and_true, Bool.and_eq_true_iff, Bool.and_eq_true_iff, op_beq, i1, i2]
    exact ⟨fun ⟨h1, h2, h3⟩ => by rw [h1, h2, h3], fun h => by cases h; exact ⟨rfl, rfl, rfl⟩⟩
  | .nm x, .yes => ⟨fun h => absurd (show ((("name" : Str) == "yes") && false) = true from h) (by simp), fun h => nomatch h⟩
  | .nm x, .no => ⟨fun h => absurd (show ((("name" : Str) == "no") && false) = true from h) (by simp), fun h => nomatch h⟩
  | .nm x, .not u => ⟨fun h => by
      cases u <;> exact absurd (show ((("name" : Str) == "not") && (false && true)) = true from h) (by simp), fun h => nomatch h⟩
  | .nm x, .bin p c d => ⟨fun h => by
      cases c <;> exact absurd (show ((("name" : Str) == p.str) && (false && false)) = true from h) (by simp), fun h => nomatch h⟩
  | .yes, .nm y => ⟨fun h => absurd (show ((("yes" : Str) == "name") && false) = true from h) (by simp), fun h => nomatch h⟩
  | .yes, .no => ⟨fun h => absurd (show ((("yes" : Str) == "no") && true) = true from h) (by decide +kernel), fun h => nomatch h⟩
  | .yes, .not u => ⟨fun h => absurd (show ((("yes" : Str) == "not") && false) = true from h) (by simp), fun h => nomatch h⟩
  | .yes, .bin p c d => ⟨fun h => absurd (show ((("yes" : Str) == p.str) && false) = true from h) (by simp), fun h => nomatch h⟩
  | .no, .nm y => ⟨fun h => absurd (show ((("no" : Str) == "name") && false) = true from h) (by simp), fun h => nomatch h⟩
  | .no, .yes => ⟨fun h => absurd (show ((("no" : Str) == "yes") && true) = true from h) (by decide +kernel), fun h => nomatch h⟩
  | .no, .not u => ⟨fun h => absurd (show ((("no" : Str) == "not") && false) = true from h) (by simp), fun h => nomatch h⟩
  | .no, .bin p c d => ⟨fun h => absurd (show ((("no" : Str) == p.str) && false) = true from h) (by simp), fun h => nomatch h⟩
  | .not t, .nm y => ⟨fun h => by
      cases t <;> exact absurd (show ((("not" : Str) == "name") && (false && true)) = true from h) (by simp), fun h => nomatch h⟩
  | .not t, .yes => ⟨fun h => absurd (show ((("not" : Str) == "yes") && false) = true from h) (by simp), fun h => nomatch h⟩
  | .not t, .no => ⟨fun h => absurd (show ((("not" : Str) == "no") && false) = true from h) (by simp), fun h => nomatch h⟩
  | .not t, .bin p c d => ⟨fun h => absurd (show ((("not" : Str) == p.str) && (PyData.eqv (datT t) (datT c) && false)) = true from h) (by simp), fun h => nomatch h⟩
  | .bin o a b, .nm y => ⟨fun h => by
      cases a <;> exact absurd (show ((o.str == "name") && (false && false)) = true from h) (by simp), fun h => nomatch h⟩
  | .bin o a b, .yes => ⟨fun h => absurd (show ((o.str == "yes") && false) = true from h) (by simp), fun h => nomatch h⟩
  | .bin o a b, .no => ⟨fun h => absurd (show ((o.str == "no") && false) = true from h) (by simp), fun h => nomatch h⟩
  | .bin o a b, .not u => ⟨fun h => absurd (show ((o.str == "not") && (PyData.eqv (datT a) (datT u) && false)) = true from h) (by simp), fun h => nomatch h⟩
end Mc
namespace L2
open PySem PyProof.Rows Mc
variable {X : Cx}
theorem vals_one {x : V} {its : List Value} (h : Vals [x] its) : ∃ u, its = [u] ∧ RelV x u := by
  cases h with
  | cons r h => cases h; exact ⟨_, rfl, r⟩
theorem vals_two {x y : V} {its : List Value} (h : Vals [x, y] its) : ∃ u v, its = [u, v] ∧ RelV x u ∧ RelV y v := by
  cases h with
  | cons r h => obtain ⟨v, rfl, r2⟩ := vals_one h; exact ⟨_, _, rfl, r, r2⟩
theorem vals_three {x y z : V} {its : List Value} (h : Vals [x, y, z] its) : ∃ u v w, its = [u, v, w] ∧ RelV x u ∧ RelV y v ∧ RelV z w := by
  cases h with
  | cons r h => obtain ⟨v, w, rfl, r2, r3⟩ := vals_two h; exact ⟨_, _, _, rfl, r, r2, r3⟩
theorem tr_reads {pins : List (Addr × Obj)} {σ : St} {H : Hp} {s : Shared} (I : Inv X pins σ H s) {v : V} {t : Tr} (h : TrAt H v t) : ∀ {u : Value}, RelV v u → ∃ as, Reads s.heap u (datT t) as := by
  induction h with
  | @nm a x e =>
    intro u r
    obtain rfl : u = .ref a := r
    obtain ⟨its, rv, ⟨o, ho, hc, n, hd⟩, _⟩ := I.tuple (SqT.of e)
    obtain ⟨u1, u2, rfl, r1, r2⟩ := vals_two rv
    obtain ⟨t1, rfl⟩ := r1
    obtain ⟨t2, rfl⟩ := r2
    exact ⟨_, .tuple ho hc hd (.cons (.str _ _) (.cons (.str _ _) .nil))⟩
  | @yes a e =>
    intro u r
    obtain rfl : u = .ref a := r
    obtain ⟨its, rv, ⟨o, ho, hc, n, hd⟩, _⟩ := I.tuple (SqT.of e)
    obtain ⟨u1, rfl, r1⟩ := vals_one rv
    obtain ⟨t1, rfl⟩ := r1
    exact ⟨_, .tuple ho hc hd (.cons (.str _ _) .nil)⟩
  | @no a e =>
    intro u r
    obtain rfl : u = .ref a := r
    obtain ⟨its, rv, ⟨o, ho, hc, n, hd⟩, _⟩ := I.tuple (SqT.of e)
    obtain ⟨u1, rfl, r1⟩ := vals_one rv
    obtain ⟨t1, rfl⟩ := r1
    exact ⟨_, .tuple ho hc hd (.cons (.str _ _) .nil)⟩
  | @not a v t e _ ih =>
    intro u r
    obtain rfl : u = .ref a := r
    obtain ⟨its, rv, ⟨o, ho, hc, n, hd⟩, _⟩ := I.tuple (SqT.of e)
    obtain ⟨u1, u2, rfl, r1, r2⟩ := vals_two rv
    obtain ⟨t1, rfl⟩ := r1
    obtain ⟨as, h2⟩ := ih r2
    exact ⟨_, .tuple ho hc hd (.cons (.str _ _) (.cons h2 .nil))⟩
  | @bin a p v w t t' e _ _ ih1 ih2 =>
    intro u r
    obtain rfl : u = .ref a := r
    obtain ⟨its, rv, ⟨o, ho, hc, n, hd⟩, _⟩ := I.tuple (SqT.of e)
    obtain ⟨u1, u2, u3, rfl, r1, r2, r3⟩ := vals_three rv
    obtain ⟨t1, rfl⟩ := r1
    obtain ⟨as, h2⟩ := ih1 r2
    obtain ⟨bs, h3⟩ := ih2 r3
    exact ⟨_, .tuple ho hc hd (.cons (.str _ _) (.cons h2 (.cons h3 .nil)))⟩
def rEqTr : R2 := fun x y H Q => ∃ t u, TrAt H x t ∧ TrAt H y u ∧ t.depth ≤ 60 ∧ (∀ z ∈ t.names, PyData.strOk z = true) ∧ (∀ z ∈ u.names, PyData.strOk z = true) ∧ Q (.bl (eqvT t u)) H
theorem op_eqTr (hu : X.A.units + 64 < cLine) : OpR X (compareOp .Eq) rEqTr := by
  intro pins s σ H x y v u Q I rx ry h
  obtain ⟨t, t', h1, h2, hd, n1, n2, q⟩ := h
  obtain ⟨as, r1⟩ := tr_reads I h1 rx
  obtain ⟨bs, r2⟩ := tr_reads I h2 ry
  have hdd := datT_depth t
  exact SeqAt.compareEq_reads r1 r2 (datT_lay n1) (datT_lay n2) (by omega) ⟨.bl (eqvT t t'), H, I, rfl, q⟩
/-- a tuple against the empty one -/
def rEqTE (K : PySem.W.Frag) : R2 := fun x y H Q => ∃ (a b : Addr) (xs : List V), x = .ref a ∧ y = .ref b ∧ SqT K H a xs ∧ SqT K H b [] ∧ Q (.bl xs.isEmpty) H
theorem op_eqTE (hu : X.A.units < cLine) : OpR X (compareOp .Eq) (rEqTE X.K) := by
  intro pins s σ H x y v u Q I rx ry h
  obtain ⟨a, b, xs, rfl, rfl, ha, hb, q⟩ := h
  cases rx
  cases ry
  obtain ⟨its, r1, p1, _⟩ := I.tuple ha
  obtain ⟨its2, r2, p2, _⟩ := I.tuple hb
  cases r2
  refine SeqAt.eq_tupleAt (e := fun _ => true) p1 p2 hu (fun j _ h2 => absurd h2 (Nat.not_lt_zero j)) ?_
  have e : ((List.range (min its.toArray.size ([] : List Value).toArray.size)).all (fun _ => true) && its.toArray.size == ([] : List Value).toArray.size) = xs.isEmpty := by
    cases r1 with
    | nil => rfl
    | cons _ _ => simp
  rw [e]
  exact ⟨.bl xs.isEmpty, H, I, rfl, q⟩
/-- a power of a great number -/
theorem op_powB : OpR X (binaryOp .Pow) (rI (fun i j => 0 ≤ j ∧ j ≤ 100 ∧ i.natAbs < 2 ^ 1000) fun i j => .int (i ^ j.toNat)) := opI fun i j _ _ _ _ _ hc q => pow_int hc.1 (by
  have hb : Builtin.Int.intBits i ≤ 1000 := by
    unfold Builtin.Int.intBits
    split
    · omega
    · rename_i h0
      have hne : i.natAbs ≠ 0 := fun z => h0 (by rw [Int.natAbs_eq_zero.mp z]; rfl)
      have := (Nat.log2_lt hne).mpr hc.2.2
      omega
  have h1 : ((Builtin.Int.intBits i : Nat) : Int) * j ≤ 1000 * 100 := Int.mul_le_mul (by omega) hc.2.1 hc.1 (by decide)
  exact Int.le_trans h1 (by decide)) q
end L2

set_option Elab.async false
set_option linter.all false
set_option maxRecDepth 100000
set_option maxHeartbeats 8000000
namespace K23
open PySem L2
def top (i : Nat) : Stmt := PySem.Challenge.pw_mindchange_k23_sentence_of_a_table.main.body.getD i (.Pass ⟨0, 0, 0, 0⟩)
abbrev s_chosen : Stmt := top 1
abbrev s_tree_of : Stmt := top 2
abbrev s__law_cell_at : Stmt := top 4
abbrev s__law_names_by : Stmt := top 5
abbrev s__law_many : Stmt := top 6
abbrev s__law_tree_by : Stmt := top 7
abbrev s__law_column : Stmt := top 8
abbrev s__law_table : Stmt := top 9
abbrev s__law_parts : Stmt := top 10
abbrev s__law_table_by : Stmt := top 11
abbrev s_law : Stmt := top 12
set_option genSizeOf false in
set_option genInjectivity false in
/-- the addresses and the records -/
structure Adr where
  a_chosen : Addr
  fd_chosen : FuncData
  a_tree_of : Addr
  fd_tree_of : FuncData
  a__law_cell_at : Addr
  fd__law_cell_at : FuncData
  a__law_names_by : Addr
  fd__law_names_by : FuncData
  a__law_many : Addr
  fd__law_many : FuncData
  a__law_tree_by : Addr
  fd__law_tree_by : FuncData
  a__law_column : Addr
  fd__law_column : FuncData
  a__law_table : Addr
  fd__law_table : FuncData
  a__law_parts : Addr
  fd__law_parts : FuncData
  a__law_table_by : Addr
  fd__law_table_by : FuncData
  a_law : Addr
  fd_law : FuncData
/-- what the top has written -/
structure Txt (P : Program) (w : World) (K : PySem.W.Frag) (mg : Str → Option Value) (t : Adr) : Prop where
  F_chosen : Fun K "chosen" "chosen" s_chosen t.a_chosen t.fd_chosen
  b_chosen : Binds K t.fd_chosen ["name", "with_0", "with_1"] []
  m_chosen : mg "chosen" = some (.ref t.a_chosen)
  k_chosen : PySem.W.keepIn K (.ref t.a_chosen) = true
  F_tree_of : Fun K "tree_of" "tree_of" s_tree_of t.a_tree_of t.fd_tree_of
  b_tree_of : Binds K t.fd_tree_of ["names", "table"] []
  m_tree_of : mg "tree_of" = some (.ref t.a_tree_of)
  k_tree_of : PySem.W.keepIn K (.ref t.a_tree_of) = true
  F__law_cell_at : Fun K "_law_cell_at" "_law_cell_at" s__law_cell_at t.a__law_cell_at t.fd__law_cell_at
  b__law_cell_at : Binds K t.fd__law_cell_at ["_law_script", "_law_k"] []
  m__law_cell_at : mg "_law_cell_at" = some (.ref t.a__law_cell_at)
  k__law_cell_at : PySem.W.keepIn K (.ref t.a__law_cell_at) = true
  F__law_names_by : Fun K "_law_names_by" "_law_names_by" s__law_names_by t.a__law_names_by t.fd__law_names_by
  b__law_names_by : Binds K t.fd__law_names_by ["_law_cell", "_law_many_here"] []
  m__law_names_by : mg "_law_names_by" = some (.ref t.a__law_names_by)
  k__law_names_by : PySem.W.keepIn K (.ref t.a__law_names_by) = true
  F__law_many : Fun K "_law_many" "_law_many" s__law_many t.a__law_many t.fd__law_many
  b__law_many : Binds K t.fd__law_many ["_law_cell"] []
  m__law_many : mg "_law_many" = some (.ref t.a__law_many)
  k__law_many : PySem.W.keepIn K (.ref t.a__law_many) = true
  F__law_tree_by : Fun K "_law_tree_by" "_law_tree_by" s__law_tree_by t.a__law_tree_by t.fd__law_tree_by
  b__law_tree_by : Binds K t.fd__law_tree_by ["_law_names", "_law_cell", "_law_deep"] []
  m__law_tree_by : mg "_law_tree_by" = some (.ref t.a__law_tree_by)
  k__law_tree_by : PySem.W.keepIn K (.ref t.a__law_tree_by) = true
  F__law_column : Fun K "_law_column" "_law_column" s__law_column t.a__law_column t.fd__law_column
  b__law_column : Binds K t.fd__law_column ["_law_n", "_law_k"] []
  m__law_column : mg "_law_column" = some (.ref t.a__law_column)
  k__law_column : PySem.W.keepIn K (.ref t.a__law_column) = true
  F__law_table : Fun K "_law_table" "_law_table" s__law_table t.a__law_table t.fd__law_table
  b__law_table : Binds K t.fd__law_table ["_law_names", "_law_tree"] []
  m__law_table : mg "_law_table" = some (.ref t.a__law_table)
  k__law_table : PySem.W.keepIn K (.ref t.a__law_table) = true
  F__law_parts : Fun K "_law_parts" "_law_parts" s__law_parts t.a__law_parts t.fd__law_parts
  b__law_parts : Binds K t.fd__law_parts ["_law_names", "_law_tree", "_law_deep"] []
  m__law_parts : mg "_law_parts" = some (.ref t.a__law_parts)
  k__law_parts : PySem.W.keepIn K (.ref t.a__law_parts) = true
  F__law_table_by : Fun K "_law_table_by" "_law_table_by" s__law_table_by t.a__law_table_by t.fd__law_table_by
  b__law_table_by : Binds K t.fd__law_table_by ["_law_names", "_law_cell", "_law_other"] []
  m__law_table_by : mg "_law_table_by" = some (.ref t.a__law_table_by)
  k__law_table_by : PySem.W.keepIn K (.ref t.a__law_table_by) = true
  F_law : Fun K "law" "law" s_law t.a_law t.fd_law
  b_law : Binds K t.fd_law ["_law_script"] []
  m_law : mg "law" = some (.ref t.a_law)
  k_law : PySem.W.keepIn K (.ref t.a_law) = true
  n_tuple : mg "tuple" = none
  n_len : mg "len" = none
  n_range : mg "range" = none
  n_int : mg "int" = none
  n_isinstance : mg "isinstance" = none
  n_str : mg "str" = none
  bl : ∀ (s : Shared) (u : Value), BindsTo s t.fd_law ⟨[u], []⟩ [("_law_script", u)]
end K23
seal L2.PE L2.PT L2.PW L2.PA L2.PS L2.PSs L2.PG L2.PGs L2.PI L2.PC L2.PO L2.PTs
open PyProof.Rows
namespace K23
open PySem L2 Mc
def spCell (K : PySem.W.Frag) : Sp := fun vs H Q _ => ∃ (a : Addr) (ns : List Int) (k : Int), vs = [.ref a, .int k] ∧ SqL K H a (ns.map V.int) ∧ 0 ≤ k ∧ Q (.int (ns.getD k.toNat 0)) H
section
variable {P : Program} {w : World} {K : PySem.W.Frag} {mg : Str → Option Value} {base : Heap} {t : Adr}
theorem scCell : FnScope ["_law_script", "_law_k"] ["_law_script", "_law_k"] (defScope s__law_cell_at) := ⟨rfl, rfl, rfl, by decide +kernel, rfl, by decide +kernel, by decide +kernel⟩
theorem ok_cell (T : Txt P w K mg t) : FnOk P w K mg base (CX1 P w) 1 t.a__law_cell_at t.fd__law_cell_at ["_law_script", "_law_k"] (spCell K) := by
  refine T.F__law_cell_at.ok1 scCell (fun vs H Q E h => by obtain ⟨a, ns, k, rfl, _⟩ := h; rfl) (fun cdv A outer s H vs Q E hr h => ?_)
  obtain ⟨a, ns, k, rfl, hS, hk, q⟩ := h
  refine ⟨_, (pss_cons (ps_if (pt_cmpR op_lt (pvl 1) (pcallB call_len_seq T.n_len Bt.len (pa_cons (pvl 0) pa_nil)) (nomark _))
        (pss_one (ps_ret (pe_ix ix_list (pvl 0) (pvl 1) (fun _ _ => rfl))))
        pss_nil)
      (pss_one (ps_ret pe_int))), ?_⟩
  refine ⟨_, rfl, _, rfl, a, _, rfl, .inl hS, _, _, rfl, rfl, _, rfl, ?_⟩
  refine ite2 (fun e => ?_) (fun e => ?_)
  · have e : k < ((ns.map V.int).length : Nat) := of_decide_eq_true e
    rw [List.length_map] at e
    refine ⟨_, rfl, _, rfl, a, _, k, .int (ns.getD k.toNat 0), rfl, rfl, hS, atI_some hk ?_, q⟩
    rw [List.getElem?_map]
    have : k.toNat < ns.length := by omega
    rw [List.getElem?_eq_getElem this]
    simp [List.getD, List.getElem?_eq_getElem this]
  · have e : ¬ k < ((ns.map V.int).length : Nat) := fun z => e (decide_eq_true z)
    rw [List.length_map] at e
    have z : ns.getD k.toNat 0 = 0 := by
      rw [List.getD, List.getElem?_eq_none (by omega)]
      rfl
    rw [z] at q
    exact q
end
end K23

namespace K23
open PySem L2 Mc
/-! ### what a tag tells -/
theorem opStr_ne (o : Op) : ¬ o.str = ("yes" : Str) ∧ ¬ o.str = ("no" : Str) ∧ ¬ o.str = ("not" : Str) ∧ ¬ o.str = ("name" : Str) := by cases o <;> decide +kernel
theorem tg_nm {t : Tr} (h : V.str t.tag = V.str ("name" : Str)) : ∃ x, t = .nm x := by
  have := (tag_name t).mp (V.str.inj h)
  cases t <;> first | exact ⟨_, rfl⟩ | cases this
theorem tg_yes {t : Tr} (h : V.str t.tag = V.str ("yes" : Str)) : t = .yes := by
  have h := V.str.inj h
  cases t with
  | yes => rfl
  | nm x => exact absurd (show ("name" : Str) = "yes" from h) (by decide +kernel)
  | no => exact absurd (show ("no" : Str) = "yes" from h) (by decide +kernel)
  | not u => exact absurd (show ("not" : Str) = "yes" from h) (by decide +kernel)
  | bin o a b => exact absurd (show o.str = ("yes" : Str) from h) (opStr_ne o).1
theorem tg_no {t : Tr} (h : V.str t.tag = V.str ("no" : Str)) : t = .no := by
  have h := V.str.inj h
  cases t with
  | no => rfl
  | nm x => exact absurd (show ("name" : Str) = "no" from h) (by decide +kernel)
  | yes => exact absurd (show ("yes" : Str) = "no" from h) (by decide +kernel)
  | not u => exact absurd (show ("not" : Str) = "no" from h) (by decide +kernel)
  | bin o a b => exact absurd (show o.str = ("no" : Str) from h) (opStr_ne o).2.1
theorem tg_op {o o' : Op} (h : V.str o.str = V.str o'.str) : o = o' := by
  have h := V.str.inj h
  cases o <;> cases o' <;> first | rfl | exact absurd h (by decide +kernel)
theorem trBin {H : Hp} {a : Addr} {o : Op} {x y : Tr} (h : TrAt H (.ref a) (.bin o x y)) : ∃ v u, H a = some (.tup [.str o.str, v, u]) ∧ TrAt H v x ∧ TrAt H u y := by
  cases h with
  | bin e h1 h2 => exact ⟨_, _, e, h1, h2⟩
theorem trNot {H : Hp} {a : Addr} {x : Tr} (h : TrAt H (.ref a) (.not x)) : ∃ v, H a = some (.tup [.str "not", v]) ∧ TrAt H v x := by
  cases h with
  | not e h1 => exact ⟨_, e, h1⟩
theorem trNm {H : Hp} {a : Addr} {x : Str} (h : TrAt H (.ref a) (.nm x)) : H a = some (.tup [.str "name", .str x]) := by
  cases h with
  | nm e => exact e
end K23

namespace K23
open PySem L2 Mc
theorem inV_strs (x : Str) : ∀ ns : List Str, inV (.str x) (ns.map V.str) = decide (x ∈ ns)
  | [] => rfl
  | y :: r => by
    have ih := inV_strs x r
    unfold inV at ih ⊢
    rw [List.map_cons, List.any_cons, ih]
    have e : eqV (.str y) (.str x) = decide (y = x) := by
      show (y == x) = _
      by_cases z : y = x
      · simp [z]
      · simp [z]
    rw [e]
    by_cases z : y = x
    · simp [z]
    · by_cases z2 : x ∈ r
      · simp [z2]
      · have z3 : ¬ x = y := fun h => z h.symm
        simp [z, z2, z3]
theorem flat_strs (ns : List Str) : (ns.map V.str).all flatV = true := by
  rw [List.all_map]
  exact List.all_eq_true.mpr fun _ _ => rfl
end K23

namespace K23
open PySem L2 Mc
/-! ### the law's names -/
def spMany : Sp := fun vs H Q _ => ∃ c, vs = [.int c] ∧ ∀ (n : Nat) H', Same H H' → 1 ≤ n → n ≤ 8 → Q (.int n) H'
/-- names, none twice -/
structure Names (ns : List Str) : Prop where
  nd : ns.Nodup
  nm : ∀ x ∈ ns, IsName x
def spNames2 : Sp := fun vs H Q _ => ∃ (c n : Int), vs = [.int c, .int n] ∧ 1 ≤ n ∧ n ≤ 8 ∧ ∀ (p : Addr) (ns : List Str) (H' : Hp), Same H H' → H' p = some (.tup (ns.map V.str)) → ns.length = n.toNat → Names ns → Q (.ref p) H'
/-- so many times one letter -/
def repL (c : Nat) (n : Nat) : Str := ⟨(List.replicate n c).toArray⟩
theorem repL_l (c n : Nat) : (repL c n).cps.toList = List.replicate n c := by simp [repL]
theorem mul_rep (c : Nat) (n : Int) : Txt.mul ⟨#[c]⟩ n = repL c n.toNat := by
  refine str_ext ?_
  rw [mul_one_list, repL_l]
theorem names_of {n : Nat} (f : Nat → Str) (hi : ∀ i j, i < 8 → j < 8 → f i = f j → i = j) (hn : ∀ i, i < 8 → IsName (f i)) (h8 : n ≤ 8) : Names ((List.range n).map f) := by
  refine ⟨?_, fun x hx => ?_⟩
  · rw [List.nodup_iff_pairwise_ne, List.pairwise_map]
    refine List.Pairwise.imp_of_mem (R := fun a b => a ≠ b) (fun {a b} ha hb hab e => hab ?_) (List.nodup_iff_pairwise_ne.mp List.nodup_range)
    have ha := List.mem_range.mp ha
    have hb := List.mem_range.mp hb
    exact hi a b (by omega) (by omega) e
  · obtain ⟨i, h, rfl⟩ := List.mem_map.mp hx
    have h := List.mem_range.mp h
    exact hn i (by omega)
def nmA (fill : Nat) (first : Int) (k : Nat) : Str := repL fill (1 + (first + 3 * k) % 8).toNat
def nmB (fill : Nat) (first size place : Int) (k : Nat) : Str := repL fill place.toNat ++ ⟨#[97 + ((first + 5 * k) % 26).toNat]⟩ ++ repL fill (size - 1 - place).toNat
theorem nmA_name {fill : Nat} (hf : 97 ≤ fill ∧ fill ≤ 122) (first : Int) (k : Nat) : IsName (nmA fill first k) := by
  unfold nmA
  refine ⟨?_, ?_, fun c hc => ?_⟩
  · rw [repL_l, List.length_replicate]; omega
  · rw [repL_l, List.length_replicate]; omega
  · rw [repL_l] at hc
    rw [(List.mem_replicate.mp hc).2]; exact hf
theorem nmA_inj (fill : Nat) (first : Int) (i j : Nat) (hi : i < 8) (hj : j < 8) (h : nmA fill first i = nmA fill first j) : i = j := by
  unfold nmA at h
  have h := congrArg (fun z : Str => z.cps.toList.length) h
  rw [repL_l, repL_l, List.length_replicate, List.length_replicate] at h
  omega
theorem nmB_l (fill : Nat) (first size place : Int) (k : Nat) : (nmB fill first size place k).cps.toList = List.replicate place.toNat fill ++ [97 + ((first + 5 * k) % 26).toNat] ++ List.replicate (size - 1 - place).toNat fill := by
  unfold nmB
  rw [app_l, app_l, repL_l, repL_l]
theorem nmB_name {fill : Nat} (hf : 97 ≤ fill ∧ fill ≤ 122) (first : Int) {size place : Int} (h1 : 1 ≤ size) (h8 : size ≤ 8) (h0 : 0 ≤ place) (hp : place < size) (k : Nat) : IsName (nmB fill first size place k) := by
  refine ⟨?_, ?_, fun c hc => ?_⟩
  · rw [nmB_l]; simp only [List.length_append, List.length_replicate, List.length_singleton]; omega
  · rw [nmB_l]; simp only [List.length_append, List.length_replicate, List.length_singleton]; omega
  · rw [nmB_l] at hc
    rcases List.mem_append.mp hc with hc | hc
    · rcases List.mem_append.mp hc with hc | hc
      · rw [(List.mem_replicate.mp hc).2]; exact hf
      · rw [List.mem_singleton.mp hc]; omega
    · rw [(List.mem_replicate.mp hc).2]; exact hf
theorem nmB_inj (fill : Nat) (first size place : Int) (i j : Nat) (hi : i < 8) (hj : j < 8) (h : nmB fill first size place i = nmB fill first size place j) : i = j := by
  have h := congrArg (fun z : Str => z.cps.toList) h
  rw [nmB_l, nmB_l, List.append_assoc, List.append_assoc] at h
  have h := List.append_cancel_left h
  simp only [List.singleton_append, List.cons.injEq] at h
  have h := h.1
  omega
theorem letter_at2 {i : Int} (h0 : 0 ≤ i) (h : i < 26) : atI letters.cps.toList i = some (97 + i.toNat) := atI_some h0 (letters_at i.toNat (by omega))
theorem one_len (c : Nat) : (⟨#[c]⟩ : Str).length = 1 := rfl
theorem repL_len (c n : Nat) : (repL c n).length = n := by rw [len_l, repL_l, List.length_replicate]
section
variable {P : Program} {w : World} {K : PySem.W.Frag} {mg : Str → Option Value} {base : Heap} {t : Adr}
theorem scMany : FnScope ["_law_cell"] ["_law_cell"] (defScope s__law_many) := ⟨rfl, rfl, rfl, by decide +kernel, rfl, by decide +kernel, by decide +kernel⟩
theorem ok_many (T : Txt P w K mg t) : FnOk P w K mg base (CX1 P w) 1 t.a__law_many t.fd__law_many ["_law_cell"] spMany := by
  refine T.F__law_many.ok1 scMany (fun vs H Q E h => by obtain ⟨c, rfl, _⟩ := h; rfl) (fun cdv A outer s H vs Q E hr h => ?_)
  obtain ⟨c, rfl, k⟩ := h
  have nd := scMany.nd
  refine ⟨_, (pss_one (ps_ret (pe_ix ix_tup (pe_tup (pa_cons pe_int (pa_cons pe_int (pa_cons pe_int (pa_cons pe_int (pa_cons pe_int (pa_cons pe_int (pa_cons pe_int (pa_cons pe_int (pa_cons pe_int (pa_cons pe_int (pa_cons pe_int (pa_cons pe_int pa_nil))))))))))))) (pe_op op_mod (pvl 0) pe_int) (fun _ _ => rfl)))), ?_⟩
  refine ⟨lk (by first | exact Nat.le_of_ble_eq_true rfl | simp), fun q hq => ⟨_, rfl, _, _, rfl, rfl, (by show (0 : Int) < 12; decide), ?_⟩⟩
  have h0 := Int.emod_nonneg c (show (12 : Int) ≠ 0 by decide)
  have h1 := Int.emod_lt_of_pos c (show (0 : Int) < 12 by decide)
  obtain ⟨j, hj, hj12⟩ : ∃ j : Nat, c % 12 = (j : Int) ∧ j < 12 := ⟨(c % 12).toNat, by omega, by omega⟩
  obtain ⟨n, hn1, hn8, hat⟩ : ∃ n : Nat, 1 ≤ n ∧ n ≤ 8 ∧ [V.int 1, V.int 2, V.int 3, V.int 4, V.int 5, V.int 6, V.int 7, V.int 8, V.int 2, V.int 3, V.int 3, V.int 4][j]? = some (.int n) := by
    have : ∀ i : _root_.Fin 12, ∃ n : _root_.Fin 9, 1 ≤ n.val ∧ n.val ≤ 8 ∧ [V.int 1, V.int 2, V.int 3, V.int 4, V.int 5, V.int 6, V.int 7, V.int 8, V.int 2, V.int 3, V.int 3, V.int 4][i.val]? = some (.int (n.val : Nat)) := by decide +kernel
    obtain ⟨n, h1, h2, h3⟩ := this ⟨j, hj12⟩
    exact ⟨n.val, h1, h2, h3⟩
  refine ⟨q, _, _, .int n, rfl, rfl, SqT.of upd_same, ?_, k n _ (same_upd hq) hn1 hn8⟩
  show atI _ (c % 12) = _
  rw [hj]
  exact atI_nat hat
theorem scNames2 : FnScope ["_law_cell", "_law_many_here", "_law_letters", "_law_m", "_law_fill", "_law_first", "_law_size", "_law_place", "_law_row"] ["_law_cell", "_law_many_here"] (defScope s__law_names_by) := ⟨rfl, rfl, rfl, by decide +kernel, rfl, by decide +kernel, by decide +kernel⟩
theorem ok_names2 (T : Txt P w K mg t) : FnOk P w K mg base (CX1 P w) 1 t.a__law_names_by t.fd__law_names_by ["_law_cell", "_law_many_here"] spNames2 := by
  refine T.F__law_names_by.ok1 scNames2 (fun vs H Q E h => by obtain ⟨c, n, rfl, _⟩ := h; rfl) (fun cdv A outer s H vs Q E hr h => ?_)
  obtain ⟨c, n, rfl, hn1, hn8, k⟩ := h
  have nd := scNames2.nd
  refine ⟨_, (pss_cons (psc 2 nd pe_str)
      (pss_cons (psl 3 nd (pe_op op_mod (pvl 0) pe_int))
      (pss_cons (psc 4 nd (pe_ix ix_str (pvc 2) (pe_op op_mod (pe_op op_fdiv (pvl 3) pe_int) pe_int) (fun _ _ => rfl)))
      (pss_cons (psc 5 nd (pe_op op_mod (pe_op op_fdiv (pvl 3) pe_int) pe_int))
      (pss_cons (ps_if (pt_cmpR op_eq (pe_op op_mod (pvl 3) pe_int) pe_int (nomark _))
        (pss_one (ps_ret (pcallT call_tuple_of T.n_tuple Bt.tuple (pa_cons (pe_comp rfl ["_law_k", "_law_fill", "_law_first"] [none, some 4, some 5] (prange1 T.n_range (pa_cons (pvl 1) pa_nil)) (by kernel_rfl) (fun _ _ _ _ _ _ => (pgl 0 (show List.Nodup (α := PySem.Str) ["_law_k", "_law_fill", "_law_first"] by decide +kernel))) (fun _ _ _ _ _ _ => pts_nil) (fun _ _ _ _ _ _ => (pe_op op_mul_str (pvc 1) (pe_op op_add pe_int (pe_op op_mod (pe_op op_add (pvc 2) (pe_op op_mul pe_int (pvl 0))) pe_int))))) pa_nil))))
        pss_nil)
      (pss_cons (psc 6 nd (pe_op op_add pe_int (pe_op op_mod (pe_op op_fdiv (pvl 3) pe_int) pe_int)))
      (pss_cons (psc 7 nd (pe_op op_mod (pe_op op_fdiv (pvl 3) pe_int) (pvc 6)))
      (pss_cons (ps_setComp (i := 8) rfl ["_law_k", "_law_letters", "_law_first"] [none, some 2, some 5] nd rfl rfl (prange1 T.n_range (pa_cons (pvl 1) pa_nil)) (by kernel_rfl) (fun _ _ _ _ _ _ => (pgl 0 (show List.Nodup (α := PySem.Str) ["_law_k", "_law_letters", "_law_first"] by decide +kernel))) (fun _ _ _ _ _ _ => pts_nil) (fun _ _ _ _ _ _ => (pe_ix ix_str (pvc 1) (pe_op op_mod (pe_op op_add (pvc 2) (pe_op op_mul pe_int (pvl 0))) pe_int) (fun _ _ => rfl))))
      (pss_one (ps_ret (pcallT call_tuple_of T.n_tuple Bt.tuple (pa_cons (pe_comp rfl ["_law_letter", "_law_fill", "_law_place", "_law_size"] [none, some 4, some 7, some 6] (pi_list (pvl 8)) (by kernel_rfl) (fun _ _ _ _ _ _ => (pgl 0 (show List.Nodup (α := PySem.Str) ["_law_letter", "_law_fill", "_law_place", "_law_size"] by decide +kernel))) (fun _ _ _ _ _ _ => pts_nil) (fun _ _ _ _ _ _ => (pe_op op_add_str (pe_op op_add_str (pe_op op_mul_str (pvc 1) (pvc 2)) (pvl 0)) (pe_op op_mul_str (pvc 1) (pe_op op_sub (pe_op op_sub (pvc 3) pe_int) (pvc 2)))))) pa_nil)))))))))))), ?_⟩
  refine ⟨_, rfl, _, _, rfl, rfl, (by show (0 : Int) < 2147483629; decide), ?_⟩
  try dsimp (config := { proj := false, iota := false }) only
  have hm0 := Int.emod_nonneg c (show (2147483629 : Int) ≠ 0 by decide)
  generalize c % 2147483629 = m at hm0 ⊢
  refine ⟨_, rfl, _, rfl, _, _, rfl, rfl, ⟨by decide, by decide⟩, _, _, rfl, rfl, (by show (0 : Int) < 26; decide), _, _, _, rfl, rfl, (by show letters.length ≤ _; rw [letters_len]; decide), letter_at2 (by omega) (by omega), ?_⟩
  refine ⟨_, rfl, _, _, rfl, rfl, ⟨by decide, by decide⟩, _, _, rfl, rfl, (by show (0 : Int) < 26; decide), ?_⟩
  try dsimp (config := { proj := false, iota := false }) only
  obtain ⟨fill, hfe, hff⟩ : ∃ fill : Nat, 97 + (m / 4 % 26).toNat = fill ∧ 97 ≤ fill ∧ fill ≤ 122 := ⟨_, rfl, by omega, by omega⟩
  rw [hfe]
  obtain ⟨first, hfi, hf0, hf1⟩ : ∃ first : Int, m / 104 % 26 = first ∧ 0 ≤ first ∧ first < 26 := ⟨_, rfl, by omega, by omega⟩
  rw [hfi]
  have hn : n.toNat ≤ 8 := by omega
  have fin : ∀ (f : Nat → Str) (p3 : Addr) (H2 H3 : Hp), Same H H2 → H2 p3 = none → H3 = upd H2 p3 (.lst (((List.range n.toNat).map f).map V.str)) → Names ((List.range n.toNat).map f) → ∀ l, H3 l = none → Q (.ref l) (upd H3 l (.tup (((List.range n.toNat).map f).map V.str))) := by
    rintro f p3 H2 H3 s2 hp3 rfl hN l hl
    exact k l _ _ ((s2.trans (same_upd hp3)).trans (same_upd hl)) upd_same (by simp) hN
  refine ⟨_, rfl, _, _, rfl, rfl, (by show (0 : Int) < 4; decide), rfl, _, rfl, ite2 (fun _ => ?_) (fun _ => ?_)⟩
  · refine ⟨_, rfl, n, rfl, by omega, by omega, ?_⟩
    refine comp_range_map (n := n.toNat) (fun i => .str (nmA fill first i)) (lk (by omega)) (fun i R hi r => ?_) (fun p3 hp3 => ?_)
    · refine ⟨⟨rfl, rfl, trivial⟩, ?_⟩
      refine ⟨_, rfl, _, rfl, _, rfl, _, _, rfl, rfl, .inl ⟨by decide, by decide⟩, _, _, rfl, rfl, _, _, rfl, rfl, (by show (0 : Int) < 8; decide), _, _, rfl, rfl, _, _, rfl, rfl, (by rw [one_len]; decide), ?_, ?_, ?_⟩
      · show (-1000 : Int) ≤ 1 + (first + 3 * (0 + (i : Int))) % 8
        omega
      · show 1 + (first + 3 * (0 + (i : Int))) % 8 ≤ (1000 : Int)
        omega
      · have e : Txt.mul ⟨#[fill]⟩ (1 + (first + 3 * (0 + (i : Int))) % 8) = nmA fill first i := by
          rw [mul_rep, Int.zero_add]
          rfl
        rw [← e] at r
        exact r
    · have e : ((List.range n.toNat).map fun i => V.str (nmA fill first i)) = ((List.range n.toNat).map (nmA fill first)).map V.str := by rw [List.map_map]; rfl
      rw [e]
      exact ⟨p3, _, rfl, .inl ⟨SqL.of upd_same, fun l hl => fin _ p3 _ _ (Same.refl H) hp3 rfl (names_of _ (nmA_inj fill first) (fun i _ => nmA_name hff first i) hn) l hl⟩⟩
  · refine ⟨_, rfl, _, _, rfl, rfl, ⟨by decide, by decide⟩, _, _, rfl, rfl, (by show (0 : Int) < 8; decide), _, _, rfl, rfl, ?_⟩
    try dsimp (config := { proj := false, iota := false }) only
    obtain ⟨size, hse, hs1, hs8⟩ : ∃ size : Int, 1 + m / 2704 % 8 = size ∧ 1 ≤ size ∧ size ≤ 8 := ⟨_, rfl, by omega, by omega⟩
    rw [hse]
    refine ⟨_, rfl, _, _, rfl, rfl, ⟨by decide, by decide⟩, _, rfl, _, _, rfl, rfl, (by show (0 : Int) < size; omega), ?_⟩
    try dsimp (config := { proj := false, iota := false }) only
    have hp0 := Int.emod_nonneg (m / 21632) (show size ≠ 0 by omega)
    have hp1 := Int.emod_lt_of_pos (m / 21632) (show 0 < size by omega)
    generalize m / 21632 % size = place at hp0 hp1 ⊢
    refine ⟨_, rfl, n, rfl, by omega, by omega, ?_⟩
    refine comp_range_map (n := n.toNat) (fun (i : Nat) => .str ⟨#[97 + ((first + 5 * (i : Int)) % 26).toNat]⟩) (lk (by omega)) (fun i R hi r => ?_) (fun p2 hp2 => ?_)
    · refine ⟨⟨rfl, rfl, trivial⟩, ?_⟩
      refine ⟨_, rfl, _, rfl, _, rfl, _, _, rfl, rfl, .inl ⟨by decide, by decide⟩, _, _, rfl, rfl, _, _, rfl, rfl, (by show (0 : Int) < 26; decide), _, _, _, rfl, rfl, (by show letters.length ≤ _; rw [letters_len]; decide), letter_at2 (by omega) (by omega), ?_⟩
      have e : 97 + ((first + 5 * (0 + (i : Int))) % 26).toNat = 97 + ((first + 5 * (i : Int)) % 26).toNat := by rw [Int.zero_add]
      rw [← e] at r
      exact r
    have s2 := same_upd (o := .lst ((List.range n.toNat).map fun (i : Nat) => V.str ⟨#[97 + ((first + 5 * (i : Int)) % 26).toNat]⟩)) hp2
    have h2 : (upd H p2 (.lst ((List.range n.toNat).map fun (i : Nat) => V.str ⟨#[97 + ((first + 5 * (i : Int)) % 26).toNat]⟩))) p2 = some (.lst ((List.range n.toNat).map fun (i : Nat) => V.str ⟨#[97 + ((first + 5 * (i : Int)) % 26).toNat]⟩)) := upd_same
    generalize upd H p2 (.lst ((List.range n.toNat).map fun (i : Nat) => V.str ⟨#[97 + ((first + 5 * (i : Int)) % 26).toNat]⟩)) = H2 at s2 h2 ⊢
    refine ⟨_, rfl, p2, rfl, ⟨_, SqL.of h2⟩, ?_⟩
    refine comp_list_map (a := p2) (xs := (List.range n.toNat).map fun (i : Nat) => V.str ⟨#[97 + ((first + 5 * (i : Int)) % 26).toNat]⟩)
      (fun x => match x with | .str z => .str (repL fill place.toNat ++ z ++ repL fill (size - 1 - place).toNat) | x => x) (lk (by simp; omega)) (SqL.of h2) (fun x R hx r => ?_) (fun p3 hp3 => ?_)
    · obtain ⟨i, hi, rfl⟩ := List.mem_map.mp hx
      refine ⟨⟨rfl, rfl, rfl, trivial⟩, ?_⟩
      refine ⟨_, rfl, _, rfl, _, _, rfl, rfl, (by rw [one_len]; decide), by omega, by omega, _, rfl, ?_⟩
      rw [mul_rep]
      refine ⟨_, _, rfl, rfl, lk (by rw [repL_len, one_len]; omega), _, rfl, _, rfl, _, _, rfl, rfl, _, rfl, _, _, rfl, rfl, _, _, rfl, rfl, (by rw [one_len]; decide), ?_, ?_, ?_⟩
      · show (-1000 : Int) ≤ size - 1 - place
        omega
      · show size - 1 - place ≤ (1000 : Int)
        omega
      try dsimp (config := { proj := false, iota := false }) only
      rw [mul_rep]
      exact ⟨_, _, rfl, rfl, lk (by rw [Str.length_append, repL_len, repL_len, one_len]; omega), r⟩
    · have e : ((List.range n.toNat).map fun (i : Nat) => V.str ⟨#[97 + ((first + 5 * (i : Int)) % 26).toNat]⟩).map (fun x => match x with | .str z => .str (repL fill place.toNat ++ z ++ repL fill (size - 1 - place).toNat) | x => x) = ((List.range n.toNat).map (nmB fill first size place)).map V.str := by
        rw [List.map_map, List.map_map]
        rfl
      rw [e]
      exact ⟨p3, _, rfl, .inl ⟨SqL.of upd_same, fun l hl => fin _ p3 _ _ s2 hp3 rfl (names_of _ (nmB_inj fill first size place) (fun i _ => nmB_name hff first hs1 hs8 hp0 hp1 i) hn) l hl⟩⟩
end
end K23

namespace K23
open PySem L2 Mc
/-! ### the law's sentences -/
def spTB (n : Nat) : Sp := fun vs H Q _ => ∃ (p : Addr) (ns : List Str) (c d : Int), vs = [.ref p, .int c, .int d] ∧ H p = some (.tup (ns.map V.str)) ∧ 1 ≤ ns.length ∧ ns.length ≤ 8 ∧ 0 ≤ d ∧ d < n ∧
  ∀ (v : V) (tr : Tr) (H' : Hp), Same H H' → TrAt H' v tr → tr.depth ≤ n → tr.size + 1 ≤ 2 ^ n → (∀ x ∈ tr.names, x ∈ ns) → Q v H'
section
variable {P : Program} {w : World} {K : PySem.W.Frag} {mg : Str → Option Value} {base : Heap} {t : Adr}
theorem scTB : FnScope ["_law_names", "_law_cell", "_law_deep", "_law_m", "_law_way", "_law_rest", "_law_left", "_law_right"] ["_law_names", "_law_cell", "_law_deep"] (defScope s__law_tree_by) := ⟨rfl, rfl, rfl, by decide +kernel, rfl, by decide +kernel, by decide +kernel⟩
theorem ok_TB (T : Txt P w K mg t) : ∀ n : Nat, FnOk P w K mg base (CX1 P w) (n + 1) t.a__law_tree_by t.fd__law_tree_by ["_law_names", "_law_cell", "_law_deep"] (spTB n)
  | 0 => by
    refine T.F__law_tree_by.ok1 scTB (fun vs H Q E h => by obtain ⟨p, ns, c, d, rfl, _⟩ := h; rfl) (fun cdv A outer s H vs Q E hr h => ?_)
    obtain ⟨p, ns, c, d, rfl, _, _, _, h0, h1, _⟩ := h
    omega
  | n + 1 => by
    have G__law_tree_by := ok_TB T n
    refine T.F__law_tree_by.ok1 scTB (fun vs H Q E h => by obtain ⟨p, ns, c, d, rfl, _⟩ := h; rfl) (fun cdv A outer s H vs Q E hr h => ?_)
    obtain ⟨p, ns, c, d, rfl, hp, h1, h8, hd0, hdn, k⟩ := h
    have nd := scTB.nd
    have hpow : 1 ≤ 2 ^ n := Nat.one_le_two_pow
    have hpow2 : 2 ^ (n + 1) = 2 ^ n + 2 ^ n := by rw [Nat.pow_succ]; omega
    refine ⟨_, (pss_cons (psl 3 nd (pe_op op_mod (pvl 1) pe_int))
      (pss_cons (psl 4 nd (pe_op op_mod (pvl 3) pe_int))
      (pss_cons (psl 5 nd (pe_op op_fdiv (pvl 3) pe_int))
      (pss_cons (ps_if (PW.pt (pw_or (pt_cmpR op_eq (pvl 2) pe_int (nomark _)) (pw_or1 (pt_cmpR op_lt (pvl 4) pe_int (nomark _)))))
        (pss_cons (ps_if (pt_cmpR op_eq (pe_op op_mod (pvl 5) pe_int) pe_int (nomark _))
          (pss_one (ps_ret (pe_ix ix_tup (pe_tup (pa_cons (pe_tup (pa_cons pe_str pa_nil)) (pa_cons (pe_tup (pa_cons pe_str pa_nil)) pa_nil))) (pe_op op_mod (pe_op op_fdiv (pvl 5) pe_int) pe_int) (fun _ _ => rfl))))
          pss_nil)
        (pss_one (ps_ret (pe_tup (pa_cons pe_str (pa_cons (pe_ix ix_tup (pvl 0) (pe_op op_mod (pvl 5) (pcallB call_len_seq T.n_len Bt.len (pa_cons (pvl 0) pa_nil))) (fun _ _ => rfl)) pa_nil))))))
        pss_nil)
      (pss_cons (psl 6 nd (pcall G__law_tree_by (hr.mono (by first | decide | omega)) T.m__law_tree_by T.k__law_tree_by T.b__law_tree_by never1 (pa_cons (pvl 0) (pa_cons (pe_op op_mod (pe_op op_mul (pe_op op_add (pvl 5) pe_int) pe_int) pe_int) (pa_cons (pe_op op_sub (pvl 2) pe_int) pa_nil)))))
      (pss_cons (ps_if (pt_cmpR op_eq (pvl 4) pe_int (nomark _))
        (pss_one (ps_ret (pe_tup (pa_cons pe_str (pa_cons (pvl 6) pa_nil)))))
        pss_nil)
      (pss_cons (psl 7 nd (pcall G__law_tree_by (hr.mono (by first | decide | omega)) T.m__law_tree_by T.k__law_tree_by T.b__law_tree_by never1 (pa_cons (pvl 0) (pa_cons (pe_op op_mod (pe_op op_mul (pe_op op_add (pvl 5) pe_int) pe_int) pe_int) (pa_cons (pe_op op_sub (pvl 2) pe_int) pa_nil)))))
      (pss_one (ps_ret (pe_tup (pa_cons (pe_ix ix_tup (pe_tup (pa_cons pe_str (pa_cons pe_str (pa_cons pe_str (pa_cons pe_str (pa_cons pe_str (pa_cons pe_str pa_nil))))))) (pe_op op_sub (pvl 4) pe_int) (fun _ _ => rfl)) (pa_cons (pvl 6) (pa_cons (pvl 7) pa_nil))))))))))))), ?_⟩
    refine ⟨_, rfl, _, _, rfl, rfl, (by show (0 : Int) < 2147483647; decide), ?_⟩
    refine ⟨_, rfl, _, _, rfl, rfl, (by show (0 : Int) < 9; decide), ?_⟩
    refine ⟨_, rfl, _, _, rfl, rfl, ⟨by decide, by decide⟩, ?_⟩
    try dsimp (config := { proj := false, iota := false }) only
    have hw0 := Int.emod_nonneg (c % 2147483647) (show (9 : Int) ≠ 0 by decide)
    have hw9 := Int.emod_lt_of_pos (c % 2147483647) (show (0 : Int) < 9 by decide)
    generalize c % 2147483647 % 9 = way at hw0 hw9 ⊢
    generalize c % 2147483647 / 9 = rest
    refine ⟨_, rfl, rfl, _, rfl, ite2 (fun c1 => iteT ?A1) (fun c1 => ⟨_, rfl, _, _, rfl, rfl, _, rfl, ite2 (fun c2 => ?A2) (fun c2 => ?B)⟩)⟩
    case A1 | A2 =>
      refine ⟨_, rfl, _, _, rfl, rfl, (by show (0 : Int) < 11; decide), rfl, _, rfl, ite2 (fun _ => ?_) (fun _ => ?_)⟩
      · refine ⟨lk (by first | exact Nat.le_of_ble_eq_true rfl | simp), fun p1 hp1 => ⟨lk (by first | exact Nat.le_of_ble_eq_true rfl | simp), fun p2 hp2 => ⟨lk (by first | exact Nat.le_of_ble_eq_true rfl | simp), fun p3 hp3 => ?_⟩⟩⟩
        have s1 := same_upd (o := .tup [.str "yes"]) hp1
        have s2 := same_upd (o := .tup [.str "no"]) hp2
        have s3 := same_upd (o := .tup [.ref p1, .ref p2]) hp3
        refine ⟨_, rfl, _, _, rfl, rfl, ⟨by decide, by decide⟩, _, _, rfl, rfl, (by show (0 : Int) < 2; decide), ?_⟩
        have hz : rest / 11 % 2 = 0 ∨ rest / 11 % 2 = 1 := by omega
        rcases hz with hz | hz
        · refine ⟨p3, _, _, .ref p1, rfl, rfl, SqT.of upd_same, (by show atI _ (rest / 11 % 2) = _; rw [hz]; rfl), ?_⟩
          exact k (.ref p1) .yes _ ((s1.trans s2).trans s3) (.yes (s3 _ _ (s2 _ _ upd_same))) (by show 1 ≤ n + 1; omega) (by show 1 + 1 ≤ 2 ^ (n + 1); omega) fun x hx => by cases hx
        · refine ⟨p3, _, _, .ref p2, rfl, rfl, SqT.of upd_same, (by show atI _ (rest / 11 % 2) = _; rw [hz]; rfl), ?_⟩
          exact k (.ref p2) .no _ ((s1.trans s2).trans s3) (.no (s3 _ _ upd_same)) (by show 1 ≤ n + 1; omega) (by show 1 + 1 ≤ 2 ^ (n + 1); omega) fun x hx => by cases hx
      · have el : ((ns.map V.str).length : Int) = ns.length := by rw [List.length_map]
        have hq0 := Int.emod_nonneg rest (by omega : ((ns.length : Int)) ≠ 0)
        have hq1 := Int.emod_lt_of_pos rest (by omega : 0 < (ns.length : Int))
        have hlt : (rest % (ns.length : Int)).toNat < ns.length := by omega
        refine ⟨_, rfl, _, rfl, _, rfl, p, _, rfl, .inr (SqT.of hp), _, _, rfl, rfl, (by rw [el]; omega), p, _, _, V.str ns[(rest % (ns.length : Int)).toNat], rfl, rfl, SqT.of hp, atI_some (by rw [el]; exact hq0) ?_, lk (by first | exact Nat.le_of_ble_eq_true rfl | simp), fun q hq => ?_⟩
        · rw [el, List.getElem?_map, List.getElem?_eq_getElem hlt]
          rfl
        · exact k (.ref q) (.nm ns[(rest % (ns.length : Int)).toNat]) _ (same_upd hq) (.nm upd_same) (by show 1 ≤ n + 1; omega) (by show 1 + 1 ≤ 2 ^ (n + 1); omega) fun x hx => by
            have hx : x ∈ [ns[(rest % (ns.length : Int)).toNat]] := hx
            rw [List.mem_singleton.mp hx]
            exact List.getElem_mem hlt
    case B =>
      have hd1 : 1 ≤ d := by
        have : ¬ d = 0 := fun z => c1 (decide_eq_true (congrArg V.int z))
        omega
      have hw2 : 2 ≤ way := by
        have : ¬ way < 2 := fun z => c2 (decide_eq_true z)
        omega
      refine ⟨_, rfl, _, rfl, _, _, rfl, rfl, _, _, rfl, rfl, .inr ⟨by decide, by decide⟩, _, _, rfl, rfl, (by show (0 : Int) < 2147483647; decide), _, rfl, _, _, rfl, rfl, p, ns, _, d - 1, rfl, hp, h1, h8, by omega, by omega, fun v1 t1 H1 s1 ht1 hd1' hz1 hn1 => ?_⟩
      refine ⟨_, rfl, rfl, _, rfl, ite2 (fun _ => ?_) (fun c3 => ?_)⟩
      · refine ⟨_, rfl, lk (by first | exact Nat.le_of_ble_eq_true rfl | simp), fun q hq => ?_⟩
        exact k (.ref q) (.not t1) _ (s1.trans (same_upd hq)) (.not upd_same (ht1.mono (same_upd hq).tups)) (by show t1.depth + 1 ≤ n + 1; omega) (by show t1.size + 1 + 1 ≤ 2 ^ (n + 1); omega) hn1
      · have hw3 : 3 ≤ way := by
          have : ¬ way = 2 := fun z => c3 (decide_eq_true (congrArg V.int z))
          omega
        refine ⟨_, rfl, _, rfl, _, _, rfl, rfl, _, _, rfl, rfl, .inr ⟨by decide, by decide⟩, _, _, rfl, rfl, (by show (0 : Int) < 2147483629; decide), _, rfl, _, _, rfl, rfl, p, ns, _, d - 1, rfl, s1 _ _ hp, h1, h8, by omega, by omega, fun v2 t2 H2 s2 ht2 hd2' hz2 hn2 => ?_⟩
        refine ⟨lk (by first | exact Nat.le_of_ble_eq_true rfl | simp), fun q1 hq1 => ?_⟩
        have s3 := same_upd (o := .tup [.str "and", .str "or", .str "then", .str "same", .str "and", .str "or"]) hq1
        obtain ⟨o, ho⟩ : ∃ o : Op, atI [V.str "and", V.str "or", V.str "then", V.str "same", V.str "and", V.str "or"] (way - 3) = some (.str o.str) := by
          have hw : way = 3 ∨ way = 4 ∨ way = 5 ∨ way = 6 ∨ way = 7 ∨ way = 8 := by omega
          rcases hw with rfl | rfl | rfl | rfl | rfl | rfl
          · exact ⟨.and, rfl⟩
          · exact ⟨.or, rfl⟩
          · exact ⟨.thn, rfl⟩
          · exact ⟨.same, rfl⟩
          · exact ⟨.and, rfl⟩
          · exact ⟨.or, rfl⟩
        refine ⟨_, rfl, _, _, rfl, rfl, q1, _, _, .str o.str, rfl, rfl, SqT.of upd_same, ho, _, rfl, _, rfl, lk (by first | exact Nat.le_of_ble_eq_true rfl | simp), fun q2 hq2 => ?_⟩
        have s4 := same_upd (o := .tup [.str o.str, v1, v2]) hq2
        exact k (.ref q2) (.bin o t1 t2) _ (((s1.trans s2).trans s3).trans s4) (.bin upd_same (ht1.mono ((s2.trans s3).trans s4).tups) (ht2.mono (s3.trans s4).tups)) (by show max t1.depth t2.depth + 1 ≤ n + 1; omega) (by show t1.size + t2.size + 1 + 1 ≤ 2 ^ (n + 1); omega) fun x hx => by
          have hx : x ∈ t1.names ++ t2.names := hx
          rcases List.mem_append.mp hx with hx | hx
          · exact hn1 x hx
          · exact hn2 x hx
end
end K23

namespace K23
open PySem L2 Mc
/-! ### the law's columns and tables -/
def spColumn : Sp := fun vs H Q _ => ∃ n k : Nat, vs = [.int n, .int k] ∧ k < n ∧ n ≤ 8 ∧ Q (.int (colN n k : Nat)) H
theorem pw1 (k : Nat) : (1 : Int) * 2 ^ ((k : Nat) : Int).toNat = ((2 ^ k : Nat) : Int) := by rw [Int.toNat_natCast]; simp
theorem pw256 {k : Nat} (h : k ≤ 8) : 2 ^ k ≤ 256 := Nat.pow_le_pow_right (n := 2) (by decide) h
theorem pwI {k : Nat} (h : k ≤ 8) : (0 : Int) ≤ ((2 ^ k : Nat) : Int) ∧ ((2 ^ k : Nat) : Int) ≤ 1000 := ⟨Int.natCast_nonneg _, Int.ofNat_le.mpr (Nat.le_trans (pw256 h) (by decide))⟩
theorem shl_of {i j : Int} (h0 : 0 ≤ j) (h1 : j ≤ 1000) (hi : i.natAbs < 2 ^ 256 * 2 ^ 44) : CShl i j := ⟨h0, by omega, Nat.lt_of_lt_of_le hi (by rw [← Nat.pow_add]; exact Nat.pow_le_pow_right (by decide) (by decide))⟩
theorem one_small : (1 : Int).natAbs < 2 ^ 256 * 2 ^ 44 := by decide
theorem full_small {m : Nat} (h : m ≤ 256) : (((2 ^ m - 1 : Nat) : Int)).natAbs < 2 ^ 256 * 2 ^ 44 := by
  rw [Int.natAbs_natCast]
  have h1 : 2 ^ m ≤ 2 ^ 256 := Nat.pow_le_pow_right (by decide) h
  have h2 : 1 ≤ 2 ^ m := Nat.one_le_two_pow
  omega
theorem pw2 (m : Nat) : (1 : Int) * 2 ^ ((m : Nat) : Int).toNat - 1 = ((2 ^ m - 1 : Nat) : Int) := by
  rw [pw1]
  have : 1 ≤ 2 ^ m := Nat.one_le_two_pow
  omega
theorem col_small {j k : Nat} (h : j ≤ 8) : (((colN j k : Nat) : Int)).natAbs < 2 ^ 256 * 2 ^ 44 := by
  rw [Int.natAbs_natCast]
  have h1 : colN j k < 2 ^ (2 ^ j) := bsum_lt _ _
  have h2 : 2 ^ (2 ^ j) ≤ 2 ^ 256 := Nat.pow_le_pow_right (by decide) (pw256 h)
  omega
section
variable {P : Program} {w : World} {K : PySem.W.Frag} {mg : Str → Option Value} {base : Heap} {t : Adr}
theorem scColumn : FnScope ["_law_n", "_law_k", "_law_row", "_law_size"] ["_law_n", "_law_k"] (defScope s__law_column) := ⟨rfl, rfl, rfl, by decide +kernel, rfl, by decide +kernel, by decide +kernel⟩
theorem ok_column (T : Txt P w K mg t) : FnOk P w K mg base (CX1 P w) 1 t.a__law_column t.fd__law_column ["_law_n", "_law_k"] spColumn := by
  refine T.F__law_column.ok1 scColumn (fun vs H Q E h => by obtain ⟨n, k, rfl, _⟩ := h; rfl) (fun cdv A outer s H vs Q E hr h => ?_)
  obtain ⟨n, kk, rfl, hk, hn, k⟩ := h
  have nd := scColumn.nd
  refine ⟨_, (pss_cons (psl 2 nd (pe_op op_shlB (pe_op op_sub (pe_op op_shlB pe_int (pe_op op_shlB pe_int (pvl 1))) pe_int) (pe_op op_shlB pe_int (pvl 1))))
      (pss_cons (psl 3 nd (pe_op op_shlB pe_int (pvl 1)))
      (pss_cons (ps_while own1 (pt_cmpR op_lt (pvl 3) (pe_op op_shlB pe_int (pvl 0)) (nomark _))
        (pss_cons (psl 2 nd (pe_op op_or (pvl 2) (pe_op op_shlB (pvl 2) (pvl 3))))
        (pss_one (psl 3 nd (pe_op op_mul pe_int (pvl 3))))))
      (pss_one (ps_ret (pvl 2)))))), ?_⟩
  have hk8 := pw256 (show kk ≤ 8 by omega)
  have cA : CShl 1 ((kk : Nat) : Int) := shl_of (by omega) (by omega) one_small
  have cB : CShl 1 ((1 : Int) * 2 ^ ((kk : Nat) : Int).toNat) := by rw [pw1]; exact shl_of (pwI (by omega)).1 (pwI (by omega)).2 one_small
  have cC : CShl ((1 : Int) * 2 ^ ((1 : Int) * 2 ^ ((kk : Nat) : Int).toNat).toNat - 1) ((1 : Int) * 2 ^ ((kk : Nat) : Int).toNat) := by
    rw [pw1, pw2]
    exact shl_of (pwI (by omega)).1 (pwI (by omega)).2 (full_small hk8)
  refine ⟨_, rfl, _, _, rfl, rfl, cA, _, _, rfl, rfl, cB, _, _, rfl, rfl, _, rfl, _, _, rfl, rfl, cA, _, _, rfl, rfl, cC, ?_⟩
  have e0 : ((1 : Int) * 2 ^ ((1 : Int) * 2 ^ ((kk : Nat) : Int).toNat).toNat - 1) * 2 ^ ((1 : Int) * 2 ^ ((kk : Nat) : Int).toNat).toNat = ((colN (kk + 1) kk : Nat) : Int) := by
    rw [pw1, pw2, Int.toNat_natCast, ← col_start, Int.natCast_mul]
    simp
  try dsimp (config := { proj := false, iota := false }) only
  rw [e0]
  refine ⟨_, rfl, _, _, rfl, rfl, shl_of (by omega) (by omega) (by decide), ?_⟩
  have e1 : (2 : Int) * 2 ^ ((kk : Nat) : Int).toNat = ((2 ^ (kk + 1) : Nat) : Int) := by rw [Int.toNat_natCast, Nat.pow_succ]; simp [Int.mul_comm]
  try dsimp (config := { proj := false, iota := false }) only
  rw [e1]
  refine ⟨fun m σ H2 => ∃ j : Nat, σ = [some (.int n), some (.int kk), some (.int (colN j kk : Nat)), some (.int (2 ^ j : Nat))] ∧ H2 = H ∧ kk < j ∧ j ≤ n ∧ m = n - j, ⟨_, kk + 1, rfl, rfl, by omega, by omega, rfl⟩, ?_⟩
  rintro m σ H2 ⟨j, rfl, rfl, hj, hjn, rfl⟩
  refine ⟨_, rfl, _, rfl, _, _, rfl, rfl, shl_of (by omega) (by omega) one_small, ?_⟩
  try dsimp (config := { proj := false, iota := false }) only
  rw [pw1]
  refine ⟨_, _, rfl, rfl, _, rfl, ite2 (fun c => ?_) (fun c => ?_)⟩
  · have c : ((2 ^ j : Nat) : Int) < ((2 ^ n : Nat) : Int) := of_decide_eq_true c
    have hjl : j < n := by
      rcases Nat.lt_or_ge j n with h | h
      · exact h
      · have : 2 ^ n ≤ 2 ^ j := Nat.pow_le_pow_right (by decide) h
        omega
    have hj8 := pw256 (show j ≤ 8 by omega)
    refine ⟨fun σ' H' => ∃ m', m' < n - j ∧ ∃ j : Nat, σ' = [some (.int n), some (.int kk), some (.int (colN j kk : Nat)), some (.int (2 ^ j : Nat))] ∧ H' = H2 ∧ kk < j ∧ j ≤ n ∧ m' = n - j, fun _ _ h => h, ?_⟩
    refine ⟨_, rfl, _, rfl, _, rfl, _, _, rfl, rfl, shl_of (pwI (by omega)).1 (pwI (by omega)).2 (col_small (by omega)), ?_⟩
    have e2 : ((colN j kk : Nat) : Int) * 2 ^ ((2 ^ j : Nat) : Int).toNat = ((colN j kk * 2 ^ (2 ^ j) : Nat) : Int) := by rw [Int.toNat_natCast, Int.natCast_mul]; simp
    try dsimp (config := { proj := false, iota := false }) only
    rw [e2]
    refine ⟨_, _, rfl, rfl, ?_⟩
    try dsimp (config := { proj := false, iota := false }) only
    rw [bor, col_step hj]
    refine ⟨_, rfl, _, _, rfl, rfl, .inl ⟨by decide, by decide⟩, ?_⟩
    have e3 : (2 : Int) * ((2 ^ j : Nat) : Int) = ((2 ^ (j + 1) : Nat) : Int) := by rw [Nat.pow_succ]; omega
    try dsimp (config := { proj := false, iota := false }) only
    rw [e3]
    exact ⟨_, by omega, j + 1, rfl, rfl, by omega, by omega, rfl⟩
  · have c : ¬ ((2 ^ j : Nat) : Int) < ((2 ^ n : Nat) : Int) := fun z => c (decide_eq_true z)
    have hjl : j = n := by
      rcases Nat.lt_or_ge j n with h | h
      · have : 2 ^ j < 2 ^ n := Nat.pow_lt_pow_right (by decide) h
        omega
      · omega
    subst hjl
    exact ⟨_, rfl, k⟩
end
end K23

namespace K23
open PySem L2 Mc
def spLTable (d : Nat) : Sp := fun vs H Q _ => ∃ (p : Addr) (v : V) (ns : List Str) (tr : Tr), vs = [.ref p, v] ∧ H p = some (.tup (ns.map V.str)) ∧ ns.length ≤ 8 ∧ TrAt H v tr ∧ tr.depth ≤ d ∧ (∀ x ∈ tr.names, x ∈ ns) ∧ ∀ H', Same H H' → Q (.int (tableN ns tr : Nat)) H'
theorem eqV_str (x y : Str) : eqV (.str x) (.str y) = decide (x = y) := by
  show (x == y) = _
  by_cases z : x = y
  · simp [z]
  · simp [z]
theorem getD_strs (ns : List Str) {j : Nat} (h : j < ns.length) : (ns.map V.str).getD j .non = .str ns[j] := by
  rw [List.getD, List.getElem?_map, List.getElem?_eq_getElem h]
  rfl
theorem before_idx {ns : List Str} {x : Str} {m : Nat} (h : m < ns.idxOf x) (hm : m < ns.length) : ¬ ns[m] = x := by
  have := List.not_of_lt_findIdx (p := fun y => y == x) (xs := ns) (i := m) h
  intro z
  rw [z] at this
  simp at this
section
variable {P : Program} {w : World} {K : PySem.W.Frag} {mg : Str → Option Value} {base : Heap} {t : Adr}
theorem scLTable : FnScope ["_law_names", "_law_tree", "_law_everything", "_law_left", "_law_right"] ["_law_names", "_law_tree"] (defScope s__law_table) := ⟨rfl, rfl, rfl, by decide +kernel, rfl, by decide +kernel, by decide +kernel⟩
theorem ok_ltable (T : Txt P w K mg t) : ∀ d : Nat, FnOk P w K mg base (CX1 P w) (d + 2) t.a__law_table t.fd__law_table ["_law_names", "_law_tree"] (spLTable d)
  | 0 => by
    refine T.F__law_table.ok1 scLTable (fun vs H Q E h => by obtain ⟨p, v, ns, tr, rfl, _⟩ := h; rfl) (fun cdv A outer s H vs Q E hr h => ?_)
    obtain ⟨p, v, ns, tr, rfl, hp, h8, ht, hd, k⟩ := h
    have := tr.depth_pos
    omega
  | d + 1 => by
    have G__law_table := ok_ltable T d
    have G__law_column : FnOk P w K mg base (CX1 P w) 1 t.a__law_column t.fd__law_column ["_law_n", "_law_k"] spColumn := ok_column T
    refine T.F__law_table.ok1 scLTable (fun vs H Q E h => by obtain ⟨p, v, ns, tr, rfl, _⟩ := h; rfl) (fun cdv A outer s H vs Q E hr h => ?_)
    obtain ⟨p, v, ns, tr, rfl, hp, h8, ht, hd, hin, k⟩ := h
    obtain ⟨a, rest, rfl, ha, hnm, hkid⟩ := ht.open
    have nd := scLTable.nd
    refine ⟨_, (pss_cons (psl 2 nd (pe_op op_sub (pe_op op_shl pe_int (pe_op op_shl pe_int (pcallB call_len_seq T.n_len Bt.len (pa_cons (pvl 0) pa_nil)))) pe_int))
      (pss_cons (ps_if (pt_cmpR op_eq (pcallB call_len_seq T.n_len Bt.len (pa_cons (pvl 1) pa_nil)) pe_int (nomark _))
        (pss_one (ps_ret (pe_ix ix_list (pe_lst (pa_cons pe_int (pa_cons (pvl 2) pa_nil))) (pcallT call_int1 T.n_int Bt.int (pa_cons (pe_cmpR op_eq (pe_ix ix_tup (pvl 1) pe_int (fun _ _ => rfl)) pe_str (nomark _)) pa_nil)) (fun _ _ => rfl))))
        pss_nil)
      (pss_cons (ps_if (pt_cmpR op_eq (pe_ix ix_tup (pvl 1) pe_int (fun _ _ => rfl)) pe_str (nomark _))
        (pss_one (ps_ret (pcall G__law_column (hr.mono (by first | decide | omega)) T.m__law_column T.k__law_column T.b__law_column never1 (pa_cons (pcallB call_len_seq T.n_len Bt.len (pa_cons (pvl 0) pa_nil)) (pa_cons (pe_bmT PySem.F.slot_tuple_index PySem.F.type_tuple_index mt_indexT (pvl 0) (pa_cons (pe_ix ix_tup (pvl 1) pe_int (fun _ _ => rfl)) pa_nil)) pa_nil)))))
        pss_nil)
      (pss_cons (psl 3 nd (pcall G__law_table (hr.mono (by first | decide | omega)) T.m__law_table T.k__law_table T.b__law_table never1 (pa_cons (pvl 0) (pa_cons (pe_ix ix_tup (pvl 1) pe_int (fun _ _ => rfl)) pa_nil))))
      (pss_cons (ps_if (pt_cmpR op_eq (pe_ix ix_tup (pvl 1) pe_int (fun _ _ => rfl)) pe_str (nomark _))
        (pss_one (ps_ret (pe_op op_xor (pvl 2) (pvl 3))))
        pss_nil)
      (pss_cons (psl 4 nd (pcall G__law_table (hr.mono (by first | decide | omega)) T.m__law_table T.k__law_table T.b__law_table never1 (pa_cons (pvl 0) (pa_cons (pe_ix ix_tup (pvl 1) pe_int (fun _ _ => rfl)) pa_nil))))
      (pss_cons (ps_if (pt_cmpR op_eq (pe_ix ix_tup (pvl 1) pe_int (fun _ _ => rfl)) pe_str (nomark _))
        (pss_one (ps_ret (pe_op op_and (pvl 3) (pvl 4))))
        pss_nil)
      (pss_cons (ps_if (pt_cmpR op_eq (pe_ix ix_tup (pvl 1) pe_int (fun _ _ => rfl)) pe_str (nomark _))
        (pss_one (ps_ret (pe_op op_or (pvl 3) (pvl 4))))
        pss_nil)
      (pss_cons (ps_if (pt_cmpR op_eq (pe_ix ix_tup (pvl 1) pe_int (fun _ _ => rfl)) pe_str (nomark _))
        (pss_one (ps_ret (pe_op op_or (pe_op op_xor (pvl 2) (pvl 3)) (pvl 4))))
        pss_nil)
      (pss_one (ps_ret (pe_op op_xor (pe_op op_xor (pvl 2) (pvl 3)) (pvl 4))))))))))))), ?_⟩
    have el : (ns.map V.str).length = ns.length := List.length_map _
    have ix0 : atI (V.str tr.tag :: rest) 0 = some (.str tr.tag) := atI_nat (j := 0) rfl
    have c1 : CPow 1 (((ns.map V.str).length : Nat) : Int) := ⟨by omega, by rw [el]; omega, by decide⟩
    have c2 : CPow 1 ((1 : Int) * 2 ^ (((ns.map V.str).length : Nat) : Int).toNat) := by
      rw [el, pw1]
      exact ⟨(pwI h8).1, by have := (pwI h8).2; omega, by decide⟩
    have ef : (1 : Int) * 2 ^ ((1 : Int) * 2 ^ (((ns.map V.str).length : Nat) : Int).toNat).toNat - 1 = ((fullN ns.length : Nat) : Int) := by
      rw [el, pw1, pw2]
      rfl
    refine ⟨_, rfl, p, _, rfl, .inr (SqT.of hp), _, _, rfl, rfl, c1, _, _, rfl, rfl, c2, _, _, rfl, rfl, ?_⟩
    try dsimp (config := { proj := false, iota := false }) only
    rw [ef]
    refine ⟨_, rfl, a, _, rfl, .inr (SqT.of ha), rfl, _, rfl, ite2 (fun c => ?L) (fun c1 => ⟨_, rfl, a, _, 0, .str tr.tag, rfl, rfl, SqT.of ha, ix0, rfl, _, rfl, ite2 (fun c => ?N) (fun c2 => ?R)⟩)⟩
    case L =>
      have c : (((V.str tr.tag :: rest).length : Nat) : Int) = 1 := V.int.inj (of_decide_eq_true c)
      rw [List.length_cons] at c
      have er : rest = [] := List.eq_nil_of_length_eq_zero (by omega)
      refine ⟨_, rfl, lk (by first | exact Nat.le_of_ble_eq_true rfl | simp), fun l hl => ?_⟩
      have s1 := same_upd (o := .lst [.int 0, .int (fullN ns.length : Nat)]) hl
      refine ⟨_, rfl, a, _, 0, .str tr.tag, rfl, rfl, SqT.of (s1 _ _ ha), ix0, rfl, .inr ⟨_, rfl, ?_⟩⟩
      subst er
      cases tr with
      | nm x =>
        obtain ⟨_, _, e⟩ := hnm rfl
        cases e
      | yes =>
        rw [show decide (V.str Tr.yes.tag = V.str "yes") = true from decide_eq_true rfl]
        refine ⟨l, _, 1, _, rfl, rfl, SqL.of upd_same, rfl, ?_⟩
        have k := k _ s1
        rw [tb_yes] at k
        exact k
      | no =>
        rw [show decide (V.str Tr.no.tag = V.str "yes") = false from decide_eq_false (by intro z; exact absurd (V.str.inj z) (by show ¬ (("no" : Str) = "yes"); decide +kernel))]
        refine ⟨l, _, 0, _, rfl, rfl, SqL.of upd_same, rfl, ?_⟩
        have k := k _ s1
        rw [tb_no] at k
        exact k
      | not u => cases hkid rfl
      | bin o x y => cases hkid rfl
    case N =>
      obtain ⟨x, rfl⟩ := tg_nm (of_decide_eq_true c)
      have hx : x ∈ ns := hin x List.mem_cons_self
      have hi := List.idxOf_lt_length_iff.mpr hx
      have hg : ns[ns.idxOf x] = x := List.getElem_idxOf hi
      refine ⟨_, rfl, p, _, rfl, .inr (SqT.of hp), _, rfl, p, _, rfl, hp, _, rfl, a, _, 1, .str x, rfl, rfl, SqT.of (trNm ht), rfl, p, _, .str x, ns.idxOf x, rfl, rfl, SqT.of hp, rfl, flat_strs ns, by rw [el]; exact hi, ?_, fun m hm => ?_, ns.length, ns.idxOf x, ?_, hi, h8, k H (Same.refl H)⟩
      · rw [getD_strs ns hi, hg, eqV_str, decide_eq_true rfl]
      · rw [getD_strs ns (by omega), eqV_str]
        exact decide_eq_false (before_idx hm (by omega))
      · rw [el]; rfl
    case R =>
      have c1 : ¬ (((V.str tr.tag :: rest).length : Nat) : Int) = 1 := fun z => c1 (decide_eq_true (congrArg V.int z))
      rw [List.length_cons] at c1
      cases tr with
      | nm x => exact absurd (decide_eq_true rfl) c2
      | yes =>
        cases hkid rfl
        exact absurd rfl c1
      | no =>
        cases hkid rfl
        exact absurd rfl c1
      | not u =>
        obtain ⟨vu, hau, htu⟩ := trNot ht
        have hd : u.depth + 1 ≤ d + 1 := hd
        refine ⟨_, rfl, _, rfl, a, _, 1, vu, rfl, rfl, SqT.of hau, rfl, p, vu, ns, u, rfl, hp, h8, htu, by omega, hin, fun H1 s1 => ?_⟩
        refine ⟨_, rfl, a, _, 0, .str "not", rfl, rfl, SqT.of (s1 _ _ hau), rfl, rfl, _, rfl, ite2 (fun c => ?_) (fun c => absurd (decide_eq_true rfl) c)⟩
        refine ⟨_, rfl, _, rfl, _, _, rfl, rfl, ?_⟩
        have k := k H1 s1
        rw [tb_not, ← bxor] at k
        exact k
      | bin o x y =>
        obtain ⟨vx, vy, hab, htx, hty⟩ := trBin ht
        have hd : max x.depth y.depth + 1 ≤ d + 1 := hd
        have nn : ¬ (decide (V.str o.str = V.str ("not" : Str)) = true) := fun z => (opStr_ne o).2.2.1 (V.str.inj (of_decide_eq_true z))
        refine ⟨_, rfl, _, rfl, a, _, 1, vx, rfl, rfl, SqT.of hab, rfl, p, vx, ns, x, rfl, hp, h8, htx, by omega, fun z hz => hin z (List.mem_append_left _ hz), fun H1 s1 => ?_⟩
        refine ⟨_, rfl, a, _, 0, .str o.str, rfl, rfl, SqT.of (s1 _ _ hab), rfl, rfl, _, rfl, ite2 (fun c => absurd c nn) (fun _ => ?_)⟩
        refine ⟨_, rfl, _, rfl, a, _, 2, vy, rfl, rfl, SqT.of (s1 _ _ hab), rfl, p, vy, ns, y, rfl, s1 _ _ hp, h8, hty.mono s1.tups, by omega, fun z hz => hin z (List.mem_append_right _ hz), fun H2 s2 => ?_⟩
        have s12 := s1.trans s2
        have k := k H2 s12
        refine ⟨_, rfl, a, _, 0, .str o.str, rfl, rfl, SqT.of (s12 _ _ hab), rfl, rfl, _, rfl, ite2 (fun c => ?A) (fun c1 => ⟨_, rfl, a, _, 0, .str o.str, rfl, rfl, SqT.of (s12 _ _ hab), rfl, rfl, _, rfl, ite2 (fun c => ?O) (fun c2 => ⟨_, rfl, a, _, 0, .str o.str, rfl, rfl, SqT.of (s12 _ _ hab), rfl, rfl, _, rfl, ite2 (fun c => ?T) (fun c3 => ?S)⟩)⟩)⟩
        case A =>
          obtain rfl : o = .and := tg_op (o' := .and) (of_decide_eq_true c)
          rw [tb_and, ← band] at k
          exact ⟨_, rfl, _, rfl, _, _, rfl, rfl, k⟩
        case O =>
          obtain rfl : o = .or := tg_op (o' := .or) (of_decide_eq_true c)
          rw [tb_or, ← bor] at k
          exact ⟨_, rfl, _, rfl, _, _, rfl, rfl, k⟩
        case T =>
          obtain rfl : o = .thn := tg_op (o' := .thn) (of_decide_eq_true c)
          rw [tb_thn, ← bor, ← bxor] at k
          exact ⟨_, rfl, _, rfl, _, _, rfl, rfl, _, rfl, _, _, rfl, rfl, k⟩
        case S =>
          obtain rfl : o = .same := by
            cases o with
            | and => exact absurd (decide_eq_true rfl) c1
            | or => exact absurd (decide_eq_true rfl) c2
            | thn => exact absurd (decide_eq_true rfl) c3
            | same => rfl
          rw [tb_same, ← bxor, ← bxor] at k
          exact ⟨_, rfl, _, rfl, _, _, rfl, rfl, _, rfl, _, _, rfl, rfl, k⟩
end
end K23

namespace K23
open PySem L2 Mc
/-! ### a sentence of a table -/
theorem IsName.lay {x : Str} (h : IsName x) : PyData.strOk x = true := by
  unfold PyData.strOk
  rw [← Array.all_toList]
  exact List.all_eq_true.mpr fun c hc => decide_eq_true (by have := (h.ok c hc).2; omega)
/-- a sentence that chooses by a name -/
def Chooses (x : Str) (t0 t1 t : Tr) : Prop := (∀ g : Str → Bool, evalB g t = if g x = true then evalB g t1 else evalB g t0) ∧ t.size ≤ t0.size + t1.size + 5 ∧ t.depth ≤ max t0.depth t1.depth + 2 ∧ ∀ y ∈ t.names, y = x ∨ y ∈ t0.names ∨ y ∈ t1.names
def spChosen : Sp := fun vs H Q _ => ∃ (q : Addr) (v0 v1 : V) (x : Str) (t0 t1 : Tr), vs = [.ref q, v0, v1] ∧ H q = some (.tup [.str "name", .str x]) ∧ TrAt H v0 t0 ∧ TrAt H v1 t1 ∧ t0.depth ≤ 60 ∧ t1.depth ≤ 60 ∧ (∀ y ∈ t0.names, PyData.strOk y = true) ∧ (∀ y ∈ t1.names, PyData.strOk y = true) ∧
  ∀ (v : V) (t : Tr) (H' : Hp), Same H H' → TrAt H' v t → Chooses x t0 t1 t → Q v H'
def spTreeOf (d : Nat) : Sp := fun vs H Q _ => ∃ (p : Addr) (n : Nat) (ns : List Str) (tab : Nat), vs = [.ref p, .int (tab : Int)] ∧ H p = some (.tup (ns.map V.str)) ∧ ns.length = n ∧ n ≤ d ∧ d ≤ 8 ∧ ns.Nodup ∧ (∀ x ∈ ns, IsName x) ∧ tab < 2 ^ 2 ^ n ∧
  ∀ (v : V) (t : Tr) (H' : Hp), Same H H' → TrAt H' v t → tableN ns t = tab → t.size + 5 ≤ 6 * 2 ^ n → t.depth ≤ 2 * n + 1 → (∀ y ∈ t.names, y ∈ ns) → Q v H'
theorem inW_snoc {ns : List Str} {x y : Str} (i : Nat) (hy : y ∈ ns) : inW (ns ++ [x]) i y = i.testBit (ns.idxOf y) := by
  unfold inW
  rw [List.idxOf_append, if_pos hy]
theorem inW_last {ns : List Str} {x : Str} (i : Nat) (hx : x ∉ ns) : inW (ns ++ [x]) i x = i.testBit ns.length := by
  unfold inW
  rw [List.idxOf_append, if_neg hx]
  simp
theorem table_split {ns : List Str} {x : Str} {t0 t1 t : Tr} {tab : Nat} (hx : x ∉ ns) (h0 : tableN ns t0 = tab % 2 ^ 2 ^ ns.length) (h1 : tableN ns t1 = tab / 2 ^ 2 ^ ns.length) (n0 : ∀ y ∈ t0.names, y ∈ ns) (n1 : ∀ y ∈ t1.names, y ∈ ns) (ht : tab < 2 ^ 2 ^ (ns.length + 1)) (hc : ∀ g : Str → Bool, evalB g t = if g x = true then evalB g t1 else evalB g t0) : tableN (ns ++ [x]) t = tab := by
  refine Nat.eq_of_testBit_eq fun i => ?_
  have hl : (ns ++ [x]).length = ns.length + 1 := by rw [List.length_append]; rfl
  have hp : 2 ^ (ns.length + 1) = 2 ^ ns.length + 2 ^ ns.length := by rw [Nat.pow_succ]; omega
  rw [table_bit, hl]
  by_cases hi : i < 2 ^ (ns.length + 1)
  · rw [decide_eq_true hi, Bool.true_and, hc, inW_last i hx]
    by_cases hi2 : i < 2 ^ ns.length
    · rw [Nat.testBit_lt_two_pow hi2, if_neg (by decide)]
      have e1 : evalB (inW (ns ++ [x]) i) t0 = evalB (inW ns i) t0 := evalB_congr fun y hy => inW_snoc i (n0 y hy)
      have e2 := table_bit ns t0 i
      rw [decide_eq_true hi2, Bool.true_and, h0, Nat.testBit_mod_two_pow, decide_eq_true hi2, Bool.true_and] at e2
      rw [e1, ← e2]
    · obtain ⟨j, rfl⟩ : ∃ j, i = 2 ^ ns.length + j := ⟨i - 2 ^ ns.length, by omega⟩
      have hj : j < 2 ^ ns.length := by omega
      rw [Nat.testBit_two_pow_add_eq, Nat.testBit_lt_two_pow hj, Bool.not_false, if_pos rfl]
      have e1 : evalB (inW (ns ++ [x]) (2 ^ ns.length + j)) t1 = evalB (inW ns j) t1 := evalB_congr fun y hy => by
        rw [inW_snoc _ (n1 y hy)]
        exact Nat.testBit_two_pow_add_gt (List.idxOf_lt_length_iff.mpr (n1 y hy)) j
      have e2 := table_bit ns t1 j
      rw [decide_eq_true hj, Bool.true_and, h1, ← Nat.shiftRight_eq_div_pow, Nat.testBit_shiftRight] at e2
      rw [e1, ← e2]
  · rw [decide_eq_false hi, Bool.false_and]
    exact (Nat.testBit_lt_two_pow (Nat.lt_of_lt_of_le ht (Nat.pow_le_pow_right (by decide) (Nat.le_of_not_lt hi)))).symm
theorem cut_last (xs : List V) (v : V) : cutV (xs ++ [v]) none (some (-1)) = xs := by
  unfold cutV
  have e1 : HT.sIx (xs ++ [v]).length (xs ++ [v]).length (some (-1)) = xs.length := by
    show (if (-1 : Int) < 0 then ((-1 : Int) + (((xs ++ [v]).length : Nat) : Int)).toNat else min (-1 : Int).toNat (xs ++ [v]).length) = xs.length
    rw [if_pos (by decide), List.length_append, List.length_singleton]
    omega
  have e2 : HT.sIx (xs ++ [v]).length 0 none = 0 := rfl
  rw [e1, e2]
  simp
theorem not_whole (xs : List V) (v : V) : ¬ Whole (xs ++ [v]).length none (some (-1)) := fun h => by
  have e1 : HT.sIx (xs ++ [v]).length (xs ++ [v]).length (some (-1)) = xs.length := by
    show (if (-1 : Int) < 0 then ((-1 : Int) + (((xs ++ [v]).length : Nat) : Int)).toNat else min (-1 : Int).toNat (xs ++ [v]).length) = xs.length
    rw [if_pos (by decide), List.length_append, List.length_singleton]
    omega
  have := h.2
  rw [e1, List.length_append, List.length_singleton] at this
  omega
section
variable {P : Program} {w : World} {K : PySem.W.Frag} {mg : Str → Option Value} {base : Heap} {t : Adr}
theorem scChosen : FnScope ["name", "with_0", "with_1"] ["name", "with_0", "with_1"] (defScope s_chosen) := ⟨rfl, rfl, rfl, by decide +kernel, rfl, by decide +kernel, by decide +kernel⟩
theorem ok_chosen (T : Txt P w K mg t) : FnOk P w K mg base (CX1 P w) 1 t.a_chosen t.fd_chosen ["name", "with_0", "with_1"] spChosen := by
  refine T.F_chosen.ok1 scChosen (fun vs H Q E h => by obtain ⟨q, v0, v1, x, t0, t1, rfl, _⟩ := h; rfl) (fun cdv A outer s H vs Q E hr h => ?_)
  obtain ⟨q, v0, v1, x, t0, t1, rfl, hq, h0, h1, d0, d1, l0, l1, k⟩ := h
  have nd := scChosen.nd
  refine ⟨_, (pss_cons (ps_if (pt_cmpR (op_eqTr hr.units) (pvl 1) (pvl 2) (nomark _))
        (pss_one (ps_ret (pvl 1)))
        pss_nil)
      (pss_cons (ps_if (pt_cmpR (op_eqTr hr.units) (pvl 1) (pe_tup (pa_cons pe_str pa_nil)) (nomark _))
        (pss_one (ps_ret (pe_ifExp (pt_cmpR (op_eqTr hr.units) (pvl 2) (pe_tup (pa_cons pe_str pa_nil)) (nomark _)) (pvl 0) (pe_tup (pa_cons pe_str (pa_cons (pvl 0) (pa_cons (pvl 2) pa_nil)))))))
        pss_nil)
      (pss_cons (ps_if (pt_cmpR (op_eqTr hr.units) (pvl 2) (pe_tup (pa_cons pe_str pa_nil)) (nomark _))
        (pss_one (ps_ret (pe_ifExp (pt_cmpR (op_eqTr hr.units) (pvl 1) (pe_tup (pa_cons pe_str pa_nil)) (nomark _)) (pe_tup (pa_cons pe_str (pa_cons (pvl 0) pa_nil))) (pe_tup (pa_cons pe_str (pa_cons (pe_tup (pa_cons pe_str (pa_cons (pvl 0) pa_nil))) (pa_cons (pvl 1) pa_nil)))))))
        pss_nil)
      (pss_cons (ps_if (pt_cmpR (op_eqTr hr.units) (pvl 1) (pe_tup (pa_cons pe_str pa_nil)) (nomark _))
        (pss_one (ps_ret (pe_tup (pa_cons pe_str (pa_cons (pvl 0) (pa_cons (pvl 2) pa_nil))))))
        pss_nil)
      (pss_cons (ps_if (pt_cmpR (op_eqTr hr.units) (pvl 2) (pe_tup (pa_cons pe_str pa_nil)) (nomark _))
        (pss_one (ps_ret (pe_tup (pa_cons pe_str (pa_cons (pvl 0) (pa_cons (pvl 1) pa_nil))))))
        pss_nil)
      (pss_one (ps_ret (pe_tup (pa_cons pe_str (pa_cons (pe_tup (pa_cons pe_str (pa_cons (pvl 0) (pa_cons (pvl 2) pa_nil)))) (pa_cons (pe_tup (pa_cons pe_str (pa_cons (pvl 0) (pa_cons (pvl 1) pa_nil)))) pa_nil))))))))))), ?_⟩
  have hno : ∀ y ∈ Tr.no.names, PyData.strOk y = true := fun y hy => nomatch hy
  have hyes : ∀ y ∈ Tr.yes.names, PyData.strOk y = true := fun y hy => nomatch hy
  have z0 := t0.size_pos
  have z1 := t1.size_pos
  refine ⟨_, rfl, _, rfl, t0, t1, h0, h1, d0, l0, l1, _, rfl, ite2 (fun c => ?_) (fun _ => ?_)⟩
  · obtain rfl := (eqvT_iff t0 t1).mp c
    exact ⟨_, rfl, k v0 t0 H (Same.refl _) h0 ⟨fun g => by split <;> rfl, by omega, by omega, fun y hy => .inr (.inl hy)⟩⟩
  refine ⟨_, rfl, lk (by first | exact Nat.le_of_ble_eq_true rfl | simp), fun a1 ha1 => ?_⟩
  have u1 := same_upd (o := .tup [.str "no"]) ha1
  have h0 := h0.mono u1.tups
  have h1 := h1.mono u1.tups
  have hq := u1 _ _ hq
  have hn1 : TrAt (upd H a1 (.tup [.str "no"])) (.ref a1) .no := .no upd_same
  generalize upd H a1 (.tup [.str "no"]) = H1 at u1 h0 h1 hq hn1 ⊢
  have nmx : TrAt H1 (.ref q) (.nm x) := .nm hq
  refine ⟨t0, .no, h0, hn1, d0, l0, hno, _, rfl, ite2 (fun c => ?_) (fun c1 => ?_)⟩
  · obtain rfl := (eqvT_iff t0 .no).mp c
    refine ⟨_, rfl, lk (by first | exact Nat.le_of_ble_eq_true rfl | simp), fun a2 ha2 => ?_⟩
    have u2 := same_upd (o := .tup [.str "yes"]) ha2
    refine ⟨t1, .yes, h1.mono u2.tups, .yes upd_same, d1, l1, hyes, _, rfl, ite2 (fun c => ?_) (fun _ => ?_)⟩
    · obtain rfl := (eqvT_iff t1 .yes).mp c
      refine ⟨_, rfl, k _ (.nm x) _ (u1.trans u2) (nmx.mono u2.tups) ⟨fun g => ?_, (by show 1 ≤ 1 + 1 + 5; decide), (by show 1 ≤ max 1 1 + 2; decide), fun y hy => .inl (List.mem_singleton.mp hy)⟩⟩
      show g x = if g x = true then true else false
      cases g x <;> rfl
    · refine ⟨_, rfl, _, rfl, lk (by first | exact Nat.le_of_ble_eq_true rfl | simp), fun a3 ha3 => ?_⟩
      have u3 := same_upd (o := .tup [.str "and", .ref q, v1]) ha3
      refine k _ (.bin .and (.nm x) t1) _ ((u1.trans u2).trans u3) (.bin (o := .and) upd_same (nmx.mono (u2.trans u3).tups) (h1.mono (u2.trans u3).tups)) ⟨fun g => ?_, ?_, ?_, fun y hy => ?_⟩
      · show (g x && evalB g t1) = if g x = true then evalB g t1 else false
        cases g x <;> rfl
      · show 1 + t1.size + 1 ≤ 1 + t1.size + 5
        omega
      · show max 1 t1.depth + 1 ≤ max 1 t1.depth + 2
        omega
      · exact (List.mem_append.mp hy).elim (fun z => .inl (List.mem_singleton.mp z)) fun z => .inr (.inr z)
  refine ⟨_, rfl, lk (by first | exact Nat.le_of_ble_eq_true rfl | simp), fun a2 ha2 => ?_⟩
  have u2 := same_upd (o := .tup [.str "no"]) ha2
  have h0 := h0.mono u2.tups
  have h1 := h1.mono u2.tups
  have nmx := nmx.mono u2.tups
  have hn2 : TrAt (upd H1 a2 (.tup [.str "no"])) (.ref a2) .no := .no upd_same
  have s2 := u1.trans u2
  generalize upd H1 a2 (.tup [.str "no"]) = H2 at s2 h0 h1 nmx hn2 ⊢
  refine ⟨t1, .no, h1, hn2, d1, l1, hno, _, rfl, ite2 (fun c => ?_) (fun c2 => ?_)⟩
  · obtain rfl := (eqvT_iff t1 .no).mp c
    refine ⟨_, rfl, lk (by first | exact Nat.le_of_ble_eq_true rfl | simp), fun a3 ha3 => ?_⟩
    have u3 := same_upd (o := .tup [.str "yes"]) ha3
    refine ⟨t0, .yes, h0.mono u3.tups, .yes upd_same, d0, l0, hyes, _, rfl, ite2 (fun c => ?_) (fun _ => ?_)⟩
    · obtain rfl := (eqvT_iff t0 .yes).mp c
      refine ⟨_, rfl, lk (by first | exact Nat.le_of_ble_eq_true rfl | simp), fun a4 ha4 => ?_⟩
      have u4 := same_upd (o := .tup [.str "not", .ref q]) ha4
      refine k _ (.not (.nm x)) _ ((s2.trans u3).trans u4) (.not upd_same (nmx.mono (u3.trans u4).tups)) ⟨fun g => ?_, (by show 1 + 1 ≤ 1 + 1 + 5; decide), (by show 1 + 1 ≤ max 1 1 + 2; decide), fun y hy => .inl (List.mem_singleton.mp hy)⟩
      show (!g x) = if g x = true then false else true
      cases g x <;> rfl
    · refine ⟨_, rfl, lk (by first | exact Nat.le_of_ble_eq_true rfl | simp), fun a4 ha4 => ⟨_, rfl, lk (by first | exact Nat.le_of_ble_eq_true rfl | simp), fun a5 ha5 => ?_⟩⟩
      have u4 := same_upd (o := .tup [.str "not", .ref q]) ha4
      have u5 := same_upd (o := .tup [.str "and", .ref a4, v0]) ha5
      have u35 := u3.trans (u4.trans u5)
      refine k _ (.bin .and (.not (.nm x)) t0) _ (s2.trans u35) (.bin (o := .and) upd_same (.not (u5 _ _ upd_same) (nmx.mono u35.tups)) (h0.mono u35.tups)) ⟨fun g => ?_, ?_, ?_, fun y hy => ?_⟩
      · show ((!g x) && evalB g t0) = if g x = true then false else evalB g t0
        cases g x <;> rfl
      · show 1 + 1 + t0.size + 1 ≤ t0.size + 1 + 5
        omega
      · show max (1 + 1) t0.depth + 1 ≤ max t0.depth 1 + 2
        omega
      · exact (List.mem_append.mp hy).elim (fun z => .inl (List.mem_singleton.mp z)) fun z => .inr (.inl z)
  refine ⟨_, rfl, lk (by first | exact Nat.le_of_ble_eq_true rfl | simp), fun a3 ha3 => ?_⟩
  have u3 := same_upd (o := .tup [.str "yes"]) ha3
  have h0 := h0.mono u3.tups
  have h1 := h1.mono u3.tups
  have nmx := nmx.mono u3.tups
  have hn3 : TrAt (upd H2 a3 (.tup [.str "yes"])) (.ref a3) .yes := .yes upd_same
  have s3 := s2.trans u3
  generalize upd H2 a3 (.tup [.str "yes"]) = H3 at s3 h0 h1 nmx hn3 ⊢
  refine ⟨t0, .yes, h0, hn3, d0, l0, hyes, _, rfl, ite2 (fun c => ?_) (fun _ => ?_)⟩
  · obtain rfl := (eqvT_iff t0 .yes).mp c
    refine ⟨_, rfl, _, rfl, lk (by first | exact Nat.le_of_ble_eq_true rfl | simp), fun a4 ha4 => ?_⟩
    have u4 := same_upd (o := .tup [.str "then", .ref q, v1]) ha4
    refine k _ (.bin .thn (.nm x) t1) _ (s3.trans u4) (.bin (o := .thn) upd_same (nmx.mono u4.tups) (h1.mono u4.tups)) ⟨fun g => ?_, ?_, ?_, fun y hy => ?_⟩
    · show (!g x || evalB g t1) = if g x = true then evalB g t1 else true
      cases g x <;> rfl
    · show 1 + t1.size + 1 ≤ 1 + t1.size + 5
      omega
    · show max 1 t1.depth + 1 ≤ max 1 t1.depth + 2
      omega
    · exact (List.mem_append.mp hy).elim (fun z => .inl (List.mem_singleton.mp z)) fun z => .inr (.inr z)
  refine ⟨_, rfl, lk (by first | exact Nat.le_of_ble_eq_true rfl | simp), fun a4 ha4 => ?_⟩
  have u4 := same_upd (o := .tup [.str "yes"]) ha4
  have h0 := h0.mono u4.tups
  have h1 := h1.mono u4.tups
  have nmx := nmx.mono u4.tups
  have hn4 : TrAt (upd H3 a4 (.tup [.str "yes"])) (.ref a4) .yes := .yes upd_same
  have s4 := s3.trans u4
  generalize upd H3 a4 (.tup [.str "yes"]) = H4 at s4 h0 h1 nmx hn4 ⊢
  refine ⟨t1, .yes, h1, hn4, d1, l1, hyes, _, rfl, ite2 (fun c => ?_) (fun _ => ?_)⟩
  · obtain rfl := (eqvT_iff t1 .yes).mp c
    refine ⟨_, rfl, _, rfl, lk (by first | exact Nat.le_of_ble_eq_true rfl | simp), fun a5 ha5 => ?_⟩
    have u5 := same_upd (o := .tup [.str "or", .ref q, v0]) ha5
    refine k _ (.bin .or (.nm x) t0) _ (s4.trans u5) (.bin (o := .or) upd_same (nmx.mono u5.tups) (h0.mono u5.tups)) ⟨fun g => ?_, ?_, ?_, fun y hy => ?_⟩
    · show (g x || evalB g t0) = if g x = true then true else evalB g t0
      cases g x <;> rfl
    · show 1 + t0.size + 1 ≤ t0.size + 1 + 5
      omega
    · show max 1 t0.depth + 1 ≤ max t0.depth 1 + 2
      omega
    · exact (List.mem_append.mp hy).elim (fun z => .inl (List.mem_singleton.mp z)) fun z => .inr (.inl z)
  refine ⟨_, rfl, _, rfl, lk (by first | exact Nat.le_of_ble_eq_true rfl | simp), fun a5 ha5 => ⟨_, rfl, _, rfl, lk (by first | exact Nat.le_of_ble_eq_true rfl | simp), fun a6 ha6 => ⟨lk (by first | exact Nat.le_of_ble_eq_true rfl | simp), fun a7 ha7 => ?_⟩⟩⟩
  have u5 := same_upd (o := .tup [.str "then", .ref q, v1]) ha5
  have u6 := same_upd (o := .tup [.str "or", .ref q, v0]) ha6
  have u7 := same_upd (o := .tup [.str "and", .ref a5, .ref a6]) ha7
  have u57 := u5.trans (u6.trans u7)
  refine k _ (.bin .and (.bin .thn (.nm x) t1) (.bin .or (.nm x) t0)) _ (s4.trans u57) (.bin (o := .and) upd_same (.bin (o := .thn) ((u6.trans u7) _ _ upd_same) (nmx.mono u57.tups) (h1.mono u57.tups)) (.bin (o := .or) (u7 _ _ upd_same) (nmx.mono u57.tups) (h0.mono u57.tups))) ⟨fun g => ?_, ?_, ?_, fun y hy => ?_⟩
  · show ((!g x || evalB g t1) && (g x || evalB g t0)) = if g x = true then evalB g t1 else evalB g t0
    cases g x <;> cases evalB g t1 <;> cases evalB g t0 <;> rfl
  · show 1 + t1.size + 1 + (1 + t0.size + 1) + 1 ≤ t0.size + t1.size + 5
    omega
  · show max (max 1 t1.depth + 1) (max 1 t0.depth + 1) + 1 ≤ max t0.depth t1.depth + 2
    have := t0.depth_pos
    have := t1.depth_pos
    omega
  · rcases List.mem_append.mp hy with hy | hy
    · exact (List.mem_append.mp hy).elim (fun z => .inl (List.mem_singleton.mp z)) fun z => .inr (.inr z)
    · exact (List.mem_append.mp hy).elim (fun z => .inl (List.mem_singleton.mp z)) fun z => .inr (.inl z)
theorem scTreeOf : FnScope ["names", "table", "half", "with_0", "with_1"] ["names", "table"] (defScope s_tree_of) := ⟨rfl, rfl, rfl, by decide +kernel, rfl, by decide +kernel, by decide +kernel⟩
theorem ok_treeof (T : Txt P w K mg t) : ∀ n : Nat, FnOk P w K mg base (CX1 P w) (n + 3) t.a_tree_of t.fd_tree_of ["names", "table"] (spTreeOf n) := by
  have G_chosen : FnOk P w K mg base (CX1 P w) 1 t.a_chosen t.fd_chosen ["name", "with_0", "with_1"] spChosen := ok_chosen T
  have main : ∀ n : Nat, (∃ sp : Sp, FnOk P w K mg base (CX1 P w) (n + 2) t.a_tree_of t.fd_tree_of ["names", "table"] sp ∧ (0 < n → sp = spTreeOf (n - 1))) → FnOk P w K mg base (CX1 P w) (n + 3) t.a_tree_of t.fd_tree_of ["names", "table"] (spTreeOf n) := by
    rintro dd ⟨sp, G_tree_of, hsp⟩
    refine T.F_tree_of.ok1 scTreeOf (fun vs H Q E h => by obtain ⟨p, n, ns, tab, rfl, _⟩ := h; rfl) (fun cdv A outer s H vs Q E hr h => ?_)
    obtain ⟨p, n, ns, tab, rfl, hp, hnl, hndd, h8d, hnd, hnm, htab, k⟩ := h
    have h8 : n ≤ 8 := by omega
    have nd := scTreeOf.nd
    refine ⟨_, (pss_cons (ps_if (pt_cmpR op_eq (pcallB call_len_seq T.n_len Bt.len (pa_cons (pvl 0) pa_nil)) pe_int (nomark _))
        (pss_one (ps_ret (pe_ifExp (pt_cmpR op_eq (pvl 1) pe_int (nomark _)) (pe_tup (pa_cons pe_str pa_nil)) (pe_tup (pa_cons pe_str pa_nil)))))
        pss_nil)
      (pss_cons (psl 2 nd (pe_op op_shl pe_int (pe_op op_sub (pcallB call_len_seq T.n_len Bt.len (pa_cons (pvl 0) pa_nil)) pe_int)))
      (pss_cons (psl 3 nd (pcall G_tree_of (hr.mono (by first | decide | omega)) T.m_tree_of T.k_tree_of T.b_tree_of never1 (pa_cons (pe_slice sl_tup (pvl 0) po_none (po_some (pe_un un_neg pe_int))) (pa_cons (pe_op op_and (pvl 1) (pe_op op_sub (pe_op op_shl pe_int (pvl 2)) pe_int)) pa_nil))))
      (pss_cons (psl 4 nd (pcall G_tree_of (hr.mono (by first | decide | omega)) T.m_tree_of T.k_tree_of T.b_tree_of never1 (pa_cons (pe_slice sl_tup (pvl 0) po_none (po_some (pe_un un_neg pe_int))) (pa_cons (pe_op op_shr (pvl 1) (pvl 2)) pa_nil))))
      (pss_one (ps_ret (pcall G_chosen (hr.mono (by first | decide | omega)) T.m_chosen T.k_chosen T.b_chosen never1 (pa_cons (pe_tup (pa_cons pe_str (pa_cons (pe_ix ix_tup (pvl 0) (pe_un un_neg pe_int) (fun _ _ => rfl)) pa_nil))) (pa_cons (pvl 3) (pa_cons (pvl 4) pa_nil)))))))))), ?_⟩
    have el : (ns.map V.str).length = ns.length := List.length_map _
    refine ⟨_, rfl, p, _, rfl, .inr (SqT.of hp), rfl, _, rfl, ite2 (fun c => ?_) (fun c => ?_)⟩
    · have c : (((ns.map V.str).length : Nat) : Int) = 0 := V.int.inj (of_decide_eq_true c)
      obtain rfl : ns = [] := List.eq_nil_of_length_eq_zero (by omega)
      obtain rfl : n = 0 := hnl.symm
      have htab : tab < 2 := htab
      refine ⟨_, rfl, rfl, _, rfl, ite2 (fun c => ?_) (fun c => ?_)⟩
      · have c : (tab : Int) = 1 := V.int.inj (of_decide_eq_true c)
        obtain rfl : tab = 1 := by omega
        exact ⟨lk (by first | exact Nat.le_of_ble_eq_true rfl | simp), fun q hq => k _ .yes _ (same_upd hq) (.yes upd_same) (by decide) (by decide) (by decide) (fun y hy => nomatch hy)⟩
      · have c : ¬ (tab : Int) = 1 := fun z => c (decide_eq_true (congrArg V.int z))
        obtain rfl : tab = 0 := by omega
        exact ⟨lk (by first | exact Nat.le_of_ble_eq_true rfl | simp), fun q hq => k _ .no _ (same_upd hq) (.no upd_same) (by decide) (by decide) (by decide) (fun y hy => nomatch hy)⟩
    have c : ¬ (((ns.map V.str).length : Nat) : Int) = 0 := fun z => c (decide_eq_true (congrArg V.int z))
    have hn0 : 0 < n := by omega
    obtain rfl := hsp (by omega)
    obtain ⟨ns0, x, rfl⟩ : ∃ ns0 x, ns = ns0 ++ [x] := by
      have hne : ns ≠ [] := fun z => by subst z; rw [List.length_nil] at hnl; omega
      exact ⟨ns.dropLast, ns.getLast hne, (List.dropLast_concat_getLast hne).symm⟩
    obtain ⟨m, rfl⟩ : ∃ m, n = m + 1 := ⟨n - 1, by omega⟩
    have hm : ns0.length = m := by rw [List.length_append, List.length_singleton] at hnl; omega
    have hnd0 : ns0.Nodup := (List.nodup_append.mp hnd).1
    have hx : x ∉ ns0 := fun z => (List.nodup_append.mp hnd).2.2 x z x (List.mem_singleton.mpr rfl) rfl
    have hnm0 : ∀ y ∈ ns0, IsName y := fun y hy => hnm y (List.mem_append_left _ hy)
    have hm8 : m + 1 - 1 = m := rfl
    have hpx : H p = some (.tup (ns0.map V.str ++ [V.str x])) := by rw [hp, List.map_append]; rfl
    have e1 : (1 : Int) * 2 ^ ((((ns0 ++ [x]).map V.str).length : Nat) - 1 : Int).toNat = ((2 ^ m : Nat) : Int) := by
      rw [show ((((ns0 ++ [x]).map V.str).length : Nat) - 1 : Int).toNat = m by rw [el]; rw [List.length_append, List.length_singleton]; omega]
      simp
    obtain ⟨N, hN⟩ : ∃ N, N = 2 ^ m := ⟨_, rfl⟩
    have hN256 : N ≤ 256 := hN ▸ Nat.pow_le_pow_right (n := 2) (j := 8) (by decide) (by omega)
    rw [← hN] at e1
    refine ⟨_, rfl, p, _, rfl, .inr (SqT.of hp), _, _, rfl, rfl, _, _, rfl, rfl, ⟨by rw [el, List.length_append, List.length_singleton]; omega, by rw [el, List.length_append, List.length_singleton]; omega, by decide⟩, ?_⟩
    try dsimp (config := { proj := false, iota := false }) only
    rw [e1]
    have hpow : 2 ^ (m + 1) = N + N := by rw [Nat.pow_succ, hN]; omega
    have e2 : (1 : Int) * 2 ^ ((N : Nat) : Int).toNat - 1 = ((2 ^ N - 1 : Nat) : Int) := by
      rw [Int.toNat_natCast, Int.one_mul, Int.ofNat_sub Nat.one_le_two_pow]
      simp
    have cut : cutV ((ns0 ++ [x]).map V.str) none (some (-1)) = ns0.map V.str := by rw [List.map_append]; exact cut_last _ _
    refine ⟨_, rfl, _, rfl, _, rfl, p, _, rfl, SqT.of hp, (by rw [List.map_append]; exact not_whole _ _), fun q1 hq1 => ?_⟩
    rw [cut]
    have u1 := same_upd (o := .tup (ns0.map V.str)) hq1
    have cN : CPow 1 ((N : Nat) : Int) := ⟨by omega, by omega, by decide⟩
    have t1lt : tab / 2 ^ N < 2 ^ 2 ^ m := by
      rw [Nat.div_lt_iff_lt_mul (Nat.two_pow_pos _), ← hN, ← Nat.pow_add, ← hpow]
      exact htab
    have t0lt : tab % 2 ^ N < 2 ^ 2 ^ m := by
      rw [← hN]
      exact Nat.mod_lt _ (Nat.two_pow_pos _)
    refine ⟨_, rfl, _, rfl, _, _, rfl, rfl, cN, _, _, rfl, rfl, _, _, rfl, rfl, q1, m, ns0, tab % 2 ^ N, ?_, upd_same, hm, by omega, by omega, hnd0, hnm0, t0lt, fun v0 t0 H1 s1 ht0 htb0 hz0 hd0 hn0' => ?_⟩
    · show [V.ref q1, V.int (Builtin.bitAnd (tab : Int) ((1 : Int) * 2 ^ ((N : Nat) : Int).toNat - 1))] = _
      rw [e2, band, Nat.and_two_pow_sub_one_eq_mod]
    have s01 := u1.trans s1
    have hp1 := s01 _ _ hp
    refine ⟨_, rfl, _, rfl, _, rfl, p, _, rfl, SqT.of hp1, (by rw [List.map_append]; exact not_whole _ _), fun q2 hq2 => ?_⟩
    rw [cut]
    have u2 := same_upd (o := .tup (ns0.map V.str)) hq2
    refine ⟨_, rfl, _, rfl, _, _, rfl, rfl, (by show (0 : Int) ≤ ((N : Nat) : Int); omega), q2, m, ns0, tab / 2 ^ N, ?_, upd_same, hm, by omega, by omega, hnd0, hnm0, t1lt, fun v1 t1 H2 s2 ht1 htb1 hz1 hd1 hn1' => ?_⟩
    · show [V.ref q2, V.int ((tab : Int) / 2 ^ ((N : Nat) : Int).toNat)] = _
      rw [Int.toNat_natCast]
      simp
    have s12 := u2.trans s2
    have s02 := s01.trans s12
    refine ⟨_, rfl, _, rfl, p, _, _, .str x, rfl, rfl, SqT.of (s02 _ _ hpx), atI_last _ _, lk (by first | exact Nat.le_of_ble_eq_true rfl | simp), fun q3 hq3 => ?_⟩
    have u3 := same_upd (o := .tup [.str "name", .str x]) hq3
    have s03 := s02.trans u3
    refine ⟨_, rfl, _, rfl, q3, v0, v1, x, t0, t1, rfl, upd_same, ht0.mono (s12.trans u3).tups, ht1.mono u3.tups, by omega, by omega, fun y hy => IsName.lay (hnm0 y (hn0' y hy)), fun y hy => IsName.lay (hnm0 y (hn1' y hy)), fun v t' H4 s4 ht4 hch => ?_⟩
    obtain ⟨g1, g2, g3, g4⟩ := hch
    refine k v t' H4 (s03.trans s4) ht4 (table_split hx (by rw [htb0, hm, hN]) (by rw [htb1, hm, hN]) hn0' hn1' (by rw [hm]; exact htab) g1) ?_ ?_ fun y hy => ?_
    · rw [hpow]
      rw [← hN] at hz0 hz1
      omega
    · omega
    · rcases g4 y hy with z | z | z
      · exact List.mem_append_right _ (List.mem_singleton.mpr z)
      · exact List.mem_append_left _ (hn0' y z)
      · exact List.mem_append_left _ (hn1' y z)
  intro n
  induction n with
  | zero => exact main 0 ⟨fun _ _ _ _ => False, T.F_tree_of.ok1 scTreeOf (fun vs H Q E h => h.elim) (fun cdv A outer s H vs Q E hr h => h.elim), fun h => absurd h (by decide)⟩
  | succ n ih => exact main (n + 1) ⟨spTreeOf n, ih, fun _ => rfl⟩
end
end K23

namespace K23
open PySem L2 Mc
/-! ### the law's own count of parts -/
def spParts (d : Nat) : Sp := fun vs H Q _ => ∃ (p : Addr) (v : V) (c : Int) (ns : List Str) (tr : Tr), vs = [.ref p, v, .int c] ∧ H p = some (.tup (ns.map V.str)) ∧ TrAt H v tr ∧ tr.depth ≤ d ∧ c + d ≤ 41 ∧ (∀ x ∈ tr.names, x ∈ ns) ∧ ∀ H', Same H H' → Q (.int (tr.size : Nat)) H'
theorem op_four (o : Op) : inV (.str o.str) [V.str "and", V.str "or", V.str "then", V.str "same"] = true := by cases o <;> decide +kernel
section
variable {P : Program} {w : World} {K : PySem.W.Frag} {mg : Str → Option Value} {base : Heap} {t : Adr}
theorem scParts : FnScope ["_law_names", "_law_tree", "_law_deep"] ["_law_names", "_law_tree", "_law_deep"] (defScope s__law_parts) := ⟨rfl, rfl, rfl, by decide +kernel, rfl, by decide +kernel, by decide +kernel⟩
theorem ok_parts (T : Txt P w K mg t) : ∀ d : Nat, FnOk P w K mg base (CX1 P w) (d + 1) t.a__law_parts t.fd__law_parts ["_law_names", "_law_tree", "_law_deep"] (spParts d)
  | 0 => by
    refine T.F__law_parts.ok1 scParts (fun vs H Q E h => by obtain ⟨p, v, c, ns, tr, rfl, _⟩ := h; rfl) (fun cdv A outer s H vs Q E hr h => ?_)
    obtain ⟨p, v, c, ns, tr, rfl, hp, ht, hd, _⟩ := h
    have := tr.depth_pos
    omega
  | d + 1 => by
    have G__law_parts := ok_parts T d
    refine T.F__law_parts.ok1 scParts (fun vs H Q E h => by obtain ⟨p, v, c, ns, tr, rfl, _⟩ := h; rfl) (fun cdv A outer s H vs Q E hr h => ?_)
    obtain ⟨p, v, c, ns, tr, rfl, hp, ht, hd, hc, hin, k⟩ := h
    obtain ⟨a, rest, rfl, ha, hnm, hkid⟩ := ht.open
    have nd := scParts.nd
    have hu := hu_of hr
    refine ⟨_, (pss_cons (ps_if (PW.pt (pw_or (pt_not (pt_val (pcallB call_isI T.n_isinstance Bt.isinstance (pa_cons (pvl 1) (pa_cons (pbltn (v := .ty "tuple") T.n_tuple Bt.tuple rfl) pa_nil))))) (pw_or (pt_cmpR (op_eqTE (Nat.lt_of_succ_lt hu)) (pvl 1) (pe_tup pa_nil) (nomark _)) (pw_or (pt_cmpR op_gt (pvl 2) pe_int (nomark _)) (pw_or1 (pt_not (pt_val (pcallB call_isI T.n_isinstance Bt.isinstance (pa_cons (pe_ix ix_tup (pvl 1) pe_int (fun _ _ => rfl)) (pa_cons (pbltn (v := .ty "str") T.n_str Bt.str rfl) pa_nil))))))))))
        (pss_one (ps_ret pe_int))
        pss_nil)
      (pss_cons (ps_if (PW.pt (pw_or (pt_cmpR op_eq (pe_ix ix_tup (pvl 1) pe_int (fun _ _ => rfl)) pe_str (nomark _)) (pw_or1 (pt_cmpR op_eq (pe_ix ix_tup (pvl 1) pe_int (fun _ _ => rfl)) pe_str (nomark _)))))
        (pss_one (ps_ret (pe_ix ix_list (pe_lst (pa_cons pe_int (pa_cons pe_int pa_nil))) (pcallT call_int1 T.n_int Bt.int (pa_cons (pe_cmpR op_eq (pcallB call_len_seq T.n_len Bt.len (pa_cons (pvl 1) pa_nil)) pe_int (nomark _)) pa_nil)) (fun _ _ => rfl))))
        pss_nil)
      (pss_cons (ps_if (pt_cmpR op_eq (pe_ix ix_tup (pvl 1) pe_int (fun _ _ => rfl)) pe_str (nomark _))
        (pss_one (ps_ret (pe_ix ix_list (pe_lst (pa_cons pe_int (pa_cons pe_int pa_nil))) (pcallT call_int1 T.n_int Bt.int (pa_cons (pe_and (pe_cmpR op_eq (pcallB call_len_seq T.n_len Bt.len (pa_cons (pvl 1) pa_nil)) pe_int (nomark _)) (pe_one (pe_cmpR op_in_seq (pe_ix ix_tup (pvl 1) pe_int (fun _ _ => rfl)) (pvl 0) (by with_unfolding_all rfl)))) pa_nil)) (fun _ _ => rfl))))
        pss_nil)
      (pss_cons (ps_if (PW.pt (pw_and (pt_cmpR op_eq (pe_ix ix_tup (pvl 1) pe_int (fun _ _ => rfl)) pe_str (nomark _)) (pw_and1 (pt_cmpR op_eq (pcallB call_len_seq T.n_len Bt.len (pa_cons (pvl 1) pa_nil)) pe_int (nomark _)))))
        (pss_one (ps_ret (pe_op op_add pe_int (pcall G__law_parts (hr.mono (by first | decide | omega)) T.m__law_parts T.k__law_parts T.b__law_parts never1 (pa_cons (pvl 0) (pa_cons (pe_ix ix_tup (pvl 1) pe_int (fun _ _ => rfl)) (pa_cons (pe_op op_add (pvl 2) pe_int) pa_nil)))))))
        pss_nil)
      (pss_cons (ps_if (PW.pt (pw_or (pt_cmpR op_notIn_seq (pe_ix ix_tup (pvl 1) pe_int (fun _ _ => rfl)) (pe_tup (pa_cons pe_str (pa_cons pe_str (pa_cons pe_str (pa_cons pe_str pa_nil))))) (by with_unfolding_all rfl)) (pw_or1 (pt_cmpR op_ne (pcallB call_len_seq T.n_len Bt.len (pa_cons (pvl 1) pa_nil)) pe_int (nomark _)))))
        (pss_one (ps_ret pe_int))
        pss_nil)
      (pss_one (ps_ret (pe_op op_add (pe_op op_add pe_int (pcall G__law_parts (hr.mono (by first | decide | omega)) T.m__law_parts T.k__law_parts T.b__law_parts never1 (pa_cons (pvl 0) (pa_cons (pe_ix ix_tup (pvl 1) pe_int (fun _ _ => rfl)) (pa_cons (pe_op op_add (pvl 2) pe_int) pa_nil))))) (pcall G__law_parts (hr.mono (by first | decide | omega)) T.m__law_parts T.k__law_parts T.b__law_parts never1 (pa_cons (pvl 0) (pa_cons (pe_ix ix_tup (pvl 1) pe_int (fun _ _ => rfl)) (pa_cons (pe_op op_add (pvl 2) pe_int) pa_nil)))))))))))), ?_⟩
    have ix0 : atI (V.str tr.tag :: rest) 0 = some (.str tr.tag) := atI_nat (j := 0) rfl
    refine ⟨_, rfl, _, _, _, _, true, rfl, rfl, .tup ha, rfl, _, rfl, iteF ?_⟩
    refine ⟨_, rfl, lk (by first | exact Nat.le_of_ble_eq_true rfl | simp), fun q1 hq1 => ?_⟩
    have u1 := same_upd (o := .tup []) hq1
    have ha := u1 _ _ ha
    have hp := u1 _ _ hp
    have ht := ht.mono u1.tups
    have k : ∀ H', Same (upd H q1 (.tup [])) H' → Q (.int (tr.size : Nat)) H' := fun H' s' => k H' (u1.trans s')
    have hq1' : (upd H q1 (.tup [])) q1 = some (.tup []) := upd_same
    have hkid := fun z => Paired.mapP (hkid z) fun _ _ y => y.mono u1.tups
    generalize upd H q1 (.tup []) = H1 at ha hp ht k hq1' hkid ⊢
    refine ⟨a, q1, _, rfl, rfl, SqT.of ha, SqT.of hq1', _, rfl, iteF ?_⟩
    refine ⟨_, rfl, _, _, rfl, rfl, _, rfl, ite2 (fun z => absurd (of_decide_eq_true z) (by show ¬ (40 : Int) < c; omega)) (fun _ => ?_)⟩
    refine ⟨_, rfl, a, _, 0, .str tr.tag, rfl, rfl, SqT.of ha, ix0, _, _, _, _, true, rfl, rfl, .str _, rfl, _, rfl, iteF ?_⟩
    refine ⟨_, rfl, a, _, 0, .str tr.tag, rfl, rfl, SqT.of ha, ix0, rfl, _, rfl, ite2 (fun c1 => ?Y) (fun c1 => ⟨_, rfl, a, _, 0, .str tr.tag, rfl, rfl, SqT.of ha, ix0, rfl, _, rfl, ite2 (fun c2 => ?N) (fun c2 => ?R)⟩)⟩
    case Y =>
      obtain rfl := tg_yes (of_decide_eq_true c1)
      cases hkid rfl
      refine ⟨lk (by first | exact Nat.le_of_ble_eq_true rfl | simp), fun l hl => ⟨_, rfl, a, _, rfl, .inr (SqT.of (same_upd hl _ _ ha)), rfl, .inr ⟨_, rfl, l, _, 1, _, rfl, rfl, SqL.of upd_same, rfl, ?_⟩⟩⟩
      exact k _ (same_upd hl)
    case N =>
      obtain rfl := tg_no (of_decide_eq_true c2)
      cases hkid rfl
      refine ⟨lk (by first | exact Nat.le_of_ble_eq_true rfl | simp), fun l hl => ⟨_, rfl, a, _, rfl, .inr (SqT.of (same_upd hl _ _ ha)), rfl, .inr ⟨_, rfl, l, _, 1, _, rfl, rfl, SqL.of upd_same, rfl, ?_⟩⟩⟩
      exact k _ (same_upd hl)
    case R =>
      refine ⟨_, rfl, a, _, 0, .str tr.tag, rfl, rfl, SqT.of ha, ix0, rfl, _, rfl, ite2 (fun c3 => ?_) (fun c3 => ?_)⟩
      · obtain ⟨x, rfl⟩ := tg_nm (of_decide_eq_true c3)
        have hxn := hin x List.mem_cons_self
        have ha := trNm ht
        refine ⟨lk (by first | exact Nat.le_of_ble_eq_true rfl | simp), fun l hl => ?_⟩
        have u2 := same_upd (o := .lst [.int 3000, .int 1]) hl
        refine ⟨_, rfl, a, _, rfl, .inr (SqT.of (u2 _ _ ha)), rfl, true, congrArg V.bl (decide_eq_true rfl), ?_⟩
        refine ⟨_, rfl, a, _, 1, _, rfl, rfl, SqT.of (u2 _ _ ha), rfl, _, rfl, p, _, rfl, .inr (SqT.of (u2 _ _ hp)), rfl, flat_strs ns, ?_⟩
        rw [inV_strs, decide_eq_true hxn]
        exact .inr ⟨_, rfl, l, _, 1, _, rfl, rfl, SqL.of upd_same, rfl, k _ u2⟩
      cases tr with
      | nm x => exact absurd (decide_eq_true rfl) c3
      | yes => exact absurd (decide_eq_true rfl) c1
      | no => exact absurd (decide_eq_true rfl) c2
      | not u =>
        obtain ⟨vu, hau, htu⟩ := trNot ht
        have hd : u.depth + 1 ≤ d + 1 := hd
        refine ⟨_, rfl, a, _, 0, .str "not", rfl, rfl, SqT.of hau, rfl, rfl, _, rfl, iteT ⟨_, rfl, a, _, rfl, .inr (SqT.of hau), rfl, _, rfl, iteT ?_⟩⟩
        refine ⟨_, rfl, _, rfl, a, _, 1, vu, rfl, rfl, SqT.of hau, rfl, _, rfl, _, _, rfl, rfl, p, vu, c + 1, ns, u, rfl, hp, htu, by omega, by omega, hin, fun H2 s2 => ?_⟩
        refine ⟨_, _, rfl, rfl, ?_⟩
        have e : (1 : Int) + ((u.size : Nat) : Int) = (((Tr.not u).size : Nat) : Int) := by
          show _ = ((u.size + 1 : Nat) : Int)
          omega
        have k' : Q (.int ((1 : Int) + ((u.size : Nat) : Int))) H2 := by rw [e]; exact k _ s2
        exact k'
      | bin o x y =>
        obtain ⟨vx, vy, hab, htx, hty⟩ := trBin ht
        have hd : max x.depth y.depth + 1 ≤ d + 1 := hd
        have nn : ¬ (decide (V.str o.str = V.str ("not" : Str)) = true) := fun z => by
          have := V.str.inj (of_decide_eq_true z)
          cases o <;> exact absurd this (by decide +kernel)
        refine ⟨_, rfl, a, _, 0, .str o.str, rfl, rfl, SqT.of hab, rfl, rfl, _, rfl, ite2 (fun z => absurd z nn) (fun _ => iteF ?_)⟩
        refine ⟨_, rfl, a, _, 0, .str o.str, rfl, rfl, SqT.of hab, rfl, lk (by first | exact Nat.le_of_ble_eq_true rfl | simp), fun q4 hq4 => ?_⟩
        have u4 := same_upd (o := .tup [V.str "and", V.str "or", V.str "then", V.str "same"]) hq4
        refine ⟨q4, _, rfl, .inr (SqT.of upd_same), rfl, rfl, _, rfl, ite2 (fun z => ?_) (fun _ => ?_)⟩
        · rw [op_four] at z
          cases z
        have hab4 := u4 _ _ hab
        refine ⟨_, rfl, a, _, rfl, .inr (SqT.of hab4), rfl, _, rfl, iteF ?_⟩
        refine ⟨_, rfl, _, rfl, a, _, 1, vx, rfl, rfl, SqT.of hab4, rfl, _, rfl, _, _, rfl, rfl, p, vx, c + 1, ns, x, rfl, u4 _ _ hp, htx.mono u4.tups, by omega, by omega, fun z hz => hin z (List.mem_append_left _ hz), fun H5 s5 => ?_⟩
        have s45 := u4.trans s5
        refine ⟨_, _, rfl, rfl, _, rfl, _, rfl, a, _, 2, vy, rfl, rfl, SqT.of (s45 _ _ hab), rfl, _, rfl, _, _, rfl, rfl, p, vy, c + 1, ns, y, rfl, s45 _ _ hp, hty.mono s45.tups, by omega, by omega, fun z hz => hin z (List.mem_append_right _ hz), fun H6 s6 => ?_⟩
        refine ⟨_, _, rfl, rfl, ?_⟩
        have e : (1 : Int) + ((x.size : Nat) : Int) + ((y.size : Nat) : Int) = (((Tr.bin o x y).size : Nat) : Int) := by
          show _ = ((x.size + y.size + 1 : Nat) : Int)
          omega
        have k' : Q (.int ((1 : Int) + ((x.size : Nat) : Int) + ((y.size : Nat) : Int))) H6 := by rw [e]; exact k _ (s45.trans s6)
        exact k'
end
end K23

namespace K23
open PySem L2 Mc
/-! ### the law -/
def spLaw (K : PySem.W.Frag) : Sp := fun vs H Q _ => ∃ (a : Addr) (ns : List Int), vs = [.ref a] ∧ SqL K H a (ns.map V.int) ∧ ns.length ≤ 63 ∧ ∀ H', Q (.bl true) H'
def spTabBy : Sp := fun vs H Q _ => ∃ (p : Addr) (c o : Int) (ns : List Str), vs = [.ref p, .int c, .int o] ∧ H p = some (.tup (ns.map V.str)) ∧ 1 ≤ ns.length ∧ ns.length ≤ 8 ∧ ∀ (tab : Nat) (H' : Hp), Same H H' → tab < 2 ^ 2 ^ ns.length → Q (.int (tab : Int)) H'
section
variable {P : Program} {w : World} {K : PySem.W.Frag} {mg : Str → Option Value} {base : Heap} {t : Adr}
theorem scTabBy : FnScope ["_law_names", "_law_cell", "_law_other", "_law_size", "_law_way"] ["_law_names", "_law_cell", "_law_other"] (defScope s__law_table_by) := ⟨rfl, rfl, rfl, by decide +kernel, rfl, by decide +kernel, by decide +kernel⟩
theorem ok_tabby (T : Txt P w K mg t) : FnOk P w K mg base (CX1 P w) 20 t.a__law_table_by t.fd__law_table_by ["_law_names", "_law_cell", "_law_other"] spTabBy := by
  have G__law_table : FnOk P w K mg base (CX1 P w) 12 t.a__law_table t.fd__law_table ["_law_names", "_law_tree"] (spLTable 10) := ok_ltable T 10
  have G__law_tree_by : FnOk P w K mg base (CX1 P w) 6 t.a__law_tree_by t.fd__law_tree_by ["_law_names", "_law_cell", "_law_deep"] (spTB 5) := ok_TB T 5
  refine T.F__law_table_by.ok1 scTabBy (fun vs H Q E h => by obtain ⟨p, c, o, ns, rfl, _⟩ := h; rfl) (fun cdv A outer s H vs Q E hr h => ?_)
  obtain ⟨p, c, o, ns, rfl, hp, h1, h8, k⟩ := h
  have nd := scTabBy.nd
  refine ⟨_, (pss_cons (psl 3 nd (pe_op op_shl pe_int (pcallB call_len_seq T.n_len Bt.len (pa_cons (pvl 0) pa_nil))))
      (pss_cons (psl 4 nd (pe_op op_mod (pvl 1) pe_int))
      (pss_cons (ps_if (pt_cmpR op_eq (pvl 4) pe_int (nomark _))
        (pss_one (ps_ret (pe_ix ix_tup (pe_tup (pa_cons pe_int (pa_cons (pe_op op_sub (pe_op op_shl pe_int (pvl 3)) pe_int) pa_nil))) (pe_op op_mod (pvl 2) pe_int) (fun _ _ => rfl))))
        pss_nil)
      (pss_cons (ps_if (pt_cmpR op_eq (pvl 4) pe_int (nomark _))
        (pss_one (ps_ret (pe_op op_shl pe_int (pe_op op_mod (pvl 2) (pvl 3)))))
        pss_nil)
      (pss_cons (ps_if (pt_cmpR op_eq (pvl 4) pe_int (nomark _))
        (pss_one (ps_ret (pe_op op_xor (pe_op op_sub (pe_op op_shl pe_int (pvl 3)) pe_int) (pe_op op_shl pe_int (pe_op op_mod (pvl 2) (pvl 3))))))
        pss_nil)
      (pss_cons (ps_if (pt_cmpR op_eq (pvl 4) pe_int (nomark _))
        (pss_one (ps_ret (pcall G__law_table (hr.mono (by first | decide | omega)) T.m__law_table T.k__law_table T.b__law_table never1 (pa_cons (pvl 0) (pa_cons (pcall G__law_tree_by (hr.mono (by first | decide | omega)) T.m__law_tree_by T.k__law_tree_by T.b__law_tree_by never1 (pa_cons (pvl 0) (pa_cons (pvl 2) (pa_cons pe_int pa_nil)))) pa_nil)))))
        pss_nil)
      (pss_cons (ps_if (pt_cmpR op_eq (pvl 4) pe_int (nomark _))
        (pss_one (ps_ret (pe_op op_mod (pvl 2) (pe_op op_shl pe_int (pvl 3)))))
        pss_nil)
      (pss_one (ps_ret (pe_op op_mod (pe_op op_fdiv (pe_op op_powB (pe_op op_add (pe_op op_add (pe_op op_mod (pvl 2) (pe_op op_powB pe_int pe_int)) (pe_op op_mod (pvl 1) (pe_op op_powB pe_int pe_int))) pe_int) pe_int) (pe_op op_powB pe_int pe_int)) (pe_op op_shl pe_int (pvl 3)))))))))))), ?_⟩
  have el : (ns.map V.str).length = ns.length := List.length_map _
  obtain ⟨N, hN⟩ : ∃ N, N = 2 ^ ns.length := ⟨_, rfl⟩
  have hN1 : 0 < N := hN ▸ Nat.two_pow_pos _
  have hN256 : N ≤ 256 := hN ▸ Nat.pow_le_pow_right (n := 2) (j := 8) (by decide) h8
  have e1 : (1 : Int) * 2 ^ (((ns.map V.str).length : Nat) : Int).toNat = (N : Int) := by rw [el, Int.toNat_natCast, hN]; simp
  rw [← hN] at k
  have pw : ∀ j : Nat, (1 : Int) * 2 ^ ((j : Nat) : Int).toNat = ((2 ^ j : Nat) : Int) := fun j => by rw [Int.toNat_natCast]; simp
  have pwN := pw N
  obtain ⟨M, hM⟩ : ∃ M, M = 2 ^ N := ⟨_, rfl⟩
  rw [← hM] at pwN k
  have hM1 : 0 < M := hM ▸ Nat.two_pow_pos _
  have efull : (1 : Int) * 2 ^ ((N : Nat) : Int).toNat - 1 = ((M - 1 : Nat) : Int) := by rw [pwN]; omega
  have cN : CPow 1 ((N : Nat) : Int) := ⟨by omega, by omega, by decide⟩
  refine ⟨_, rfl, p, _, rfl, .inr (SqT.of hp), _, _, rfl, rfl, ⟨by omega, by rw [el]; omega, by decide⟩, ?_⟩
  try dsimp (config := { proj := false, iota := false }) only
  rw [e1]
  refine ⟨_, rfl, _, _, rfl, rfl, (by show (0 : Int) < 8; decide), ?_⟩
  try dsimp (config := { proj := false, iota := false }) only
  generalize c % 8 = way
  have oN0 : 0 ≤ o % (N : Int) := Int.emod_nonneg _ (by omega)
  have oN1 : o % (N : Int) < N := Int.emod_lt_of_pos _ (by omega)
  obtain ⟨b, hb, hbN⟩ : ∃ b : Nat, o % (N : Int) = (b : Int) ∧ b < N := ⟨(o % (N : Int)).toNat, by omega, by omega⟩
  have cb : CPow 1 (b : Int) := ⟨by omega, by omega, by decide⟩
  have bM : 2 ^ b < M := by rw [hM]; exact Nat.pow_lt_pow_right (by decide) hbN
  refine ⟨_, rfl, rfl, _, rfl, ite2 (fun _ => ?_) (fun _ => ?_)⟩
  · refine ⟨_, rfl, _, _, rfl, rfl, cN, _, _, rfl, rfl, lk (by first | exact Nat.le_of_ble_eq_true rfl | simp), fun q hq => ?_⟩
    try dsimp (config := { proj := false, iota := false }) only
    rw [efull]
    have u1 := same_upd (o := .tup [.int 0, .int ((M - 1 : Nat) : Int)]) hq
    refine ⟨_, rfl, _, _, rfl, rfl, (by show (0 : Int) < 2; decide), ?_⟩
    rcases Int.emod_two_eq o with z | z
    · exact ⟨q, _, _, .int 0, rfl, rfl, SqT.of upd_same, (by show atI _ (o % 2) = _; rw [z]; rfl), k 0 _ u1 hM1⟩
    · exact ⟨q, _, _, .int ((M - 1 : Nat) : Int), rfl, rfl, SqT.of upd_same, (by show atI _ (o % 2) = _; rw [z]; rfl), k (M - 1) _ u1 (by omega)⟩
  refine ⟨_, rfl, rfl, _, rfl, ite2 (fun _ => ?_) (fun _ => ?_)⟩
  · refine ⟨_, rfl, _, rfl, _, _, rfl, rfl, (by show (0 : Int) < (N : Int); omega), ?_⟩
    try dsimp (config := { proj := false, iota := false }) only
    rw [hb]
    refine ⟨_, _, rfl, rfl, cb, ?_⟩
    have k' : Q (.int ((1 : Int) * 2 ^ ((b : Nat) : Int).toNat)) H := by rw [pw]; exact k (2 ^ b) _ (Same.refl _) bM
    exact k'
  refine ⟨_, rfl, rfl, _, rfl, ite2 (fun _ => ?_) (fun _ => ?_)⟩
  · refine ⟨_, rfl, _, _, rfl, rfl, cN, _, _, rfl, rfl, _, rfl, _, rfl, _, _, rfl, rfl, (by show (0 : Int) < (N : Int); omega), ?_⟩
    try dsimp (config := { proj := false, iota := false }) only
    rw [hb]
    refine ⟨_, _, rfl, rfl, cb, _, _, rfl, rfl, ?_⟩
    have k' : Q (.int (Builtin.bitXor ((1 : Int) * 2 ^ ((N : Nat) : Int).toNat - 1) ((1 : Int) * 2 ^ ((b : Nat) : Int).toNat))) H := by
      rw [efull, pw, bxor]
      refine k _ _ (Same.refl _) ?_
      rw [hM] at bM ⊢
      exact Nat.xor_lt_two_pow (by have := Nat.two_pow_pos N; omega) bM
    exact k'
  refine ⟨_, rfl, rfl, _, rfl, ite2 (fun _ => ?_) (fun _ => ?_)⟩
  · refine ⟨_, rfl, _, rfl, _, rfl, p, ns, o, 4, rfl, hp, h1, h8, by decide, by decide, fun v tr H1 s1 ht hd _ hn => ?_⟩
    refine ⟨p, v, ns, tr, rfl, s1 _ _ hp, h8, ht, by omega, hn, fun H2 s2 => k _ _ (s1.trans s2) ?_⟩
    rw [hM, hN]
    exact bsum_lt _ _
  have modk : ∀ z : Int, Q (.int (z % ((1 : Int) * 2 ^ ((N : Nat) : Int).toNat))) H := fun z => by
    rw [pwN]
    have z0 : 0 ≤ z % (M : Int) := Int.emod_nonneg _ (by omega)
    have z1 : z % (M : Int) < M := Int.emod_lt_of_pos _ (by omega)
    obtain ⟨y, hy⟩ : ∃ y : Nat, z % (M : Int) = (y : Int) := ⟨(z % (M : Int)).toNat, by omega⟩
    rw [hy]
    exact k y _ (Same.refl _) (by omega)
  have mpos : (0 : Int) < (1 : Int) * 2 ^ ((N : Nat) : Int).toNat := by rw [pwN]; omega
  refine ⟨_, rfl, rfl, _, rfl, ite2 (fun _ => ?_) (fun _ => ?_)⟩
  · exact ⟨_, rfl, _, rfl, _, _, rfl, rfl, cN, _, _, rfl, rfl, mpos, modk _⟩
  refine ⟨_, rfl, _, _, rfl, rfl, ⟨by decide, by decide, by decide⟩, _, _, rfl, rfl, (by show (0 : Int) < 10 ^ (60 : Int).toNat; decide), _, rfl, _, _, rfl, rfl, ⟨by decide, by decide, by decide⟩, _, _, rfl, rfl, (by show (0 : Int) < 10 ^ (9 : Int).toNat; decide), _, _, rfl, rfl, _, _, rfl, rfl, ?_⟩
  have w0 : 0 ≤ o % 10 ^ (60 : Int).toNat := Int.emod_nonneg _ (by decide)
  have w1 : o % 10 ^ (60 : Int).toNat < 10 ^ 60 := Int.emod_lt_of_pos _ (by decide)
  have w2 : 0 ≤ c % 10 ^ (9 : Int).toNat := Int.emod_nonneg _ (by decide)
  have w3 : c % 10 ^ (9 : Int).toNat < 10 ^ 9 := Int.emod_lt_of_pos _ (by decide)
  have big : (o % 10 ^ (60 : Int).toNat + c % 10 ^ (9 : Int).toNat + 3).natAbs < 2 ^ 1000 := by
    have h : (o % 10 ^ (60 : Int).toNat + c % 10 ^ (9 : Int).toNat + 3).natAbs < 2 * 10 ^ 60 := by
      generalize o % 10 ^ (60 : Int).toNat = x at w0 w1
      generalize c % 10 ^ (9 : Int).toNat = y at w2 w3
      omega
    exact Nat.lt_trans h (by decide)
  refine ⟨_, _, rfl, rfl, ⟨by decide, by decide, big⟩, _, _, rfl, rfl, ⟨by decide, by decide, by decide⟩, _, _, rfl, rfl, ⟨by decide, by decide⟩, _, rfl, _, _, rfl, rfl, cN, _, _, rfl, rfl, mpos, modk _⟩
theorem scLaw : FnScope ["_law_script", "_law_names", "_law_wanted", "_law_found"] ["_law_script"] (defScope s_law) := ⟨rfl, rfl, rfl, by decide +kernel, rfl, by decide +kernel, by decide +kernel⟩
theorem ok_law (T : Txt P w K mg t) : FnOk P w K mg base (CX1 P w) 100 t.a_law t.fd_law ["_law_script"] (spLaw K) := by
  have G__law_cell_at : FnOk P w K mg base (CX1 P w) 1 t.a__law_cell_at t.fd__law_cell_at ["_law_script", "_law_k"] (spCell K) := ok_cell T
  have G__law_names_by : FnOk P w K mg base (CX1 P w) 1 t.a__law_names_by t.fd__law_names_by ["_law_cell", "_law_many_here"] spNames2 := ok_names2 T
  have G__law_many : FnOk P w K mg base (CX1 P w) 1 t.a__law_many t.fd__law_many ["_law_cell"] spMany := ok_many T
  have G__law_table_by : FnOk P w K mg base (CX1 P w) 20 t.a__law_table_by t.fd__law_table_by ["_law_names", "_law_cell", "_law_other"] spTabBy := ok_tabby T
  have G__law_table : FnOk P w K mg base (CX1 P w) 32 t.a__law_table t.fd__law_table ["_law_names", "_law_tree"] (spLTable 30) := ok_ltable T 30
  have G__law_parts : FnOk P w K mg base (CX1 P w) 31 t.a__law_parts t.fd__law_parts ["_law_names", "_law_tree", "_law_deep"] (spParts 30) := ok_parts T 30
  have G_tree_of : FnOk P w K mg base (CX1 P w) 11 t.a_tree_of t.fd_tree_of ["names", "table"] (spTreeOf 8) := ok_treeof T 8
  refine T.F_law.ok1 (k := 99) scLaw (fun vs H Q E h => by obtain ⟨a, ns, rfl, _⟩ := h; rfl) (fun cdv A outer s H vs Q E hr h => ?_)
  obtain ⟨a, ns, rfl, hS, hlen, k⟩ := h
  have nd := scLaw.nd
  refine ⟨_, (pss_cons (psl 1 nd (pcall G__law_names_by (hr.mono (by first | decide | omega)) T.m__law_names_by T.k__law_names_by T.b__law_names_by never1 (pa_cons (pcall G__law_cell_at (hr.mono (by first | decide | omega)) T.m__law_cell_at T.k__law_cell_at T.b__law_cell_at never1 (pa_cons (pvl 0) (pa_cons pe_int pa_nil))) (pa_cons (pcall G__law_many (hr.mono (by first | decide | omega)) T.m__law_many T.k__law_many T.b__law_many never1 (pa_cons (pcall G__law_cell_at (hr.mono (by first | decide | omega)) T.m__law_cell_at T.k__law_cell_at T.b__law_cell_at never1 (pa_cons (pvl 0) (pa_cons pe_int pa_nil))) pa_nil)) pa_nil))))
      (pss_cons (psl 2 nd (pcall G__law_table_by (hr.mono (by first | decide | omega)) T.m__law_table_by T.k__law_table_by T.b__law_table_by never1 (pa_cons (pvl 1) (pa_cons (pcall G__law_cell_at (hr.mono (by first | decide | omega)) T.m__law_cell_at T.k__law_cell_at T.b__law_cell_at never1 (pa_cons (pvl 0) (pa_cons pe_int pa_nil))) (pa_cons (pcall G__law_cell_at (hr.mono (by first | decide | omega)) T.m__law_cell_at T.k__law_cell_at T.b__law_cell_at never1 (pa_cons (pvl 0) (pa_cons pe_int pa_nil))) pa_nil)))))
      (pss_cons (psl 3 nd (pcall G_tree_of (hr.mono (by first | decide | omega)) T.m_tree_of T.k_tree_of T.b_tree_of never1 (pa_cons (pvl 1) (pa_cons (pvl 2) pa_nil))))
      (pss_one (ps_ret (pe_and (pe_cmpR op_le (pcall G__law_parts (hr.mono (by first | decide | omega)) T.m__law_parts T.k__law_parts T.b__law_parts never1 (pa_cons (pvl 1) (pa_cons (pvl 3) (pa_cons pe_int pa_nil)))) pe_int (nomark _)) (pe_one (pe_cmpR op_eq (pcall G__law_table (hr.mono (by first | decide | omega)) T.m__law_table T.k__law_table T.b__law_table never1 (pa_cons (pvl 1) (pa_cons (pvl 3) pa_nil))) (pvl 2) (nomark _))))))))), ?_⟩
  refine ⟨_, rfl, a, ns, 0, rfl, hS, by decide, _, rfl, a, ns, 1, rfl, hS, by decide, _, rfl, fun n H0 s0 hn1 hn8 => ?_⟩
  refine ⟨_, (n : Int), rfl, by omega, by omega, fun p names H1 s1 hp hnl hN => ?_⟩
  rw [Int.toNat_natCast] at hnl
  have s01 := s0.trans s1
  refine ⟨_, rfl, _, rfl, a, ns, 2, rfl, s01.seq hS, by decide, _, rfl, a, ns, 3, rfl, s01.seq hS, by decide, p, _, _, names, rfl, hp, by omega, by omega, fun tab H2 s2 htab => ?_⟩
  have hp2 := s2 _ _ hp
  refine ⟨_, rfl, _, rfl, p, n, names, tab, rfl, hp2, hnl, by omega, by decide, hN.nd, hN.nm, (by rw [← hnl]; exact htab), fun v tr H3 s3 ht htb hz hd hn => ?_⟩
  have hp3 := s3 _ _ hp2
  have hpow : 2 ^ n ≤ 256 := Nat.pow_le_pow_right (n := 2) (j := 8) (by decide) hn8
  refine ⟨_, rfl, _, rfl, p, v, 1, names, tr, rfl, hp3, ht, by omega, by decide, hn, fun H4 s4 => ⟨_, _, rfl, rfl, true, congrArg V.bl (decide_eq_true ?_), ?_⟩⟩
  · show ((tr.size : Nat) : Int) ≤ 2000
    omega
  refine ⟨_, rfl, _, rfl, p, v, names, tr, rfl, s4 _ _ hp3, by omega, ht.mono s4.tups, by omega, hn, fun H5 s5 => ⟨_, rfl, rfl, ?_⟩⟩
  have k' : Q (.bl (decide (V.int ((tableN names tr : Nat) : Int) = V.int (tab : Int)))) H5 := by
    rw [htb, decide_eq_true rfl]
    exact k _
  exact k'
end
end K23

namespace K23
open PySem L2
theorem txt_mk {P : Program} {w : World} {K : PySem.W.Frag} {h : Heap} {mg : Str → Option Value} (X : K.In h) (G : h.Ns mainGlobals mg)
    {f0 : Addr} {od0 an0 : Option Addr} {sl0 : Array (Option Value)} {oc0 kV0 dc0 pm0 cd0 ct0 : Value}
    {f1 : Addr} {od1 an1 : Option Addr} {sl1 : Array (Option Value)} {oc1 kV1 dc1 pm1 cd1 ct1 : Value}
    {f2 : Addr} {od2 an2 : Option Addr} {sl2 : Array (Option Value)} {oc2 kV2 dc2 pm2 cd2 ct2 : Value}
    {f3 : Addr} {od3 an3 : Option Addr} {sl3 : Array (Option Value)} {oc3 kV3 dc3 pm3 cd3 ct3 : Value}
    {f4 : Addr} {od4 an4 : Option Addr} {sl4 : Array (Option Value)} {oc4 kV4 dc4 pm4 cd4 ct4 : Value}
    {f5 : Addr} {od5 an5 : Option Addr} {sl5 : Array (Option Value)} {oc5 kV5 dc5 pm5 cd5 ct5 : Value}
    {f6 : Addr} {od6 an6 : Option Addr} {sl6 : Array (Option Value)} {oc6 kV6 dc6 pm6 cd6 ct6 : Value}
    {f7 : Addr} {od7 an7 : Option Addr} {sl7 : Array (Option Value)} {oc7 kV7 dc7 pm7 cd7 ct7 : Value}
    {f8 : Addr} {od8 an8 : Option Addr} {sl8 : Array (Option Value)} {oc8 kV8 dc8 pm8 cd8 ct8 : Value}
    {f9 : Addr} {od9 an9 : Option Addr} {sl9 : Array (Option Value)} {oc9 kV9 dc9 pm9 cd9 ct9 : Value}
    {f10 : Addr} {od10 an10 : Option Addr} {sl10 : Array (Option Value)} {oc10 kV10 dc10 pm10 cd10 ct10 : Value}
    (a0 : PySem.W.nsIn K mainGlobals "chosen" = some (some (.ref f0)))
    (l0 : K.lookup f0 = some ⟨oc0, od0, .func (PySem.W.fnOf "chosen" "chosen" (defArgs s_chosen) (defBody s_chosen) (defScope s_chosen) .none kV0 dc0 pm0 an0 cd0 ct0), sl0⟩)
    (c0 : PySem.W.codeIn K cd0 "chosen" = true)
    (k0 : PySem.W.keepIn K (.ref f0) = true)
    (a1 : PySem.W.nsIn K mainGlobals "tree_of" = some (some (.ref f1)))
    (l1 : K.lookup f1 = some ⟨oc1, od1, .func (PySem.W.fnOf "tree_of" "tree_of" (defArgs s_tree_of) (defBody s_tree_of) (defScope s_tree_of) .none kV1 dc1 pm1 an1 cd1 ct1), sl1⟩)
    (c1 : PySem.W.codeIn K cd1 "tree_of" = true)
    (k1 : PySem.W.keepIn K (.ref f1) = true)
    (a2 : PySem.W.nsIn K mainGlobals "_law_cell_at" = some (some (.ref f2)))
    (l2 : K.lookup f2 = some ⟨oc2, od2, .func (PySem.W.fnOf "_law_cell_at" "_law_cell_at" (defArgs s__law_cell_at) (defBody s__law_cell_at) (defScope s__law_cell_at) .none kV2 dc2 pm2 an2 cd2 ct2), sl2⟩)
    (c2 : PySem.W.codeIn K cd2 "_law_cell_at" = true)
    (k2 : PySem.W.keepIn K (.ref f2) = true)
    (a3 : PySem.W.nsIn K mainGlobals "_law_names_by" = some (some (.ref f3)))
    (l3 : K.lookup f3 = some ⟨oc3, od3, .func (PySem.W.fnOf "_law_names_by" "_law_names_by" (defArgs s__law_names_by) (defBody s__law_names_by) (defScope s__law_names_by) .none kV3 dc3 pm3 an3 cd3 ct3), sl3⟩)
    (c3 : PySem.W.codeIn K cd3 "_law_names_by" = true)
    (k3 : PySem.W.keepIn K (.ref f3) = true)
    (a4 : PySem.W.nsIn K mainGlobals "_law_many" = some (some (.ref f4)))
    (l4 : K.lookup f4 = some ⟨oc4, od4, .func (PySem.W.fnOf "_law_many" "_law_many" (defArgs s__law_many) (defBody s__law_many) (defScope s__law_many) .none kV4 dc4 pm4 an4 cd4 ct4), sl4⟩)
    (c4 : PySem.W.codeIn K cd4 "_law_many" = true)
    (k4 : PySem.W.keepIn K (.ref f4) = true)
    (a5 : PySem.W.nsIn K mainGlobals "_law_tree_by" = some (some (.ref f5)))
    (l5 : K.lookup f5 = some ⟨oc5, od5, .func (PySem.W.fnOf "_law_tree_by" "_law_tree_by" (defArgs s__law_tree_by) (defBody s__law_tree_by) (defScope s__law_tree_by) .none kV5 dc5 pm5 an5 cd5 ct5), sl5⟩)
    (c5 : PySem.W.codeIn K cd5 "_law_tree_by" = true)
    (k5 : PySem.W.keepIn K (.ref f5) = true)
    (a6 : PySem.W.nsIn K mainGlobals "_law_column" = some (some (.ref f6)))
    (l6 : K.lookup f6 = some ⟨oc6, od6, .func (PySem.W.fnOf "_law_column" "_law_column" (defArgs s__law_column) (defBody s__law_column) (defScope s__law_column) .none kV6 dc6 pm6 an6 cd6 ct6), sl6⟩)
    (c6 : PySem.W.codeIn K cd6 "_law_column" = true)
    (k6 : PySem.W.keepIn K (.ref f6) = true)
    (a7 : PySem.W.nsIn K mainGlobals "_law_table" = some (some (.ref f7)))
    (l7 : K.lookup f7 = some ⟨oc7, od7, .func (PySem.W.fnOf "_law_table" "_law_table" (defArgs s__law_table) (defBody s__law_table) (defScope s__law_table) .none kV7 dc7 pm7 an7 cd7 ct7), sl7⟩)
    (c7 : PySem.W.codeIn K cd7 "_law_table" = true)
    (k7 : PySem.W.keepIn K (.ref f7) = true)
    (a8 : PySem.W.nsIn K mainGlobals "_law_parts" = some (some (.ref f8)))
    (l8 : K.lookup f8 = some ⟨oc8, od8, .func (PySem.W.fnOf "_law_parts" "_law_parts" (defArgs s__law_parts) (defBody s__law_parts) (defScope s__law_parts) .none kV8 dc8 pm8 an8 cd8 ct8), sl8⟩)
    (c8 : PySem.W.codeIn K cd8 "_law_parts" = true)
    (k8 : PySem.W.keepIn K (.ref f8) = true)
    (a9 : PySem.W.nsIn K mainGlobals "_law_table_by" = some (some (.ref f9)))
    (l9 : K.lookup f9 = some ⟨oc9, od9, .func (PySem.W.fnOf "_law_table_by" "_law_table_by" (defArgs s__law_table_by) (defBody s__law_table_by) (defScope s__law_table_by) .none kV9 dc9 pm9 an9 cd9 ct9), sl9⟩)
    (c9 : PySem.W.codeIn K cd9 "_law_table_by" = true)
    (k9 : PySem.W.keepIn K (.ref f9) = true)
    (a10 : PySem.W.nsIn K mainGlobals "law" = some (some (.ref f10)))
    (l10 : K.lookup f10 = some ⟨oc10, od10, .func (PySem.W.fnOf "law" "law" (defArgs s_law) (defBody s_law) (defScope s_law) .none kV10 dc10 pm10 an10 cd10 ct10), sl10⟩)
    (c10 : PySem.W.codeIn K cd10 "law" = true)
    (k10 : PySem.W.keepIn K (.ref f10) = true)
    (z_tuple : PySem.W.nsIn K mainGlobals "tuple" = some none)
    (z_len : PySem.W.nsIn K mainGlobals "len" = some none)
    (z_range : PySem.W.nsIn K mainGlobals "range" = some none)
    (z_int : PySem.W.nsIn K mainGlobals "int" = some none)
    (z_isinstance : PySem.W.nsIn K mainGlobals "isinstance" = some none)
    (z_str : PySem.W.nsIn K mainGlobals "str" = some none) : ∃ t : Adr, Txt P w K mg t := by
  have F0 := fun_mk (st := s_chosen) l0 c0 k0
  have b0 := F0.binds (ps := ["name", "with_0", "with_1"]) fun _ _ _ _ _ _ us hl => match us, hl with | [_, _, _], _ => rfl
  have F1 := fun_mk (st := s_tree_of) l1 c1 k1
  have b1 := F1.binds (ps := ["names", "table"]) fun _ _ _ _ _ _ us hl => match us, hl with | [_, _], _ => rfl
  have F2 := fun_mk (st := s__law_cell_at) l2 c2 k2
  have b2 := F2.binds (ps := ["_law_script", "_law_k"]) fun _ _ _ _ _ _ us hl => match us, hl with | [_, _], _ => rfl
  have F3 := fun_mk (st := s__law_names_by) l3 c3 k3
  have b3 := F3.binds (ps := ["_law_cell", "_law_many_here"]) fun _ _ _ _ _ _ us hl => match us, hl with | [_, _], _ => rfl
  have F4 := fun_mk (st := s__law_many) l4 c4 k4
  have b4 := F4.binds (ps := ["_law_cell"]) fun _ _ _ _ _ _ us hl => match us, hl with | [_], _ => rfl
  have F5 := fun_mk (st := s__law_tree_by) l5 c5 k5
  have b5 := F5.binds (ps := ["_law_names", "_law_cell", "_law_deep"]) fun _ _ _ _ _ _ us hl => match us, hl with | [_, _, _], _ => rfl
  have F6 := fun_mk (st := s__law_column) l6 c6 k6
  have b6 := F6.binds (ps := ["_law_n", "_law_k"]) fun _ _ _ _ _ _ us hl => match us, hl with | [_, _], _ => rfl
  have F7 := fun_mk (st := s__law_table) l7 c7 k7
  have b7 := F7.binds (ps := ["_law_names", "_law_tree"]) fun _ _ _ _ _ _ us hl => match us, hl with | [_, _], _ => rfl
  have F8 := fun_mk (st := s__law_parts) l8 c8 k8
  have b8 := F8.binds (ps := ["_law_names", "_law_tree", "_law_deep"]) fun _ _ _ _ _ _ us hl => match us, hl with | [_, _, _], _ => rfl
  have F9 := fun_mk (st := s__law_table_by) l9 c9 k9
  have b9 := F9.binds (ps := ["_law_names", "_law_cell", "_law_other"]) fun _ _ _ _ _ _ us hl => match us, hl with | [_, _, _], _ => rfl
  have F10 := fun_mk (st := s_law) l10 c10 k10
  have b10 := F10.binds (ps := ["_law_script"]) fun _ _ _ _ _ _ us hl => match us, hl with | [_], _ => rfl
  exact ⟨⟨f0, PySem.W.fnOf "chosen" "chosen" (defArgs s_chosen) (defBody s_chosen) (defScope s_chosen) .none kV0 dc0 pm0 an0 cd0 ct0, f1, PySem.W.fnOf "tree_of" "tree_of" (defArgs s_tree_of) (defBody s_tree_of) (defScope s_tree_of) .none kV1 dc1 pm1 an1 cd1 ct1, f2, PySem.W.fnOf "_law_cell_at" "_law_cell_at" (defArgs s__law_cell_at) (defBody s__law_cell_at) (defScope s__law_cell_at) .none kV2 dc2 pm2 an2 cd2 ct2, f3, PySem.W.fnOf "_law_names_by" "_law_names_by" (defArgs s__law_names_by) (defBody s__law_names_by) (defScope s__law_names_by) .none kV3 dc3 pm3 an3 cd3 ct3, f4, PySem.W.fnOf "_law_many" "_law_many" (defArgs s__law_many) (defBody s__law_many) (defScope s__law_many) .none kV4 dc4 pm4 an4 cd4 ct4, f5, PySem.W.fnOf "_law_tree_by" "_law_tree_by" (defArgs s__law_tree_by) (defBody s__law_tree_by) (defScope s__law_tree_by) .none kV5 dc5 pm5 an5 cd5 ct5, f6, PySem.W.fnOf "_law_column" "_law_column" (defArgs s__law_column) (defBody s__law_column) (defScope s__law_column) .none kV6 dc6 pm6 an6 cd6 ct6, f7, PySem.W.fnOf "_law_table" "_law_table" (defArgs s__law_table) (defBody s__law_table) (defScope s__law_table) .none kV7 dc7 pm7 an7 cd7 ct7, f8, PySem.W.fnOf "_law_parts" "_law_parts" (defArgs s__law_parts) (defBody s__law_parts) (defScope s__law_parts) .none kV8 dc8 pm8 an8 cd8 ct8, f9, PySem.W.fnOf "_law_table_by" "_law_table_by" (defArgs s__law_table_by) (defBody s__law_table_by) (defScope s__law_table_by) .none kV9 dc9 pm9 an9 cd9 ct9, f10, PySem.W.fnOf "law" "law" (defArgs s_law) (defBody s_law) (defScope s_law) .none kV10 dc10 pm10 an10 cd10 ct10⟩, ⟨F0, b0, PySem.W.mg_of X G a0, k0, F1, b1, PySem.W.mg_of X G a1, k1, F2, b2, PySem.W.mg_of X G a2, k2, F3, b3, PySem.W.mg_of X G a3, k3, F4, b4, PySem.W.mg_of X G a4, k4, F5, b5, PySem.W.mg_of X G a5, k5, F6, b6, PySem.W.mg_of X G a6, k6, F7, b7, PySem.W.mg_of X G a7, k7, F8, b8, PySem.W.mg_of X G a8, k8, F9, b9, PySem.W.mg_of X G a9, k9, F10, b10, PySem.W.mg_of X G a10, k10, PySem.W.mg_none_of X G z_tuple, PySem.W.mg_none_of X G z_len, PySem.W.mg_none_of X G z_range, PySem.W.mg_none_of X G z_int, PySem.W.mg_none_of X G z_isinstance, PySem.W.mg_none_of X G z_str, fun s u => .of_eq rfl⟩⟩
end K23
open PySem PySem.W PyProof.Rows
set_option maxRecDepth 100000 in
set_option maxHeartbeats 0 in
theorem PySem.Challenge.cw_mindchange_k23_sentence_of_a_table_holds : PySem.Challenge.rw_mindchange_k23_sentence_of_a_table.Holds := by
  w_on; o_law; k_head; (case hw => w_witness2)
  k_fill
  refine L2.walk_ofX (l := PySem.Challenge.rw_mindchange_k23_sentence_of_a_table) (n := 63) (k := 100) (x := "_law_script") (sp := K23.spLaw) rfl (by decide) rfl ⟨rfl, by decide, by decide⟩ (fun w h Y => PySem.W.kIn_of Y) ?F ?S
  case F =>
    intro w mg fa h KX G hmg
    have T : ∃ t, K23.Txt PySem.Challenge.rw_mindchange_k23_sentence_of_a_table.prog w (L2.KOf KX) mg t := by
      dsimp only [L2.KOf]
      refine' K23.txt_mk KX G ?a0 ?l0 ?c0 ?k0 ?a1 ?l1 ?c1 ?k1 ?a2 ?l2 ?c2 ?k2 ?a3 ?l3 ?c3 ?k3 ?a4 ?l4 ?c4 ?k4 ?a5 ?l5 ?c5 ?k5 ?a6 ?l6 ?c6 ?k6 ?a7 ?l7 ?c7 ?k7 ?a8 ?l8 ?c8 ?k8 ?a9 ?l9 ?c9 ?k9 ?a10 ?l10 ?c10 ?k10 ?z_tuple ?z_len ?z_range ?z_int ?z_isinstance ?z_str
      (case a0 => k_is)
      (case l0 => k_is)
      (case c0 => k_is)
      (case k0 => k_is)
      (case a1 => k_is)
      (case l1 => k_is)
      (case c1 => k_is)
      (case k1 => k_is)
      (case a2 => k_is)
      (case l2 => k_is)
      (case c2 => k_is)
      (case k2 => k_is)
      (case a3 => k_is)
      (case l3 => k_is)
      (case c3 => k_is)
      (case k3 => k_is)
      (case a4 => k_is)
      (case l4 => k_is)
      (case c4 => k_is)
      (case k4 => k_is)
      (case a5 => k_is)
      (case l5 => k_is)
      (case c5 => k_is)
      (case k5 => k_is)
      (case a6 => k_is)
      (case l6 => k_is)
      (case c6 => k_is)
      (case k6 => k_is)
      (case a7 => k_is)
      (case l7 => k_is)
      (case c7 => k_is)
      (case k7 => k_is)
      (case a8 => k_is)
      (case l8 => k_is)
      (case c8 => k_is)
      (case k8 => k_is)
      (case a9 => k_is)
      (case l9 => k_is)
      (case c9 => k_is)
      (case k9 => k_is)
      (case a10 => k_is)
      (case l10 => k_is)
      (case c10 => k_is)
      (case k10 => k_is)
      (case z_tuple => k_is)
      (case z_len => k_is)
      (case z_range => k_is)
      (case z_int => k_is)
      (case z_isinstance => k_is)
      (case z_str => k_is)
    obtain ⟨t, T⟩ := T
    have e0 := hmg.symm.trans T.m_law
    cases e0
    refine' ⟨t.fd_law, ?b, fun base kb nb => K23.ok_law T⟩
    exact T.bl
  case S => exact fun K H a ns hl hO hS => ⟨a, ns, rfl, hS, hl, fun _ => rfl⟩
#print axioms PySem.Challenge.cw_mindchange_k23_sentence_of_a_table_holds

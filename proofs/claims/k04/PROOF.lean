import PyProof.Rows.All
import Wide.All
import OpenK.AllK
import Wide.FinOn
import Lean
import PyProof.EqAt
import PyProof.EqKinds
import PyProof.TupleCall
import PyProof.NeKinds
import PyProof.AttrMiss
import PyProof.IsiH_list
import KE.KDictOf
import KE.KDictList
import KE.KEqDict
import PySem.Challenge.RW_loomlook_k04_whole_apart
section
-- CHANGE: your row's module here, as the last of these rows
set_option Elab.async false
set_option linter.all false
set_option maxRecDepth 100000
/-! THE HAND LAYER, for ints, bools, texts, own classes, LISTS and tuples (index, slices, in, append, pop ..), calls, loops. Paste it whole ahead of your own text; what your proof does not reach may be deleted. -/
namespace L2
open PySem PySem.Spec PyProof.Rows

/-- a key: an int or a str -/
abbrev Key := Sum Int Str
def keyIs : Key → Value → Bool
  | .inl k, v => Value.isInt k v
  | .inr x, v => Value.isStrOf x v
def keyH (w : World) : Key → Int
  | .inl k => hashInt k
  | .inr x => hashStr w x
theorem keyIs_shape : ∀ {k : Key} {v : Value}, keyIs k v = true → (∃ i t, k = Sum.inl i ∧ v = Value.int i t) ∨ (∃ x t, k = Sum.inr x ∧ v = Value.str x t)
  | .inl i, v, h => by
    obtain ⟨t, e⟩ := Value.isInt_shape (k := i) (v := v) h
    exact .inl ⟨i, t, rfl, e⟩
  | .inr x, v, h => by
    obtain ⟨t, e⟩ := Value.isStrOf_shape (x := x) (v := v) h
    exact .inr ⟨x, t, rfl, e⟩
theorem keyIs_int (i : Int) (t : Tok) : keyIs (.inl i) (.int i t) = true := by simp [keyIs, Value.isInt]
theorem keyIs_str (x : Str) (t : Tok) : keyIs (.inr x) (.str x t) = true := by simp [keyIs, Value.isStrOf]
theorem key_ll (a b : Int) : decide ((Sum.inl a : Key) = Sum.inl b) = (a == b) := by
  by_cases e : a = b
  · subst e; simp
  · have h : ¬ (Sum.inl a : Key) = Sum.inl b := fun q => e (Sum.inl.inj q)
    rw [decide_eq_false h]
    exact (beq_eq_false_iff_ne.mpr e).symm
theorem key_rr (a b : Str) : decide ((Sum.inr a : Key) = Sum.inr b) = decide (a = b) := by
  by_cases e : a = b
  · subst e; simp
  · have h : ¬ (Sum.inr a : Key) = Sum.inr b := fun q => e (Sum.inr.inj q)
    rw [decide_eq_false h, decide_eq_false e]
theorem key_lr (a : Int) (b : Str) : decide ((Sum.inl a : Key) = Sum.inr b) = false := decide_eq_false (fun q => nomatch q)
theorem key_rl (a : Str) (b : Int) : decide ((Sum.inr a : Key) = Sum.inl b) = false := decide_eq_false (fun q => nomatch q)

def mixKind (prog : Program) (w : World) : PySem.KeyKind prog w Key where
  is := keyIs
  hash := keyH w
  inj := fun v a b ha hb => by
    rcases keyIs_shape ha with ⟨i, t, rfl, rfl⟩ | ⟨x, t, rfl, rfl⟩
    · rcases keyIs_shape hb with ⟨j, u, rfl, e⟩ | ⟨y, u, rfl, e⟩
      · injection e with e1 _; rw [e1]
      · exact nomatch e
    · rcases keyIs_shape hb with ⟨j, u, rfl, e⟩ | ⟨y, u, rfl, e⟩
      · exact nomatch e
      · injection e with e1 _; rw [e1]
  byValue := fun k v h => by
    rcases keyIs_shape h with ⟨i, t, rfl, rfl⟩ | ⟨x, t, rfl, rfl⟩ <;> rfl
  pyHash := fun hv h => by
    rcases keyIs_shape hv with ⟨i, t, rfl, rfl⟩ | ⟨x, t, rfl, rfl⟩
    · exact wpAny_pyHash_int h
    · exact wpAny_pyHash_str h
  eqBool := fun hu hv h => by
    rcases keyIs_shape hu with ⟨i, t, rfl, rfl⟩ | ⟨x, t, rfl, rfl⟩
    · rcases keyIs_shape hv with ⟨j, u, rfl, rfl⟩ | ⟨y, u, rfl, rfl⟩
      · rw [key_ll] at h; exact wpAny_eqBool_int h
      · rw [key_lr] at h; exact SeqAt.EqAt.int_str i t y u _ _ _ _ h
    · rcases keyIs_shape hv with ⟨j, u, rfl, rfl⟩ | ⟨y, u, rfl, rfl⟩
      · rw [key_rl] at h; exact SeqAt.EqAt.str_int x t j u _ _ _ _ h
      · rw [key_rr] at h; exact wpAny_eqBool_str h
  «strs» := fun k x t v h => by
    rcases keyIs_shape h with ⟨i, u, rfl, e⟩ | ⟨y, u, rfl, e⟩
    · exact nomatch e
    · injection e with e1 _
      subst e1
      cases v <;> rfl

theorem mixKind_is (prog : Program) (w : World) (k : Key) (v : Value) : (mixKind prog w).is k v = keyIs k v := rfl
theorem mixKind_int (prog : Program) (w : World) (i : Int) (t : Tok) : (mixKind prog w).is (.inl i) (.int i t) = true := keyIs_int i t
theorem mixKind_str (prog : Program) (w : World) (x : Str) (t : Tok) : (mixKind prog w).is (.inr x) (.str x t) = true := keyIs_str x t
end L2

namespace L2
open PySem PySem.Spec PyProof.Rows

/-- a value, without the heap -/
inductive V where
  | non | bl (b : Bool) | int (i : Int) | str (x : Str) | byt (b : Array UInt8) | flt (b : UInt64) | ref (a : Addr) | ty (n : String)
  deriving DecidableEq

def RelV : V → Value → Prop
  | .non, u => u = Value.none
  | .bl b, u => u = Value.bool b
  | .int i, u => ∃ t, u = Value.int i t
  | .str x, u => ∃ t, u = Value.str x t
  | .byt b, u => ∃ t, u = Value.bytes b t
  | .flt b, u => ∃ t, u = Value.float b t
  | .ref a, u => u = Value.ref a
  | .ty n, u => u = Value.type n

abbrev Vals : List V → List Value → Prop := Paired RelV
theorem Vals.length {xs : List V} {us : List Value} (r : Vals xs us) : xs.length = us.length := Paired.length r
theorem Vals.get : ∀ {xs : List V} {us : List Value} {i : Nat} {x : V}, Vals xs us → xs[i]? = some x → ∃ u, us[i]? = some u ∧ RelV x u
  | _, _, _, _, .nil, e => by simp at e
  | _, _, 0, _, .cons r _, e => by simp at e; subst e; exact ⟨_, rfl, r⟩
  | _, _, i + 1, x, .cons _ t, e => by
    obtain ⟨u, h1, h2⟩ := Vals.get (i := i) (x := x) t (by simpa using e)
    exact ⟨u, by simpa using h1, h2⟩
theorem Vals.set {x : V} {u : Value} (r : RelV x u) : ∀ {xs : List V} {us : List Value} (i : Nat), Vals xs us → Vals (xs.set i x) (us.set i u)
  | _, _, _, .nil => .nil
  | _, _, 0, .cons _ t => .cons r t
  | _, _, i + 1, .cons q t => .cons q (Vals.set r i t)
theorem Vals.append : ∀ {xs ys : List V} {us ws : List Value}, Vals xs us → Vals ys ws → Vals (xs ++ ys) (us ++ ws)
  | _, _, _, _, .nil, s => s
  | _, _, _, _, .cons r t, s => .cons r (Vals.append t s)
theorem Vals.take : ∀ {xs : List V} {us : List Value} (n : Nat), Vals xs us → Vals (xs.take n) (us.take n)
  | _, _, 0, _ => .nil
  | _, _, _ + 1, .nil => .nil
  | _, _, n + 1, .cons r t => .cons r (Vals.take n t)
theorem Vals.drop : ∀ {xs : List V} {us : List Value} (n : Nat), Vals xs us → Vals (xs.drop n) (us.drop n)
  | _, _, 0, r => r
  | _, _, _ + 1, .nil => .nil
  | _, _, n + 1, .cons _ t => Vals.drop n t
theorem Vals.none_of : ∀ {xs : List V} {us : List Value} {i : Nat}, Vals xs us → xs[i]? = none → us[i]? = none := fun {xs us i} r e => by
  have h1 := r.length
  have h2 : xs.length ≤ i := List.getElem?_eq_none_iff.mp e
  exact List.getElem?_eq_none_iff.mpr (by omega)

def RelO : Option V → Option Value → Prop
  | some v, some u => RelV v u
  | none, none => True
  | _, _ => False
def KV {κ : Type} : List (κ × V) → List (κ × Value) → Prop := Paired fun (p : κ × V) (q : κ × Value) => p.1 = q.1 ∧ RelV p.2 q.2

/-- a key of a dict (00_mix): an int or a text -/
def kV : Key → V
  | .inl i => .int i
  | .inr x => .str x

/-- what stands at a tracked address -/
inductive HO where
  /-- a list -/
  | lst (xs : List V)
  /-- a tuple (never changes) -/
  | tup (xs : List V)
  /-- a dict whose keys are ints and texts; one whose keys are tuples of ints and texts (the empty one is both) -/
  | dK (kvs : List (Key × V)) | dT (kvs : List (List Key × V))
  /-- a set of ints: its members, its size -/
  | set (S : Int → Bool) (n : Nat)
  /-- an instance of the class at C, its dict at dx, its attributes -/
  | ins (C dx : Addr) (fs : List (Str × V))
  /-- the dict of the instance at x -/
  | own (x : Addr)
  /-- the dict of an exception -/
  | xd (fs : List (Str × V))
  /-- a bound method, f of x -/
  | met (f x : Addr)
  /-- a range object lo, lo + 1, .. below hi -/
  | rng (lo hi : Int)
  /-- a thing that is known to the object (the script; a dict while a loop walks it): read, never written while it is so -/
  | frz (o : Obj) (u : HO)
  /-- a code object's table -/
  | tbl (ps : Array Value)
  /-- any other thing, by what is true of its one object (a def of one's own: SetO a S n := HO.ext fun h => ..) -/
  | ext (φ : Heap → Prop)

abbrev Hp := Addr → Option HO
def upd (H : Hp) (a : Addr) (o : HO) : Hp := fun b => if b = a then some o else H b
theorem upd_same {H : Hp} {a : Addr} {o : HO} : upd H a o a = some o := by unfold upd; rw [if_pos rfl]
theorem upd_ne {H : Hp} {a b : Addr} {o : HO} (h : b ≠ a) : upd H a o b = H b := by unfold upd; rw [if_neg h]
theorem upd_upd {H : Hp} {a : Addr} {o u : HO} : upd (upd H a o) a u = upd H a u := by
  funext b; unfold upd; split <;> rfl
/-- two objects of different content stand apart -/
theorem ne_of {H : Hp} {a b : Addr} {o u : HO} (h : H a = some o) (h' : H b = some u) (d : o ≠ u) : a ≠ b := by
  intro e; subst e; rw [h] at h'; exact d (Option.some.inj h')
theorem ne_of_none {H : Hp} {a b : Addr} {o : HO} (h : H a = some o) (h' : H b = none) : a ≠ b := by
  intro e; subst e; rw [h] at h'; cases h'

section
variable (P : Program) (w : World)
def ObjOk (H : Hp) (h : Heap) (a : Addr) : HO → Prop
  | .lst xs => xs.length ≤ sizeLine ∧ ∃ (its : List Value) (n : Nat), Vals xs its ∧ h.get? a = some { cls := .type "list", data := .seq its.toArray n }
  | .tup xs => xs.length ≤ sizeLine ∧ ∃ its : List Value, Vals xs its ∧ IsTup h a its.toArray
  | .dK kvs => kvs.length ≤ sizeLine ∧ (a == sysModules) = false ∧ ∃ vs, KV kvs vs ∧ h.DictOf (mixKind P w) a vs
  | .dT kvs => kvs.length ≤ sizeLine ∧ (a == sysModules) = false ∧ ∃ xs : List (List Key × Addr × Value),
      Paired (fun (p : List Key × V) (q : List Key × Addr × Value) => p.1 = q.1 ∧ H q.2.1 = some (.tup (p.1.map kV)) ∧ RelV p.2 q.2.2) kvs xs ∧
      ∃ o es ep, h.get? a = some o ∧ o.ExactDict ∧ o.data = .dict es ep ∧ es.toList = xs.map (entryOfKey (tupleKind (mixKind P w))) ∧ (xs.map (·.1)).Nodup
  | .set S n => h.SetOf (intKind P w) a S n
  | .ins C dx fs => H dx = some (.own a) ∧ fs.length ≤ 1000 ∧ dx ≠ a ∧ h.get? a = some (PySem.W.instObj C dx) ∧
      ∃ mA, h.Ns1 dx mA ∧ (∀ f, RelO (fs.lookup f) (mA f)) ∧ PySem.Within mA (fs.map (·.1))
  | .own _ => ∃ o, h.get? a = some o
  | .xd fs => ∃ mA, h.Ns1 a mA ∧ ∀ f, RelO (fs.lookup f) (mA f)
  | .rng lo hi => ∃ t u v, h.get? a = some { cls := .type "range", data := .fields #[.int lo t, .int hi u, .int 1 v] }
  | .frz o u => h.get? a = some o ∧ ObjOk H h a u
  | .tbl ps => h.get? a = some { cls := .none, data := .fields ps }
  | .met f x => h.get? a = some (PySem.W.methodObj (.ref f) (.ref x))
  | .ext φ => φ h ∧ (∃ o, h.get? a = some o) ∧ ∀ h1 h2 : Heap, φ h1 → (∀ o, h1.get? a = some o → h2.get? a = some o) → φ h2
/-- the abstract heap is held -/
def HOk (H : Hp) (h : Heap) : Prop := ∀ a o, H a = some o → ObjOk P w H h a o
end

section
variable {P : Program} {w : World} {H H' : Hp} {h h' : Heap} {a : Addr} {o : HO}
theorem ObjOk.lt (x : ObjOk P w H h a o) : a < h.objs.size := by
  cases o with
  | lst xs => obtain ⟨_, _, _, _, e⟩ := x; exact Heap.lt_size e
  | tup xs => obtain ⟨_, _, _, p⟩ := x; exact p.lt
  | dK kvs => obtain ⟨_, _, _, _, o, _, _, e, _⟩ := x; exact Heap.lt_size e
  | dT kvs => obtain ⟨_, _, _, _, o, _, _, e, _⟩ := x; exact Heap.lt_size e
  | set S n => obtain ⟨o, _, _, _, e, _⟩ := x; exact Heap.lt_size e
  | ins C dx fs => obtain ⟨_, _, _, e, _⟩ := x; exact Heap.lt_size e
  | own y => obtain ⟨_, e⟩ := x; exact Heap.lt_size e
  | xd fs => obtain ⟨_, ⟨_, _, _, e, _⟩, _⟩ := x; exact Heap.lt_size e
  | rng lo hi => obtain ⟨_, _, _, e⟩ := x; exact Heap.lt_size e
  | frz ob u => obtain ⟨e, _⟩ := x; exact Heap.lt_size e
  | tbl ps => exact Heap.lt_size (show h.get? a = some _ from x)
  | met f y => exact Heap.lt_size (show h.get? a = some _ from x)
  | ext φ => obtain ⟨_, ⟨_, e⟩, _⟩ := x; exact Heap.lt_size e
theorem Paired.mapP {α β : Type} {F G : α → β → Prop} : ∀ {l₁ : List α} {l₂ : List β}, Paired F l₁ l₂ → (∀ a b, F a b → G a b) → Paired G l₁ l₂
  | _, _, .nil, _ => .nil
  | _, _, .cons r t, f => .cons (f _ _ r) (Paired.mapP t f)
theorem Paired.imp' {α β : Type} {F G : α → β → Prop} (f : ∀ a b, F a b → G a b) {l₁ : List α} {l₂ : List β} (r : Paired F l₁ l₂) : Paired G l₁ l₂ := Paired.mapP r f
/-- what an object's description leans on: its own object, its own dict, the tuples -/
theorem ObjOk.stay (x : ObjOk P w H h a o) (k : ∀ b u, (b = a ∨ H b = some (.own a)) → h.get? b = some u → h'.get? b = some u)
    (ho : ∀ b, H b = some (.own a) → H' b = some (.own a)) (ht : ∀ b xs, H b = some (.tup xs) → H' b = some (.tup xs)) : ObjOk P w H' h' a o := by
  induction o with
  | lst xs => obtain ⟨z, its, n, r, e⟩ := x; exact ⟨z, its, n, r, k _ _ (.inl rfl) e⟩
  | tup xs => obtain ⟨z, its, r, ob, e, c⟩ := x; exact ⟨z, its, r, ob, k _ _ (.inl rfl) e, c⟩
  | dK kvs => obtain ⟨z, y, vs, r, ob, es, ep, e, c⟩ := x; exact ⟨z, y, vs, r, ob, es, ep, k _ _ (.inl rfl) e, c⟩
  | dT kvs =>
    obtain ⟨z, y, xs, r, ob, es, ep, e, c⟩ := x
    exact ⟨z, y, xs, Paired.mapP r fun p q z => ⟨z.1, ht _ _ z.2.1, z.2.2⟩, ob, es, ep, k _ _ (.inl rfl) e, c⟩
  | set S n => obtain ⟨ob, es, ep, t, e, c⟩ := x; exact ⟨ob, es, ep, t, k _ _ (.inl rfl) e, c⟩
  | ins C dx fs =>
    obtain ⟨d, z, ne, e, mA, ⟨od, es, ep, e2, c⟩, r⟩ := x
    exact ⟨ho _ d, z, ne, k _ _ (.inl rfl) e, mA, ⟨od, es, ep, k _ _ (.inr d) e2, c⟩, r⟩
  | own y => obtain ⟨ob, e⟩ := x; exact ⟨ob, k _ _ (.inl rfl) e⟩
  | xd fs => obtain ⟨mA, ⟨od, es, ep, e, c⟩, r⟩ := x; exact ⟨mA, ⟨od, es, ep, k _ _ (.inl rfl) e, c⟩, r⟩
  | rng lo hi => obtain ⟨t, u, v, e⟩ := x; exact ⟨t, u, v, k _ _ (.inl rfl) e⟩
  | frz ob u ih => obtain ⟨e, q⟩ := x; exact ⟨k _ _ (.inl rfl) e, ih q⟩
  | tbl ps =>
    have e : h.get? a = some { cls := .none, data := .fields ps } := x
    show h'.get? a = some { cls := .none, data := .fields ps }
    exact k a _ (.inl rfl) e
  | met f y =>
    have e : h.get? a = some (PySem.W.methodObj (.ref f) (.ref y)) := x
    show h'.get? a = some (PySem.W.methodObj (.ref f) (.ref y))
    exact k a _ (.inl rfl) e
  | ext φ => obtain ⟨p, ⟨o, e⟩, st⟩ := x; exact ⟨st _ _ p fun o q => k _ _ (.inl rfl) q, ⟨o, k _ _ (.inl rfl) e⟩, st⟩
theorem HOk.lt (x : HOk P w H h) (e : H a = some o) : a < h.objs.size := (x a o e).lt
theorem HOk.fresh (x : HOk P w H h) (e : h.objs.size ≤ a) : H a = none := by
  cases q : H a with
  | none => rfl
  | some u => exact absurd (Nat.lt_of_lt_of_le (x.lt q) e) (Nat.lt_irrefl _)
/-- every object of the heap is kept -/
theorem HOk.kept (x : HOk P w H h) (k : ∀ b u, h.get? b = some u → h'.get? b = some u) : HOk P w H h' := fun a o e =>
  (x a o e).stay (fun b u _ q => k b u q) (fun _ q => q) fun _ _ q => q
/-- a new object is laid and tracked -/
theorem HOk.laid (x : HOk P w H h) (k : ∀ b u, h.get? b = some u → h'.get? b = some u) (hp : h.objs.size ≤ a) (new : ObjOk P w (upd H a o) h' a o) : HOk P w (upd H a o) h' := fun b u e => by
  have hn := x.fresh hp
  by_cases hb : b = a
  · subst hb; rw [upd_same] at e; cases e; exact new
  · rw [upd_ne hb] at e
    exact (x b u e).stay (fun c v _ q => k c v q) (fun c q => by rw [upd_ne (ne_of_none q hn)]; exact q) fun c xs q => by rw [upd_ne (ne_of_none q hn)]; exact q
end

/-- what may be read as u: it is u, or a known u -/
def Rd (H : Hp) (a : Addr) (u : HO) : Prop := H a = some u ∨ ∃ o, H a = some (.frz o u)
theorem Rd.of {H : Hp} {a : Addr} {u : HO} (h : H a = some u) : Rd H a u := .inl h
theorem Rd.ok {P : Program} {w : World} {H : Hp} {h : Heap} {a : Addr} {u : HO} (r : Rd H a u) (x : HOk P w H h) : ObjOk P w H h a u := by
  rcases r with r | ⟨o, r⟩
  · exact x a u r
  · obtain ⟨_, q⟩ := x a _ r
    exact q
/-- what may be written -/
def Mut : Option HO → Prop
  | some (.lst _) => True
  | some (.dK _) => True
  | some (.dT _) => True
  | some (.set _ _) => True
  | some (.ins _ _ _) => True
  | some (.ext _) => True
  | _ => False
section
variable {P : Program} {w : World} {H : Hp} {h h' : Heap} {x e : Addr} {o' : HO}
/-- the object at e is changed: x itself, or the dict of the instance x -/
theorem HOk.write (ok : HOk P w H h) (mu : Mut (H x)) (he : e = x ∨ H e = some (.own x)) (k : ∀ b u, b ≠ e → h.get? b = some u → h'.get? b = some u) (heo : ∃ u, h'.get? e = some u)
    (new : ObjOk P w (upd H x o') h' x o') : HOk P w (upd H x o') h' := fun b u q => by
  have nown : ∀ c y, H c = some (.own y) → c ≠ x := fun c y r z => by subst z; rw [r] at mu; exact mu
  have ntup : ∀ c xs, H c = some (.tup xs) → c ≠ x := fun c xs r z => by subst z; rw [r] at mu; exact mu
  by_cases hb : b = x
  · subst hb; rw [upd_same] at q; cases q; exact new
  · rw [upd_ne hb] at q
    by_cases hbe : b = e
    · have q' : H b = some (.own x) := by
        rcases he with z | z
        · exact absurd (hbe.trans z) hb
        · rw [hbe]; exact z
      rw [q] at q'; cases q'
      obtain ⟨v, hv⟩ := heo
      exact ⟨v, by rw [hbe]; exact hv⟩
    · refine (ok b u q).stay (fun c v hc r => k c v ?_ r) (fun c r => by rw [upd_ne (nown c b r)]; exact r) fun c xs r => by rw [upd_ne (ntup c xs r)]; exact r
      rcases hc with rfl | hc
      · exact hbe
      · rintro rfl
        rcases he with z | z
        · exact nown c b hc z
        · rw [hc] at z; cases z; exact hb rfl
end

/-! ### kept unless tracked; of the frames at fs (the callers') the slots may change (an exception that passes writes there); of the records at ex (iterators) nothing is said -/
structure Un (fs ex : List Addr) (H H' : Hp) (h h' : Heap) : Prop where
  keep : ∀ b o, h.get? b = some o → H b = none → b ∉ fs → b ∉ ex → h'.get? b = some o
  slot : ∀ b o, h.get? b = some o → H b = none → b ∈ fs → b ∉ ex → ∃ sl, h'.get? b = some { o with slots := sl }
  free : ∀ b o, h.get? b = some o → H b = none → b ∉ ex → H' b = none
  there : ∀ b o, h.get? b = some o → b ∉ ex → ∃ o', h'.get? b = some o'
  tups : ∀ b xs, H b = some (.tup xs) → H' b = some (.tup xs)
  frzs : ∀ b o u, H b = some (.frz o u) → H' b = some (.frz o u)
  tbls : ∀ b ps, H b = some (.tbl ps) → ∃ more, H' b = some (.tbl (ps ++ more))
section
variable {fs fs' ex ex' : List Addr} {H H1 H2 : Hp} {h h1 h2 h' : Heap} {a x e : Addr} {o : HO}
theorem Un.any (u : Un fs ex H H1 h h1) {b : Addr} {ob : Obj} (q : h.get? b = some ob) (n : H b = none) (hx : b ∉ ex) : ∃ sl, h1.get? b = some { ob with slots := sl } := by
  by_cases hb : b ∈ fs
  · exact u.slot b ob q n hb hx
  · exact ⟨ob.slots, u.keep b ob q n hb hx⟩
theorem Un.trans (a : Un fs ex H H1 h h1) (b : Un fs ex H1 H2 h1 h2) : Un fs ex H H2 h h2 where
  keep := fun c ob q n hc hx => b.keep c ob (a.keep c ob q n hc hx) (a.free c ob q n hx) hc hx
  slot := fun c ob q n hc hx => by
    obtain ⟨sl, e1⟩ := a.slot c ob q n hc hx
    obtain ⟨sl', e2⟩ := b.slot c _ e1 (a.free c ob q n hx) hc hx
    exact ⟨sl', e2⟩
  free := fun c ob q n hx => by
    obtain ⟨o', e1⟩ := a.there c ob q hx
    exact b.free c o' e1 (a.free c ob q n hx) hx
  there := fun c ob q hx => by
    obtain ⟨o', e1⟩ := a.there c ob q hx
    exact b.there c o' e1 hx
  tups := fun c xs q => b.tups c xs (a.tups c xs q)
  frzs := fun c ob xs q => b.frzs c ob xs (a.frzs c ob xs q)
  tbls := fun c ps q => by
    obtain ⟨m1, e1⟩ := a.tbls c ps q
    obtain ⟨m2, e2⟩ := b.tbls c _ e1
    exact ⟨m1 ++ m2, by rw [e2, Array.append_assoc]⟩
theorem Un.kept (k : ∀ b u, h.get? b = some u → h'.get? b = some u) : Un fs ex H H h h' :=
  ⟨fun b ob q _ _ _ => k b ob q, fun b ob q _ _ _ => ⟨ob.slots, k b ob q⟩, fun _ _ _ n _ => n, fun b ob q _ => ⟨ob, k b ob q⟩, fun _ _ q => q, fun _ _ _ q => q, fun _ ps q => ⟨#[], by rw [q]; simp⟩⟩
theorem Un.refl : Un fs ex H H h h := Un.kept fun _ _ q => q
theorem Un.laid (k : ∀ b u, h.get? b = some u → h'.get? b = some u) (hp : h.objs.size ≤ a) (hn : H a = none) : Un fs ex H (upd H a o) h h' where
  keep := fun b u q _ _ _ => k b u q
  slot := fun b u q _ _ _ => ⟨u.slots, k b u q⟩
  free := fun b u q n _ => by rw [upd_ne (Nat.ne_of_lt (Nat.lt_of_lt_of_le (Heap.lt_size q) hp))]; exact n
  there := fun b u q _ => ⟨u, k b u q⟩
  tups := fun b xs q => by rw [upd_ne (ne_of_none q hn)]; exact q
  frzs := fun b u xs q => by rw [upd_ne (ne_of_none q hn)]; exact q
  tbls := fun b ps q => ⟨#[], by rw [upd_ne (ne_of_none q hn), q]; simp⟩
theorem Un.write (mu : Mut (H x)) (he : e = x ∨ H e = some (.own x)) (k : ∀ b u, b ≠ e → h.get? b = some u → h'.get? b = some u) (heo : ∃ u, h'.get? e = some u) : Un fs ex H (upd H x o) h h' := by
  have hx : ∀ b, H b = none → b ≠ x := fun b n z => by subst z; rw [n] at mu; exact mu
  have hb : ∀ b, H b = none → b ≠ e := fun b n z => by
    subst z
    rcases he with r | r
    · exact hx b n r
    · rw [n] at r; cases r
  have hm : ∀ b u, H b = some u → ¬ Mut (some u) → b ≠ x := fun b u q nm z => by subst z; rw [q] at mu; exact nm mu
  refine ⟨fun b u q n _ _ => k b u (hb b n) q, fun b u q n _ _ => ⟨u.slots, k b u (hb b n) q⟩, fun b u q n _ => by rw [upd_ne (hx b n)]; exact n, fun b u q _ => ?_,
    fun b xs q => by rw [upd_ne (hm b _ q fun z => z)]; exact q, fun b u xs q => by rw [upd_ne (hm b _ q fun z => z)]; exact q, fun b ps q => ⟨#[], by rw [upd_ne (hm b _ q fun z => z), q]; simp⟩⟩
  by_cases hbe : b = e
  · subst hbe; exact heo
  · exact ⟨u, k b u hbe q⟩
theorem Un.mono (u : Un fs ex H H1 h h1) (hs : ∀ b ∈ fs, b ∈ fs') (hx : ∀ b ∈ ex, b ∈ ex') : Un fs' ex' H H1 h h1 :=
  ⟨fun b ob q n hb he => u.keep b ob q n (fun z => hb (hs b z)) fun z => he (hx b z), fun _ _ q n _ he => u.any q n fun z => he (hx _ z), fun b ob q n he => u.free b ob q n fun z => he (hx b z), fun b ob q he => u.there b ob q fun z => he (hx b z), u.tups, u.frzs, u.tbls⟩
end

/-! ### the heap without what is tracked -/
def trk (h : Heap) (H : Hp) : List Addr := (List.range h.objs.size).filter fun a => (H a).isSome
def hidT (h : Heap) (H : Hp) : Heap := PySem.W.hideAll h (trk h H)
theorem hidT_size (h : Heap) (H : Hp) : (hidT h H).objs.size = h.objs.size := PySem.W.hideAll_size _ _
theorem hidT_get {h : Heap} {H : Hp} {b : Addr} {o : Obj} (e : h.get? b = some o) (n : H b = none) : (hidT h H).get? b = some o :=
  PySem.W.hideAll_get _ e fun hm => by
    have q : (H b).isSome = true := (List.mem_filter.mp hm).2
    rw [n] at q; simp at q
theorem of_hidT {h : Heap} {H : Hp} {b : Addr} {o : Obj} (e : (hidT h H).get? b = some o) : h.get? b = some o ∧ H b = none := by
  have e' : h.get? b = some o := PySem.W.of_hideAll (trk h H) e
  refine ⟨e', ?_⟩
  cases q : H b with
  | none => rfl
  | some x =>
    have hm : b ∈ trk h H := List.mem_filter.mpr ⟨List.mem_range.mpr (Heap.lt_size e'), by simp [q]⟩
    have z : (hidT h H).get? b = none := PySem.W.hideAll_none (trk h H) hm
    rw [z] at e; cases e

/-! ### OpenK's ledger, filled with every new object but one -/
def allNews (g h : Heap) (L : Addr) : List (Addr × Obj) := (List.range h.objs.size).filterMap fun a => if a = L ∨ (g.get? a).isSome = true then none else (h.get? a).map fun o => (a, o)
theorem mem_allNews {g h : Heap} {L a : Addr} {o : Obj} (h1 : a ≠ L) (h2 : g.get? a = none) (h3 : h.get? a = some o) : (a, o) ∈ allNews g h L :=
  List.mem_filterMap.mpr ⟨a, List.mem_range.mpr (Heap.lt_size h3), by simp [h1, h2, h3]⟩
theorem of_mem_allNews {g h : Heap} {L : Addr} {p : Addr × Obj} (hp : p ∈ allNews g h L) : p.1 ≠ L ∧ g.get? p.1 = none ∧ h.get? p.1 = some p.2 := by
  obtain ⟨b, _, e⟩ := List.mem_filterMap.mp hp
  split at e
  · cases e
  · rename_i hn
    cases q : h.get? b with
    | none => rw [q] at e; simp at e
    | some u =>
      rw [q] at e
      simp only [Option.map_some, Option.some.injEq] at e
      subst e
      refine ⟨fun z => hn (.inl z), ?_, q⟩
      show g.get? b = none
      cases r : g.get? b with
      | none => rfl
      | some v => exact (hn (.inr (by simp [r]))).elim
def rest (g h : Heap) (L d : Addr) : List (Addr × Obj) := (allNews g h L).filter fun p => decide (p.1 ≠ d)
theorem rest_ne {g h : Heap} {L d : Addr} : ∀ p ∈ rest g h L d, p.1 ≠ d := fun p hp => of_decide_eq_true (List.mem_filter.mp hp).2
theorem mem_rest {g h : Heap} {L d a : Addr} {o : Obj} (h1 : a ≠ L) (h2 : g.get? a = none) (h3 : h.get? a = some o) (h4 : a ≠ d) : (a, o) ∈ rest g h L d :=
  List.mem_filter.mpr ⟨mem_allNews h1 h2 h3, decide_eq_true h4⟩
theorem news_all {g h : Heap} {L : Addr} : News g L h (allNews g h L) := fun p hp => let ⟨a, b, c⟩ := of_mem_allNews hp; ⟨c, a, b⟩
theorem news_at {g h : Heap} {L d : Addr} {o : Obj} (h1 : d ≠ L) (h2 : g.get? d = none) (h3 : h.get? d = some o) : News g L h ((d, o) :: rest g h L d) := fun p hp => by
  rcases List.mem_cons.mp hp with rfl | hp
  · exact ⟨h3, h1, h2⟩
  · exact news_all p (List.mem_filter.mp hp).1
/-- behind a rule that changed d alone: all else but the frame is kept -/
theorem kept_of_news {g h h' : Heap} {L d : Addr} {m : Str → Option Value} (k : ∀ b o, g.get? b = some o → h.get? b = some o) (F : Fr g L h' m) (N : News g L h' (rest g h L d)) :
    ∀ b o, b ≠ L → b ≠ d → h.get? b = some o → h'.get? b = some o := fun b o h1 h2 e => by
  cases q : g.get? b with
  | some u =>
    have := k b u q
    rw [e] at this; cases this
    exact F.keep b _ q
  | none => exact (N (b, o) (mem_rest h1 q e h2)).1
end L2

namespace L2
open PySem PySem.Spec PyProof.Rows

/-- the module's facts, over the base: the heap at the law's entry without what is tracked there -/
structure Mod (K : PySem.W.Frag) (mg : Str → Option Value) (base : Heap) : Prop where
  kin : K.In base
  glob : base.Ns mainGlobals mg
  blt : ∃ mb, base.Ns builtinsNs mb ∧ ∀ x : Str, x ≠ "__name__" → mb x = bootBuiltins x
  nolimit : base.NoLimit

/-- the context: a def's body (or a comprehension's block) running. base: fixed through the whole law; s₀, H₀: the entry; outer: the frames whose slots others may change (a def's callers); stack: all frames that run;
   ex: iterators that were made ahead of the entry and are walked here (a comprehension's); fn: the names whose cells were made at the entry (a def: all; a comprehension's block: its own); calm: not within an except suite; pn: pins that every state bears; xe: what is wanted of an exception that leaves the code -/
structure Cx where
  prog : Program
  w : World
  K : PySem.W.Frag
  mg : Str → Option Value
  base : Heap
  A : Around
  N : List Str
  s₀ : Shared
  H₀ : Hp
  env : Env
  outer : List Env
  stack : List Env
  ex : List Addr
  fn : Str → Bool
  calm : Bool
  pn : List (Addr × Obj)
  xe : Value → Shared → Prop
/-- the callers' frames -/
def frs (l : List Env) : List Addr := l.filterMap (·.frame)
abbrev Cx.fs (X : Cx) : List Addr := frs X.outer

def Vis (sc : Scope) (x : Str) : Prop := sc.names.lookup x = some .local ∨ sc.names.lookup x = some .cell ∨ sc.names.lookup x = some .free
def Loc (sc : Scope) (x : Str) : Prop := sc.names.lookup x = some .local ∨ sc.names.lookup x = some .cell
def Look (env : Env) (h : Heap) (m : Str → Option Value) (x : Str) (u : Value) : Prop :=
  (env.kindOf x = some .local ∧ m x = some u) ∨ ((env.kindOf x = some .cell ∨ env.kindOf x = some .free) ∧ ∃ c, env.cells.lookup x = some c ∧ h.IsCell c (some u))

structure Cx.Ok (X : Cx) : Prop where
  mod : Mod X.K X.mg X.base
  kind : X.env.scope.kind = .function
  glob : X.env.globals = mainGlobals
  blt : X.env.builtins = builtinsNs
  above : X.s₀.heap.objs.size ≤ X.env.locals
  inj : ∀ x y c, X.env.cells.lookup x = some c → X.env.cells.lookup y = some c → x = y
  has : ∀ x, (X.env.kindOf x = some .cell ∨ X.env.kindOf x = some .free) → ∃ c, X.env.cells.lookup x = some c
  cab : ∀ x c, X.fn x = true → X.env.cells.lookup x = some c → X.s₀.heap.objs.size ≤ c
  hd : X.calm = true → X.A.handled = none
  frames : X.A.frames = some X.stack
  stk : X.stack = X.outer ∨ (X.stack = X.env :: X.outer ∧ X.env.frame = some X.env.locals)
  exf : ∀ b ∈ X.ex, b ≠ X.env.locals ∧ ∀ x c, X.env.cells.lookup x = some c → c ≠ b
  bs : ∀ b o, X.base.get? b = some o → X.s₀.heap.get? b = some o ∧ X.H₀ b = none
  bsz : X.base.objs.size ≤ X.s₀.heap.objs.size
  noex : ∀ b o, X.base.get? b = some o → b ∉ X.ex
  exfs : ∀ b ∈ X.ex, b ∉ X.fs
  funs : X.s₀.heap.FunFrames X.base X.outer
  frf : ∀ b ∈ X.fs, X.H₀ b = none

structure Inv (X : Cx) (pins : List (Addr × Obj)) (σ : List (Option V)) (H : Hp) (s : Shared) : Prop where
  ok : X.Ok
  os : s.os = X.s₀.os
  bare : AllBare s.gens
  base : Un X.fs X.ex X.H₀ H X.s₀.heap s.heap
  loc : ∃ m, s.heap.Ns X.env.locals m ∧ ∀ (i : Nat) (x : Str) (v : V), X.N[i]? = some x → σ[i]? = some (some v) → Vis X.env.scope x → ∃ u, RelV v u ∧ Look X.env s.heap m x u
  cell : ∀ x c, X.env.cells.lookup x = some c → ∃ v, s.heap.IsCell c v
  free : H X.env.locals = none
  freeC : ∀ x c, X.env.cells.lookup x = some c → H c = none
  pin : ∀ p ∈ X.pn ++ pins, s.heap.get? p.1 = some p.2 ∧ H p.1 = none ∧ p.1 ≠ X.env.locals ∧ p.1 ∉ X.fs ∧ ∀ v, p.2.data ≠ .cell v
  hok : HOk X.prog X.w H s.heap
  len : σ.length = X.N.length

section
variable {X : Cx} {pins : List (Addr × Obj)} {σ : List (Option V)} {H H' : Hp} {s : Shared} {h' : Heap}

theorem Cx.Ok.nofr (ok : X.Ok) {b : Addr} {o : Obj} (e : X.base.get? b = some o) : b ∉ X.fs := fun hb => by
  have := (ok.funs.mem hb).1
  rw [e] at this; cases this
theorem Inv.bs (I : Inv X pins σ H s) : ∀ b o, X.base.get? b = some o → s.heap.get? b = some o ∧ H b = none := fun b o e =>
  ⟨I.base.keep b o (I.ok.bs b o e).1 (I.ok.bs b o e).2 (I.ok.nofr e) (I.ok.noex b o e), I.base.free b o (I.ok.bs b o e).1 (I.ok.bs b o e).2 (I.ok.noex b o e)⟩
theorem Inv.bk (I : Inv X pins σ H s) : ∀ b o, X.base.get? b = some o → s.heap.get? b = some o := fun b o e => (I.bs b o e).1
theorem Inv.mod (I : Inv X pins σ H s) : Mod X.K X.mg X.base := I.ok.mod
theorem Inv.kIn (I : Inv X pins σ H s) : X.K.In s.heap := I.ok.mod.kin.keeps I.bk
theorem Inv.nolimit (I : Inv X pins σ H s) : s.heap.NoLimit := I.ok.mod.nolimit.keeps I.bk
/-- the frame over the base: for OpenK's rules (K.In X.base is I.mod.kin) -/
theorem Inv.fr (I : Inv X pins σ H s) : ∃ m, Fr X.base X.env.locals s.heap m :=
  let ⟨m, hn, _⟩ := I.loc
  ⟨m, hn, I.bk, Nat.le_trans I.ok.bsz I.ok.above⟩
theorem Inv.lt (I : Inv X pins σ H s) : X.env.locals < s.heap.objs.size := let ⟨_, hn, _⟩ := I.loc; hn.lt
theorem Inv.sz (I : Inv X pins σ H s) : X.s₀.heap.objs.size ≤ s.heap.objs.size := Nat.le_trans I.ok.above (Nat.le_of_lt I.lt)
theorem Inv.nofs (I : Inv X pins σ H s) {a : Addr} (h : s.heap.objs.size ≤ a) : a ∉ X.fs := fun hb => by
  obtain ⟨_, o, ho, _⟩ := I.ok.funs.mem hb
  exact absurd (Nat.lt_of_lt_of_le (Heap.lt_size ho) (Nat.le_trans I.sz h)) (Nat.lt_irrefl _)
theorem Inv.cne (I : Inv X pins σ H s) : ∀ x c, X.env.cells.lookup x = some c → c ≠ X.env.locals := fun x c e z => by
  obtain ⟨v, o, ho, hd⟩ := I.cell x c e
  obtain ⟨m, ⟨o', es, ep, ho', hd', _⟩, _⟩ := I.loc
  rw [z, ho'] at ho; cases ho; rw [hd'] at hd; cases hd
theorem Inv.funs (I : Inv X pins σ H s) : s.heap.FunFrames X.base X.outer := by
  have all : ∀ (l : List Env), (∀ b ∈ frs l, b ∈ X.fs) → X.s₀.heap.FunFrames X.base l → s.heap.FunFrames X.base l := by
    intro l
    induction l with
    | nil => intro _ _; trivial
    | cons env r ih =>
      intro hs hl
      obtain ⟨hk, ⟨L, o, hf, hn, ho, hd⟩, hr⟩ := hl
      have hL : L ∈ X.fs := hs L (by unfold frs; rw [List.filterMap_cons, hf]; exact List.mem_cons_self)
      obtain ⟨sl, e⟩ := I.base.slot L o ho (I.ok.frf L hL) hL fun z => I.ok.exfs L z hL
      exact ⟨hk, ⟨L, _, hf, hn, e, hd⟩, ih (fun b hb => hs b (by unfold frs; rw [List.filterMap_cons, hf]; exact List.mem_cons_of_mem _ hb)) hr⟩
  exact all X.outer (fun _ hb => hb) I.ok.funs

/-- the frames that run, for a call -/
theorem Inv.stack (I : Inv X pins σ H s) : s.heap.FunFrames X.base X.stack := by
  rcases I.ok.stk with e | ⟨e, hf⟩
  · rw [e]; exact I.funs
  · rw [e]
    obtain ⟨m, hn, _⟩ := I.loc
    refine .cons (by rw [I.ok.kind]; decide) hf hn ?_ I.funs
    exact Heap.get?_none_of_le (Nat.le_trans I.ok.bsz I.ok.above)
theorem Inv.stkSub (I : Inv X pins σ H s) : ∀ b ∈ frs X.stack, b ∈ X.env.locals :: X.fs := fun b hb => by
  rcases I.ok.stk with e | ⟨e, hf⟩
  · rw [e] at hb; exact List.mem_cons_of_mem _ hb
  · rw [e] at hb
    unfold frs at hb
    rw [List.filterMap_cons, hf] at hb
    exact hb
theorem Inv.stkFree (I : Inv X pins σ H s) : ∀ b ∈ frs X.stack, H b = none := fun b hb => by
  rcases List.mem_cons.mp (I.stkSub b hb) with e | hb
  · rw [e]; exact I.free
  · obtain ⟨_, o, ho, _⟩ := I.ok.funs.mem hb
    exact I.base.free b o ho (I.ok.frf b hb) fun z => I.ok.exfs b z hb

/-- THE STEP: the untracked objects but the frame and the records at ch are kept (the callers' frames up to slots), the frame's map is kept, the new abstract heap is held -/
theorem Inv.step {g' : Array GenState} {t' : Nat} {d' : Drawn} {ch : List Addr} (I : Inv X pins σ H s)
    (hch : ∀ b ∈ ch, (b ∈ X.ex ∨ X.s₀.heap.objs.size ≤ b) ∧ b ≠ X.env.locals ∧ (∀ x c, X.env.cells.lookup x = some c → c ≠ b) ∧ ∀ p ∈ X.pn ++ pins, p.1 ≠ b)
    (keep : ∀ b o, b ≠ X.env.locals → b ∉ X.fs → b ∉ ch → s.heap.get? b = some o → H b = none → h'.get? b = some o)
    (slot : ∀ b o, b ≠ X.env.locals → b ∈ X.fs → b ∉ ch → s.heap.get? b = some o → H b = none → ∃ sl, h'.get? b = some { o with slots := sl }) (free : ∀ b o, b ∉ ch → s.heap.get? b = some o → H b = none → H' b = none)
    (there : ∀ b o, b ∉ ch → s.heap.get? b = some o → ∃ o', h'.get? b = some o')
    (tups : ∀ b xs, H b = some (.tup xs) → H' b = some (.tup xs)) (frzs : ∀ b o u, H b = some (.frz o u) → H' b = some (.frz o u)) (tbls : ∀ b ps, H b = some (.tbl ps) → ∃ more, H' b = some (.tbl (ps ++ more)))
    (ns : ∀ m, s.heap.Ns X.env.locals m → h'.Ns X.env.locals m) (hok : HOk X.prog X.w H' h') (hg : AllBare g') :
    Inv X pins σ H' { s with heap := h', gens := g', drawn := d', toks := t' } := by
  have neL : ∀ b o, X.s₀.heap.get? b = some o → b ≠ X.env.locals := fun b o e => Nat.ne_of_lt (Nat.lt_of_lt_of_le (Heap.lt_size e) I.ok.above)
  have neC : ∀ b o, X.s₀.heap.get? b = some o → b ∉ X.ex → b ∉ ch := fun b o e hx hb => by
    rcases (hch b hb).1 with z | z
    · exact hx z
    · exact absurd (Nat.lt_of_lt_of_le (Heap.lt_size e) z) (Nat.lt_irrefl _)
  have cellK : ∀ x c, X.env.cells.lookup x = some c → ∀ v, s.heap.IsCell c v → h'.IsCell c v := fun x c e v ⟨o, ho, hd⟩ => by
    have nch : c ∉ ch := fun z => (hch c z).2.2.1 x c e rfl
    by_cases hc : c ∈ X.fs
    · obtain ⟨sl, q⟩ := slot c o (I.cne x c e) hc nch ho (I.freeC x c e)
      exact ⟨_, q, hd⟩
    · exact ⟨o, keep c o (I.cne x c e) hc nch ho (I.freeC x c e), hd⟩
  refine ⟨I.ok, I.os, hg, ⟨fun b o e n hb hx => ?_, fun b o e n hb hx => ?_, fun b o e n hx => ?_, fun b o e hx => ?_, fun b xs e => tups b xs (I.base.tups b xs e), fun b o xs e => frzs b o xs (I.base.frzs b o xs e), fun b ps e => ?_⟩, ?_, fun x c e => ?_, ?_, fun x c e => ?_, fun p hp => ?_, hok, I.len⟩
  · exact keep b o (neL b o e) hb (neC b o e hx) (I.base.keep b o e n hb hx) (I.base.free b o e n hx)
  · obtain ⟨sl, e1⟩ := I.base.slot b o e n hb hx
    obtain ⟨sl', e2⟩ := slot b _ (neL b o e) hb (neC b o e hx) e1 (I.base.free b o e n hx)
    exact ⟨sl', e2⟩
  · obtain ⟨o', e1⟩ := I.base.there b o e hx
    exact free b o' (neC b o e hx) e1 (I.base.free b o e n hx)
  · obtain ⟨o', e1⟩ := I.base.there b o e hx
    exact there b o' (neC b o e hx) e1
  · obtain ⟨m1, e1⟩ := I.base.tbls b ps e
    obtain ⟨m2, e2⟩ := tbls b _ e1
    exact ⟨m1 ++ m2, by rw [e2, Array.append_assoc]⟩
  · obtain ⟨m, hn, hl⟩ := I.loc
    refine ⟨m, ns m hn, fun i x v e1 e2 e3 => ?_⟩
    obtain ⟨u, r, l⟩ := hl i x v e1 e2 e3
    refine ⟨u, r, ?_⟩
    rcases l with l | ⟨k, c, e, z⟩
    · exact .inl l
    · exact .inr ⟨k, c, e, cellK x c e _ z⟩
  · obtain ⟨v, z⟩ := I.cell x c e
    exact ⟨v, cellK x c e v z⟩
  · obtain ⟨m, ⟨o, _, _, ho, _⟩, _⟩ := I.loc
    exact free _ o (fun z => (hch _ z).2.1 rfl) ho I.free
  · obtain ⟨v, o, ho, hd⟩ := I.cell x c e
    exact free c o (fun z => (hch c z).2.2.1 x c e rfl) ho (I.freeC x c e)
  · obtain ⟨e, n, ne, nf, d⟩ := I.pin p hp
    have nch : p.1 ∉ ch := fun z => (hch p.1 z).2.2.2 p hp rfl
    exact ⟨keep p.1 p.2 ne nf nch e n, free p.1 p.2 nch e n, ne, nf, d⟩
/-- .. where the frame's own object is kept too -/
theorem Inv.un {t' : Nat} (I : Inv X pins σ H s) (u : Un X.fs [] H H' s.heap h') (hok : HOk X.prog X.w H' h') : Inv X pins σ H' { s with heap := h', toks := t' } := by
  obtain ⟨m, ⟨o, es, ep, ho, r⟩, _⟩ := id I.loc
  obtain ⟨sl, hL⟩ := u.any ho I.free (by simp)
  exact I.step (g' := s.gens) (d' := s.drawn) (ch := []) (fun _ z => nomatch z) (fun b o _ hb _ e n => u.keep b o e n hb (by simp)) (fun b o _ hb _ e n => u.slot b o e n hb (by simp)) (fun b o _ e n => u.free b o e n (by simp)) (fun b o _ e => u.there b o e (by simp)) u.tups u.frzs u.tbls (fun m' hm => by
    obtain ⟨o', es', ep', ho', r'⟩ := hm
    rw [ho] at ho'; cases ho'
    exact ⟨_, es', ep', hL, r'⟩) hok I.bare
/-- behind a call (or a comprehension's block): the slots of this frame may have changed too, the records at ch may have turned -/
theorem Inv.call {g' : Array GenState} {t' : Nat} {d' : Drawn} {ch : List Addr} (I : Inv X pins σ H s) (u : Un (frs X.stack) ch H H' s.heap h') (hok : HOk X.prog X.w H' h') (hg : AllBare g')
    (hch : ∀ b ∈ ch, (b ∈ X.ex ∨ X.s₀.heap.objs.size ≤ b) ∧ b ≠ X.env.locals ∧ (∀ x c, X.env.cells.lookup x = some c → c ≠ b) ∧ ∀ p ∈ X.pn ++ pins, p.1 ≠ b) :
    Inv X pins σ H' { s with heap := h', gens := g', drawn := d', toks := t' } := by
  obtain ⟨m, ⟨o, es, ep, ho, r⟩, _⟩ := id I.loc
  obtain ⟨sl, hL⟩ := u.any ho I.free fun z => (hch _ z).2.1 rfl
  exact I.step (ch := ch) hch (fun b o hL hb hc e n => u.keep b o e n (fun z => (List.mem_cons.mp (I.stkSub b z)).elim hL hb) hc) (fun b o _ _ hc e n => u.any e n hc) (fun b o hc e n => u.free b o e n hc) (fun b o hc e => u.there b o e hc) u.tups u.frzs u.tbls (fun m' hm => by
    obtain ⟨o', es', ep', ho', r'⟩ := hm
    rw [ho] at ho'; cases ho'
    exact ⟨_, es', ep', hL, r'⟩) hok hg
/-- an untracked record of ours (an iterator) has turned -/
theorem Inv.turned {t' : Nat} {it : Addr} (I : Inv X pins σ H s) (k : ∀ b o, b ≠ it → s.heap.get? b = some o → h'.get? b = some o) (hn : H it = none) (hL : it ≠ X.env.locals)
    (h1 : it ∈ X.ex ∨ X.s₀.heap.objs.size ≤ it) (h2 : ∀ x c, X.env.cells.lookup x = some c → c ≠ it) (h3 : ∀ p ∈ X.pn ++ pins, p.1 ≠ it) : Inv X pins σ H { s with heap := h', toks := t' } := by
  have nit : ∀ b u, H b = some u → b ≠ it := fun b u e z => by rw [z, hn] at e; cases e
  refine I.step (g' := s.gens) (d' := s.drawn) (ch := [it]) (fun b hb => ?_) (fun b o _ _ hc e _ => k b o (fun z => hc (by simp [z])) e) (fun b o _ _ hc e _ => ⟨o.slots, k b o (fun z => hc (by simp [z])) e⟩) (fun _ _ _ _ n => n)
    (fun b o hc e => ⟨o, k b o (fun z => hc (by simp [z])) e⟩) (fun _ _ e => e) (fun _ _ _ e => e) (fun b ps e => ⟨#[], by rw [e]; simp⟩) (fun m hm => ?_) (fun b u e => ?_) I.bare
  · have e : b = it := by simpa using hb
    subst e
    exact ⟨h1, hL, h2, h3⟩
  · obtain ⟨o, es, ep, ho, r⟩ := hm
    exact ⟨o, es, ep, k _ o (Ne.symm hL) ho, r⟩
  · refine (I.hok b u e).stay (fun c v hc q => k c v ?_ q) (fun _ q => q) fun _ _ q => q
    rcases hc with z | z
    · rw [z]; exact nit b u e
    · exact nit c _ z
theorem Inv.tok (I : Inv X pins σ H s) (t : Nat) : Inv X pins σ H { s with toks := t } := I.un (h' := s.heap) (t' := t) Un.refl I.hok
/-- all objects kept -/
theorem Inv.kept {t' : Nat} (I : Inv X pins σ H s) (k : ∀ b u, s.heap.get? b = some u → h'.get? b = some u) : Inv X pins σ H { s with heap := h', toks := t' } := I.un (Un.kept k) (I.hok.kept k)
/-- a new object laid and tracked -/
theorem Inv.laid {a : Addr} {o : HO} {t' : Nat} (I : Inv X pins σ H s) (k : ∀ b u, s.heap.get? b = some u → h'.get? b = some u) (hp : s.heap.objs.size ≤ a) (new : ObjOk X.prog X.w (upd H a o) h' a o) :
    Inv X pins σ (upd H a o) { s with heap := h', toks := t' } := I.un (Un.laid k hp (I.hok.fresh hp)) (I.hok.laid k hp new)
/-- an object written -/
theorem Inv.write {x e : Addr} {o : HO} {t' : Nat} (I : Inv X pins σ H s) (mu : Mut (H x)) (he : e = x ∨ H e = some (.own x)) (k : ∀ b u, b ≠ e → s.heap.get? b = some u → h'.get? b = some u) (heo : ∃ u, h'.get? e = some u)
    (new : ObjOk X.prog X.w (upd H x o) h' x o) : Inv X pins σ (upd H x o) { s with heap := h', toks := t' } := I.un (Un.write mu he k heo) (I.hok.write mu he k heo new)
/-- forgetting slots, pins -/
theorem Inv.weak {σ' : List (Option V)} (I : Inv X pins σ H s) (hl : σ'.length = σ.length) (w : ∀ (i : Nat) v, σ'[i]? = some (some v) → σ[i]? = some (some v)) : Inv X pins σ' H s :=
  ⟨I.ok, I.os, I.bare, I.base, let ⟨m, hn, hl'⟩ := I.loc; ⟨m, hn, fun i x v e1 e2 e3 => hl' i x v e1 (w i v e2) e3⟩, I.cell, I.free, I.freeC, I.pin, I.hok, hl.trans I.len⟩
theorem Inv.pins_of {pins' : List (Addr × Obj)} (I : Inv X pins σ H s) (h : ∀ p ∈ pins', s.heap.get? p.1 = some p.2 ∧ H p.1 = none ∧ p.1 ≠ X.env.locals ∧ p.1 ∉ X.fs ∧ ∀ v, p.2.data ≠ .cell v) : Inv X pins' σ H s :=
  ⟨I.ok, I.os, I.bare, I.base, I.loc, I.cell, I.free, I.freeC, fun p hp => (List.mem_append.mp hp).elim (fun z => I.pin p (List.mem_append_left _ z)) (h p), I.hok, I.len⟩

theorem nodup_ix {N : List Str} (hN : N.Nodup) {i j : Nat} {x : Str} (a : N[i]? = some x) (b : N[j]? = some x) : i = j := by
  obtain ⟨h1, e1⟩ := List.getElem?_eq_some_iff.mp a
  obtain ⟨h2, e2⟩ := List.getElem?_eq_some_iff.mp b
  exact (List.getElem_inj hN).mp (e1.trans e2.symm)

/-- a name is stored; what changed -/
theorem store_ok2 {M : Model} {A : Around} {E : Value → Shared → Prop} {i : Nat} {x : Str} {v : V} {u : Value} {Q : Unit → Shared → Prop} (I : Inv X pins σ H s) (hN : X.N.Nodup) (hi : X.N[i]? = some x) (hx : Loc X.env.scope x) (r : RelV v u)
    (h : ∀ s', Inv X pins (σ.set i (some v)) H s' → (∃ a, Heap.SameBut a s.heap s'.heap ∧ (a = X.env.locals ∨ X.env.cells.lookup x = some a)) → Q () s') (hf : X.fn x = true ∨ X.env.scope.names.lookup x = some .local := by first | exact .inl rfl | exact .inr rfl | assumption) : wpAny M A (storeName X.env x u) Q E s := by
  obtain ⟨m, hn, hl⟩ := id I.loc
  have hcls : (X.env.scope.kind == .class || (X.env.scope.kind == .module && X.env.locals != X.env.globals)) = false := by rw [I.ok.kind]; rfl
  have hiσ : i < σ.length := by rw [I.len]; exact (List.getElem?_eq_some_iff.mp hi).1
  have cne := I.cne
  have tracked : ∀ {a : Addr} {h' : Heap}, (∃ o, s.heap.get? a = some o ∧ H a = none) → Heap.SameBut a s.heap h' → HOk X.prog X.w H h' := fun {a h'} ha hs b ob e => by
    obtain ⟨_, _, hfree⟩ := ha
    refine (I.hok b ob e).stay (fun c w' hc q => (hs.2 c ?_).trans q) (fun _ q => q) fun _ _ q => q
    rintro rfl
    rcases hc with rfl | hc
    · rw [hfree] at e; cases e
    · rw [hfree] at hc; cases hc
  rcases hx with hk | hk
  · refine wpAny_storeName_local hk hn (fun h' hn' hs => ?_) hcls
    obtain ⟨oL, _, _, hoL, _⟩ := id hn
    refine h _ ⟨I.ok, I.os, I.bare, ⟨fun b o e n hb hx => ?_, fun b o e n hb hx => ?_, I.base.free, fun b o e hx => ?_, I.base.tups, I.base.frzs, I.base.tbls⟩, ⟨_, hn', fun j y v' e1 e2 e3 => ?_⟩, fun y c e => ?_, I.free, I.freeC, fun p hp => ?_, tracked ⟨oL, hoL, I.free⟩ hs, by simpa using I.len⟩ ⟨_, hs, .inl rfl⟩
    · exact (hs.2 b (Nat.ne_of_lt (Nat.lt_of_lt_of_le (Heap.lt_size e) I.ok.above))).trans (I.base.keep b o e n hb hx)
    · obtain ⟨sl, e1⟩ := I.base.slot b o e n hb hx
      exact ⟨sl, (hs.2 b (Nat.ne_of_lt (Nat.lt_of_lt_of_le (Heap.lt_size e) I.ok.above))).trans e1⟩
    · obtain ⟨o', e1⟩ := I.base.there b o e hx
      exact ⟨o', (hs.2 b (Nat.ne_of_lt (Nat.lt_of_lt_of_le (Heap.lt_size e) I.ok.above))).trans e1⟩
    · by_cases hj : j = i
      · subst hj
        rw [hi] at e1; cases e1
        rw [List.getElem?_set_self hiσ] at e2
        cases e2
        exact ⟨u, r, .inl ⟨hk, by simp⟩⟩
      · rw [List.getElem?_set_ne (Ne.symm hj)] at e2
        obtain ⟨u', r', q⟩ := hl j y v' e1 e2 e3
        refine ⟨u', r', ?_⟩
        rcases q with ⟨k, e⟩ | ⟨k, c, e, z⟩
        · refine .inl ⟨k, ?_⟩
          have : y ≠ x := fun e => hj (nodup_ix hN e1 (e ▸ hi))
          simp [this, e]
        · exact .inr ⟨k, c, e, z.sameBut hs (cne y c e)⟩
    · obtain ⟨w', z⟩ := I.cell y c e
      exact ⟨w', z.sameBut hs (cne y c e)⟩
    · obtain ⟨e, n, ne, nf, d⟩ := I.pin p hp
      exact ⟨(hs.2 p.1 ne).trans e, n, ne, nf, d⟩
  · have hfn : X.fn x = true := by
      rcases hf with z | z
      · exact z
      · rw [z] at hk; cases hk
    obtain ⟨c, hc⟩ := I.ok.has x (.inl hk)
    obtain ⟨w', z⟩ := I.cell x c hc
    refine wpAny_storeName_cell I.ok.kind hk hc z (fun h' hc' hs => ?_)
    obtain ⟨oc, hoc, hocd⟩ := id z
    refine h { s with heap := h' } ⟨I.ok, I.os, I.bare, ⟨fun b o e n hb hx => ?_, fun b o e n hb hx => ?_, I.base.free, fun b o e hx => ?_, I.base.tups, I.base.frzs, I.base.tbls⟩, ⟨m, hn.sameBut hs (Ne.symm (cne x c hc)), fun j y v' e1 e2 e3 => ?_⟩, fun y c' e => ?_, I.free, I.freeC, fun p hp => ?_, tracked ⟨oc, hoc, I.freeC x c hc⟩ hs, by simpa using I.len⟩ ⟨c, hs, .inr hc⟩
    · exact (hs.2 b (Nat.ne_of_lt (Nat.lt_of_lt_of_le (Heap.lt_size e) (I.ok.cab x c hfn hc)))).trans (I.base.keep b o e n hb hx)
    · obtain ⟨sl, e1⟩ := I.base.slot b o e n hb hx
      exact ⟨sl, (hs.2 b (Nat.ne_of_lt (Nat.lt_of_lt_of_le (Heap.lt_size e) (I.ok.cab x c hfn hc)))).trans e1⟩
    · obtain ⟨o', e1⟩ := I.base.there b o e hx
      exact ⟨o', (hs.2 b (Nat.ne_of_lt (Nat.lt_of_lt_of_le (Heap.lt_size e) (I.ok.cab x c hfn hc)))).trans e1⟩
    · by_cases hj : j = i
      · subst hj
        rw [hi] at e1; cases e1
        rw [List.getElem?_set_self hiσ] at e2
        cases e2
        exact ⟨u, r, .inr ⟨.inl hk, c, hc, hc'⟩⟩
      · rw [List.getElem?_set_ne (Ne.symm hj)] at e2
        obtain ⟨u', r', q⟩ := hl j y v' e1 e2 e3
        refine ⟨u', r', ?_⟩
        rcases q with q | ⟨k, c', e, z'⟩
        · exact .inl q
        · refine .inr ⟨k, c', e, z'.sameBut hs ?_⟩
          rintro rfl
          exact hj (nodup_ix hN e1 (I.ok.inj _ _ _ e hc ▸ hi))
    · by_cases hcc : c' = c
      · subst hcc; exact ⟨_, hc'⟩
      · obtain ⟨w2, z2⟩ := I.cell y c' e
        exact ⟨w2, z2.sameBut hs hcc⟩
    · obtain ⟨e, n, ne, nf, d⟩ := I.pin p hp
      refine ⟨(hs.2 p.1 ?_).trans e, n, ne, nf, d⟩
      intro q
      rw [q, hoc] at e
      have q' : oc = p.2 := Option.some.inj e
      exact d w' (by rw [← q']; exact hocd)
theorem store_ok {M : Model} {A : Around} {E : Value → Shared → Prop} {i : Nat} {x : Str} {v : V} {u : Value} {Q : Unit → Shared → Prop} (I : Inv X pins σ H s) (hN : X.N.Nodup) (hi : X.N[i]? = some x) (hx : Loc X.env.scope x) (r : RelV v u)
    (h : ∀ s', Inv X pins (σ.set i (some v)) H s' → Q () s') (hf : X.fn x = true ∨ X.env.scope.names.lookup x = some .local := by first | exact .inl rfl | exact .inr rfl | assumption) : wpAny M A (storeName X.env x u) Q E s :=
  store_ok2 I hN hi hx r (fun s' I' _ => h s' I') hf
/-- behind a call or a block, the state as it is -/
theorem Inv.call' {s' : Shared} {ch : List Addr} (I : Inv X pins σ H s) (ho : s'.os = s.os) (u : Un (frs X.stack) ch H H' s.heap s'.heap) (hok : HOk X.prog X.w H' s'.heap) (hg : AllBare s'.gens)
    (hch : ∀ b ∈ ch, (b ∈ X.ex ∨ X.s₀.heap.objs.size ≤ b) ∧ b ≠ X.env.locals ∧ (∀ x c, X.env.cells.lookup x = some c → c ≠ b) ∧ ∀ p ∈ X.pn ++ pins, p.1 ≠ b) : Inv X pins σ H' s' := by
  obtain ⟨h', g', d', t', o'⟩ := s'
  have e : o' = s.os := ho
  subst e
  exact I.call (g' := g') (t' := t') (d' := d') u hok hg hch
end

/-! ### the judgements -/
/-- an exception: its class, its own dict's address (where it has one), the abstract heap behind it -/
abbrev XK := Value → Option Addr → Hp → Prop
abbrev St := List (Option V)
abbrev VK := V → Hp → Prop
/-- an expression's reading; a test's; an argument list's -/
abbrev TE := St → Hp → VK → Prop
abbrev TT := St → Hp → (Bool → Hp → Prop) → Prop
abbrev TA := St → Hp → (List V → Hp → Prop) → Prop
/-- what is wanted behind a statement -/
structure Ends where
  nx : St → Hp → Prop
  rt : VK
  bk : St → Hp → Prop := fun _ _ => False
  ct : St → Hp → Prop := fun _ _ => False
abbrev TS := Ends → St → Hp → Prop

def EP (X : Cx) (pins : List (Addr × Obj)) (σ : St) (Q : VK) (u : Value) (s' : Shared) : Prop := ∃ v H', Inv X pins σ H' s' ∧ RelV v u ∧ Q v H'
def TP (X : Cx) (pins : List (Addr × Obj)) (σ : St) (Q : Bool → Hp → Prop) (b : Bool) (s' : Shared) : Prop := ∃ H', Inv X pins σ H' s' ∧ Q b H'
def AP (X : Cx) (pins : List (Addr × Obj)) (σ : St) (Q : List V → Hp → Prop) (us : List Value) (s' : Shared) : Prop := ∃ vs H', Inv X pins σ H' s' ∧ Vals vs us ∧ Q vs H'
def SP (X : Cx) (pins : List (Addr × Obj)) (D : Ends) (f : Flow) (s' : Shared) : Prop :=
  match f with
  | .next => ∃ σ' H', Inv X pins σ' H' s' ∧ D.nx σ' H'
  | .brk => ∃ σ' H', Inv X pins σ' H' s' ∧ D.bk σ' H'
  | .cont => ∃ σ' H', Inv X pins σ' H' s' ∧ D.ct σ' H'
  | .ret u => ∃ v σ' H', Inv X pins σ' H' s' ∧ RelV v u ∧ D.rt v H'

def PE (X : Cx) (e : Expr) (t : TE) : Prop :=
  ∀ (pins : List (Addr × Obj)) (s : Shared) (σ : St) (H : Hp) (Q : VK), Inv X pins σ H s → t σ H Q → wpAny (model X.prog X.w) X.A (eval e X.env) (EP X pins σ Q) X.xe s
def PT (X : Cx) (e : Expr) (t : TT) : Prop :=
  ∀ (pins : List (Addr × Obj)) (s : Shared) (σ : St) (H : Hp) (Q : Bool → Hp → Prop), Inv X pins σ H s → t σ H Q → wpAny (model X.prog X.w) X.A (isTrue e X.env (eval e X.env)) (TP X pins σ Q) X.xe s
/-- a test whatever its 'whole' is (and, or) -/
def PW (X : Cx) (e : Expr) (t : TT) : Prop :=
  ∀ (whole : Sem Value) (pins : List (Addr × Obj)) (s : Shared) (σ : St) (H : Hp) (Q : Bool → Hp → Prop), Inv X pins σ H s → t σ H Q → wpAny (model X.prog X.w) X.A (isTrue e X.env whole) (TP X pins σ Q) X.xe s
theorem PW.pt {X : Cx} {e : Expr} {t : TT} (h : PW X e t) : PT X e t := h _
/-- an argument list (no star), from the left -/
def PA (X : Cx) (es : List Expr) (t : TA) : Prop :=
  ∀ (pos : Pos) (pins : List (Addr × Obj)) (s : Shared) (σ : St) (H : Hp) (Q : List V → Hp → Prop), Inv X pins σ H s → t σ H Q → wpAny (model X.prog X.w) X.A (spliced (backTo pos (starEach es X.env))) (AP X pins σ Q) X.xe s
def PS (X : Cx) (st : Stmt) (t : TS) : Prop :=
  ∀ (pins : List (Addr × Obj)) (s : Shared) (σ : St) (H : Hp) (D : Ends), Inv X pins σ H s → t D σ H → wpAny (model X.prog X.w) X.A (exec st X.env) (SP X pins D) X.xe s
def PSs (X : Cx) (st : List Stmt) (t : TS) : Prop :=
  ∀ (pins : List (Addr × Obj)) (s : Shared) (σ : St) (H : Hp) (D : Ends), Inv X pins σ H s → t D σ H → wpAny (model X.prog X.w) X.A (execs st X.env) (SP X pins D) X.xe s
/-- weaken the end -/
theorem thn {α : Type} {t : Sem α} {Q Q' : α → Shared → Prop} {M : Model} {A : Around} {E : Value → Shared → Prop} {s : Shared} (h : wpAny M A t Q E s) (hQ : ∀ a s, Q a s → Q' a s) : wpAny M A t Q' E s := wpAny_mono h hQ fun _ _ x => x
end L2

namespace L2
open PySem PySem.Spec PyProof.Rows
section
variable {X : Cx}

/-- two expressions in a row -/
theorem bin {a b : Expr} {ta tb : TE} (ha : PE X a ta) (hb : PE X b tb) {pins : List (Addr × Obj)} {s : Shared} {σ : St} {H : Hp} {R : V → V → Hp → Prop} (I : Inv X pins σ H s) (h : ta σ H fun x H1 => tb σ H1 fun y H2 => R x y H2)
    {α : Type} {Q : α → Shared → Prop} {f : Value → Value → Sem α}
    (hf : ∀ v u s2 x y H2, Inv X pins σ H2 s2 → RelV x v → RelV y u → R x y H2 → wpAny (model X.prog X.w) X.A (f v u) Q X.xe s2) :
    wpAny (model X.prog X.w) X.A (eval a X.env) (fun v s₁ => wpAny (model X.prog X.w) X.A (eval b X.env) (fun u s₂ => wpAny (model X.prog X.w) X.A (f v u) Q X.xe s₂) X.xe s₁) X.xe s := by
  refine thn (ha pins s σ H _ I h) fun v s1 ⟨x, H1, I1, r1, q1⟩ => ?_
  refine thn (hb pins s1 σ H1 _ I1 q1) fun u s2 ⟨y, H2, I2, r2, q2⟩ => ?_
  exact hf v u s2 x y H2 I2 r1 r2 q2

/-! ### names and constants -/
def tVar (i : Nat) : TE := fun σ H Q => ∃ v, σ[i]? = some (some v) ∧ Q v H
def tC (v : V) : TE := fun _ H Q => Q v H
theorem pe_var {i : Nat} {x : Str} {pos : Pos} (hN : X.N[i]? = some x) (hv : Vis X.env.scope x) (hd : (x == ("__debug__" : Str)) = false := by decide) (hcd : (x == ("__classdict__" : Str)) = false := by decide) : PE X (.Name x pos) (tVar i) := by
  intro pins s σ H Q I h
  obtain ⟨v, e, h⟩ := h
  obtain ⟨m, hn, hl⟩ := I.loc
  obtain ⟨u, r, l⟩ := hl i x v hN e hv
  have fin : EP X pins σ Q u s := ⟨v, H, I, r, h⟩
  rcases l with ⟨hk, hm⟩ | ⟨hk, c, hc, hcell⟩
  · exact wpAny_Name (wpAny_loadName_local I.ok.kind hk hn hm fin) hd
  · rcases hk with hk | hk
    · exact wpAny_Name (wpAny_loadName_cell I.ok.kind hk hc hcell fin) hd
    · exact wpAny_Name (wpAny_loadName_free I.ok.kind hk hc hcell fin hcd) hd
theorem pe_int {i j pos} : PE X (.Constant (.int i) j pos) (tC (.int i)) := fun _ _ _ H _ I h => wpAny_Constant_int ⟨.int i, H, I.tok _, ⟨_, rfl⟩, h⟩
theorem pe_bl {b j pos} : PE X (.Constant (.bool b) j pos) (tC (.bl b)) := fun _ _ _ H _ I h => Constant_bool ⟨.bl b, H, I, rfl, h⟩
theorem pe_non {j pos} : PE X (.Constant .none j pos) (tC .non) := fun _ _ _ H _ I h => Constant_none ⟨.non, H, I, rfl, h⟩
theorem pe_str {x j pos} : PE X (.Constant (.str x) j pos) (tC (.str x)) := fun _ _ _ H _ I h => Calls.Constant_str ⟨.str x, H, I.tok _, ⟨_, rfl⟩, h⟩

/-- a global name of the def -/
def Gl (X : Cx) (x : Str) : Prop := X.env.kindOf x = some .globalImplicit
theorem ld_glob {E : Value → Shared → Prop} {pins : List (Addr × Obj)} {s : Shared} {σ : St} {H : Hp} {x : Str} {u : Value} {pos : Pos} {Q : Value → Shared → Prop} (I : Inv X pins σ H s) (hg : Gl X x) (hm : X.mg x = some u) (h : Q u s)
    (hd : (x == ("__debug__" : Str)) = false := by decide) : wpAny (model X.prog X.w) X.A (eval (.Name x pos) X.env) Q E s :=
  Calls.Name_function_global I.ok.kind hg (Calls.loadGlobal_global (by rw [I.ok.glob]; exact I.mod.glob.keeps I.bk) hm h) hd
theorem ld_blt {E : Value → Shared → Prop} {pins : List (Addr × Obj)} {s : Shared} {σ : St} {H : Hp} {x : Str} {u : Value} {pos : Pos} {Q : Value → Shared → Prop} (I : Inv X pins σ H s) (hg : Gl X x) (hm : X.mg x = none) (hv : bootBuiltins x = some u) (h : Q u s)
    (hn : x ≠ "__name__" := by decide) (hd : (x == ("__debug__" : Str)) = false := by decide) : wpAny (model X.prog X.w) X.A (eval (.Name x pos) X.env) Q E s := by
  obtain ⟨mb, h1, h2⟩ := I.mod.blt
  exact Calls.Name_function_global I.ok.kind hg (Calls.loadGlobal_builtin (by rw [I.ok.glob]; exact I.mod.glob.keeps I.bk) hm (by rw [I.ok.blt]; exact h1.keeps I.bk) ((h2 x hn).trans hv) h) hd
/-- a module's constant, a class, a function, as a value -/
theorem pe_glob {x : Str} {v : V} {u : Value} {pos : Pos} (hg : Gl X x) (hm : X.mg x = some u) (r : RelV v u) (hd : (x == ("__debug__" : Str)) = false := by decide) : PE X (.Name x pos) (tC v) :=
  fun _ _ _ H _ I h => ld_glob I hg hm ⟨v, H, I, r, h⟩ hd
theorem pe_bltn {x : Str} {v : V} {u : Value} {pos : Pos} (hg : Gl X x) (hm : X.mg x = none) (hv : bootBuiltins x = some u) (r : RelV v u) (hn : x ≠ "__name__" := by decide) (hd : (x == ("__debug__" : Str)) = false := by decide) : PE X (.Name x pos) (tC v) :=
  fun _ _ _ H _ I h => ld_blt I hg hm hv ⟨v, H, I, r, h⟩ hn hd

/-! ### arithmetic -/
/-- two ints -/
def t2I (ta tb : TE) (k : Int → Int → Hp → Prop) : St → Hp → Prop := fun σ H => ta σ H fun x H1 => tb σ H1 fun y H2 => ∃ i j, x = .int i ∧ y = .int j ∧ k i j H2
def tAdd (ta tb : TE) : TE := fun σ H Q => t2I ta tb (fun i j H2 => Q (.int (i + j)) H2) σ H
def tSub (ta tb : TE) : TE := fun σ H Q => t2I ta tb (fun i j H2 => Q (.int (i - j)) H2) σ H
/-- the left factor below 2^64 -/
def tMul (ta tb : TE) : TE := fun σ H Q => t2I ta tb (fun i j H2 => (-(2 ^ 64) < i ∧ i < 2 ^ 64) ∧ Q (.int (i * j)) H2) σ H
variable {a b : Expr} {ta tb : TE} {pos : Pos}
theorem pe_add (ha : PE X a ta) (hb : PE X b tb) : PE X (.BinOp a .Add b pos) (tAdd ta tb) := by
  intro pins s σ H Q I h
  refine wpAny_BinOp (bin ha hb I h fun v u s2 x y H2 I2 rx ry q => ?_)
  obtain ⟨i, j, rfl, rfl, q⟩ := q
  obtain ⟨t, rfl⟩ := rx
  obtain ⟨t', rfl⟩ := ry
  exact add_int ⟨.int _, H2, I2.tok _, ⟨_, rfl⟩, q⟩
theorem pe_sub (ha : PE X a ta) (hb : PE X b tb) : PE X (.BinOp a .Sub b pos) (tSub ta tb) := by
  intro pins s σ H Q I h
  refine wpAny_BinOp (bin ha hb I h fun v u s2 x y H2 I2 rx ry q => ?_)
  obtain ⟨i, j, rfl, rfl, q⟩ := q
  obtain ⟨t, rfl⟩ := rx
  obtain ⟨t', rfl⟩ := ry
  exact sub_int ⟨.int _, H2, I2.tok _, ⟨_, rfl⟩, q⟩
theorem pe_mul (ha : PE X a ta) (hb : PE X b tb) : PE X (.BinOp a .Mult b pos) (tMul ta tb) := by
  intro pins s σ H Q I h
  refine wpAny_BinOp (bin ha hb I h fun v u s2 x y H2 I2 rx ry q => ?_)
  obtain ⟨i, j, rfl, rfl, ⟨q1, q2⟩, q⟩ := q
  obtain ⟨t, rfl⟩ := rx
  obtain ⟨t', rfl⟩ := ry
  exact mul_int ⟨.int _, H2, I2.tok _, ⟨_, rfl⟩, q⟩ (.of_left (intBits_le_64 q1 q2))

/-! ### comparisons -/
def PC (X : Cx) (op : CmpOp) (a b : Expr) (t : TE) : Prop :=
  ∀ (pins : List (Addr × Obj)) (s : Shared) (σ : St) (H : Hp) (Q : VK), Inv X pins σ H s → t σ H Q →
    wpAny (model X.prog X.w) X.A (eval a X.env) (fun v s₁ => wpAny (model X.prog X.w) X.A (eval b X.env) (fun u s₂ => wpAny (model X.prog X.w) X.A (compareOp op v u) (EP X pins σ Q) X.xe s₂) X.xe s₁) X.xe s
theorem nobehind (b : Expr) {op : CmpOp} (h : op ≠ .In) (h2 : op ≠ .NotIn) : behindInMarks op b = false := by
  have e1 : (op == CmpOp.In) = false := by cases op <;> first | rfl | exact absurd rfl h
  have e2 : (op == CmpOp.NotIn) = false := by cases op <;> first | rfl | exact absurd rfl h2
  cases b <;> simp [behindInMarks, e1, e2]
def tCmp (p : Int → Int → Bool) (ta tb : TE) : TE := fun σ H Q => t2I ta tb (fun i j H2 => Q (.bl (p i j)) H2) σ H
abbrev tLt : TE → TE → TE := tCmp fun i j => decide (i < j)
abbrev tLe : TE → TE → TE := tCmp fun i j => decide (i ≤ j)
abbrev tGt : TE → TE → TE := tCmp fun i j => decide (j < i)
abbrev tGe : TE → TE → TE := tCmp fun i j => decide (j ≤ i)
abbrev tEqI : TE → TE → TE := tCmp fun i j => decide (i = j)
abbrev tNeI : TE → TE → TE := tCmp fun i j => !decide (i = j)
/-- a comparison of two ints, by its rule -/
theorem pc_int {op : CmpOp} {p : Int → Int → Bool} (ha : PE X a ta) (hb : PE X b tb)
    (rule : ∀ (i j : Int) (t u : Tok) (Q : Value → Shared → Prop) (s : Shared), Q (.bool (p i j)) s → wpAny (model X.prog X.w) X.A (compareOp op (.int i t) (.int j u)) Q X.xe s) : PC X op a b (tCmp p ta tb) := by
  intro pins s σ H Q I h
  refine bin ha hb I h fun v u s2 x y H2 I2 rx ry q => ?_
  obtain ⟨i, j, rfl, rfl, q⟩ := q
  obtain ⟨t, rfl⟩ := rx
  obtain ⟨t', rfl⟩ := ry
  exact rule i j t t' _ s2 ⟨.bl _, H2, I2, rfl, q⟩
theorem pc_lt (ha : PE X a ta) (hb : PE X b tb) : PC X .Lt a b (tLt ta tb) := pc_int ha hb fun _ _ _ _ _ _ h => lt_int h
theorem pc_le (ha : PE X a ta) (hb : PE X b tb) : PC X .LtE a b (tLe ta tb) := pc_int ha hb fun _ _ _ _ _ _ h => le_int h
theorem pc_gt (ha : PE X a ta) (hb : PE X b tb) : PC X .Gt a b (tGt ta tb) := pc_int ha hb fun _ _ _ _ _ _ h => gt_int h
theorem pc_ge (ha : PE X a ta) (hb : PE X b tb) : PC X .GtE a b (tGe ta tb) := pc_int ha hb fun _ _ _ _ _ _ h => ge_int h
theorem pc_eqI (ha : PE X a ta) (hb : PE X b tb) : PC X .Eq a b (tEqI ta tb) := pc_int ha hb fun _ _ _ _ _ _ h => eq_int (by rw [Bool.beq_eq_decide_eq]; exact h)
theorem pc_neI (ha : PE X a ta) (hb : PE X b tb) : PC X .NotEq a b (tNeI ta tb) := pc_int ha hb fun _ _ _ _ _ _ h => ne_int (by rw [bne, Bool.beq_eq_decide_eq]; exact h)
/-- is None -/
def tIsN (ta : TE) : TE := fun σ H Q => ta σ H fun x H1 => Q (.bl (decide (x = .non))) H1
def tNotN (ta : TE) : TE := fun σ H Q => ta σ H fun x H1 => Q (.bl (!decide (x = .non))) H1
theorem RelV.none_iff {x : V} {v : Value} (r : RelV x v) : (v == Value.none) = decide (x = .non) := by
  cases x with
  | non => cases r; rfl
  | bl _ => cases r; rfl
  | int _ => obtain ⟨t, rfl⟩ := r; rfl
  | str _ => obtain ⟨t, rfl⟩ := r; rfl
  | byt _ => obtain ⟨t, rfl⟩ := r; rfl
  | flt _ => obtain ⟨t, rfl⟩ := r; rfl
  | ref _ => cases r; rfl
  | ty _ => cases r; rfl
theorem pc_isN {j pos'} (ha : PE X a ta) : PC X .Is a (.Constant .none j pos') (tIsN ta) := by
  intro pins s σ H Q I h
  refine thn (ha pins s σ H _ I h) fun v s1 ⟨x, H1, I1, r1, q1⟩ => ?_
  exact Constant_none (is_none_gen ⟨.bl _, H1, I1, by rw [r1.none_iff]; rfl, q1⟩)
theorem pc_notN {j pos'} (ha : PE X a ta) : PC X .IsNot a (.Constant .none j pos') (tNotN ta) := by
  intro pins s σ H Q I h
  refine thn (ha pins s σ H _ I h) fun v s1 ⟨x, H1, I1, r1, q1⟩ => ?_
  exact Constant_none (isnot_none_gen ⟨.bl _, H1, I1, by rw [r1.none_iff]; rfl, q1⟩)
/-- a comparison as a value, as a test -/
def tB (t : TE) : TT := fun σ H Q => t σ H fun x H1 => ∃ c, x = .bl c ∧ Q c H1
theorem pe_cmp {op : CmpOp} {t : TE} (h : PC X op a b t) (h1 : behindInMarks op b = false := by first | exact nobehind _ (by decide) (by decide) | rfl) : PE X (.Compare a [op] [b] pos) t := fun pins s σ H Q I hw => wpAny_Compare1 (h pins s σ H Q I hw) h1
theorem pt_cmp {op : CmpOp} {t : TE} (h : PC X op a b t) (h1 : behindInMarks op b = false := by first | exact nobehind _ (by decide) (by decide) | rfl) : PT X (.Compare a [op] [b] pos) (tB t) := by
  intro pins s σ H Q I hw
  refine wpAny_isTrue_Compare1 (thn (h pins s σ H _ I hw) fun v s1 h1 => thn h1 fun u s2 h2 => thn h2 fun c s3 ⟨x, H1, I1, r1, q1⟩ => ?_) h1
  obtain ⟨d, rfl, q⟩ := q1
  cases r1
  exact wpAny_truthy_bool ⟨H1, I1, q⟩
/-- an expression whose value is a bool, as a test -/
theorem pt_val {e : Expr} {t : TE} (h : PE X e t) (he : ∀ whole, isTrue e X.env whole = (do let v ← whole; standAt e.pos; holding [v] (truthy v)) := by intro _; rfl) : PT X e (tB t) := by
  intro pins s σ H Q I hw
  refine isTrue_plain (thn (h pins s σ H _ I hw) fun v s1 ⟨x, H1, I1, r1, q1⟩ => ?_) (he _)
  obtain ⟨d, rfl, q⟩ := q1
  cases r1
  exact wpAny_truthy_bool ⟨H1, I1, q⟩

/-! ### and, or, not -/
variable {tA tB' : TT} {rest : List Expr}
def tAnd (t u : TT) : TT := fun σ H Q => t σ H fun c H1 => if c = true then u σ H1 Q else Q false H1
def tOr (t u : TT) : TT := fun σ H Q => t σ H fun c H1 => if c = true then Q true H1 else u σ H1 Q
def tNot (t : TT) : TT := fun σ H Q => t σ H fun c H1 => Q (!c) H1
theorem pw_and1 (ha : PT X a tA) : PW X (.BoolOp .And [a] pos) tA := by
  intro wh pins s σ H Q I h
  refine isTrue_and (thn (ha pins s σ H Q I h) fun c s1 e => ?_)
  cases c with
  | true => exact isTrue_and_nil e
  | false => exact e
theorem pw_or1 (ha : PT X a tA) : PW X (.BoolOp .Or [a] pos) tA := by
  intro wh pins s σ H Q I h
  refine isTrue_or (thn (ha pins s σ H Q I h) fun c s1 e => ?_)
  cases c with
  | false => exact isTrue_or_nil e
  | true => exact e
theorem pw_and (ha : PT X a tA) (hb : PW X (.BoolOp .And (b :: rest) pos) tB') : PW X (.BoolOp .And (a :: b :: rest) pos) (tAnd tA tB') := by
  intro wh pins s σ H Q I h
  refine isTrue_and (thn (ha pins s σ H _ I h) fun c s1 ⟨H1, I1, q1⟩ => ?_)
  cases c with
  | true => exact hb wh pins s1 σ H1 Q I1 q1
  | false => exact ⟨H1, I1, q1⟩
theorem pw_or (ha : PT X a tA) (hb : PW X (.BoolOp .Or (b :: rest) pos) tB') : PW X (.BoolOp .Or (a :: b :: rest) pos) (tOr tA tB') := by
  intro wh pins s σ H Q I h
  refine isTrue_or (thn (ha pins s σ H _ I h) fun c s1 ⟨H1, I1, q1⟩ => ?_)
  cases c with
  | true => exact ⟨H1, I1, q1⟩
  | false => exact hb wh pins s1 σ H1 Q I1 q1
theorem pt_not (ha : PT X a tA) : PT X (.UnaryOp .Not a pos) (tNot tA) := by
  intro pins s σ H Q I h
  exact isTrue_not (ha pins s σ H (fun c H1 => Q (!c) H1) I h)
/-- .. as values (bools) -/
def tAndV (ta tb : TE) : TE := fun σ H Q => ta σ H fun x H1 => ∃ c, x = .bl c ∧ if c = true then tb σ H1 Q else Q (.bl false) H1
def tOrV (ta tb : TE) : TE := fun σ H Q => ta σ H fun x H1 => ∃ c, x = .bl c ∧ if c = true then Q (.bl true) H1 else tb σ H1 Q
def tNotV (ta : TE) : TE := fun σ H Q => ta σ H fun x H1 => ∃ c, x = .bl c ∧ Q (.bl (!c)) H1
theorem pe_one {op} {t : TE} (h : PE X a t) : PE X (.BoolOp op [a] pos) t := fun pins s σ H Q I hw => BoolOp_one (h pins s σ H Q I hw)
theorem pe_and (ha : PE X a ta) (hb : PE X (.BoolOp .And (b :: rest) pos) tb) : PE X (.BoolOp .And (a :: b :: rest) pos) (tAndV ta tb) := by
  intro pins s σ H Q I h
  refine BoolOp_and (thn (ha pins s σ H _ I h) fun v s1 ⟨x, H1, I1, r1, q1⟩ => ?_)
  obtain ⟨c, rfl, q1⟩ := q1
  cases r1
  refine wpAny_truthy_bool ?_
  cases c with
  | true => exact hb pins s1 σ H1 Q I1 q1
  | false => exact ⟨.bl false, H1, I1, rfl, q1⟩
theorem pe_or (ha : PE X a ta) (hb : PE X (.BoolOp .Or (b :: rest) pos) tb) : PE X (.BoolOp .Or (a :: b :: rest) pos) (tOrV ta tb) := by
  intro pins s σ H Q I h
  refine BoolOp_or (thn (ha pins s σ H _ I h) fun v s1 ⟨x, H1, I1, r1, q1⟩ => ?_)
  obtain ⟨c, rfl, q1⟩ := q1
  cases r1
  refine wpAny_truthy_bool ?_
  cases c with
  | false => exact hb pins s1 σ H1 Q I1 q1
  | true => exact ⟨.bl true, H1, I1, rfl, q1⟩
theorem pe_not (ha : PE X a ta) : PE X (.UnaryOp .Not a pos) (tNotV ta) := by
  intro pins s σ H Q I h
  refine UnaryOp_ (thn (ha pins s σ H _ I h) fun v s1 ⟨x, H1, I1, r1, q1⟩ => ?_)
  obtain ⟨c, rfl, q1⟩ := q1
  cases r1
  exact not_of (wpAny_truthy_bool ⟨.bl (!c), H1, I1, rfl, q1⟩)
/-- a if t else b -/
def tIf (t : TT) (ta tb : TE) : TE := fun σ H Q => t σ H fun c H1 => if c = true then ta σ H1 Q else tb σ H1 Q
theorem pe_ifExp {c : Expr} (hc : PT X c tA) (ha : PE X a ta) (hb : PE X b tb) : PE X (.IfExp c a b pos) (tIf tA ta tb) := by
  intro pins s σ H Q I h
  refine wpAny_IfExp (thn (hc pins s σ H _ I h) fun d s1 ⟨H1, I1, q1⟩ => ?_)
  cases d with
  | true => exact ha pins s1 σ H1 Q I1 q1
  | false => exact hb pins s1 σ H1 Q I1 q1
end
end L2

namespace L2
open PySem PySem.Spec PyProof.Rows

/-! ### a list, a tuple that is read: tracked, frozen, or an object of the module -/
def SqL (K : PySem.W.Frag) (H : Hp) (a : Addr) (xs : List V) : Prop :=
  Rd H a (.lst xs) ∨
    ∃ (o : Obj) (its : Array Value) (n : Nat), K.lookup a = some o ∧ o.cls = .type "list" ∧ o.dict = none ∧ o.data = .seq its n ∧ its.size ≤ sizeLine ∧ Vals xs its.toList
def SqT (K : PySem.W.Frag) (H : Hp) (a : Addr) (xs : List V) : Prop :=
  Rd H a (.tup xs) ∨
    ∃ (o : Obj) (its : Array Value) (n : Nat), K.lookup a = some o ∧ o.cls = .type "tuple" ∧ o.data = .seq its n ∧ its.size ≤ sizeLine ∧ Vals xs its.toList
def absV : Value → Option V
  | .none => some .non
  | .bool b => some (.bl b)
  | .int i _ => some (.int i)
  | .str x _ => some (.str x)
  | .bytes b _ => some (.byt b)
  | .float b _ => some (.flt b)
  | .ref a => some (.ref a)
  | .type n => some (.ty n)
  | _ => none
theorem RelV.abs {x : V} {u : Value} (r : RelV x u) : absV u = some x := by
  cases x with
  | non => cases r; rfl
  | bl _ => cases r; rfl
  | int _ => obtain ⟨t, rfl⟩ := r; rfl
  | str _ => obtain ⟨t, rfl⟩ := r; rfl
  | byt _ => obtain ⟨t, rfl⟩ := r; rfl
  | flt _ => obtain ⟨t, rfl⟩ := r; rfl
  | ref _ => cases r; rfl
  | ty _ => cases r; rfl
theorem RelV.inj {x y : V} {u : Value} (r : RelV x u) (q : RelV y u) : x = y := Option.some.inj (r.abs.symm.trans q.abs)
theorem Vals.inj : ∀ {xs ys : List V} {us : List Value}, Vals xs us → Vals ys us → xs = ys
  | _, _, _, .nil, .nil => rfl
  | _, _, _, .cons r t, .cons r' t' => by rw [r.inj r', Vals.inj t t']
section
variable {X : Cx} {pins : List (Addr × Obj)} {σ : St} {H : Hp} {s : Shared} {a : Addr} {xs ys : List V}
theorem SqL.of {K : PySem.W.Frag} (h : H a = some (.lst xs)) : SqL K H a xs := .inl (.inl h)
theorem SqT.of {K : PySem.W.Frag} (h : H a = some (.tup xs)) : SqT K H a xs := .inl (.inl h)
theorem Inv.list (I : Inv X pins σ H s) (h : SqL X.K H a xs) : ∃ its : List Value, Vals xs its ∧ PlainL s.heap a its.toArray ∧ xs.length ≤ sizeLine := by
  rcases h with h | ⟨o, its, n, hk, hc, hd, hs, hz, r⟩
  · obtain ⟨z, its, n, r, e⟩ := h.ok I.hok
    exact ⟨its, r, ⟨_, n, e, rfl, rfl, rfl⟩, z⟩
  · refine ⟨its.toList, r, ⟨o, n, I.kIn a o hk, hc, hd, by simpa using hs⟩, ?_⟩
    have e := r.length
    simp only [Array.length_toList] at e
    omega
theorem Inv.tuple (I : Inv X pins σ H s) (h : SqT X.K H a xs) : ∃ its : List Value, Vals xs its ∧ IsTup s.heap a its.toArray ∧ xs.length ≤ sizeLine := by
  rcases h with h | ⟨o, its, n, hk, hc, hs, hz, r⟩
  · obtain ⟨z, its, r, p⟩ := h.ok I.hok
    exact ⟨its, r, p, z⟩
  · refine ⟨its.toList, r, ⟨o, I.kIn a o hk, hc, n, by simpa using hs⟩, ?_⟩
    have e := r.length
    simp only [Array.length_toList] at e
    omega
theorem Inv.list_inj (I : Inv X pins σ H s) (h : SqL X.K H a xs) (h' : SqL X.K H a ys) : xs = ys := by
  obtain ⟨its, r, ⟨o, n, e, _, _, d⟩, _⟩ := I.list h
  obtain ⟨its', r', ⟨o', n', e', _, _, d'⟩, _⟩ := I.list h'
  rw [e] at e'; cases e'
  rw [d] at d'
  injection d' with d1 _
  have : its = its' := by simpa using congrArg Array.toList d1
  subst this
  exact r.inj r'
theorem Inv.tuple_inj (I : Inv X pins σ H s) (h : SqT X.K H a xs) (h' : SqT X.K H a ys) : xs = ys := by
  obtain ⟨its, r, ⟨o, e, _, n, d⟩, _⟩ := I.tuple h
  obtain ⟨its', r', ⟨o', e', _, n', d'⟩, _⟩ := I.tuple h'
  rw [e] at e'; cases e'
  rw [d] at d'
  injection d' with d1 _
  have : its = its' := by simpa using congrArg Array.toList d1
  subst this
  exact r.inj r'
end

/-! ### another wish about exceptions -/
abbrev Cx.wish (X : Cx) (E : Value → Shared → Prop) : Cx := { X with xe := E }
/-- no exception leaves -/
abbrev Cx.nox (X : Cx) : Cx := X.wish fun _ _ => False
theorem Cx.Ok.wish {X : Cx} (ok : X.Ok) (E : Value → Shared → Prop) : (X.wish E).Ok :=
  ⟨ok.mod, ok.kind, ok.glob, ok.blt, ok.above, ok.inj, ok.has, ok.cab, ok.hd, ok.frames, ok.stk, ok.exf, ok.bs, ok.bsz, ok.noex, ok.exfs, ok.funs, ok.frf⟩
theorem Cx.Ok.unwish {X : Cx} {E : Value → Shared → Prop} (ok : (X.wish E).Ok) : X.Ok :=
  ⟨ok.mod, ok.kind, ok.glob, ok.blt, ok.above, ok.inj, ok.has, ok.cab, ok.hd, ok.frames, ok.stk, ok.exf, ok.bs, ok.bsz, ok.noex, ok.exfs, ok.funs, ok.frf⟩
section
variable {X : Cx} {pins : List (Addr × Obj)} {σ : St} {H : Hp} {s : Shared} {E : Value → Shared → Prop}
theorem Inv.wish (I : Inv X pins σ H s) (E : Value → Shared → Prop) : Inv (X.wish E) pins σ H s := ⟨I.ok.wish E, I.os, I.bare, I.base, I.loc, I.cell, I.free, I.freeC, I.pin, I.hok, I.len⟩
theorem Inv.unwish (I : Inv (X.wish E) pins σ H s) : Inv X pins σ H s := ⟨I.ok.unwish, I.os, I.bare, I.base, I.loc, I.cell, I.free, I.freeC, I.pin, I.hok, I.len⟩
theorem SP.unwish {D : Ends} {f : Flow} {s' : Shared} (h : SP (X.wish E) pins D f s') : SP X pins D f s' := by
  cases f with
  | next => obtain ⟨σ', H', I, q⟩ := h; exact ⟨σ', H', I.unwish, q⟩
  | brk => obtain ⟨σ', H', I, q⟩ := h; exact ⟨σ', H', I.unwish, q⟩
  | cont => obtain ⟨σ', H', I, q⟩ := h; exact ⟨σ', H', I.unwish, q⟩
  | ret u => obtain ⟨v, σ', H', I, r, q⟩ := h; exact ⟨v, σ', H', I.unwish, r, q⟩
theorem PE.nox {e : Expr} {t : TE} (h : PE X.nox e t) : PE X e t := fun pins s σ H Q I hw =>
  wpAny_mono (h pins s σ H Q (I.wish _) hw) (fun _ _ ⟨v, H', I', r, q⟩ => ⟨v, H', I'.unwish, r, q⟩) fun _ _ z => False.elim z
theorem PT.nox {e : Expr} {t : TT} (h : PT X.nox e t) : PT X e t := fun pins s σ H Q I hw =>
  wpAny_mono (h pins s σ H Q (I.wish _) hw) (fun _ _ ⟨H', I', q⟩ => ⟨H', I'.unwish, q⟩) fun _ _ z => False.elim z
theorem PSs.nox {st : List Stmt} {t : TS} (h : PSs X.nox st t) : PSs X st t := fun pins s σ H D I hw =>
  wpAny_mono (h pins s σ H D (I.wish _) hw) (fun _ _ q => q.unwish) fun _ _ z => False.elim z
end

/-! ### blocks and small statements -/
section
variable {X : Cx} {st : Stmt} {rest : List Stmt} {t u : TS} {e : Expr} {te : TE} {pos : Pos}
def tNext : TS := fun D σ H => D.nx σ H
def tSeq (t u : TS) : TS := fun D σ H => t { D with nx := u D } σ H
theorem pss_nil : PSs X [] tNext := fun _ _ σ H _ I h => wpAny_execs_nil ⟨σ, H, I, h⟩
theorem pss_cons (h1 : PS X st t) (h2 : PSs X rest u) : PSs X (st :: rest) (tSeq t u) := by
  intro pins s σ H D I h
  refine wpAny_execs_cons (thn (h1 pins s σ H { D with nx := u D } I h) fun f s1 q => ?_)
  cases f with
  | next =>
    obtain ⟨σ', H', I', q⟩ := q
    exact h2 pins s1 σ' H' D I' q
  | ret v => exact q
  | brk => exact q
  | cont => exact q
theorem pss_one (h1 : PS X st t) : PSs X [st] t := by
  intro pins s σ H D I h
  refine wpAny_execs_cons (thn (h1 pins s σ H D I h) fun f s1 q => ?_)
  cases f with
  | next => exact wpAny_execs_nil q
  | ret v => exact q
  | brk => exact q
  | cont => exact q
def tBreak : TS := fun D σ H => D.bk σ H
def tCont : TS := fun D σ H => D.ct σ H
theorem ps_pass : PS X (.Pass pos) tNext := fun _ _ σ H _ I h => wpAny_Pass ⟨σ, H, I, h⟩
theorem ps_break : PS X (.Break pos) tBreak := fun _ _ σ H _ I h => wpAny_Break ⟨σ, H, I, h⟩
theorem ps_continue : PS X (.Continue pos) tCont := fun _ _ σ H _ I h => wpAny_Continue ⟨σ, H, I, h⟩
/-- in a def's body nothing is shown -/
theorem Inv.quiet {pins : List (Addr × Obj)} {σ : St} {H : Hp} {s : Shared} (I : Inv X pins σ H s) : interactive X.env = false := by simp [interactive, I.ok.kind]
/-- a docstring -/
theorem ps_doc {x j pos pos'} : PS X (.Expr (.Constant (.str x) j pos) pos') tNext := fun _ s σ H _ I h => wpAny_Expr (Calls.Constant_str (show SP X _ _ .next { s with toks := s.toks + 1 } from ⟨σ, H, I.tok _, h⟩)) I.quiet
/-- an expression whose value is dropped -/
def tDrop (te : TE) : TS := fun D σ H => te σ H fun _ H1 => D.nx σ H1
theorem ps_expr (he : PE X e te) (hs : swapsWith e none pos.line X.env = pure false := by rfl) : PS X (.Expr e pos) (tDrop te) := by
  intro pins s σ H D I h
  exact wpAny_Expr_any (thn (he pins s σ H _ I h) fun v s1 ⟨x, H1, I1, r1, q1⟩ => ⟨σ, H1, I1, q1⟩) I.quiet hs
def tRet (te : TE) : TS := fun D σ H => te σ H D.rt
theorem ps_ret (he : PE X e te) : PS X (.Return (some e) pos) (tRet te) := by
  intro pins s σ H D I h
  exact wpAny_Return_some (thn (he pins s σ H _ I h) fun v s1 ⟨x, H1, I1, r1, q1⟩ => ⟨x, σ, H1, I1, r1, q1⟩)
def tRetN : TS := fun D _ H => D.rt .non H
theorem ps_retN : PS X (.Return none pos) tRetN := fun _ _ σ H _ I h => wpAny_Return_none ⟨.non, σ, H, I, rfl, h⟩
def tIfS (c : TT) (t u : TS) : TS := fun D σ H => c σ H fun b H1 => if b = true then t D σ H1 else u D σ H1
theorem ps_if {c : Expr} {a b : List Stmt} {tc : TT} (hc : PT X c tc) (ha : PSs X a t) (hb : PSs X b u) : PS X (.If c a b pos) (tIfS tc t u) := by
  intro pins s σ H D I h
  refine wpAny_If (thn (hc pins s σ H _ I h) fun d s1 ⟨H1, I1, q1⟩ => ?_)
  cases d with
  | true => exact ha pins s1 σ H1 D I1 q1
  | false => exact hb pins s1 σ H1 D I1 q1
/-- code that the proof never comes to -/
def tNever : TS := fun _ _ _ => False
theorem ps_never : PS X st tNever := fun _ _ _ _ _ _ h => h.elim
theorem pss_never {sts : List Stmt} : PSs X sts tNever := fun _ _ _ _ _ _ h => h.elim
end

/-! ### targets -/
abbrev TG := V → St → Hp → (St → Hp → Prop) → Prop
abbrev TGs := List V → St → Hp → (St → Hp → Prop) → Prop
def PG (X : Cx) (target : Expr) (t : TG) : Prop :=
  ∀ (pins : List (Addr × Obj)) (s : Shared) (σ : St) (H : Hp) (v : V) (u : Value) (Q : St → Hp → Prop), Inv X pins σ H s → RelV v u → t v σ H Q →
    wpAny (model X.prog X.w) X.A (assign target X.env u) (fun _ s' => ∃ σ' H', Inv X pins σ' H' s' ∧ Q σ' H') X.xe s
/-- several targets, one after another -/
def PGs (X : Cx) (ts : List Expr) (t : TGs) : Prop :=
  ∀ (pins : List (Addr × Obj)) (s : Shared) (σ : St) (H : Hp) (vs : List V) (us : List Value) (Q : St → Hp → Prop), Inv X pins σ H s → Vals vs us → t vs σ H Q →
    wpAny (model X.prog X.w) X.A (assignInOrder ((assignEach ts X.env).map (·.2)) us) (fun _ s' => ∃ σ' H', Inv X pins σ' H' s' ∧ Q σ' H') X.xe s
/-- o[i] = v, by values -/
abbrev TSet := V → V → V → Hp → (Hp → Prop) → Prop
def PSet (X : Cx) (t : TSet) : Prop :=
  ∀ (pins : List (Addr × Obj)) (s : Shared) (σ : St) (H : Hp) (o i v : V) (ov iv u : Value) (Q : Hp → Prop), Inv X pins σ H s → RelV o ov → RelV i iv → RelV v u → t o i v H Q →
    wpAny (model X.prog X.w) X.A (setItem ov iv u) (fun _ s' => ∃ H', Inv X pins σ H' s' ∧ Q H') X.xe s
/-- a op= b, by values -/
abbrev TIp := V → V → Hp → VK → Prop
def PIp (X : Cx) (op : Operator) (t : TIp) : Prop :=
  ∀ (pins : List (Addr × Obj)) (s : Shared) (σ : St) (H : Hp) (x y : V) (v u : Value) (Q : VK), Inv X pins σ H s → RelV x v → RelV y u → t x y H Q →
    wpAny (model X.prog X.w) X.A (inplaceOp op v u) (EP X pins σ Q) X.xe s
section
variable {X : Cx} {pos : Pos}
def gName (i : Nat) : TG := fun v σ H Q => Q (σ.set i (some v)) H
theorem pg_name {i : Nat} {x : Str} (hN : X.N.Nodup) (hi : X.N[i]? = some x) (hx : Loc X.env.scope x) (hf : X.fn x = true ∨ X.env.scope.names.lookup x = some .local := by first | exact .inl rfl | exact .inr rfl | assumption) : PG X (.Name x pos) (gName i) := by
  intro pins s σ H v u Q I r h
  exact wpAny_assign_Name (store_ok I hN hi hx r (fun s' I' => ⟨_, H, I', h⟩) hf)
def gNil : TGs := fun vs σ H Q => vs = [] ∧ Q σ H
def gCons (t : TG) (u : TGs) : TGs := fun vs σ H Q => ∃ v r, vs = v :: r ∧ t v σ H fun σ' H' => u r σ' H' Q
theorem pgs_nil : PGs X [] gNil := by
  intro pins s σ H vs us Q I r h
  obtain ⟨e, h⟩ := h
  subst e
  cases r
  exact assignInOrder_nil ⟨σ, H, I, h⟩
theorem pgs_cons {e : Expr} {es : List Expr} {t : TG} {u : TGs} (h1 : PG X e t) (h2 : PGs X es u)
    (hs : (assignEach (e :: es) X.env).map (·.2) = assign e X.env :: (assignEach es X.env).map (·.2) := by rfl) : PGs X (e :: es) (gCons t u) := by
  intro pins s σ H vs us Q I r h
  obtain ⟨v, vr, e1, h⟩ := h
  subst e1
  cases r with
  | cons r rr =>
    rw [hs]
    refine assignInOrder_cons (thn (h1 pins s σ H _ _ _ I r h) fun _ s1 ⟨σ1, H1, I1, q1⟩ => ?_)
    exact h2 pins s1 σ1 H1 _ _ Q I1 rr q1
/-- (a, b, ..) = a tuple of that length -/
def gTup (K : PySem.W.Frag) (n : Nat) (t : TGs) : TG := fun v σ H Q => ∃ a xs, v = .ref a ∧ SqT K H a xs ∧ xs.length = n ∧ t xs σ H Q
theorem pg_tup {es : List Expr} {k : Nat} {t : TGs} {n : Nat} (hc : X.calm = true) (h : PGs X es t)
    (hn : (assignEach es X.env).length = n := by rfl) (hst : (assignEach es X.env).findIdx? (·.1) = none := by rfl) : PG X (.Tuple es k pos) (gTup X.K n t) := by
  intro pins s σ H v u Q I r hw
  obtain ⟨a, xs, e1, hq, hl, hw⟩ := hw
  subst e1
  cases r
  obtain ⟨its, rv, ht, hz⟩ := I.tuple hq
  refine assign_Tuple_tuple (I.ok.hd hc) ht (by simp [hn, ← hl, rv.length]) hst fun h' hx => ?_
  have I1 : Inv X pins σ H { s with heap := h' } := I.kept (t' := s.toks) fun b o e => hx b o (Nat.ne_of_lt (Heap.lt_size e)) e
  exact h pins _ σ H xs _ Q I1 (by simpa using rv) hw
/-- o[i] = .. -/
def gSub (to ti : TE) (t : TSet) : TG := fun v σ H Q => to σ H fun o H1 => ti σ H1 fun i H2 => t o i v H2 fun H3 => Q σ H3
theorem pg_sub {o i : Expr} {to ti : TE} {t : TSet} (ho : PE X o to) (hi : PE X i ti) (hs : PSet X t)
    (ha : ∀ v, assign (.Subscript o i pos) X.env v = (do
      let ov ← holding [v] (eval o X.env)
      let iv ← holding [v, ov] (eval i X.env)
      standAt pos
      holding [v, ov, iv] (setItem ov iv v)
      release [v, ov, iv] []) := by intro _; rfl) : PG X (.Subscript o i pos) (gSub to ti t) := by
  intro pins s σ H v u Q I r h
  rw [ha]
  refine wpAny_bind (wpAny_holding (thn (ho pins s σ H _ I h) fun ov s1 ⟨x, H1, I1, r1, q1⟩ => ?_))
  refine wpAny_bind (wpAny_holding (thn (hi pins s1 σ H1 _ I1 q1) fun iv s2 ⟨y, H2, I2, r2, q2⟩ => ?_))
  refine wpAny_bind (wpAny_standAt (wpAny_bind (wpAny_holding (thn (hs pins s2 σ H2 x y v ov iv u _ I2 r1 r2 r q2) fun _ s3 ⟨H3, I3, q3⟩ => ?_))))
  exact wpAny_release ⟨σ, H3, I3, q3⟩
/-- target = value -/
def tAsg (te : TE) (g : TG) : TS := fun D σ H => te σ H fun x H1 => g x σ H1 D.nx
theorem ps_asg {tg e : Expr} {te : TE} {g : TG} (he : PE X e te) (hg : PG X tg g) (hs : swapsWithSole [tg] e pos.line X.env = pure false := by rfl) (hw : swappedStores [tg] e X.env = pure none := by rfl)
    (h1 : (assignEach [tg] X.env).map (·.2) = [assign tg X.env] := by rfl) : PS X (.Assign [tg] e pos) (tAsg te g) := by
  intro pins s σ H D I h
  refine wpAny_Assign_stores (thn (he pins s σ H _ I h) fun v s1 ⟨x, H1, I1, r1, q1⟩ => ?_) hs hw
  rw [h1]
  exact thn (hg pins s1 σ H1 x v _ I1 r1 q1) fun _ s2 q => q
/-- name = value -/
theorem ps_set {i : Nat} {x : Str} {e : Expr} {te : TE} {pos' : Pos} (hN : X.N.Nodup) (hi : X.N[i]? = some x) (hx : Loc X.env.scope x) (he : PE X e te) (hs : swapsWith e (some (.Name x pos')) pos.line X.env = pure false := by rfl) (hf : X.fn x = true ∨ X.env.scope.names.lookup x = some .local := by first | exact .inl rfl | exact .inr rfl | assumption) :
    PS X (.Assign [.Name x pos'] e pos) (tAsg te (gName i)) := by
  intro pins s σ H D I h
  refine wpAny_Assign_Name (thn (he pins s σ H _ I h) fun v s1 ⟨y, H1, I1, r1, q1⟩ => ?_) hs
  exact store_ok I1 hN hi hx r1 (fun s2 I2 => ⟨_, H1, I2, q1⟩) hf
/-- a, b = x, y with plain local names: stored from the right; the pair itself is not tracked (the opening rows as in PyProof/Rows/TupAssign.lean:23) -/
def tPar (i j : Nat) (ta : TA) : TS := fun D σ H => ta σ H fun vs H1 => ∃ v w, vs = [v, w] ∧ D.nx ((σ.set i (some v)).set j (some w)) H1
theorem ps_par {i j : Nat} {x y : Str} {a b : Expr} {ta : TA} {px py pt : Pos} {kt k2 pt2} (hc : X.calm = true) (hN : X.N.Nodup) (hi : X.N[i]? = some x) (hj : X.N[j]? = some y) (hij : i ≠ j)
    (hx : X.env.scope.names.lookup x = some .local) (hy : X.env.scope.names.lookup y = some .local) (ha : PA X [a, b] ta)
    (hw : swappedStores [.Tuple [.Name x px, .Name y py] kt pt] (.Tuple [a, b] k2 pt2) X.env = pure (some [x, y]))
    (hs : swapsWithSole [.Tuple [.Name x px, .Name y py] kt pt] (.Tuple [a, b] k2 pt2) pos.line X.env = pure false := by rfl) :
    PS X (.Assign [.Tuple [.Name x px, .Name y py] kt pt] (.Tuple [a, b] k2 pt2) pos) (tPar i j ta) := by
  intro pins s σ H D I h
  rw [exec_Assign_arm]
  refine wpAny_bind (wpAny_standAt ?_)
  rw [hs]
  refine wpAny_bind (wpAny_pure ?_)
  rw [if_neg (by decide)]
  refine wpAny_bind (Tuple_ (thn (ha _ pins s σ H _ I h) fun us s1 ⟨vs, H1, I1, r1, q1⟩ => ?_))
  obtain ⟨v, w, e1, q1⟩ := q1
  subst e1
  obtain ⟨u1, u2, rfl, rv, rw'⟩ : ∃ u1 u2, us = [u1, u2] ∧ RelV v u1 ∧ RelV w u2 := by
    cases r1 with
    | cons p q =>
      cases q with
      | cons p' q' =>
        cases q'
        exact ⟨_, _, rfl, p, p'⟩
  refine wpAny_newObj_type ?_ (by show 2 ≤ sizeLine; decide)
  have I2 : Inv X pins σ H1 { s1 with heap := s1.heap.push { cls := .type "tuple", data := .seq [u1, u2].toArray } } := I1.kept (t' := s1.toks) fun b o e => Heap.get?_push_of_some _ e
  rw [hw]
  refine wpAny_bind (wpAny_pure ?_)
  show wpAny (model X.prog X.w) X.A (do rule "assign.swapped-stores"; let items ← unpackItems (.ref s1.heap.objs.size) 2 none; assignInOrder [fun v => bindName X.env y v, fun v => bindName X.env x v] items.reverse; pure Flow.next) _ _ _
  refine wpAny_bind (wpAny_rule (wpAny_bind (unpackItems_tuple (items := #[u1, u2]) (I.ok.hd hc) (IsTup.new s1.heap _) fun h' hx' => ?_)))
  have I3 := I2.kept (h' := h') (t' := s1.toks) fun b o e => hx' b o (Nat.ne_of_lt (Heap.lt_size e)) e
  show wpAny _ _ (assignInOrder [fun v => bindName X.env y v, fun v => bindName X.env x v] [u2, u1] >>= fun _ => pure Flow.next) _ _ _
  refine wpAny_bind (assignInOrder_cons (wpAny_bindName (store_ok I3 hN hj (.inl hy) rw' (fun s2 I4 => ?_) (.inr hy))))
  refine assignInOrder_cons (wpAny_bindName (store_ok I4 hN hi (.inl hx) rv (fun s3 I5 => assignInOrder_nil (wpAny_pure ?_)) (.inr hx)))
  rw [List.set_comm _ _ (Ne.symm hij)] at I5
  exact ⟨_, H1, I5, q1⟩
/-- name op= e -/
def tAug (i : Nat) (te : TE) (ti : TIp) : TS := fun D σ H => ∃ x, σ[i]? = some (some x) ∧ te σ H fun y H1 => ti x y H1 fun z H2 => D.nx (σ.set i (some z)) H2
theorem ps_aug {i : Nat} {x : Str} {e : Expr} {te : TE} {op : Operator} {ti : TIp} {pos' : Pos} (hN : X.N.Nodup) (hi : X.N[i]? = some x) (hx : Loc X.env.scope x) (he : PE X e te) (ho : PIp X op ti) (hf : X.fn x = true ∨ X.env.scope.names.lookup x = some .local := by first | exact .inl rfl | exact .inr rfl | assumption) :
    PS X (.AugAssign (.Name x pos') op e pos) (tAug i te ti) := by
  intro pins s σ H D I h
  obtain ⟨v, e1, h⟩ := h
  obtain ⟨m, hn, hl⟩ := I.loc
  have vis : Vis X.env.scope x := by rcases hx with k | k; exact .inl k; exact .inr (.inl k)
  obtain ⟨u, r, l⟩ := hl i x v hi e1 vis
  refine wpAny_AugAssign_Name ?_
  have go : wpAny (model X.prog X.w) X.A (eval e X.env) (fun w s₂ => wpAny (model X.prog X.w) X.A (inplaceOp op u w) (fun r s₃ => wpAny (model X.prog X.w) X.A (storeName X.env x r) (fun _ => SP X pins D .next) X.xe s₃) X.xe s₂) X.xe s := by
    refine thn (he pins s σ H _ I h) fun w s1 ⟨y, H1, I1, r1, q1⟩ => ?_
    refine thn (ho pins s1 σ H1 v y u w _ I1 r r1 q1) fun z s2 ⟨zv, H2, I2, r2, q2⟩ => ?_
    exact store_ok I2 hN hi hx r2 (fun s3 I3 => ⟨_, H2, I3, q2⟩) hf
  rcases l with ⟨hk, hm⟩ | ⟨hk, c, hc, hcell⟩
  · exact wpAny_loadName_local I.ok.kind hk hn hm go
  · rcases hk with hk | hk
    · exact wpAny_loadName_cell I.ok.kind hk hc hcell go
    · rcases hx with k | k
      · have : X.env.scope.names.lookup x = some .free := hk
        rw [k] at this; cases this
      · have : X.env.scope.names.lookup x = some .free := hk
        rw [k] at this; cases this
/-- o[i] op= e -/
def tAugS (to ti te : TE) (tget : V → V → Hp → VK → Prop) (tip : TIp) (tset : TSet) : TS := fun D σ H => to σ H fun o H1 => ti σ H1 fun i H2 => tget o i H2 fun x H3 => te σ H3 fun y H4 => tip x y H4 fun z H5 => tset o i z H5 fun H6 => D.nx σ H6
/-- o[i], by values -/
def PGet (X : Cx) (t : V → V → Hp → VK → Prop) : Prop :=
  ∀ (pins : List (Addr × Obj)) (s : Shared) (σ : St) (H : Hp) (o i : V) (ov iv : Value) (Q : VK), Inv X pins σ H s → RelV o ov → RelV i iv → t o i H Q →
    wpAny (model X.prog X.w) X.A (getItem ov iv) (EP X pins σ Q) X.xe s
theorem ps_augS {o i e : Expr} {to ti te : TE} {tget : V → V → Hp → VK → Prop} {tip : TIp} {tset : TSet} {op : Operator} {tpos : Pos} (ho : PE X o to) (hi : PE X i ti) (hg : PGet X tget) (he : PE X e te) (hp : PIp X op tip) (hs : PSet X tset)
    (ha : ∀ ov iv new, augStore i ov iv new = (do holding [new, ov, iv] (setItem ov iv new); release [new, ov, iv] []; pure .next) := by intros; rfl) : PS X (.AugAssign (.Subscript o i tpos) op e pos) (tAugS to ti te tget tip tset) := by
  intro pins s σ H D I h
  refine wpAny_AugAssign_SubscriptAny (thn (ho pins s σ H _ I h) fun ov s1 ⟨x1, H1, I1, r1, q1⟩ => ?_) ha
  refine thn (hi pins s1 σ H1 _ I1 q1) fun iv s2 ⟨x2, H2, I2, r2, q2⟩ => ?_
  refine thn (hg pins s2 σ H2 x1 x2 ov iv _ I2 r1 r2 q2) fun old s3 ⟨x3, H3, I3, r3, q3⟩ => ?_
  refine thn (he pins s3 σ H3 _ I3 q3) fun v s4 ⟨x4, H4, I4, r4, q4⟩ => ?_
  refine thn (hp pins s4 σ H4 x3 x4 old v _ I4 r3 r4 q4) fun new s5 ⟨x5, H5, I5, r5, q5⟩ => ?_
  exact thn (hs pins s5 σ H5 x1 x2 x5 ov iv new _ I5 r1 r2 r5 q5) fun _ s6 ⟨H6, I6, q6⟩ => ⟨σ, H6, I6, q6⟩
/-- ints -/
def ipI (f : Int → Int → Int) : TIp := fun x y H Q => ∃ i j, x = .int i ∧ y = .int j ∧ Q (.int (f i j)) H
theorem ip_add : PIp X .Add (ipI fun i j => i + j) := by
  intro pins s σ H x y v u Q I r1 r2 h
  obtain ⟨i, j, e1, e2, q⟩ := h
  subst e1; subst e2
  obtain ⟨t, rfl⟩ := r1
  obtain ⟨t', rfl⟩ := r2
  exact iadd_int ⟨.int _, H, I.tok _, ⟨_, rfl⟩, q⟩
theorem ip_sub : PIp X .Sub (ipI fun i j => i - j) := by
  intro pins s σ H x y v u Q I r1 r2 h
  obtain ⟨i, j, e1, e2, q⟩ := h
  subst e1; subst e2
  obtain ⟨t, rfl⟩ := r1
  obtain ⟨t', rfl⟩ := r2
  exact isub_int ⟨.int _, H, I.tok _, ⟨_, rfl⟩, q⟩
end

/-! ### while -/
section
variable {X : Cx} {pos : Pos}
/-- the invariant W with its measure -/
def tWhile (c : TT) (tb : TS) : TS := fun D σ H => ∃ W : Nat → St → Hp → Prop, (∃ m, W m σ H) ∧ ∀ m σ H, W m σ H →
  c σ H fun b H1 => if b = true then ∃ N : St → Hp → Prop, (∀ σ' H', N σ' H' → ∃ m', m' < m ∧ W m' σ' H') ∧ tb { D with nx := N, ct := N, bk := D.nx } σ H1 else D.nx σ H1
theorem ps_while {c : Expr} {body : List Stmt} {tc : TT} {tb : TS} (hp : PassesOwn (model X.prog X.w) X.A X.env X.xe) (hc : PT X c tc) (hb : PSs X body tb) : PS X (.While c body [] pos) (tWhile tc tb) := by
  intro pins s σ H D I h
  obtain ⟨W, ⟨m0, w0⟩, turn⟩ := h
  refine wpAny_While (codeAny_whileLoop (fun n s' => ∃ σ' H', Inv X pins σ' H' s' ∧ W n σ' H') ?_ m0 ⟨σ, H, I, w0⟩)
  rintro n s1 ⟨σ1, H1, I1, w1⟩
  refine wpAny_passesOwn hp (thn (hc pins s1 σ1 H1 _ I1 (turn n σ1 H1 w1)) fun b s2 ⟨H2, I2, q2⟩ => ?_)
  cases b with
  | true =>
    obtain ⟨N, hN, q2⟩ := q2
    rw [if_pos rfl]
    refine wpAny_passesOwn hp (thn (hb pins s2 σ1 H2 _ I2 q2) fun f s3 q3 => ?_)
    cases f with
    | next =>
      obtain ⟨σ3, H3, I3, n3⟩ := q3
      obtain ⟨m', hm, w3⟩ := hN σ3 H3 n3
      exact ⟨m', hm, σ3, H3, I3, w3⟩
    | cont =>
      obtain ⟨σ3, H3, I3, n3⟩ := q3
      obtain ⟨m', hm, w3⟩ := hN σ3 H3 n3
      exact ⟨m', hm, σ3, H3, I3, w3⟩
    | brk => exact q3
    | ret v => exact q3
  | false =>
    rw [if_neg Bool.false_ne_true]
    exact wpAny_execs_nil ⟨σ1, H2, I2, q2⟩
end

/-! ### what a loop or a comprehension walks -/
/-- at turn i: it yields x (the heap may grow), or it stops -/
structure It where
  go : Nat → Hp → Prop
  yld : Nat → Hp → V → Hp → Prop
  stop : Nat → Hp → Prop
/-- the iterator's own objects may turn: they are not the frame's, not pinned, younger than the entry (or a comprehension's own) -/
def FpOk (X : Cx) (pins : List (Addr × Obj)) (H : Hp) (b : Addr) : Prop :=
  H b = none ∧ b ≠ X.env.locals ∧ b ∉ X.fs ∧ (b ∈ X.ex ∨ X.s₀.heap.objs.size ≤ b) ∧ (∀ x c, X.env.cells.lookup x = some c → c ≠ b) ∧ ∀ p ∈ X.pn ++ pins, p.1 ≠ b
theorem Inv.fpOk {X : Cx} {pins : List (Addr × Obj)} {σ : St} {H H' : Hp} {s : Shared} {b : Addr} (I : Inv X pins σ H s) (hb : s.heap.objs.size ≤ b) (hn : H' b = none) : FpOk X pins H' b := by
  refine ⟨hn, Nat.ne_of_gt (Nat.lt_of_lt_of_le I.lt hb), I.nofs hb, .inr (Nat.le_trans I.sz hb), fun x c e z => ?_, fun p hp z => ?_⟩
  · obtain ⟨v, q⟩ := I.cell x c e
    exact absurd (Nat.lt_of_lt_of_le q.lt (by rw [z]; exact hb)) (Nat.lt_irrefl _)
  · exact absurd (Nat.lt_of_lt_of_le (Heap.lt_size (I.pin p hp).1) (by rw [z]; exact hb)) (Nat.lt_irrefl _)
structure Turn (P : Program) (w : World) (K : PySem.W.Frag) (tg : Expr) (J : It) (fp : List Addr) (it : Addr) (tn : Nat → Heap → Prop) : Prop where
  mem : it ∈ fp
  obj : ∀ i h, tn i h → ∀ b ∈ fp, ∃ o, h.get? b = some o ∧ ∀ v, o.data ≠ .cell v
  keep : ∀ i h h', tn i h → (∀ b ∈ fp, ∀ o, h.get? b = some o → h'.get? b = some o) → tn i h'
  item : ∀ (X : Cx), X.prog = P → X.w = w → X.K = K → X.calm = true → ∀ (i : Nat) (pins : List (Addr × Obj)) (s : Shared) (σ : St) (H : Hp) (E : Value → Shared → Prop), Inv X pins σ H s → (∀ b ∈ fp, FpOk X pins H b) → tn i s.heap → J.go i H →
    wpAny (model P w) X.A (pyNext (.ref it)) (fun r s1 => ∃ u, r = some u ∧
      wpAny (model P w) X.A (letOwnedTupleGo tg (.ref it) u) (fun _ s2 => ∃ x H', Inv X pins σ H' s2 ∧ RelV x u ∧ J.yld i H x H' ∧ tn (i + 1) s2.heap ∧ ∀ b ∈ fp, H' b = none) E s1) E s
  done : ∀ (X : Cx), X.prog = P → X.w = w → X.K = K → X.calm = true → ∀ (i : Nat) (pins : List (Addr × Obj)) (s : Shared) (σ : St) (H : Hp) (E : Value → Shared → Prop), Inv X pins σ H s → (∀ b ∈ fp, FpOk X pins H b) → tn i s.heap → J.stop i H →
    wpAny (model P w) X.A (pyNext (.ref it)) (fun r s1 => r = none ∧ Inv X pins σ H s1) E s
  self : ∀ (A : Around) (i : Nat) (s : Shared) (Q : Value → Shared → Prop) (E : Value → Shared → Prop), tn i s.heap → Q (.ref it) s → wpAny (model P w) A (pyIter (.ref it)) Q E s
abbrev TI := St → Hp → (It → Hp → Prop) → Prop
/-- an iterator has come -/
def PIE (X : Cx) (pins : List (Addr × Obj)) (σ : St) (tg : Expr) (R : It → Hp → Prop) (itv : Value) (s2 : Shared) : Prop :=
  ∃ (it : Addr) (fp : List Addr) (tn : Nat → Heap → Prop) (J : It) (H' : Hp), itv = .ref it ∧ Inv X pins σ H' s2 ∧ Turn X.prog X.w X.K tg J fp it tn ∧ tn 0 s2.heap ∧ (∀ b ∈ fp, FpOk X pins H' b) ∧ R J H'
def PI (X : Cx) (tg iter : Expr) (wi : TI) : Prop :=
  ∀ (pins : List (Addr × Obj)) (s : Shared) (σ : St) (H : Hp) (R : It → Hp → Prop), Inv X pins σ H s → wi σ H R →
    wpAny (model X.prog X.w) X.A (eval iter X.env) (fun v s1 => wpAny (model X.prog X.w) X.A (pyIter v) (PIE X pins σ tg R) X.xe s1) X.xe s

/-- the step ahead of the store is nothing for an iterator that keeps no tuple -/
theorem go_of {M : Model} {A : Around} {E : Value → Shared → Prop} {s : Shared} {tg : Expr} {it : Addr} {u : Value} {o : Obj} {n : String} {vs : Array Value} {Q : Unit → Shared → Prop} (ho : s.heap.get? it = some o) (hc : o.cls = .type n) (hd : o.data = .fields vs)
    (hn : ["enumerate", "zip", "dict_itemiterator", "dict_reverseitemiterator", "odict_iterator", "itertools.zip_longest", "itertools.pairwise"].contains n = false) (hQ : Q () s) : wpAny M A (letOwnedTupleGo tg (.ref it) u) Q E s := by
  unfold letOwnedTupleGo
  cases tg <;> first
    | exact wpAny_pure hQ
    | (cases u <;> first
        | exact wpAny_pure hQ
        | (refine wpAny_bind (wpAny_load ho ?_)
           rw [hc, hd]
           show wpAny M A (if (["enumerate", "zip", "dict_itemiterator", "dict_reverseitemiterator", "odict_iterator", "itertools.zip_longest", "itertools.pairwise"].contains n && vs[0]? == some (rawInt _)) = true then _ else _) Q E s
           rw [if_neg (by intro h; rw [hn, Bool.false_and] at h; cases h)]
           exact wpAny_pure hQ))

/-- the list at a, as it stands at each turn (a loop may append to it) -/
def Itl (K : PySem.W.Frag) (a : Addr) : It :=
  ⟨fun i H => ∃ xs x, SqL K H a xs ∧ xs[i]? = some x, fun i H x H' => H' = H ∧ ∀ xs, SqL K H a xs → xs[i]? = some x, fun i H => ∃ xs, SqL K H a xs ∧ xs.length ≤ i⟩
def Itt (K : PySem.W.Frag) (a : Addr) : It :=
  ⟨fun i H => ∃ xs x, SqT K H a xs ∧ xs[i]? = some x, fun i H x H' => H' = H ∧ ∀ xs, SqT K H a xs → xs[i]? = some x, fun i H => ∃ xs, SqT K H a xs ∧ xs.length ≤ i⟩
/-- lo, lo + 1, .. (n of them) -/
def Itr (lo : Int) (n : Nat) : It := ⟨fun i _ => i < n, fun i H x H' => H' = H ∧ x = .int (lo + i), fun i _ => n ≤ i⟩
theorem turn_list {P : Program} {w : World} {K : PySem.W.Frag} {tg : Expr} (a it : Addr) : Turn P w K tg (Itl K a) [it] it (fun i h => h.IsListIter it a i) where
  mem := by simp
  obj := fun i h st b hb => by
    have e : b = it := by simpa using hb
    subst e
    obtain ⟨o, e, c, d⟩ := st
    exact ⟨o, e, fun v z => by rw [d] at z; cases z⟩
  keep := fun i h h' st k => st.at fun o e => k it (by simp) o e
  item := by
    intro X hP hw hK hc i pins s σ H E I hf st hg
    subst hP hw hK
    obtain ⟨xs, x, hq, hx⟩ := hg
    obtain ⟨its, rv, p, hz⟩ := I.list hq
    obtain ⟨u, hu, ru⟩ := rv.get hx
    obtain ⟨f0, f1, f2, f3, f4, f5⟩ := hf it (by simp)
    refine wpAny_pyNext_list_item st p.isList (x := u) (by simpa using hu) fun h' st' sb => ?_
    have I1 : Inv X pins σ H { s with heap := h' } := I.turned (t' := s.toks) (fun b o hb e => (sb.2 b hb).trans e) f0 f1 f3 f4 f5
    obtain ⟨o, e, c, d⟩ := id st'
    exact ⟨u, rfl, go_of (s := { s with heap := h' }) e c d (by decide) ⟨x, H, I1, ru, ⟨rfl, fun ys hy => by rw [I.list_inj hy hq]; exact hx⟩, st', fun b hb => (hf b hb).1⟩⟩
  done := by
    intro X hP hw hK hc i pins s σ H E I hf st hg
    subst hP hw hK
    obtain ⟨xs, hq, hx⟩ := hg
    obtain ⟨its, rv, p, hz⟩ := I.list hq
    obtain ⟨f0, f1, f2, f3, f4, f5⟩ := hf it (by simp)
    have hl := rv.length
    exact wpAny_pyNext_list_end (I.ok.hd hc) st p.isList (by simp; omega) fun h' eb => ⟨rfl, I.turned (t' := s.toks) (fun b o hb e => eb b o hb e) f0 f1 f3 f4 f5⟩
  self := fun _ _ _ _ _ st h => wpAny_pyIter_listiter st h
theorem turn_tuple {P : Program} {w : World} {K : PySem.W.Frag} {tg : Expr} (a it : Addr) : Turn P w K tg (Itt K a) [it] it (fun i h => h.IsTupleIter it a i) where
  mem := by simp
  obj := fun i h st b hb => by
    have e : b = it := by simpa using hb
    subst e
    obtain ⟨o, e, c, d⟩ := st
    exact ⟨o, e, fun v z => by rw [d] at z; cases z⟩
  keep := fun i h h' st k => st.at fun o e => k it (by simp) o e
  item := by
    intro X hP hw hK hc i pins s σ H E I hf st hg
    subst hP hw hK
    obtain ⟨xs, x, hq, hx⟩ := hg
    obtain ⟨its, rv, p, hz⟩ := I.tuple hq
    obtain ⟨u, hu, ru⟩ := rv.get hx
    obtain ⟨f0, f1, f2, f3, f4, f5⟩ := hf it (by simp)
    refine wpAny_pyNext_tuple_item st (show s.heap.IsTuple a its.toArray from p) (x := u) (by simpa using hu) fun h' st' sb => ?_
    have I1 : Inv X pins σ H { s with heap := h' } := I.turned (t' := s.toks) (fun b o hb e => (sb.2 b hb).trans e) f0 f1 f3 f4 f5
    obtain ⟨o, e, c, d⟩ := id st'
    exact ⟨u, rfl, go_of (s := { s with heap := h' }) e c d (by decide) ⟨x, H, I1, ru, ⟨rfl, fun ys hy => by rw [I.tuple_inj hy hq]; exact hx⟩, st', fun b hb => (hf b hb).1⟩⟩
  done := by
    intro X hP hw hK hc i pins s σ H E I hf st hg
    subst hP hw hK
    obtain ⟨xs, hq, hx⟩ := hg
    obtain ⟨its, rv, p, hz⟩ := I.tuple hq
    obtain ⟨f0, f1, f2, f3, f4, f5⟩ := hf it (by simp)
    have hl := rv.length
    exact wpAny_pyNext_tuple_end (I.ok.hd hc) st (show s.heap.IsTuple a its.toArray from p) (by simp; omega) fun h' eb => ⟨rfl, I.turned (t' := s.toks) (fun b o hb e => eb b o hb e) f0 f1 f3 f4 f5⟩
  self := fun _ _ _ _ _ st h => wpAny_pyIter_tupleiter st h
theorem turn_range {P : Program} {w : World} {K : PySem.W.Frag} {tg : Expr} (it : Addr) (lo : Int) (n : Nat) : Turn P w K tg (Itr lo n) [it] it (fun i h => IsRangeIter h it (lo + (i : Nat) * 1) ((n : Int) - (i : Nat)) 1) where
  mem := by simp
  obj := fun i h st b hb => by
    have e : b = it := by simpa using hb
    subst e
    exact ⟨_, st, fun v z => by
      have z' : Data.fields _ = Data.cell v := z
      cases z'⟩
  keep := fun i h h' st k => k it (by simp) _ st
  item := by
    intro X hP hw hK hc i pins s σ H E I hf st hg
    subst hP hw hK
    obtain ⟨f0, f1, f2, f3, f4, f5⟩ := hf it (by simp)
    have W := Walks.range (prog := X.prog) (w := X.w) (I.ok.hd hc) it lo 1 n
    refine W.item i s _ _ hg st fun v h' tk hv st' kk => ?_
    obtain ⟨t, rfl⟩ := hv
    have I1 : Inv X pins σ H { s with heap := h', toks := tk } := I.turned (fun b o hb e => kk b o (by simpa using hb) e) f0 f1 f3 f4 f5
    refine ⟨_, rfl, go_of (s := { s with heap := h', toks := tk }) (n := "range_iterator") st' rfl rfl (by decide) ⟨.int (lo + i), H, I1, ⟨t, ?_⟩, ⟨rfl, rfl⟩, st', fun b hb => (hf b hb).1⟩⟩
    rw [Int.mul_one]
  done := by
    intro X hP hw hK hc i pins s σ H E I hf st hg
    subst hP hw hK
    obtain ⟨f0, f1, f2, f3, f4, f5⟩ := hf it (by simp)
    exact wpAny_pyNext_range_end (I.ok.hd hc) st (by have : n ≤ i := hg; omega) fun h' eb => ⟨rfl, I.turned (t' := s.toks) (fun b o hb e => eb b o hb e) f0 f1 f3 f4 f5⟩
  self := fun _ _ _ _ _ st h => wpAny_pyIter_rangeiter st h
end L2

namespace L2
open PySem PySem.Spec PyProof.Rows
section
variable {X : Cx} {tg : Expr}
def iList (K : PySem.W.Frag) (tl : TE) : TI := fun σ H R => tl σ H fun x H1 => ∃ a, x = .ref a ∧ (∃ xs, SqL K H1 a xs) ∧ R (Itl K a) H1
def iTup (K : PySem.W.Frag) (tl : TE) : TI := fun σ H R => tl σ H fun x H1 => ∃ a, x = .ref a ∧ (∃ xs, SqT K H1 a xs) ∧ R (Itt K a) H1
theorem pi_list {l : Expr} {tl : TE} (hl : PE X l tl) : PI X tg l (iList X.K tl) := by
  intro pins s σ H R I h
  refine thn (hl pins s σ H _ I h) fun v s1 ⟨x, H1, I1, r1, q1⟩ => ?_
  obtain ⟨a, e, ⟨xs, hq⟩, q⟩ := q1
  subst e
  cases r1
  obtain ⟨its, rv, p, hz⟩ := I1.list hq
  refine wpAny_pyIter_list p.isList ?_
  refine ⟨s1.heap.objs.size, [s1.heap.objs.size], _, _, H1, rfl, I1.kept (t' := s1.toks) fun b o e => Heap.get?_push_of_some _ e, turn_list a _, ⟨_, Heap.get?_push_size _ rfl, rfl, rfl⟩, fun b hb => ?_, q⟩
  have e : b = s1.heap.objs.size := by simpa using hb
  subst e
  exact I1.fpOk (Nat.le_refl _) (I1.hok.fresh (Nat.le_refl _))
theorem pi_tup {l : Expr} {tl : TE} (hl : PE X l tl) : PI X tg l (iTup X.K tl) := by
  intro pins s σ H R I h
  refine thn (hl pins s σ H _ I h) fun v s1 ⟨x, H1, I1, r1, q1⟩ => ?_
  obtain ⟨a, e, ⟨xs, hq⟩, q⟩ := q1
  subst e
  cases r1
  obtain ⟨its, rv, p, hz⟩ := I1.tuple hq
  refine wpAny_pyIter_tuple (show s1.heap.IsTuple a its.toArray from p) ?_
  refine ⟨s1.heap.objs.size, [s1.heap.objs.size], _, _, H1, rfl, I1.kept (t' := s1.toks) fun b o e => Heap.get?_push_of_some _ e, turn_tuple a _, ⟨_, Heap.get?_push_size _ rfl, rfl, rfl⟩, fun b hb => ?_, q⟩
  have e : b = s1.heap.objs.size := by simpa using hb
  subst e
  exact I1.fpOk (Nat.le_refl _) (I1.hok.fresh (Nat.le_refl _))
/-- a range object just made, walked -/
theorem range_it {pins : List (Addr × Obj)} {σ : St} {H : Hp} {s : Shared} {R : It → Hp → Prop} {E : Value → Shared → Prop} {lo hi : Int} {t u v : Tok} {tk : Nat} (I : Inv X pins σ H s) (h1 : -(2 ^ 62) ≤ lo) (h2 : lo < 2 ^ 62) (h3 : -(2 ^ 62) ≤ hi) (h4 : hi < 2 ^ 62)
    (q : R (Itr lo (hi - lo).toNat) H) : wpAny (model X.prog X.w) X.A (pyIter (.ref s.heap.objs.size)) (PIE X pins σ tg R) E { s with heap := s.heap.push { cls := .type "range", data := .fields #[.int lo t, .int hi u, .int 1 v] }, toks := tk } := by
  refine wpAny_pyIter_range (IsRange.new ..) (small_one h1 h2 h3 h4) ?_
  have I1 : Inv X pins σ H { s with heap := s.heap.push { cls := .type "range", data := .fields #[.int lo t, .int hi u, .int 1 v] }, toks := tk } := I.kept fun b o e => Heap.get?_push_of_some _ e
  refine ⟨(s.heap.push { cls := .type "range", data := .fields #[.int lo t, .int hi u, .int 1 v] }).objs.size, [(s.heap.push { cls := .type "range", data := .fields #[.int lo t, .int hi u, .int 1 v] }).objs.size], _, _, H, rfl,
    I1.kept (t' := tk) fun b o e => Heap.get?_push_of_some _ e, turn_range _ lo (hi - lo).toNat, ?_, fun b hb => ?_, q⟩
  · have e1 : lo + ((0 : Nat) : Int) * 1 = lo := by simp
    have e2 : (((hi - lo).toNat : Nat) : Int) - ((0 : Nat) : Int) = Builtin.Range.rangeSize lo hi 1 := by rw [rangeSize_one]; split <;> omega
    show IsRangeIter _ _ (lo + ((0 : Nat) : Int) * 1) ((((hi - lo).toNat : Nat) : Int) - ((0 : Nat) : Int)) 1
    rw [e1, e2]
    exact Heap.get?_push_size _ rfl
  · have e : b = (s.heap.push { cls := .type "range", data := .fields #[.int lo t, .int hi u, .int 1 v] }).objs.size := by simpa using hb
    subst e
    exact I1.fpOk (Nat.le_refl _) (I1.hok.fresh (Nat.le_refl _))
def iRng1 (ta : TA) : TI := fun σ H R => ta σ H fun vs H1 => ∃ j : Int, vs = [.int j] ∧ -(2 ^ 62) ≤ j ∧ j < 2 ^ 62 ∧ R (Itr 0 j.toNat) H1
def iRng2 (ta : TA) : TI := fun σ H R => ta σ H fun vs H1 => ∃ i j : Int, vs = [.int i, .int j] ∧ (-(2 ^ 62) ≤ i ∧ i < 2 ^ 62 ∧ -(2 ^ 62) ≤ j ∧ j < 2 ^ 62) ∧ R (Itr i (j - i).toNat) H1
theorem pi_range1 {a : Expr} {ta : TA} {p pos : Pos} (hg : Gl X "range") (hm : X.mg "range" = none) (ha : PA X [a] ta) (hs : starEach [a] X.env = [(false, eval a X.env)] := by rfl) : PI X tg (.Call (.Name "range" p) [a] [] pos) (iRng1 ta) := by
  intro pins s σ H R I h
  refine Call_ (ld_blt I hg hm boot_range (PyProof.Rows.callWith_type1 (thn (ha pos pins s σ H _ I h) fun us s1 ⟨vs, H1, I1, r1, q1⟩ => ?_) hs rfl))
  obtain ⟨j, e, q1, q2, q⟩ := q1
  subst e
  cases r1 with
  | cons r rr =>
    cases rr
    obtain ⟨t, rfl⟩ := r
    exact call_range_1 (range_it I1 (by omega) (by omega) q1 q2 (by simpa using q))
theorem pi_range2 {a b : Expr} {ta : TA} {p pos : Pos} (hg : Gl X "range") (hm : X.mg "range" = none) (ha : PA X [a, b] ta) (hs : starEach [a, b] X.env = [(false, eval a X.env), (false, eval b X.env)] := by rfl) (hs2 : starEach [b] X.env = [(false, eval b X.env)] := by rfl) :
    PI X tg (.Call (.Name "range" p) [a, b] [] pos) (iRng2 ta) := by
  intro pins s σ H R I h
  refine Call_ (ld_blt I hg hm boot_range (PyProof.Rows.callWith_type1 (thn (ha pos pins s σ H _ I h) fun us s1 ⟨vs, H1, I1, r1, q1⟩ => ?_) (by rw [hs, hs2]) (by rw [hs2]; rfl)))
  obtain ⟨i, j, e, ⟨q1, q2, q3, q4⟩, q⟩ := q1
  subst e
  cases r1 with
  | cons r rr =>
    cases rr with
    | cons r' rr =>
      cases rr
      obtain ⟨t, rfl⟩ := r
      obtain ⟨t', rfl⟩ := r'
      exact call_range_2 (range_it I1 q1 q2 q3 q4 q)

/-! ### for -/
/-- W: the invariant by the turn and a measure; N: what the body is to reach -/
def tFor (wi : TI) (g : TG) (tb : TS) : TS := fun D σ H => wi σ H fun J H1 => ∃ W : Nat → Nat → St → Hp → Prop, (∃ m, W 0 m σ H1) ∧ ∀ i m σ H, W i m σ H →
  (J.stop i H ∧ D.nx σ H) ∨ (J.go i H ∧ ∃ N : St → Hp → Prop, (∀ σ' H', N σ' H' → ∃ m', m' < m ∧ W (i + 1) m' σ' H') ∧ ∀ x H', J.yld i H x H' → g x σ H' fun σ2 H2 => tb { D with nx := N, ct := N, bk := D.nx } σ2 H2)
/-- the records at fp as they stand -/
def pinsAt (fp : List Addr) (h : Heap) : List (Addr × Obj) := fp.filterMap fun b => (h.get? b).map fun o => (b, o)
theorem mem_pinsAt {fp : List Addr} {h : Heap} {b : Addr} {o : Obj} (hb : b ∈ fp) (e : h.get? b = some o) : (b, o) ∈ pinsAt fp h := List.mem_filterMap.mpr ⟨b, hb, by rw [e]; rfl⟩
theorem of_pinsAt {fp : List Addr} {h : Heap} {p : Addr × Obj} (hp : p ∈ pinsAt fp h) : p.1 ∈ fp ∧ h.get? p.1 = some p.2 := by
  obtain ⟨b, hb, e⟩ := List.mem_filterMap.mp hp
  cases q : h.get? b with
  | none => rw [q] at e; cases e
  | some o =>
    rw [q] at e
    have e' : (b, o) = p := Option.some.inj e
    subst e'
    exact ⟨hb, q⟩
theorem Inv.pinned {pins : List (Addr × Obj)} {σ : St} {H : Hp} {s : Shared} {fp : List Addr} (I : Inv X pins σ H s) (hf : ∀ b ∈ fp, FpOk X pins H b) (ho : ∀ b ∈ fp, ∃ o, s.heap.get? b = some o ∧ ∀ v, o.data ≠ .cell v) : Inv X (pins ++ pinsAt fp s.heap) σ H s :=
  I.pins_of fun p hp => (List.mem_append.mp hp).elim (fun z => I.pin p (List.mem_append_right _ z)) fun z => by
    obtain ⟨hb, e⟩ := of_pinsAt z
    obtain ⟨f0, f1, f2, _⟩ := hf p.1 hb
    obtain ⟨o, e', d⟩ := ho p.1 hb
    rw [e] at e'; cases e'
    exact ⟨e, f0, f1, f2, d⟩
theorem Inv.unpinned {pins pl : List (Addr × Obj)} {σ : St} {H : Hp} {s : Shared} (I : Inv X (pins ++ pl) σ H s) : Inv X pins σ H s := I.pins_of fun p hp => I.pin p (List.mem_append_right _ (List.mem_append_left _ hp))
theorem ps_for {iter : Expr} {body : List Stmt} {wi : TI} {g : TG} {tb : TS} {pos : Pos} (hp : PassesOwn (model X.prog X.w) X.A X.env X.xe) (hc : X.calm = true) (hi : PI X tg iter wi) (hg : PG X tg g) (hb : PSs X body tb)
    (hs : ∀ x, foldedSetIterable iter X.env x = pure x := by intro _; rfl) : PS X (.For tg iter body [] pos) (tFor wi g tb) := by
  intro pins s σ H D I h
  refine wpAny_For (thn (hi pins s σ H _ I h) fun v s1 h1 => thn h1 fun itv s2 h2 => ?_) hs
  obtain ⟨it, fp, tn, J, H2, e, I2, T, st2, f2, W, ⟨m0, w0⟩, turn⟩ := h2
  subst e
  -- what stays true of the iterator's objects through the loop
  have stat : ∀ {H' : Hp}, (∀ b ∈ fp, H' b = none) → ∀ b ∈ fp, FpOk X pins H' b := fun hn b hb => ⟨hn b hb, (f2 b hb).2⟩
  refine codeAny_forLoop_any (fun n s' => ∃ i σ' H', Inv X pins σ' H' s' ∧ tn i s'.heap ∧ (∀ b ∈ fp, H' b = none) ∧ W i n σ' H') ?_ m0 ⟨0, σ, H2, I2, st2, fun b hb => (f2 b hb).1, w0⟩
  rintro n s3 ⟨i, σ3, H3, I3, st3, fr3, w3⟩
  rcases turn i n σ3 H3 w3 with ⟨stop, qn⟩ | ⟨go, N, hN, step⟩
  · refine wpAny_passesOwn hp (thn (T.done X rfl rfl rfl hc i pins s3 σ3 H3 X.xe I3 (stat fr3) st3 stop) fun r s4 ⟨hr, I4⟩ => ?_)
    subst hr
    exact wpAny_execs_nil ⟨σ3, H3, I4, qn⟩
  · refine wpAny_passesOwn hp (thn (T.item X rfl rfl rfl hc i pins s3 σ3 H3 X.xe I3 (stat fr3) st3 go) fun r s4 ⟨u, hr, h4⟩ => ?_)
    subst hr
    refine wpAny_passesOwn hp (thn h4 fun _ s5 ⟨x, H5, I5, r5, y5, st5, fr5⟩ => ?_)
    have I5' := I5.pinned (stat fr5) (T.obj _ _ st5)
    refine wpAny_passesOwn hp (thn (hg _ s5 σ3 H5 x u _ I5' r5 (step x H5 y5)) fun _ s6 ⟨σ6, H6, I6, q6⟩ => ?_)
    refine wpAny_passesOwn hp (thn (hb _ s6 σ6 H6 _ I6 q6) fun f s7 q7 => ?_)
    have again : ∀ {σ7 : St} {H7 : Hp}, Inv X (pins ++ pinsAt fp s5.heap) σ7 H7 s7 → N σ7 H7 → ∃ m, m < n ∧ ∃ i σ' H', Inv X pins σ' H' s7 ∧ tn i s7.heap ∧ (∀ b ∈ fp, H' b = none) ∧ W i m σ' H' := fun {σ7 H7} I7 n7 => by
      obtain ⟨m', hm, w7⟩ := hN σ7 H7 n7
      refine ⟨m', hm, i + 1, σ7, H7, I7.unpinned, T.keep _ _ _ st5 fun b hb o e => (I7.pin (b, o) (List.mem_append_right _ (List.mem_append_right _ (mem_pinsAt hb e)))).1, fun b hb => ?_, w7⟩
      obtain ⟨o, e, d⟩ := T.obj _ _ st5 b hb
      exact (I7.pin (b, o) (List.mem_append_right _ (List.mem_append_right _ (mem_pinsAt hb e)))).2.1
    cases f with
    | next => obtain ⟨σ7, H7, I7, n7⟩ := q7; exact again I7 n7
    | cont => obtain ⟨σ7, H7, I7, n7⟩ := q7; exact again I7 n7
    | brk => obtain ⟨σ7, H7, I7, q7⟩ := q7; exact ⟨σ7, H7, I7.unpinned, q7⟩
    | ret v => obtain ⟨x7, σ7, H7, I7, r7, q7⟩ := q7; exact ⟨x7, σ7, H7, I7.unpinned, r7, q7⟩
end

/-! ### the forms one uses -/
/-- over a list that the body leaves as it is -/
theorem for_list {K : PySem.W.Frag} {a : Addr} {xs : List V} {g : TG} {tb : TS} {D : Ends} {σ : St} {H : Hp} (Pv : Nat → St → Hp → Prop) (h0 : Pv 0 σ H) (hl : ∀ i σ H, i ≤ xs.length → Pv i σ H → SqL K H a xs)
    (hs : ∀ i x σ H, xs[i]? = some x → Pv i σ H → g x σ H fun σ2 H2 => tb { D with nx := Pv (i + 1), ct := Pv (i + 1), bk := D.nx } σ2 H2) (hd : ∀ σ H, Pv xs.length σ H → D.nx σ H) :
    ∃ W : Nat → Nat → St → Hp → Prop, (∃ m, W 0 m σ H) ∧ ∀ i m σ H, W i m σ H →
      ((Itl K a).stop i H ∧ D.nx σ H) ∨ ((Itl K a).go i H ∧ ∃ N : St → Hp → Prop, (∀ σ' H', N σ' H' → ∃ m', m' < m ∧ W (i + 1) m' σ' H') ∧ ∀ x H', (Itl K a).yld i H x H' → g x σ H' fun σ2 H2 => tb { D with nx := N, ct := N, bk := D.nx } σ2 H2) := by
  refine ⟨fun i m σ H => m = xs.length - i ∧ i ≤ xs.length ∧ Pv i σ H, ⟨xs.length, by simp, Nat.zero_le _, h0⟩, ?_⟩
  rintro i m σ H ⟨rfl, hi, p⟩
  have q := hl i σ H hi p
  by_cases hlt : i < xs.length
  · refine .inr ⟨⟨xs, xs[i], q, by simp [hlt]⟩, Pv (i + 1), fun σ' H' p' => ⟨xs.length - (i + 1), by omega, rfl, hlt, p'⟩, fun x H' y => ?_⟩
    obtain ⟨e, y⟩ := y
    subst e
    exact hs i x σ _ (y xs q) p
  · have e : i = xs.length := by omega
    subst e
    exact .inl ⟨⟨xs, q, Nat.le_refl _⟩, hd σ H p⟩
theorem for_tup {K : PySem.W.Frag} {a : Addr} {xs : List V} {g : TG} {tb : TS} {D : Ends} {σ : St} {H : Hp} (Pv : Nat → St → Hp → Prop) (h0 : Pv 0 σ H) (hl : ∀ i σ H, i ≤ xs.length → Pv i σ H → SqT K H a xs)
    (hs : ∀ i x σ H, xs[i]? = some x → Pv i σ H → g x σ H fun σ2 H2 => tb { D with nx := Pv (i + 1), ct := Pv (i + 1), bk := D.nx } σ2 H2) (hd : ∀ σ H, Pv xs.length σ H → D.nx σ H) :
    ∃ W : Nat → Nat → St → Hp → Prop, (∃ m, W 0 m σ H) ∧ ∀ i m σ H, W i m σ H →
      ((Itt K a).stop i H ∧ D.nx σ H) ∨ ((Itt K a).go i H ∧ ∃ N : St → Hp → Prop, (∀ σ' H', N σ' H' → ∃ m', m' < m ∧ W (i + 1) m' σ' H') ∧ ∀ x H', (Itt K a).yld i H x H' → g x σ H' fun σ2 H2 => tb { D with nx := N, ct := N, bk := D.nx } σ2 H2) := by
  refine ⟨fun i m σ H => m = xs.length - i ∧ i ≤ xs.length ∧ Pv i σ H, ⟨xs.length, by simp, Nat.zero_le _, h0⟩, ?_⟩
  rintro i m σ H ⟨rfl, hi, p⟩
  have q := hl i σ H hi p
  by_cases hlt : i < xs.length
  · refine .inr ⟨⟨xs, xs[i], q, by simp [hlt]⟩, Pv (i + 1), fun σ' H' p' => ⟨xs.length - (i + 1), by omega, rfl, hlt, p'⟩, fun x H' y => ?_⟩
    obtain ⟨e, y⟩ := y
    subst e
    exact hs i x σ _ (y xs q) p
  · have e : i = xs.length := by omega
    subst e
    exact .inl ⟨⟨xs, q, Nat.le_refl _⟩, hd σ H p⟩
theorem for_range {lo : Int} {n : Nat} {g : TG} {tb : TS} {D : Ends} {σ : St} {H : Hp} (Pv : Nat → St → Hp → Prop) (h0 : Pv 0 σ H)
    (hs : ∀ i σ H, i < n → Pv i σ H → g (.int (lo + i)) σ H fun σ2 H2 => tb { D with nx := Pv (i + 1), ct := Pv (i + 1), bk := D.nx } σ2 H2) (hd : ∀ σ H, Pv n σ H → D.nx σ H) :
    ∃ W : Nat → Nat → St → Hp → Prop, (∃ m, W 0 m σ H) ∧ ∀ i m σ H, W i m σ H →
      ((Itr lo n).stop i H ∧ D.nx σ H) ∨ ((Itr lo n).go i H ∧ ∃ N : St → Hp → Prop, (∀ σ' H', N σ' H' → ∃ m', m' < m ∧ W (i + 1) m' σ' H') ∧ ∀ x H', (Itr lo n).yld i H x H' → g x σ H' fun σ2 H2 => tb { D with nx := N, ct := N, bk := D.nx } σ2 H2) := by
  refine ⟨fun i m σ H => m = n - i ∧ i ≤ n ∧ Pv i σ H, ⟨n, by simp, Nat.zero_le _, h0⟩, ?_⟩
  rintro i m σ H ⟨rfl, hi, p⟩
  by_cases hlt : i < n
  · refine .inr ⟨hlt, Pv (i + 1), fun σ' H' p' => ⟨n - (i + 1), by omega, rfl, hlt, p'⟩, fun x H' y => ?_⟩
    obtain ⟨e, y⟩ := y
    subst e y
    exact hs i σ _ hlt p
  · have e : i = n := by omega
    subst e
    exact .inl ⟨Nat.le_refl _, hd σ H p⟩
/-- while, by a word and a measure of the state -/
theorem while_by {c : TT} {tb : TS} {D : Ends} {σ : St} {H : Hp} (Pv : St → Hp → Prop) (μ : St → Hp → Nat) (h0 : Pv σ H)
    (hs : ∀ σ H, Pv σ H → c σ H fun b H1 => if b = true then tb { D with nx := fun σ' H' => Pv σ' H' ∧ μ σ' H' < μ σ H, ct := fun σ' H' => Pv σ' H' ∧ μ σ' H' < μ σ H, bk := D.nx } σ H1 else D.nx σ H1)
    (mono : ∀ σ H Q Q', (∀ b H1, Q b H1 → Q' b H1) → c σ H Q → c σ H Q') : tWhile c tb D σ H := by
  refine ⟨fun m σ H => m = μ σ H ∧ Pv σ H, ⟨_, rfl, h0⟩, ?_⟩
  rintro m σ H ⟨rfl, p⟩
  refine mono σ H _ _ (fun b H1 q => ?_) (hs σ H p)
  cases b with
  | true => exact ⟨_, fun σ' H' ⟨p', l⟩ => ⟨_, l, rfl, p'⟩, q⟩
  | false => exact q
end L2

namespace L2
open PySem PySem.Spec PyProof.Rows

abbrev R2 := V → V → Hp → VK → Prop
/-- a two-place operation on values: f is binaryOp op, inplaceOp op or compareOp op -/
def OpR (X : Cx) (f : Value → Value → Sem Value) (r : R2) : Prop :=
  ∀ (pins : List (Addr × Obj)) (s : Shared) (σ : St) (H : Hp) (x y : V) (v u : Value) (Q : VK), Inv X pins σ H s → RelV x v → RelV y u → r x y H Q →
    wpAny (model X.prog X.w) X.A (f v u) (EP X pins σ Q) X.xe s
/-- a one-place operation -/
def UnR (X : Cx) (f : Value → Sem Value) (r : V → Hp → VK → Prop) : Prop :=
  ∀ (pins : List (Addr × Obj)) (s : Shared) (σ : St) (H : Hp) (x : V) (v : Value) (Q : VK), Inv X pins σ H s → RelV x v → r x H Q →
    wpAny (model X.prog X.w) X.A (f v) (EP X pins σ Q) X.xe s
/-- a call of a value that is known (a builtin, a type) with values -/
def CallR (X : Cx) (f : Value) (r : List V → Hp → VK → Prop) : Prop :=
  ∀ (pins : List (Addr × Obj)) (s : Shared) (σ : St) (H : Hp) (xs : List V) (us : List Value) (Q : VK), Inv X pins σ H s → Vals xs us → r xs H Q →
    wpAny (model X.prog X.w) X.A (call f us) (EP X pins σ Q) X.xe s
/-- a value's truth -/
def TruR (X : Cx) (r : V → Hp → (Bool → Hp → Prop) → Prop) : Prop :=
  ∀ (pins : List (Addr × Obj)) (s : Shared) (σ : St) (H : Hp) (x : V) (v : Value) (Q : Bool → Hp → Prop), Inv X pins σ H s → RelV x v → r x H Q →
    wpAny (model X.prog X.w) X.A (truthy v) (TP X pins σ Q) X.xe s

def tOp (r : R2) (ta tb : TE) : TE := fun σ H Q => ta σ H fun x H1 => tb σ H1 fun y H2 => r x y H2 Q
def tUn (r : V → Hp → VK → Prop) (ta : TE) : TE := fun σ H Q => ta σ H fun x H1 => r x H1 Q
/-- ints in, under C, and a value out -/
def rI (C : Int → Int → Prop) (g : Int → Int → V) : R2 := fun x y H Q => ∃ i j, x = .int i ∧ y = .int j ∧ C i j ∧ Q (g i j) H
def rI0 (g : Int → Int → V) : R2 := fun x y H Q => ∃ i j, x = .int i ∧ y = .int j ∧ Q (g i j) H
def rU (g : Int → V) : V → Hp → VK → Prop := fun x H Q => ∃ i, x = .int i ∧ Q (g i) H

section
variable {X : Cx} {a b c : Expr} {ta tb tc : TE} {pos : Pos}

theorem binT (ha : PE X a ta) (hb : PE X b tb) {pins : List (Addr × Obj)} {s : Shared} {σ : St} {H : Hp} {R : V → V → Hp → Prop} (I : Inv X pins σ H s)
    (h : ta σ H fun x H1 => tb σ H1 fun y H2 => R x y H2) {Q : Value → Shared → Prop} {f : Value → Value → Sem Value}
    (hf : ∀ v u s2 x y H2, Inv X pins σ H2 s2 → RelV x v → RelV y u → R x y H2 → wpAny (model X.prog X.w) X.A (f v u) Q X.xe s2) :
    wpAny (model X.prog X.w) X.A (eval a X.env) (fun v s₁ => wpAny (model X.prog X.w) X.A (eval b X.env) (fun u s₂ => wpAny (model X.prog X.w) X.A (f v u) Q X.xe s₂) X.xe s₁) X.xe s := by
  refine thn (ha pins s σ H _ I h) fun v s1 ⟨x, H1, I1, r1, q1⟩ => ?_
  refine thn (hb pins s1 σ H1 _ I1 q1) fun u s2 ⟨y, H2, I2, r2, q2⟩ => ?_
  exact hf v u s2 x y H2 I2 r1 r2 q2

theorem pe_op {op : Operator} {r : R2} (ho : OpR X (binaryOp op) r) (ha : PE X a ta) (hb : PE X b tb) : PE X (.BinOp a op b pos) (tOp r ta tb) := by
  intro pins s σ H Q I h
  exact wpAny_BinOp (binT ha hb I h fun v u s2 x y H2 I2 rx ry q => ho pins s2 σ H2 x y v u Q I2 rx ry q)
theorem pe_un {op : UnaryOp} {r : V → Hp → VK → Prop} (ho : UnR X (unaryOp op) r) (ha : PE X a ta) : PE X (.UnaryOp op a pos) (tUn r ta) := by
  intro pins s σ H Q I h
  exact UnaryOp_ (thn (ha pins s σ H _ I h) fun v s1 ⟨x, H1, I1, r1, q1⟩ => ho pins s1 σ H1 x v Q I1 r1 q1)
/-- a op= e at a name: the name's slot i -/
theorem augR {op : Operator} {r : R2} (ho : OpR X (inplaceOp op) r) {pins : List (Addr × Obj)} {s : Shared} {σ : St} {H : Hp} {x y : V} {v u : Value} {Q : VK} (I : Inv X pins σ H s)
    (rx : RelV x v) (ry : RelV y u) (q : r x y H Q) : wpAny (model X.prog X.w) X.A (inplaceOp op v u) (EP X pins σ Q) X.xe s := ho pins s σ H x y v u Q I rx ry q

/-! ### ints -/
theorem opI {f : Value → Value → Sem Value} {C : Int → Int → Prop} {g : Int → Int → Int}
    (rule : ∀ (i j : Int) (t u : Tok) (s : Shared) (Q : Value → Shared → Prop) (E : Value → Shared → Prop), C i j → Q (.int (g i j) s.toks) { s with toks := s.toks + 1 } → wpAny (model X.prog X.w) X.A (f (.int i t) (.int j u)) Q E s) :
    OpR X f (rI C fun i j => .int (g i j)) := by
  intro pins s σ H x y v u Q I rx ry h
  obtain ⟨i, j, rfl, rfl, hc, q⟩ := h
  obtain ⟨t, rfl⟩ := rx
  obtain ⟨t', rfl⟩ := ry
  exact rule i j t t' s _ _ hc ⟨.int (g i j), H, I.tok _, ⟨_, rfl⟩, q⟩
theorem opI0 {f : Value → Value → Sem Value} {g : Int → Int → Int}
    (rule : ∀ (i j : Int) (t u : Tok) (s : Shared) (Q : Value → Shared → Prop) (E : Value → Shared → Prop), Q (.int (g i j) s.toks) { s with toks := s.toks + 1 } → wpAny (model X.prog X.w) X.A (f (.int i t) (.int j u)) Q E s) :
    OpR X f (rI0 fun i j => .int (g i j)) := by
  intro pins s σ H x y v u Q I rx ry h
  obtain ⟨i, j, rfl, rfl, q⟩ := h
  obtain ⟨t, rfl⟩ := rx
  obtain ⟨t', rfl⟩ := ry
  exact rule i j t t' s _ _ ⟨.int (g i j), H, I.tok _, ⟨_, rfl⟩, q⟩
theorem opB0 {f : Value → Value → Sem Value} {g : Int → Int → Bool}
    (rule : ∀ (i j : Int) (t u : Tok) (s : Shared) (Q : Value → Shared → Prop) (E : Value → Shared → Prop), Q (.bool (g i j)) s → wpAny (model X.prog X.w) X.A (f (.int i t) (.int j u)) Q E s) :
    OpR X f (rI0 fun i j => .bl (g i j)) := by
  intro pins s σ H x y v u Q I rx ry h
  obtain ⟨i, j, rfl, rfl, q⟩ := h
  obtain ⟨t, rfl⟩ := rx
  obtain ⟨t', rfl⟩ := ry
  exact rule i j t t' s _ _ ⟨.bl (g i j), H, I, rfl, q⟩

def CDiv (i j : Int) : Prop := 0 < j ∧ j < 1073741824
def CDivN (i j : Int) : Prop := j ≠ 0 ∧ j.natAbs < 1073741824
def CPow (i j : Int) : Prop := 0 ≤ j ∧ j ≤ 1000000 ∧ i.natAbs < 2 ^ 64
def CMul (i j : Int) : Prop := (-(2 ^ 64) < i ∧ i < 2 ^ 64) ∨ (-(2 ^ 64) < j ∧ j < 2 ^ 64)
theorem CMul.ok {i j : Int} (h : CMul i j) : IntMulOk i j := by
  rcases h with ⟨h1, h2⟩ | ⟨h1, h2⟩
  · exact .of_left (intBits_le_64 h1 h2)
  · exact .of_right (intBits_le_64 h1 h2)
theorem two_pow_nn (k : Nat) : (0 : Int) ≤ 2 ^ k := by
  rw [two_pow_cast]
  exact Int.natCast_nonneg _

theorem op_add : OpR X (binaryOp .Add) (rI0 fun i j => .int (i + j)) := opI0 fun _ _ _ _ _ _ _ q => add_int q
theorem op_sub : OpR X (binaryOp .Sub) (rI0 fun i j => .int (i - j)) := opI0 fun _ _ _ _ _ _ _ q => sub_int q
theorem op_mul : OpR X (binaryOp .Mult) (rI CMul fun i j => .int (i * j)) := opI fun _ _ _ _ _ _ _ hc q => mul_int q hc.ok
/-- // by a positive divisor -/
theorem op_fdiv : OpR X (binaryOp .FloorDiv) (rI CDiv fun i j => .int (i / j)) := opI fun i j _ _ _ _ _ hc q => by
  have h1 : (0 : Int) < j := hc.1
  have h2 : j < 1073741824 := hc.2
  exact floordiv_int (by omega) (by rw [Int.fdiv_eq_ediv_of_nonneg i (by omega)]; exact q) (.inl (PyProof.noPylong_small (by omega)))
theorem op_fdivN : OpR X (binaryOp .FloorDiv) (rI CDivN fun i j => .int (i.fdiv j)) := opI fun _ _ _ _ _ _ _ hc q => floordiv_int hc.1 q (.inl (PyProof.noPylong_small hc.2))
/-- % by a positive divisor of any size -/
theorem op_mod : OpR X (binaryOp .Mod) (rI (fun _ j => 0 < j) fun i j => .int (i % j)) := opI fun i j _ _ _ _ _ hc q => by
  have h1 : (0 : Int) < j := hc
  exact mod_int' (by omega) (by rw [Int.fmod_eq_emod_of_nonneg i (by omega)]; exact q)
theorem op_modN : OpR X (binaryOp .Mod) (rI (fun _ j => j ≠ 0) fun i j => .int (i.fmod j)) := opI fun _ _ _ _ _ _ _ hc q => mod_int' hc q
theorem op_pow : OpR X (binaryOp .Pow) (rI CPow fun i j => .int (i ^ j.toNat)) := opI fun _ _ _ _ _ _ _ hc q => pow_int_small hc.1 hc.2.1 hc.2.2 q
theorem op_shl : OpR X (binaryOp .LShift) (rI CPow fun i j => .int (i * 2 ^ j.toNat)) := opI fun _ _ _ _ _ _ _ hc q => lshift_int_small hc.1 hc.2.1 hc.2.2 q
theorem op_shr : OpR X (binaryOp .RShift) (rI (fun _ j => 0 ≤ j) fun i j => .int (i / 2 ^ j.toNat)) := opI fun i j _ _ _ _ _ hc q =>
  rshift_int hc (by rw [Int.fdiv_eq_ediv_of_nonneg i (two_pow_nn _)]; exact q)
theorem op_and : OpR X (binaryOp .BitAnd) (rI0 fun i j => .int (Builtin.bitAnd i j)) := opI0 fun _ _ _ _ _ _ _ q => and_int q
theorem op_or : OpR X (binaryOp .BitOr) (rI0 fun i j => .int (Builtin.bitOr i j)) := opI0 fun _ _ _ _ _ _ _ q => or_int q
theorem op_xor : OpR X (binaryOp .BitXor) (rI0 fun i j => .int (Builtin.bitXor i j)) := opI0 fun _ _ _ _ _ _ _ q => xor_int q

theorem iop_add : OpR X (inplaceOp .Add) (rI0 fun i j => .int (i + j)) := opI0 fun _ _ _ _ _ _ _ q => iadd_int q
theorem iop_sub : OpR X (inplaceOp .Sub) (rI0 fun i j => .int (i - j)) := opI0 fun _ _ _ _ _ _ _ q => isub_int q
theorem iop_mul : OpR X (inplaceOp .Mult) (rI CMul fun i j => .int (i * j)) := opI fun _ _ _ _ _ _ _ hc q => imul_int q hc.ok
theorem iop_fdiv : OpR X (inplaceOp .FloorDiv) (rI CDiv fun i j => .int (i / j)) := opI fun i j _ _ _ _ _ hc q => by
  have h1 : (0 : Int) < j := hc.1
  have h2 : j < 1073741824 := hc.2
  exact ifloordiv_int (by omega) (by rw [Int.fdiv_eq_ediv_of_nonneg i (by omega)]; exact q) (.inl (PyProof.noPylong_small (by omega)))
theorem iop_mod : OpR X (inplaceOp .Mod) (rI (fun _ j => 0 < j) fun i j => .int (i % j)) := opI fun i j _ _ _ _ _ hc q => by
  have h1 : (0 : Int) < j := hc
  exact imod_int (by omega) (by rw [Int.fmod_eq_emod_of_nonneg i (by omega)]; exact q)
theorem iop_shl : OpR X (inplaceOp .LShift) (rI CPow fun i j => .int (i * 2 ^ j.toNat)) := opI fun _ _ _ _ _ _ _ hc q => ilshift_int_small hc.1 hc.2.1 hc.2.2 q
theorem iop_shr : OpR X (inplaceOp .RShift) (rI (fun _ j => 0 ≤ j) fun i j => .int (i / 2 ^ j.toNat)) := opI fun i j _ _ _ _ _ hc q =>
  irshift_int hc (by rw [Int.fdiv_eq_ediv_of_nonneg i (two_pow_nn _)]; exact q)
theorem iop_and : OpR X (inplaceOp .BitAnd) (rI0 fun i j => .int (Builtin.bitAnd i j)) := opI0 fun _ _ _ _ _ _ _ q => iand_int q
theorem iop_or : OpR X (inplaceOp .BitOr) (rI0 fun i j => .int (Builtin.bitOr i j)) := opI0 fun _ _ _ _ _ _ _ q => ior_int q
theorem iop_xor : OpR X (inplaceOp .BitXor) (rI0 fun i j => .int (Builtin.bitXor i j)) := opI0 fun _ _ _ _ _ _ _ q => ixor_int q

theorem unI {f : Value → Sem Value} {g : Int → Int}
    (rule : ∀ (i : Int) (t : Tok) (s : Shared) (Q : Value → Shared → Prop) (E : Value → Shared → Prop), Q (.int (g i) s.toks) { s with toks := s.toks + 1 } → wpAny (model X.prog X.w) X.A (f (.int i t)) Q E s) :
    UnR X f (rU fun i => .int (g i)) := by
  intro pins s σ H x v Q I rx h
  obtain ⟨i, rfl, q⟩ := h
  obtain ⟨t, rfl⟩ := rx
  exact rule i t s _ _ ⟨.int (g i), H, I.tok _, ⟨_, rfl⟩, q⟩
theorem un_neg : UnR X (unaryOp .USub) (rU fun i => .int (-i)) := unI fun _ _ _ _ _ q => neg_int q
theorem un_inv : UnR X (unaryOp .Invert) (rU fun i => .int (Builtin.bitNot i)) := unI fun _ _ _ _ _ q => invert_int q

/-! ### bools among ints: n += (a < b) -/
theorem op_add_ib : OpR X (binaryOp .Add) (fun x y H Q => ∃ i k, x = .int i ∧ y = .bl k ∧ Q (.int (i + b2i k)) H) := by
  intro pins s σ H x y v u Q I rx ry h
  obtain ⟨i, k, rfl, rfl, q⟩ := h
  obtain ⟨t, rfl⟩ := rx
  cases ry
  exact add_int_bool ⟨.int (i + b2i k), H, I.tok _, ⟨_, rfl⟩, q⟩
end

/-! ### comparisons -/
/-- the scalars that == tells apart as data does -/
def scal : V → V → Bool
  | .non, .non => true | .non, .int _ => true | .int _, .non => true | .non, .bl _ => true | .bl _, .non => true | .non, .str _ => true | .str _, .non => true
  | .int _, .int _ => true | .bl _, .bl _ => true | .str _, .str _ => true | .byt _, .byt _ => true
  | .int _, .str _ => true | .str _, .int _ => true | .bl _, .str _ => true | .str _, .bl _ => true
  | _, _ => false
def rEq : R2 := fun x y H Q => scal x y = true ∧ Q (.bl (decide (x = y))) H
def rNe : R2 := fun x y H Q => scal x y = true ∧ Q (.bl (!decide (x = y))) H

theorem dec_int {i j : Int} : decide (V.int i = V.int j) = (i == j) := by
  rw [Bool.eq_iff_iff]
  simp
theorem dec_bl {i j : Bool} : decide (V.bl i = V.bl j) = (i == j) := by
  rw [Bool.eq_iff_iff]
  simp
theorem dec_str {i j : Str} : decide (V.str i = V.str j) = (i == j) := by
  rw [Bool.eq_iff_iff]
  simp
theorem dec_byt {i j : Array UInt8} : decide (V.byt i = V.byt j) = (i.toList == j.toList) := by
  rw [Bool.eq_iff_iff]
  cases i
  cases j
  simp

section
variable {X : Cx} {a b c : Expr} {ta tb tc : TE} {pos : Pos}
theorem fin_bl {pins : List (Addr × Obj)} {σ : St} {H : Hp} {s : Shared} {Q : VK} {k k' : Bool} (I : Inv X pins σ H s) (q : Q (.bl k) H) (e : k = k') : EP X pins σ Q (.bool k') s := by
  subst e
  exact ⟨.bl k, H, I, rfl, q⟩
theorem op_eq : OpR X (compareOp .Eq) rEq := by
  intro pins s σ H x y v u Q I rx ry h
  obtain ⟨hs, q⟩ := h
  cases x with
  | non =>
    cases rx
    cases y with
    | non => cases ry; exact PySem.EqNone.eq_none_none (fin_bl I q (by simp))
    | bl j => cases ry; exact PySem.EqNone.eq_none_bool (fin_bl I q (by simp))
    | int j => obtain ⟨t', rfl⟩ := ry; exact PySem.EqNone.eq_none_int (fin_bl I q (by simp))
    | str j => obtain ⟨t', rfl⟩ := ry; exact PySem.EqNone.eq_none_str (fin_bl I q (by simp))
    | _ => exact absurd (show false = true from hs) Bool.false_ne_true
  | bl i =>
    cases rx
    cases y with
    | non => cases ry; exact PySem.EqNone.eq_bool_none (fin_bl I q (by simp))
    | bl j => cases ry; exact eq_bool (fin_bl I q dec_bl)
    | str j => obtain ⟨t', rfl⟩ := ry; exact PySem.EqMixed.eq_bool_str (fin_bl I q (by simp))
    | _ => exact absurd (show false = true from hs) Bool.false_ne_true
  | int i =>
    obtain ⟨t, rfl⟩ := rx
    cases y with
    | non => cases ry; exact PySem.EqNone.eq_int_none (fin_bl I q (by simp))
    | int j => obtain ⟨t', rfl⟩ := ry; exact eq_int (fin_bl I q dec_int)
    | str j => obtain ⟨t', rfl⟩ := ry; exact PySem.EqMixed.eq_int_str (fin_bl I q (by simp))
    | _ => exact absurd (show false = true from hs) Bool.false_ne_true
  | str i =>
    obtain ⟨t, rfl⟩ := rx
    cases y with
    | non => cases ry; exact PySem.EqNone.eq_str_none (fin_bl I q (by simp))
    | bl j => cases ry; exact PySem.EqMixed.eq_str_bool (fin_bl I q (by simp))
    | int j => obtain ⟨t', rfl⟩ := ry; exact PySem.EqMixed.eq_str_int (fin_bl I q (by simp))
    | str j => obtain ⟨t', rfl⟩ := ry; exact eq_str (fin_bl I q dec_str)
    | _ => exact absurd (show false = true from hs) Bool.false_ne_true
  | byt i =>
    obtain ⟨t, rfl⟩ := rx
    cases y with
    | byt j => obtain ⟨t', rfl⟩ := ry; exact PySem.W.eq_bytes (fin_bl I q dec_byt)
    | _ => exact absurd (show false = true from hs) Bool.false_ne_true
  | _ => cases y <;> exact absurd (show false = true from hs) Bool.false_ne_true
theorem op_ne : OpR X (compareOp .NotEq) rNe := by
  intro pins s σ H x y v u Q I rx ry h
  obtain ⟨hs, q⟩ := h
  cases x with
  | non =>
    cases rx
    cases y with
    | non => cases ry; exact PySem.EqNone.ne_none_none (fin_bl I q (by simp))
    | bl j => cases ry; exact PySem.EqNone.ne_none_bool (fin_bl I q (by simp))
    | int j => obtain ⟨t', rfl⟩ := ry; exact PySem.EqNone.ne_none_int (fin_bl I q (by simp))
    | str j => obtain ⟨t', rfl⟩ := ry; exact PySem.EqNone.ne_none_str (fin_bl I q (by simp))
    | _ => exact absurd (show false = true from hs) Bool.false_ne_true
  | bl i =>
    cases rx
    cases y with
    | non => cases ry; exact PySem.EqNone.ne_bool_none (fin_bl I q (by simp))
    | bl j => cases ry; exact ne_bool (fin_bl I q (congrArg not dec_bl))
    | str j => obtain ⟨t', rfl⟩ := ry; exact PySem.EqMixed.ne_bool_str (fin_bl I q (by simp))
    | _ => exact absurd (show false = true from hs) Bool.false_ne_true
  | int i =>
    obtain ⟨t, rfl⟩ := rx
    cases y with
    | non => cases ry; exact PySem.EqNone.ne_int_none (fin_bl I q (by simp))
    | int j => obtain ⟨t', rfl⟩ := ry; exact ne_int (fin_bl I q (congrArg not dec_int))
    | str j => obtain ⟨t', rfl⟩ := ry; exact PySem.EqMixed.ne_int_str (fin_bl I q (by simp))
    | _ => exact absurd (show false = true from hs) Bool.false_ne_true
  | str i =>
    obtain ⟨t, rfl⟩ := rx
    cases y with
    | non => cases ry; exact PySem.EqNone.ne_str_none (fin_bl I q (by simp))
    | bl j => cases ry; exact PySem.EqMixed.ne_str_bool (fin_bl I q (by simp))
    | int j => obtain ⟨t', rfl⟩ := ry; exact PySem.EqMixed.ne_str_int (fin_bl I q (by simp))
    | str j => obtain ⟨t', rfl⟩ := ry; exact ne_str (fin_bl I q (congrArg not dec_str))
    | _ => exact absurd (show false = true from hs) Bool.false_ne_true
  | byt i =>
    obtain ⟨t, rfl⟩ := rx
    cases y with
    | byt j => obtain ⟨t', rfl⟩ := ry; exact PySem.W.ne_bytes (fin_bl I q (congrArg not dec_byt))
    | _ => exact absurd (show false = true from hs) Bool.false_ne_true
  | _ => cases y <;> exact absurd (show false = true from hs) Bool.false_ne_true

theorem op_lt : OpR X (compareOp .Lt) (rI0 fun i j => .bl (decide (i < j))) := opB0 fun _ _ _ _ _ _ _ q => lt_int q
theorem op_le : OpR X (compareOp .LtE) (rI0 fun i j => .bl (decide (i ≤ j))) := opB0 fun _ _ _ _ _ _ _ q => le_int q
theorem op_gt : OpR X (compareOp .Gt) (rI0 fun i j => .bl (decide (j < i))) := opB0 fun _ _ _ _ _ _ _ q => gt_int q
theorem op_ge : OpR X (compareOp .GtE) (rI0 fun i j => .bl (decide (j ≤ i))) := opB0 fun _ _ _ _ _ _ _ q => ge_int q
theorem op_lt_str : OpR X (compareOp .Lt) (fun x y H Q => ∃ i j, x = .str i ∧ y = .str j ∧ Q (.bl (decide (i.cps.toList < j.cps.toList))) H) := by
  intro pins s σ H x y v u Q I rx ry h
  obtain ⟨i, j, rfl, rfl, q⟩ := h
  obtain ⟨t, rfl⟩ := rx
  obtain ⟨t', rfl⟩ := ry
  exact lt_str (fin_bl I q rfl)
/-- the one string within the other -/
theorem op_in_str : OpR X (compareOp .In) (fun x y H Q => ∃ i j, x = .str i ∧ y = .str j ∧ Q (.bl (!(Builtin.Str.occurrences j i 0 j.length 1).isEmpty)) H) := by
  intro pins s σ H x y v u Q I rx ry h
  obtain ⟨i, j, rfl, rfl, q⟩ := h
  obtain ⟨t, rfl⟩ := rx
  obtain ⟨t', rfl⟩ := ry
  exact in_str (fin_bl I q rfl)

/-- is None, is not None: the right side a value none -/
theorem op_isN : OpR X (compareOp .Is) (fun x y H Q => y = .non ∧ Q (.bl (decide (x = .non))) H) := by
  intro pins s σ H x y v u Q I rx ry h
  obtain ⟨rfl, q⟩ := h
  cases ry
  refine is_none_gen (fin_bl I q ?_)
  cases x <;> first
    | (cases rx; rfl)
    | (obtain ⟨t, rfl⟩ := rx; rfl)
theorem op_notN : OpR X (compareOp .IsNot) (fun x y H Q => y = .non ∧ Q (.bl (!decide (x = .non))) H) := by
  intro pins s σ H x y v u Q I rx ry h
  obtain ⟨rfl, q⟩ := h
  cases ry
  refine isnot_none_gen (fin_bl I q ?_)
  cases x <;> first
    | (cases rx; rfl)
    | (obtain ⟨t, rfl⟩ := rx; rfl)

theorem op_notin_str : OpR X (compareOp .NotIn) (fun x y H Q => ∃ i j, x = .str i ∧ y = .str j ∧ Q (.bl (!(!(Builtin.Str.occurrences j i 0 j.length 1).isEmpty))) H) := by
  intro pins s σ H x y v u Q I rx ry h
  obtain ⟨i, j, rfl, rfl, q⟩ := h
  obtain ⟨t, rfl⟩ := rx
  obtain ⟨t', rfl⟩ := ry
  exact notIn_str (fin_bl I q rfl)
/-- is, is not of two objects that are tracked lists or instances -/
def isObj : HO → Bool
  | .lst _ => true
  | .ins _ _ _ => true
  | _ => false
theorem obj_there {pins : List (Addr × Obj)} {s : Shared} {σ : St} {H : Hp} {a : Addr} {o : HO} (I : Inv X pins σ H s) (h : H a = some o) (p : isObj o = true) : ∃ ob, s.heap.get? a = some ob ∧ ob.cls ≠ .type "tuple" := by
  cases o with
  | lst xs =>
    obtain ⟨_, its, n, _, e⟩ : xs.length ≤ sizeLine ∧ ∃ (its : List Value) (n : Nat), Vals xs its ∧ s.heap.get? a = some { cls := .type "list", data := .seq its.toArray n } := I.hok a _ h
    exact ⟨_, e, (by show Value.type "list" ≠ .type "tuple"; decide +kernel)⟩
  | ins C dx fs =>
    have x := I.hok a _ h
    obtain ⟨_, _, _, e, _⟩ := x
    exact ⟨_, e, (by show Value.ref C ≠ .type "tuple"; exact fun z => by cases z)⟩
  | _ => exact absurd (show false = true from p) Bool.false_ne_true
theorem op_is_ref : OpR X (compareOp .Is) (fun x y H Q => ∃ a b oa ob, x = .ref a ∧ y = .ref b ∧ H a = some oa ∧ isObj oa = true ∧ H b = some ob ∧ isObj ob = true ∧ Q (.bl (decide (a = b))) H) := by
  intro pins s σ H x y v u Q I rx ry h
  obtain ⟨a, b, oa, ob, rfl, rfl, ha, pa, hb, pb, q⟩ := h
  cases rx
  cases ry
  obtain ⟨o1, e1, n1⟩ := obj_there I ha pa
  obtain ⟨o2, e2, _⟩ := obj_there I hb pb
  by_cases z : a = b
  · subst z
    exact wpAny_is_ref_self (fin_bl I q (by simp))
  · exact wpAny_is_ref_other z e1 e2 n1 (fin_bl I q (by simp [z]))
theorem op_isnot_ref : OpR X (compareOp .IsNot) (fun x y H Q => ∃ a b oa ob, x = .ref a ∧ y = .ref b ∧ H a = some oa ∧ isObj oa = true ∧ H b = some ob ∧ isObj ob = true ∧ Q (.bl (!decide (a = b))) H) := by
  intro pins s σ H x y v u Q I rx ry h
  obtain ⟨a, b, oa, ob, rfl, rfl, ha, pa, hb, pb, q⟩ := h
  cases rx
  cases ry
  obtain ⟨o1, e1, n1⟩ := obj_there I ha pa
  obtain ⟨o2, e2, _⟩ := obj_there I hb pb
  by_cases z : a = b
  · subst z
    exact wpAny_isNot_ref_self (fin_bl I q (by simp))
  · exact wpAny_isNot_ref_other z e1 e2 n1 (fin_bl I q (by simp [z]))

/-- two rules for one operation: by cases -/
theorem OpR.or {f : Value → Value → Sem Value} {r r' : R2} (h : OpR X f r) (h' : OpR X f r') : OpR X f (fun x y H Q => r x y H Q ∨ r' x y H Q) := by
  intro pins s σ H x y v u Q I rx ry q
  rcases q with q | q
  · exact h pins s σ H x y v u Q I rx ry q
  · exact h' pins s σ H x y v u Q I rx ry q

theorem nomark (b : Expr) {op : CmpOp} (h : op ≠ .In := by decide) (h2 : op ≠ .NotIn := by decide) : behindInMarks op b = false := by
  have e1 : (op == CmpOp.In) = false := by cases op <;> first | rfl | exact absurd rfl h
  have e2 : (op == CmpOp.NotIn) = false := by cases op <;> first | rfl | exact absurd rfl h2
  cases b <;> simp [behindInMarks, e1, e2]
/-- a comparison as a value; hm: nomark b, or (for in, not in) by with_unfolding_all rfl -/
theorem pe_cmpR {op : CmpOp} {r : R2} (ho : OpR X (compareOp op) r) (ha : PE X a ta) (hb : PE X b tb) (hm : behindInMarks op b = false) : PE X (.Compare a [op] [b] pos) (tOp r ta tb) := by
  intro pins s σ H Q I h
  exact wpAny_Compare1 (binT ha hb I h fun v u s2 x y H2 I2 rx ry q => ho pins s2 σ H2 x y v u Q I2 rx ry q) hm
/-- a reading of a value as a test -/
def tTest (t : TE) : TT := fun σ H Q => t σ H fun x H' => ∃ k, x = .bl k ∧ Q k H'
theorem pt_cmpR {op : CmpOp} {r : R2} (ho : OpR X (compareOp op) r) (ha : PE X a ta) (hb : PE X b tb) (hm : behindInMarks op b = false) : PT X (.Compare a [op] [b] pos) (tTest (tOp r ta tb)) := by
  intro pins s σ H Q I h
  refine wpAny_isTrue_Compare1 (thn (ha pins s σ H _ I h) fun v s1 ⟨x, H1, I1, r1, q1⟩ => thn (hb pins s1 σ H1 _ I1 q1) fun u s2 ⟨y, H2, I2, r2, q2⟩ =>
    thn (ho pins s2 σ H2 x y v u _ I2 r1 r2 q2) fun c s3 ⟨z, H3, I3, r3, k, e, q3⟩ => ?_) hm
  subst e
  cases r3
  exact wpAny_truthy_bool ⟨H3, I3, q3⟩
/-- a op1 b op2 c -/
def tChain (r r' : R2) (ta tb tc : TE) : TE := fun σ H Q => ta σ H fun x H1 => tb σ H1 fun y H2 => r x y H2 fun z H3 => ∃ k, z = .bl k ∧
  (if k = true then tc σ H3 fun w' H4 => r' y w' H4 Q else Q (.bl false) H3)
theorem pe_chain {op op' : CmpOp} {r r' : R2} (ho : OpR X (compareOp op) r) (ho' : OpR X (compareOp op') r') (ha : PE X a ta) (hb : PE X b tb) (hc : PE X c tc)
    (hm : lastMarks [op, op'] [b, c] = false := by with_unfolding_all rfl) : PE X (.Compare a [op, op'] [b, c] pos) (tChain r r' ta tb tc) := by
  intro pins s σ H Q I h
  refine Compare_chain (thn (ha pins s σ H _ I h) fun v s1 ⟨x, H1, I1, r1, q1⟩ => chain_link (thn (hb pins s1 σ H1 _ I1 q1) fun u s2 ⟨y, H2, I2, r2, q2⟩ =>
    thn (ho pins s2 σ H2 x y v u _ I2 r1 r2 q2) fun d s3 ⟨z, H3, I3, r3, k, e, q3⟩ => ?_)) hm
  subst e
  cases r3
  refine wpAny_truthy_bool ?_
  cases k with
  | false => exact ite_ff ⟨.bl false, H3, I3, rfl, q3⟩
  | true => exact ite_tt (chain_last (thn (hc pins s3 σ H3 _ I3 q3) fun w' s4 ⟨z', H4, I4, r4, q4⟩ => ho' pins s4 σ H4 y z' u w' Q I4 r2 r4 q4))
theorem pt_chain {op op' : CmpOp} {r r' : R2} (ho : OpR X (compareOp op) r) (ho' : OpR X (compareOp op') r') (ha : PE X a ta) (hb : PE X b tb) (hc : PE X c tc)
    (hm : lastMarks [op, op'] [b, c] = false := by with_unfolding_all rfl) : PT X (.Compare a [op, op'] [b, c] pos) (tTest (tChain r r' ta tb tc)) := by
  intro pins s σ H Q I h
  refine isTrue_chain (thn (ha pins s σ H _ I h) fun v s1 ⟨x, H1, I1, r1, q1⟩ => test_link (thn (hb pins s1 σ H1 _ I1 q1) fun u s2 ⟨y, H2, I2, r2, q2⟩ =>
    thn (ho pins s2 σ H2 x y v u _ I2 r1 r2 q2) fun d s3 ⟨z, H3, I3, r3, k, e, q3⟩ => ?_)) hm
  subst e
  cases r3
  refine wpAny_truthy_bool ?_
  cases k with
  | false =>
    obtain ⟨k', e', q'⟩ := q3
    cases e'
    exact ite_ff ⟨H3, I3, q'⟩
  | true =>
    refine ite_tt (test_last (thn (hc pins s3 σ H3 _ I3 q3) fun w' s4 ⟨z', H4, I4, r4, q4⟩ => thn (ho' pins s4 σ H4 y z' u w' _ I4 r2 r4 q4) fun d' s5 ⟨z2, H5, I5, r5, k2, e2, q5⟩ => ?_))
    subst e2
    cases r5
    exact wpAny_truthy_bool ⟨H5, I5, q5⟩

/-! ### truth -/
/-- a value's truth by the abstract heap -/
def TruV (K : PySem.W.Frag) (x : V) (H : Hp) (k : Bool) : Prop :=
  match x with
  | .non => k = false
  | .bl b => k = b
  | .int i => k = (i != 0)
  | .str y => y.length ≤ sizeLine ∧ k = ((y.length : Int) != 0)
  | .byt y => y.size ≤ sizeLine ∧ k = ((y.size : Int) != 0)
  | .ref p => (∃ xs, SqL K H p xs ∧ k = !xs.isEmpty) ∨ (∃ xs, SqT K H p xs ∧ k = !xs.isEmpty) ∨ ∃ kvs, H p = some (.dK kvs) ∧ k = !kvs.isEmpty
  | _ => False
theorem isEmpty_kv {κ : Type} {kvs : List (κ × V)} {vs : List (κ × Value)} (r : KV kvs vs) : (!vs.isEmpty) = !kvs.isEmpty := by
  cases r <;> rfl
theorem isEmpty_of {xs : List V} {its : List Value} (r : Vals xs its) : (!its.toArray.isEmpty) = !xs.isEmpty := by
  cases r <;> simp
theorem line63 : (sizeLine : Nat) < 2 ^ 63 := by rw [sizeLine_eq]; decide
theorem tru_ok : TruR X (fun x H Q => ∃ k, TruV X.K x H k ∧ Q k H) := by
  intro pins s σ H x v Q I rx h
  obtain ⟨k, e, q⟩ := h
  have hl := line63
  have hs : sizeLine = 16777216 := sizeLine_eq
  cases x with
  | non =>
    cases rx
    have e' : k = false := e
    subst e'
    exact truthy_none ⟨H, I, q⟩
  | bl b =>
    cases rx
    have e' : k = b := e
    subst e'
    exact wpAny_truthy_bool ⟨H, I, q⟩
  | int i =>
    obtain ⟨t, rfl⟩ := rx
    have e' : k = (i != 0) := e
    subst e'
    exact PySem.P.truthy_int ⟨H, I, q⟩
  | str y =>
    obtain ⟨t, rfl⟩ := rx
    obtain ⟨hy, e'⟩ : y.length ≤ sizeLine ∧ k = ((y.length : Int) != 0) := e
    subst e'
    exact PySem.P.truthy_str (by omega) ⟨H, I.tok _, q⟩
  | byt y =>
    obtain ⟨t, rfl⟩ := rx
    obtain ⟨hy, e'⟩ : y.size ≤ sizeLine ∧ k = ((y.size : Int) != 0) := e
    subst e'
    exact PySem.W.truthy_bytes (by omega) ⟨H, I.tok _, q⟩
  | ref p =>
    cases rx
    have e' : (∃ xs, SqL X.K H p xs ∧ k = !xs.isEmpty) ∨ (∃ xs, SqT X.K H p xs ∧ k = !xs.isEmpty) ∨ ∃ kvs, H p = some (.dK kvs) ∧ k = !kvs.isEmpty := e
    rcases e' with ⟨xs, hx, e'⟩ | ⟨xs, hx, e'⟩ | ⟨kvs, hx, e'⟩
    · subst e'
      obtain ⟨its, r, pl, hz⟩ := I.list hx
      have hlen := r.length
      exact wpAny_truthy_list pl.isList (by simp only [List.size_toArray]; omega) ⟨H, I.tok _, by rw [isEmpty_of r]; exact q⟩
    · subst e'
      obtain ⟨its, r, pl, hz⟩ := I.tuple hx
      have hlen := r.length
      exact truthy_tuple pl (by simp only [List.size_toArray]; omega) ⟨H, I.tok _, by rw [isEmpty_of r]; exact q⟩
    · subst e'
      obtain ⟨hz, hS, vs, r, m⟩ : kvs.length ≤ sizeLine ∧ (p == sysModules) = false ∧ ∃ vs, KV kvs vs ∧ s.heap.DictOf (mixKind X.prog X.w) p vs := I.hok p _ hx
      have hlen : kvs.length = vs.length := Paired.length r
      exact wpAny_truthy_dict hS m (by omega) ⟨H, I.tok _, by rw [isEmpty_kv r]; exact q⟩
  | _ => exact (show False from e).elim
/-- any expression whose test is its value's truth (a name, a call, a subscript, a field ..: he by fun _ => rfl) -/
theorem pt_truth (ha : PE X a ta) (he : ∀ whole, isTrue a X.env whole = (do let v ← whole; standAt a.pos; holding [v] (truthy v))) :
    PT X a (fun σ H Q => ta σ H fun x H' => ∃ k, TruV X.K x H' k ∧ Q k H') := by
  intro pins s σ H Q I h
  exact isTrue_plain (thn (ha pins s σ H _ I h) fun v s1 ⟨x, H1, I1, r1, q1⟩ => tru_ok pins s1 σ H1 x v Q I1 r1 q1) (he _)

/-! ### strs and bytes -/
theorem pe_byt {x : List UInt8} {k : Nat} : PE X (.Constant (.bytes x) k pos) (fun _ H Q => Q (.byt x.toArray) H) := fun _ _ _ H _ I h => PySem.W.Constant_bytes ⟨.byt x.toArray, H, I.tok _, ⟨_, rfl⟩, h⟩
theorem op_add_str : OpR X (binaryOp .Add) (fun x y H Q => ∃ i j, x = .str i ∧ y = .str j ∧ i.length + j.length ≤ sizeLine ∧ Q (.str (i ++ j)) H) := by
  intro pins s σ H x y v u Q I rx ry h
  obtain ⟨i, j, rfl, rfl, hz, q⟩ := h
  obtain ⟨t, rfl⟩ := rx
  obtain ⟨t', rfl⟩ := ry
  exact add_str (fun t' tk => ⟨.str (i ++ j), H, I.tok _, ⟨_, rfl⟩, q⟩) hz
theorem iop_add_str : OpR X (inplaceOp .Add) (fun x y H Q => ∃ i j, x = .str i ∧ y = .str j ∧ i.length + j.length ≤ sizeLine ∧ Q (.str (i ++ j)) H) := by
  intro pins s σ H x y v u Q I rx ry h
  obtain ⟨i, j, rfl, rfl, hz, q⟩ := h
  obtain ⟨t, rfl⟩ := rx
  obtain ⟨t', rfl⟩ := ry
  exact iadd_str (fun t' tk => ⟨.str (i ++ j), H, I.tok _, ⟨_, rfl⟩, q⟩) hz
theorem op_add_byt : OpR X (binaryOp .Add) (fun x y H Q => ∃ i j, x = .byt i ∧ y = .byt j ∧ i.size + j.size ≤ 16777216 ∧ Q (.byt (i ++ j)) H) := by
  intro pins s σ H x y v u Q I rx ry h
  obtain ⟨i, j, rfl, rfl, hz, q⟩ := h
  obtain ⟨t, rfl⟩ := rx
  obtain ⟨t', rfl⟩ := ry
  exact PySem.W.KBy.add_bytes hz (fun t' tk => ⟨.byt (i ++ j), H, I.tok _, ⟨_, rfl⟩, q⟩)

def PlainIxT (b : Expr) : Prop := ∀ o i, subscripted b false o i = operate [o, i] (getItem o i)
/-- s[i], 0 ≤ i < len -/
theorem pe_item_str (ha : PE X a ta) (hb : PE X b tb) (hs : PlainIxT b) :
    PE X (.Subscript a b pos) (tOp (fun x y H Q => ∃ z i c, x = .str z ∧ y = .int i ∧ 0 ≤ i ∧ i < 2 ^ 63 ∧ i < z.length ∧ z.cps[i.toNat]? = some c ∧ Q (.str ⟨#[c]⟩) H) ta tb) := by
  intro pins s σ H Q I h
  refine Subscript_ (binT ha hb I h fun v u s2 x y H2 I2 rx ry q => ?_)
  obtain ⟨z, i, c, rfl, rfl, h0, h63, h1, hc, q⟩ := q
  obtain ⟨t, rfl⟩ := rx
  obtain ⟨t', rfl⟩ := ry
  have e : seqIndex? i z.length = some i.toNat := PySem.StrLaws.seqIndex_nonneg h0 h1
  exact tail_any (typeIs_str s2 z t) slot_str_getitem.lookup (getItem_str (c := c) (by
    have e1 : decide (i < -(2 ^ 63 : Int)) = false := decide_eq_false (by omega)
    have e2 : decide (i ≥ 2 ^ 63) = false := decide_eq_false (by omega)
    rw [e1, e2] <;> rfl) (by rw [e]; exact hc) ⟨.str ⟨#[c]⟩, H2, I2.tok _, ⟨_, rfl⟩, q⟩) (hs _ _)
/-- b[i], 0 ≤ i < len -/
theorem pe_item_byt (ha : PE X a ta) (hb : PE X b tb) (hs : PlainIxT b) :
    PE X (.Subscript a b pos) (tOp (fun x y H Q => ∃ (z : List UInt8) (i : Int), x = .byt z.toArray ∧ y = .int i ∧ z.length ≤ sizeLine ∧ 0 ≤ i ∧ i < z.length ∧ Q (.int ((z.getD i.toNat 0).toNat : Nat)) H) ta tb) := by
  intro pins s σ H Q I h
  refine Subscript_ (binT ha hb I h fun v u s2 x y H2 I2 rx ry q => ?_)
  obtain ⟨z, i, rfl, rfl, hz, h0, h1, q⟩ := q
  obtain ⟨t, rfl⟩ := rx
  obtain ⟨t', rfl⟩ := ry
  have hl : sizeLine = 16777216 := sizeLine_eq
  exact tail_any (PySem.W.typeIs_bytes s2 z.toArray t) PySem.W.FB.slot_bytes_getitem.lookup (PySem.W.getItem_bytes (by omega) h0 h1 ⟨.int ((z.getD i.toNat 0).toNat : Nat), H2, I2.tok _, ⟨_, rfl⟩, q⟩) (hs _ _)

/-! ### scalar builtins, by CallR -/
theorem vals1 {x : V} {us : List Value} (r : Vals [x] us) : ∃ u, us = [u] ∧ RelV x u := by
  cases r with
  | cons r1 r2 => cases r2; exact ⟨_, rfl, r1⟩
theorem vals2 {x y : V} {us : List Value} (r : Vals [x, y] us) : ∃ u w', us = [u, w'] ∧ RelV x u ∧ RelV y w' := by
  cases r with
  | cons r1 r2 =>
    cases r2 with
    | cons r3 r4 => cases r4; exact ⟨_, _, rfl, r1, r3⟩
theorem call_abs : CallR X (.builtin "abs") (fun xs H Q => ∃ i, xs = [.int i] ∧ Q (.int (if i < 0 then -i else i)) H) := by
  intro pins s σ H xs us Q I r h
  obtain ⟨i, rfl, q⟩ := h
  obtain ⟨u, rfl, t, rfl⟩ := vals1 r
  exact call_abs_int fun u tk => ⟨.int (if i < 0 then -i else i), H, I.tok _, ⟨_, rfl⟩, q⟩
theorem call_max2 (hc : X.calm = true) : CallR X (.builtin "max") (fun xs H Q => ∃ i j, xs = [.int i, .int j] ∧ Q (.int (if j > i then j else i)) H) := by
  intro pins s σ H xs us Q I r h
  obtain ⟨i, j, rfl, q⟩ := h
  obtain ⟨u, w', rfl, ⟨t, rfl⟩, ⟨t', rfl⟩⟩ := vals2 r
  refine max_two_ints (I.ok.hd hc) fun h' tk k => ⟨_, H, I.kept k, ?_, q⟩
  by_cases hj : j > i
  · rw [if_pos hj, if_pos hj]; exact ⟨_, rfl⟩
  · rw [if_neg hj, if_neg hj]; exact ⟨_, rfl⟩
theorem call_min2 (hc : X.calm = true) : CallR X (.builtin "min") (fun xs H Q => ∃ i j, xs = [.int i, .int j] ∧ Q (.int (if j < i then j else i)) H) := by
  intro pins s σ H xs us Q I r h
  obtain ⟨i, j, rfl, q⟩ := h
  obtain ⟨u, w', rfl, ⟨t, rfl⟩, ⟨t', rfl⟩⟩ := vals2 r
  refine min_two_ints (I.ok.hd hc) fun h' tk k => ⟨_, H, I.kept k, ?_, q⟩
  by_cases hj : j < i
  · rw [if_pos hj, if_pos hj]; exact ⟨_, rfl⟩
  · rw [if_neg hj, if_neg hj]; exact ⟨_, rfl⟩
theorem call_int1 : CallR X (.type "int") (fun xs H Q => (∃ i, xs = [.int i] ∧ Q (.int i) H) ∨ ∃ k, xs = [.bl k] ∧ Q (.int (if k then 1 else 0)) H) := by
  intro pins s σ H xs us Q I r h
  rcases h with ⟨i, rfl, q⟩ | ⟨k, rfl, q⟩
  · obtain ⟨u, rfl, t, rfl⟩ := vals1 r
    exact call_int_int ⟨.int i, H, I, ⟨_, rfl⟩, q⟩
  · obtain ⟨u, rfl, r1⟩ := vals1 r
    cases r1
    exact call_int_bool ⟨.int (if k then 1 else 0), H, I.tok _, ⟨_, rfl⟩, q⟩
theorem call_bool1 : CallR X (.type "bool") (fun xs H Q => (∃ i, xs = [.int i] ∧ Q (.bl (i != 0)) H) ∨ ∃ k, xs = [.bl k] ∧ Q (.bl k) H) := by
  intro pins s σ H xs us Q I r h
  rcases h with ⟨i, rfl, q⟩ | ⟨k, rfl, q⟩
  · obtain ⟨u, rfl, t, rfl⟩ := vals1 r
    exact call_bool_int ⟨.bl (i != 0), H, I, rfl, q⟩
  · obtain ⟨u, rfl, r1⟩ := vals1 r
    cases r1
    exact call_bool_bool ⟨.bl k, H, I, rfl, q⟩
theorem call_str_int : CallR X (.type "str") (fun xs H Q => ∃ i, xs = [.int i] ∧ i.natAbs.log2 < 1920 ∧ Q (.str (toString i)) H) := by
  intro pins s σ H xs us Q I r h
  obtain ⟨i, rfl, hz, q⟩ := h
  obtain ⟨u, rfl, t, rfl⟩ := vals1 r
  exact PySem.P.str_of_int hz ⟨.str _, H, I.tok _, ⟨_, rfl⟩, q⟩
theorem call_ord : CallR X (.builtin "ord") (fun xs H Q => ∃ x, xs = [.str x] ∧ x.length = 1 ∧ Q (.int (x.cps.getD 0 0 : Nat)) H) := by
  intro pins s σ H xs us Q I r h
  obtain ⟨x, rfl, hz, q⟩ := h
  obtain ⟨u, rfl, t, rfl⟩ := vals1 r
  exact ord_of_one hz ⟨.int _, H, I.tok _, ⟨_, rfl⟩, q⟩
theorem call_chr : CallR X (.builtin "chr") (fun xs H Q => ∃ i, xs = [.int i] ∧ 0 ≤ i ∧ i ≤ 1114111 ∧ Q (.str ⟨#[i.toNat]⟩) H) := by
  intro pins s σ H xs us Q I r h
  obtain ⟨i, rfl, h0, h1, q⟩ := h
  obtain ⟨u, rfl, t, rfl⟩ := vals1 r
  exact chr_of_range h0 h1 ⟨.str _, H, I.tok _, ⟨_, rfl⟩, q⟩
/-- len of a str, a bytes, a list, a tuple -/
def LenV (K : PySem.W.Frag) (x : V) (H : Hp) (n : Nat) : Prop :=
  match x with
  | .str y => y.length ≤ sizeLine ∧ n = y.length
  | .byt y => y.size ≤ sizeLine ∧ n = y.size
  | .ref p => (∃ xs, SqL K H p xs ∧ n = xs.length) ∨ ∃ xs, SqT K H p xs ∧ n = xs.length
  | _ => False
theorem call_len : CallR X (.builtin "len") (fun xs H Q => ∃ x n, xs = [x] ∧ LenV X.K x H n ∧ Q (.int n) H) := by
  intro pins s σ H xs us Q I r h
  obtain ⟨x, n, rfl, e, q⟩ := h
  obtain ⟨u, rfl, rx⟩ := vals1 r
  have hl := line63
  have hs : sizeLine = 16777216 := sizeLine_eq
  cases x with
  | str y =>
    obtain ⟨t, rfl⟩ := rx
    obtain ⟨hy, e'⟩ : y.length ≤ sizeLine ∧ n = y.length := e
    subst e'
    exact len_str (by omega) ⟨.int _, H, I.tok _, ⟨_, rfl⟩, q⟩
  | byt y =>
    obtain ⟨t, rfl⟩ := rx
    obtain ⟨hy, e'⟩ : y.size ≤ sizeLine ∧ n = y.size := e
    subst e'
    exact PySem.W.len_bytes (by omega) ⟨.int _, H, I.tok _, ⟨_, rfl⟩, q⟩
  | ref p =>
    cases rx
    have e' : (∃ xs, SqL X.K H p xs ∧ n = xs.length) ∨ ∃ xs, SqT X.K H p xs ∧ n = xs.length := e
    rcases e' with ⟨xs, hx, e'⟩ | ⟨xs, hx, e'⟩
    · subst e'
      obtain ⟨its, r', pl, hz⟩ := I.list hx
      have hlen := r'.length
      exact Calls.call_len_list pl.isList (by simp only [List.size_toArray]; omega) ⟨.int xs.length, H, I.tok _, ⟨_, by simp only [List.size_toArray]; rw [hlen]⟩, q⟩
    · subst e'
      obtain ⟨its, r', pl, hz⟩ := I.tuple hx
      have hlen := r'.length
      exact len_tuple pl (by simp only [List.size_toArray]; omega) ⟨.int xs.length, H, I.tok _, ⟨_, by simp only [List.size_toArray]; rw [hlen]⟩, q⟩
  | _ => exact (show False from e).elim
/-- divmod: a new tuple -/
theorem call_divmod : CallR X (.builtin "divmod") (fun xs H Q => ∃ i j, xs = [.int i, .int j] ∧ CDiv i j ∧ ∀ p, H p = none → Q (.ref p) (upd H p (.tup [.int (i / j), .int (i % j)]))) := by
  intro pins s σ H xs us Q I r h
  obtain ⟨i, j, rfl, ⟨h1, h2⟩, q⟩ := h
  obtain ⟨u, w', rfl, ⟨t, rfl⟩, ⟨t', rfl⟩⟩ := vals2 r
  refine divmod_int (by omega) ?_ (.inl (PyProof.noPylong_small (by omega)))
  rw [Int.fdiv_eq_ediv_of_nonneg i (by omega), Int.fmod_eq_emod_of_nonneg i (by omega)]
  have hn : H s.heap.objs.size = none := I.hok.fresh (Nat.le_refl _)
  refine ⟨.ref s.heap.objs.size, _, ?_, rfl, q _ hn⟩
  refine I.laid (fun b o e => Heap.get?_push_of_some _ e) (Nat.le_refl _) ⟨by simp only [List.length_cons, List.length_nil]; rw [sizeLine_eq]; decide, [.int (i / j) s.toks, .int (i % j) (s.toks + 1)], .cons ⟨_, rfl⟩ (.cons ⟨_, rfl⟩ .nil), ?_⟩
  exact ⟨_, Heap.get?_push_size s.heap rfl, rfl, 0, rfl⟩
end
end L2

namespace L2
open PySem PySem.Spec PyProof.Rows

/-! ### an instance, its attributes a map -/
structure ObjM (h : Heap) (x dx C : Addr) (mA : Str → Option Value) : Prop where
  obj : h.get? x = some (PySem.W.instObj C dx)
  ns : h.Ns1 dx mA
  ne : dx ≠ x

theorem lookIn_ns {h : Heap} {dx : Addr} {mA : Str → Option Value} (n : h.Ns1 dx mA) : ∃ od, h.get? dx = some od ∧ ∀ name, PySem.W.lookIn name od = some (mA name) := by
  obtain ⟨o, es, ep, ho, hd, hk, _, hm⟩ := n
  refine ⟨o, ho, fun name => ?_⟩
  have e := hm name
  unfold nsFind findBy at e
  rw [← Array.find?_toList] at e
  unfold PySem.W.lookIn
  rw [hd]
  dsimp only
  split
  · rename_i y q
    rw [q] at e
    exact congrArg some e
  · rename_i q
    rw [q] at e
    have a : es.toList.any (·.refKey) = false := by
      rw [List.any_eq_false]
      intro y hy
      obtain ⟨z, t, hkey⟩ := hk y (Array.mem_toList_iff.mp hy)
      simp [DictEntry.refKey, hkey]
    have a' : ¬ es.toList.any (·.refKey) = true := by rw [a]; exact Bool.false_ne_true
    rw [if_neg a']
    exact congrArg some e

theorem ObjM.look {h : Heap} {x dx C : Addr} {mA : Str → Option Value} (I : ObjM h x dx C mA) : ∃ od, PySem.W.InstAt h x (PySem.W.instObj C dx) C (some od) ∧ ∀ name, PySem.W.lookIn name od = some (mA name) :=
  let ⟨od, ho, hl⟩ := lookIn_ns I.ns
  ⟨od, ⟨I.obj, rfl, rfl, ho⟩, hl⟩

section
variable {prog : Program} {w : World} {A : Around} {E : Value → Shared → Prop} {s : Shared} {K : PySem.W.Frag} {x dx C f : Addr} {mA : Str → Option Value} {name : Str} {v : Value}

theorem get_map {expr : Bool} {Q : Value → Shared → Prop} (X : K.In s.heap) (I : ObjM s.heap x dx C mA) (hg : PySem.W.plainGet K C name = true) (hh : PySem.W.hasDictIn K C = true)
    (ha : PySem.W.findIn K (.ref C) name = some none) (hv : mA name = some v) (hv' : PySem.W.handedIn v = true) (h : Q v { s with toks := s.toks + 1 }) :
    wpAny (model prog w) A (getAttr (.ref x) name expr) Q E s := by
  obtain ⟨od, J, hl⟩ := I.look
  exact PySem.W.get_value X J (PySem.W.plainGet_of hg).1 (PySem.W.findObj_own hh ha rfl (by rw [hl, hv])) hv' h

theorem get_const {expr : Bool} {a : Value} {Q : Value → Shared → Prop} (X : K.In s.heap) (I : ObjM s.heap x dx C mA) (hg : PySem.W.plainGet K C name = true) (hh : PySem.W.hasDictIn K C = true)
    (ha : PySem.W.findIn K (.ref C) name = some (some a)) (hn : PySem.W.specialIn K a "__get__" = some none) (hc : PySem.W.copiedNames.contains name = false) (hv : mA name = none) (hv' : PySem.W.handedIn a = true)
    (h : Q a { s with toks := s.toks + 1 }) : wpAny (model prog w) A (getAttr (.ref x) name expr) Q E s := by
  obtain ⟨od, J, hl⟩ := I.look
  exact PySem.W.get_value X J (PySem.W.plainGet_of hg).1 (PySem.W.findObj_cls hh ha hn hv' hc (by rw [hl, hv])) hv' h

theorem get_meth {pl : Sem Bool} {Q : Value × List Value → Shared → Prop} (X : K.In s.heap) (I : ObjM s.heap x dx C mA) (hg : PySem.W.plainGet K C name = true)
    (hf : PySem.W.findIn K (.ref C) name = some (some (.ref f))) (ht : PySem.W.isFn K (.ref f) = true) (hv : mA name = none) (h : Q (.ref f, [.ref x]) s) :
    wpAny (model prog w) A (getMethod (.ref x) name pl) Q E s := by
  obtain ⟨od, J, hl⟩ := I.look
  exact PySem.W.method_fn X J (PySem.W.plainGet_of hg).1 (PySem.W.plainGet_of hg).2 hf (beq_iff_eq.mp ht) (by show (PySem.W.lookIn name od).map (·.isSome) = some false; rw [hl, hv]; rfl) h

theorem set_map {ns : List Str} {Q : Unit → Shared → Prop} (X : K.In s.heap) (I : ObjM s.heap x dx C mA)
    (hs : PySem.W.findIn K (.ref C) "__setattr__" = some (some (.builtin "object.__setattr__"))) (hp : PySem.W.plainOver K C = true) (ht : PySem.W.takerIn K C name = some none) (hh : PySem.W.hasDictIn K C = true)
    (hw : PySem.Within mA ns) (hsz : ns.length ≤ sizeLine)
    (h : ∀ h', ObjM h' x dx C (fun y => if y = name then some v else mA y) → Heap.SameBut dx s.heap h' → Q () { s with heap := h', toks := s.toks + 2 }) :
    wpAny (model prog w) A (setAttr (.ref x) name v) Q E s := by
  obtain ⟨od, J, hl⟩ := I.look
  refine PySem.W.set_plain X J hs (PySem.W.osa_open (s := { s with toks := s.toks + 1 }) (r := none) X J hp ht fun b => ?_)
  obtain ⟨cd, hc, hd'⟩ := PySem.W.any_some hh
  have hx : s.heap.get? x = some ⟨.ref C, some dx, .plain, #[]⟩ := I.obj
  refine wpAny_bind (wpAny_pure (wpAny_bind (wpAny_bind (wpAny_loadPart hx (wpAny_bind (PySem.W.Looks.here (s := { s with toks := s.toks + 1 }) (PySem.W.looks_clsIn X hc) ?_))))))
  rw [hd']
  refine wpAny_pure (a := some dx) (wpAny_bind (wpAny_pure (wpAny_bind ?_)))
  refine wpAny_nsSet1 (s := { s with toks := s.toks + 1 }) I.ns fun h' hn2 hs2 => ?_
  obtain ⟨oD, esD, epD, hoD, hdD, hcD⟩ := hn2.count (PySem.Within.cons name v hw)
  refine wpAny_bind (wpAny_lookBehind hoD (by rw [hdD]; exact pastItsLine_dict (Nat.le_trans hcD (by rw [List.length_cons]; omega))) ?_)
  exact wpAny_pure (h _ ⟨(hs2.2 _ (Ne.symm I.ne)).trans I.obj, hn2, I.ne⟩ hs2)

/-- C(..): the dict at the heap's end, the instance behind it; then its __init__ -/
theorem make_map {R : Result → Shared → Prop} {vs : List Value} {kw : List (Str × Value)} (X : K.In s.heap) (hm : PySem.W.makesIn K C = true)
    (hi : PySem.W.findIn K (.ref C) "__init__" = some (some (.ref f))) (hf : PySem.W.typeIn K (.ref f) = some (.type "function"))
    (h : codeAny (model prog w) (A.under (.builtin "type.__call__" ⟨.ref C :: vs, kw⟩)) (.call (.ref f) ⟨.ref (s.heap.objs.size + 1) :: vs, kw⟩) (PySem.W.InitBack (s.heap.objs.size + 1) R)
      { s with heap := (s.heap.push PySem.W.emptyDict).push (PySem.W.instObj C s.heap.objs.size) }) :
    codeAny (model prog w) A (.call (.ref C) ⟨vs, kw⟩) R s := by
  obtain ⟨hh, g, d, t, os⟩ := s
  exact PySem.W.make_core (PySem.W.makes_of X hm) (PySem.W.looks_findIn X hi) (fun self => PySem.W.bind_fn X self hf) (.inl rfl) h
/-- C() where there is no __init__ but object's -/
theorem make_map0 {R : Result → Shared → Prop} (X : K.In s.heap) (hm : PySem.W.makesIn K C = true)
    (hi : PySem.W.findIn K (.ref C) "__init__" = some (some (.builtin "object.__init__")))
    (hb : ∀ self, PySem.W.Looks (model prog w) s.heap (bindSpecial (.builtin "object.__init__") self) (.builtin "object.__init__", [self]))
    (h : codeAny (model prog w) (A.under (.builtin "type.__call__" ⟨[.ref C], []⟩)) (.call (.builtin "object.__init__") ⟨[.ref (s.heap.objs.size + 1)], []⟩) (PySem.W.InitBack (s.heap.objs.size + 1) R)
      { s with heap := (s.heap.push PySem.W.emptyDict).push (PySem.W.instObj C s.heap.objs.size) }) :
    codeAny (model prog w) A (.call (.ref C) ⟨[], []⟩) R s := by
  obtain ⟨hh, g, d, t, os⟩ := s
  exact PySem.W.make_core (PySem.W.makes_of X hm) (PySem.W.looks_findIn X hi) hb (.inr ⟨rfl, rfl⟩) h
end

/-! ### the attributes as a list of pairs -/
def putF (f : Str) (v : V) : List (Str × V) → List (Str × V)
  | [] => [(f, v)]
  | (g, x) :: r => if g = f then (g, v) :: r else (g, x) :: putF f v r
theorem lookup_putF (f g : Str) (v : V) : ∀ fs : List (Str × V), (putF f v fs).lookup g = if g = f then some v else fs.lookup g
  | [] => by
    show List.lookup g [(f, v)] = _
    by_cases h : g = f
    · have hb : (g == f) = true := beq_iff_eq.mpr h
      simp only [List.lookup, hb, if_pos h]
    · have hb : (g == f) = false := beq_eq_false_iff_ne.mpr h
      simp only [List.lookup, hb, if_neg h]
  | (k, x) :: r => by
    have ih := lookup_putF f g v r
    rw [show putF f v ((k, x) :: r) = (if k = f then (k, v) :: r else (k, x) :: putF f v r) from rfl]
    by_cases hk : k = f
    · rw [if_pos hk]
      by_cases h : g = k
      · have hb : (g == k) = true := beq_iff_eq.mpr h
        simp only [List.lookup, hb, if_pos (h.trans hk)]
      · have hb : (g == k) = false := beq_eq_false_iff_ne.mpr h
        simp only [List.lookup, hb, if_neg (fun e : g = f => h (e.trans hk.symm))]
    · rw [if_neg hk]
      by_cases h : g = k
      · have hb : (g == k) = true := beq_iff_eq.mpr h
        simp only [List.lookup, hb, if_neg (fun e : g = f => hk (h.symm.trans e))]
      · have hb : (g == k) = false := beq_eq_false_iff_ne.mpr h
        simp only [List.lookup, hb]
        exact ih
theorem keys_putF (f : Str) (v : V) : ∀ fs : List (Str × V), f ∈ (putF f v fs).map (·.1) ∧ ∀ g, g ∈ fs.map (·.1) → g ∈ (putF f v fs).map (·.1)
  | [] => ⟨by simp [putF], fun g h => by simp at h⟩
  | (k, x) :: r => by
    obtain ⟨i1, i2⟩ := keys_putF f v r
    rw [show putF f v ((k, x) :: r) = (if k = f then (k, v) :: r else (k, x) :: putF f v r) from rfl]
    by_cases hk : k = f
    · rw [if_pos hk]
      subst hk
      exact ⟨by simp, fun g h => by simpa using h⟩
    · rw [if_neg hk]
      refine ⟨?_, fun g h => ?_⟩
      · rw [List.map_cons]
        exact List.mem_cons_of_mem _ i1
      · rw [List.map_cons] at h ⊢
        rcases List.mem_cons.mp h with e | e
        · exact List.mem_cons.mpr (.inl e)
        · exact List.mem_cons_of_mem _ (i2 g e)
theorem length_putF (f : Str) (v : V) : ∀ fs : List (Str × V), (putF f v fs).length ≤ fs.length + 1
  | [] => by simp [putF]
  | (k, x) :: r => by
    have ih := length_putF f v r
    rw [show putF f v ((k, x) :: r) = (if k = f then (k, v) :: r else (k, x) :: putF f v r) from rfl]
    by_cases hk : k = f
    · rw [if_pos hk, List.length_cons, List.length_cons]; omega
    · rw [if_neg hk, List.length_cons, List.length_cons]; omega

theorem RelO.some_of {v : V} {o : Option Value} (r : RelO (some v) o) : ∃ u, o = some u ∧ RelV v u := by
  cases o with
  | none => exact (show False from r).elim
  | some u => exact ⟨u, rfl, r⟩
theorem RelO.none_of {o : Option Value} (r : RelO none o) : o = none := by
  cases o with
  | none => rfl
  | some u => exact (show False from r).elim
theorem handed_of {v : V} {u : Value} (r : RelV v u) : PySem.W.handedIn u = true := by
  cases v with
  | non => cases (show u = Value.none from r); rfl
  | bl b => cases (show u = Value.bool b from r); rfl
  | int i => obtain ⟨t, e⟩ := (show ∃ t, u = Value.int i t from r); cases e; rfl
  | str x => obtain ⟨t, e⟩ := (show ∃ t, u = Value.str x t from r); cases e; rfl
  | byt b => obtain ⟨t, e⟩ := (show ∃ t, u = Value.bytes b t from r); cases e; rfl
  | flt b => obtain ⟨t, e⟩ := (show ∃ t, u = Value.float b t from r); cases e; rfl
  | ref a => cases (show u = Value.ref a from r); rfl
  | ty n => cases (show u = Value.type n from r); rfl

section
variable {P : Program} {w : World} {H H' : Hp} {h h' : Heap} {a C dx : Addr} {fs fs' : List (Str × V)}
theorem ins_get (hok : HOk P w H h) (e : H a = some (.ins C dx fs)) : ∃ mA, ObjM h a dx C mA ∧ (∀ f, RelO (fs.lookup f) (mA f)) ∧ PySem.Within mA (fs.map (·.1)) ∧ fs.length ≤ 1000 ∧ H dx = some (.own a) := by
  obtain ⟨d, z, ne, ob, mA, n, r, q⟩ := (show ObjOk P w H h a (.ins C dx fs) from hok a _ e)
  exact ⟨mA, ⟨ob, n, ne⟩, r, q, z, d⟩
end

/-! ### what of the text a class must have -/
structure Cls (K : PySem.W.Frag) (C : Addr) : Prop where
  pg : PySem.W.plainGet K C Str.empty = true
  hd : PySem.W.hasDictIn K C = true
  po : PySem.W.plainOver K C = true
  sa : PySem.W.findIn K (.ref C) "__setattr__" = some (some (.builtin "object.__setattr__"))
theorem Cls.get {K : PySem.W.Frag} {C : Addr} (c : Cls K C) (f : Str) : PySem.W.plainGet K C f = true := c.pg
/-- no class of it has the name -/
def NoAttr (K : PySem.W.Frag) (C : Addr) (f : Str) : Prop := PySem.W.findIn K (.ref C) f = some none
theorem NoAttr.taker {K : PySem.W.Frag} {C : Addr} {f : Str} (n : NoAttr K C f) : PySem.W.takerIn K C f = some none := by
  unfold PySem.W.takerIn
  rw [show PySem.W.findIn K (.ref C) f = some none from n]
  rfl
/-- a constant of the class -/
structure Con (K : PySem.W.Frag) (C : Addr) (f : Str) (v : V) (u : Value) : Prop where
  at_ : PySem.W.findIn K (.ref C) f = some (some u)
  rel : RelV v u
  get : PySem.W.specialIn K u "__get__" = some none
  cp : PySem.W.copiedNames.contains f = false
/-- a method: a plain def of the class or of one above it -/
structure Meth (K : PySem.W.Frag) (C : Addr) (m : Str) (f : Addr) : Prop where
  at_ : PySem.W.findIn K (.ref C) m = some (some (.ref f))
  fn : PySem.W.isFn K (.ref f) = true
  kp : PySem.W.keepIn K (.ref f) = true

section
variable {X : Cx} {pins : List (Addr × Obj)} {σ : St} {H : Hp} {s : Shared} {a C dx : Addr} {fs : List (Str × V)} {f : Str} {v : V} {A : Around} {E : Value → Shared → Prop}

theorem getattr_ok {b : Bool} {Q : Value → Shared → Prop} (I : Inv X pins σ H s) (e : H a = some (.ins C dx fs)) (c : Cls X.K C) (n : NoAttr X.K C f) (l : fs.lookup f = some v)
    (h : ∀ u s', Inv X pins σ H s' → RelV v u → Q u s') : wpAny (model X.prog X.w) A (getAttr (.ref a) f b) Q E s := by
  obtain ⟨mA, O, r, _, _, _⟩ := ins_get I.hok e
  obtain ⟨u, hu, ru⟩ := RelO.some_of (v := v) (o := mA f) (by rw [← l]; exact r f)
  exact get_map I.kIn O (c.get f) c.hd n hu (handed_of ru) (h u _ (I.tok _) ru)

theorem getcon_ok {b : Bool} {u : Value} {Q : Value → Shared → Prop} (I : Inv X pins σ H s) (e : H a = some (.ins C dx fs)) (c : Cls X.K C) (k : Con X.K C f v u) (l : fs.lookup f = none)
    (h : ∀ s', Inv X pins σ H s' → Q u s') : wpAny (model X.prog X.w) A (getAttr (.ref a) f b) Q E s := by
  obtain ⟨mA, O, r, _, _, _⟩ := ins_get I.hok e
  have hn : mA f = none := RelO.none_of (by rw [← l]; exact r f)
  exact get_const I.kIn O (c.get f) c.hd k.at_ k.get k.cp hn (handed_of k.rel) (h _ (I.tok _))

theorem getmeth_ok {m : Str} {g : Addr} {pl : Sem Bool} {Q : Value × List Value → Shared → Prop} (I : Inv X pins σ H s) (e : H a = some (.ins C dx fs)) (c : Cls X.K C) (k : Meth X.K C m g) (l : fs.lookup m = none)
    (h : Q (.ref g, [.ref a]) s) : wpAny (model X.prog X.w) A (getMethod (.ref a) m pl) Q E s := by
  obtain ⟨mA, O, r, _, _, _⟩ := ins_get I.hok e
  have hn : mA m = none := RelO.none_of (by rw [← l]; exact r m)
  exact get_meth I.kIn O (c.get m) k.at_ k.fn hn h

theorem setattr_ok {y : V} {u : Value} {Q : Unit → Shared → Prop} (I : Inv X pins σ H s) (e : H a = some (.ins C dx fs)) (c : Cls X.K C) (n : NoAttr X.K C f) (hl : fs.length < 1000) (ry : RelV y u)
    (h : ∀ s', Inv X pins σ (upd H a (.ins C dx (putF f y fs))) s' → Q () s') : wpAny (model X.prog X.w) A (setAttr (.ref a) f u) Q E s := by
  obtain ⟨mA, O, r, wi, _, ho⟩ := ins_get I.hok e
  have hz : (fs.map (·.1)).length ≤ sizeLine := by rw [List.length_map, sizeLine_eq]; omega
  refine set_map I.kIn O c.sa c.po n.taker c.hd wi hz fun h' O' sb => h _ ?_
  have hd : ∃ o, h'.get? dx = some o := let ⟨o, _, _, e', _⟩ := O'.ns; ⟨o, e'⟩
  refine I.write (x := a) (e := dx) (by rw [e]; exact True.intro) (.inr ho) (fun b q hb z => (sb.2 b hb).trans z) hd ?_
  refine ⟨by rw [upd_ne O.ne]; exact ho, ?_, O.ne, O'.obj, _, O'.ns, fun g => ?_, fun g hg => ?_⟩
  · have := length_putF f y fs; omega
  · show RelO ((putF f y fs).lookup g) (if g = f then some u else mA g)
    rw [lookup_putF]
    by_cases q : g = f
    · rw [if_pos q, if_pos q]; exact ry
    · rw [if_neg q, if_neg q]; exact r g
  · by_cases q : g = f
    · rw [q]; exact (keys_putF f y fs).1
    · refine (keys_putF f y fs).2 g (wi g fun z => hg ?_)
      show (if g = f then some u else mA g) = none
      rw [if_neg q]; exact z

/-- a new instance, tracked, without attributes -/
theorem Inv.made (I : Inv X pins σ H s) : Inv X pins σ (upd (upd H s.heap.objs.size (.own (s.heap.objs.size + 1))) (s.heap.objs.size + 1) (.ins C s.heap.objs.size []))
    { s with heap := (s.heap.push PySem.W.emptyDict).push (PySem.W.instObj C s.heap.objs.size) } := by
  have e1 : (s.heap.push PySem.W.emptyDict).get? s.heap.objs.size = some PySem.W.emptyDict := Heap.get?_push_size s.heap rfl
  have e2 : ((s.heap.push PySem.W.emptyDict).push (PySem.W.instObj C s.heap.objs.size)).get? (s.heap.objs.size + 1) = some (PySem.W.instObj C s.heap.objs.size) := by
    have := Heap.get?_push_size (s.heap.push PySem.W.emptyDict) (o := PySem.W.instObj C s.heap.objs.size) rfl
    rwa [Heap.size_push] at this
  have e3 : (s.heap.push PySem.W.emptyDict).Ns s.heap.objs.size (fun _ => none) := ⟨PySem.W.emptyDict, #[], _, e1, rfl, (fun e he => absurd he (by simp)), fun _ => rfl⟩
  have I1 := I.laid (a := s.heap.objs.size) (o := .own (s.heap.objs.size + 1)) (h' := s.heap.push PySem.W.emptyDict) (t' := s.toks) (fun b u q => Heap.get?_push_of_some _ q) (Nat.le_refl _) ⟨_, e1⟩
  refine I1.laid (a := s.heap.objs.size + 1) (o := .ins C s.heap.objs.size []) (t' := s.toks) (fun b u q => Heap.get?_push_of_some _ q) (Nat.le_of_eq (Heap.size_push _ _)) ?_
  have ne : s.heap.objs.size ≠ s.heap.objs.size + 1 := Nat.ne_of_lt (Nat.lt_succ_self _)
  refine ⟨by rw [upd_ne ne, upd_same], Nat.zero_le _, ne, e2, fun _ => none, (Heap.Ns1.of_empty e3).at fun o q => Heap.get?_push_of_some _ q, fun _ => True.intro, fun y hy => absurd rfl hy⟩

/-- e.f where nothing but the object is asked: through attributeBase (super) and the last hold -/
theorem attr_of {prog : Program} {w : World} {env : Env} {e : Expr} {f : Str} {pos : Pos} {s : Shared} {Q : Value → Shared → Prop} (hb : attributeBase e f env (eval e env) = eval e env)
    (h : wpAny (model prog w) A (eval e env) (fun o s₁ => wpAny (model prog w) A (getAttr o f true) Q E s₁) E s) : wpAny (model prog w) A (eval (.Attribute e f pos) env) Q E s :=
  Attribute_any_ h (by rw [arm_eval_Attribute, hb])
end

/-! ### readings and rules -/
/-- e.f, an attribute of the instance -/
def tFld (K : PySem.W.Frag) (ta : TE) (f : Str) : TE := fun σ H Q => ta σ H fun x H1 => ∃ a C dx fs v, x = .ref a ∧ H1 a = some (.ins C dx fs) ∧ Cls K C ∧ NoAttr K C f ∧ fs.lookup f = some v ∧ Q v H1
/-- e.f, a constant of the class -/
def tCon (K : PySem.W.Frag) (ta : TE) (f : Str) : TE := fun σ H Q => ta σ H fun x H1 => ∃ a C dx fs v u, x = .ref a ∧ H1 a = some (.ins C dx fs) ∧ Cls K C ∧ Con K C f v u ∧ fs.lookup f = none ∧ Q v H1
/-- e.f = value -/
def sFld (K : PySem.W.Frag) (ta tv : TE) (f : Str) : TS := fun D σ H => tv σ H fun y H1 => ta σ H1 fun x H2 => ∃ a C dx fs, x = .ref a ∧ H2 a = some (.ins C dx fs) ∧ Cls K C ∧ NoAttr K C f ∧ fs.length < 1000 ∧
  D.nx σ (upd H2 a (.ins C dx (putF f y fs)))
/-- an augmented operator on two values -/
def InOp (X : Cx) (op : Operator) (rd : V → V → Hp → VK → Prop) : Prop :=
  ∀ (pins : List (Addr × Obj)) (s : Shared) (σ : St) (H : Hp) (x y : V) (u v : Value) (Q : VK), Inv X pins σ H s → RelV x u → RelV y v → rd x y H Q → wpAny (model X.prog X.w) X.A (inplaceOp op u v) (EP X pins σ Q) X.xe s
/-- e.f op= value -/
def sFldAug (K : PySem.W.Frag) (ta tv : TE) (rd : V → V → Hp → VK → Prop) (f : Str) : TS := fun D σ H => ta σ H fun x H1 => ∃ a C dx fs v, x = .ref a ∧ H1 a = some (.ins C dx fs) ∧ Cls K C ∧ NoAttr K C f ∧ fs.lookup f = some v ∧
  tv σ H1 fun y H2 => rd v y H2 fun z H3 => ∃ dx' fs', H3 a = some (.ins C dx' fs') ∧ fs'.length < 1000 ∧ D.nx σ (upd H3 a (.ins C dx' (putF f z fs')))

section
variable {X : Cx} {o e value : Expr} {f : Str} {pos pos' tpos : Pos} {ta tv : TE}
theorem pe_fld (he : PE X e ta) (hb : attributeBase e f X.env (eval e X.env) = eval e X.env) : PE X (.Attribute e f pos) (tFld X.K ta f) := by
  intro pins s σ H Q I h
  refine attr_of hb (thn (he pins s σ H _ I h) fun u s1 ⟨x, H1, I1, rx, a, C, dx, fs, v, ex, ea, c, n, l, q⟩ => ?_)
  subst ex
  obtain rfl : u = Value.ref a := rx
  exact getattr_ok I1 ea c n l fun u' s2 I2 ru => ⟨v, H1, I2, ru, q⟩
theorem pe_con (he : PE X e ta) (hb : attributeBase e f X.env (eval e X.env) = eval e X.env) : PE X (.Attribute e f pos) (tCon X.K ta f) := by
  intro pins s σ H Q I h
  refine attr_of hb (thn (he pins s σ H _ I h) fun u s1 ⟨x, H1, I1, rx, a, C, dx, fs, v, u0, ex, ea, c, k, l, q⟩ => ?_)
  subst ex
  obtain rfl : u = Value.ref a := rx
  exact getcon_ok I1 ea c k l fun s2 I2 => ⟨v, H1, I2, k.rel, q⟩
theorem ps_fld (ha : PE X o ta) (hv : PE X value tv) (hs : swapsWith value (some (.Attribute o f pos')) pos.line X.env = pure false) : PS X (.Assign [.Attribute o f pos'] value pos) (sFld X.K ta tv f) := by
  intro pins s σ H D I h
  refine plainObj_wpAny_Assign_Attribute (thn (hv pins s σ H _ I h) fun u s1 ⟨y, H1, I1, ry, q⟩ => thn (ha pins s1 σ H1 _ I1 q) fun ov s2 ⟨x, H2, I2, rx, a, C, dx, fs, ex, ea, c, n, l, q2⟩ => ?_) hs
  subst ex
  obtain rfl : ov = Value.ref a := rx
  exact setattr_ok I2 ea c n l ry fun s3 I3 => ⟨σ, _, I3, q2⟩
theorem ps_fldaug {op : Operator} {rd : V → V → Hp → VK → Prop} (ha : PE X o ta) (hv : PE X value tv) (hop : InOp X op rd) : PS X (.AugAssign (.Attribute o f tpos) op value pos) (sFldAug X.K ta tv rd f) := by
  intro pins s σ H D I h
  refine wpAny_AugAssign_AttributeAny (thn (ha pins s σ H _ I h) fun ov s1 ⟨x, H1, I1, rx, a, C, dx, fs, v, ex, ea, c, n, l, q⟩ => ?_)
  subst ex
  obtain rfl : ov = Value.ref a := rx
  refine getattr_ok I1 ea c n l fun u s2 I2 ru => thn (hv pins s2 σ H1 _ I2 q) fun w3 s3 ⟨y, H2, I3, ry, q3⟩ => thn (hop pins s3 σ H2 v y u w3 _ I3 ru ry q3) fun w4 s4 ⟨z, H3, I4, rz, dx', fs', ea', l', q4⟩ => ?_
  exact setattr_ok I4 ea' c n l' rz fun s5 I5 => ⟨σ, _, I5, q4⟩
def rAdd : V → V → Hp → VK → Prop := fun x y H Q => ∃ i j, x = .int i ∧ y = .int j ∧ Q (.int (i + j)) H
def rSub : V → V → Hp → VK → Prop := fun x y H Q => ∃ i j, x = .int i ∧ y = .int j ∧ Q (.int (i - j)) H
theorem in_add : InOp X .Add rAdd := by
  rintro pins s σ H x y u v Q I rx ry ⟨i, j, rfl, rfl, q⟩
  obtain ⟨t, rfl⟩ := (show ∃ t, u = Value.int i t from rx)
  obtain ⟨t', rfl⟩ := (show ∃ t', v = Value.int j t' from ry)
  exact PyProof.Rows.iadd_int ⟨.int (i + j), H, I.tok _, ⟨_, rfl⟩, q⟩
theorem in_sub : InOp X .Sub rSub := by
  rintro pins s σ H x y u v Q I rx ry ⟨i, j, rfl, rfl, q⟩
  obtain ⟨t, rfl⟩ := (show ∃ t, u = Value.int i t from rx)
  obtain ⟨t', rfl⟩ := (show ∃ t', v = Value.int j t' from ry)
  exact PyProof.Rows.isub_int ⟨.int (i - j), H, I.tok _, ⟨_, rfl⟩, q⟩

/-- what is between an instance and its method: the tree of a method call -/
theorem methcall_of {pl : Sem Bool} {m : Str} {apos : Pos} {args : List Expr} {pins : List (Addr × Obj)} {s : Shared} {σ : St} {H : Hp} {Q : Value → Shared → Prop} {te : TE} (he : PE X e te) (I : Inv X pins σ H s)
    (h : te σ H fun x H1 => ∃ a C dx fs g, x = .ref a ∧ H1 a = some (.ins C dx fs) ∧ Cls X.K C ∧ Meth X.K C m g ∧ fs.lookup m = none ∧
      ∀ s1, Inv X pins σ H1 s1 → wpAny (model X.prog X.w) X.A (callWith pos (.ref g) [.ref a] (backTo pos (starEach args X.env)) (backToKw pos (keywordEach [] X.env))) Q X.xe s1)
    (ht : eval (.Call (.Attribute e m apos) args [] pos) X.env = (do
      let ov ← eval e X.env
      standAt apos.atName
      let (f, first) ← holding [ov] (getMethod ov m pl)
      callWith pos f first (backTo pos (starEach args X.env)) (backToKw pos (keywordEach [] X.env)))) :
    wpAny (model X.prog X.w) X.A (eval (.Call (.Attribute e m apos) args [] pos) X.env) Q X.xe s := by
  refine PySem.W.methodCall_KW (pl := pl) (thn (he pins s σ H _ I h) fun u s1 ⟨x, H1, I1, rx, a, C, dx, fs, g, ex, ea, c, k, l, q⟩ => ?_) ht
  subst ex
  obtain rfl : u = Value.ref a := rx
  exact getmeth_ok I1 ea c k l (q s1 I1)
end

/-! ### isinstance -/
section
variable {X : Cx} {pins : List (Addr × Obj)} {σ : St} {H : Hp} {s : Shared} {A : Around} {E : Value → Shared → Prop} {Q : Value → Shared → Prop} {c : Value} {b : Bool}
/-- the type of a value, as the fragment's deciders take it; for an instance its class -/
inductive TyOf (K : PySem.W.Frag) (H : Hp) : V → Value → Prop where
  | non : TyOf K H .non (.type "NoneType")
  | bl (x : Bool) : TyOf K H (.bl x) (.type "bool")
  | int (i : Int) : TyOf K H (.int i) (.type "int")
  | str (x : Str) : TyOf K H (.str x) (.type "str")
  | flt (x : UInt64) : TyOf K H (.flt x) (.type "float")
  | lst {a : Addr} {xs : List V} (e : H a = some (.lst xs)) : TyOf K H (.ref a) (.type "list")
  | frz {a : Addr} {o : Obj} {xs : List V} (e : H a = some (.frz o (.lst xs))) : TyOf K H (.ref a) (.type "list")
  | tup {a : Addr} {xs : List V} (e : H a = some (.tup xs)) : TyOf K H (.ref a) (.type "tuple")
  | dK {a : Addr} {kvs : List (Key × V)} (e : H a = some (.dK kvs)) : TyOf K H (.ref a) (.type "dict")
  | dT {a : Addr} {kvs : List (List Key × V)} (e : H a = some (.dT kvs)) : TyOf K H (.ref a) (.type "dict")
  | ins {a C dx : Addr} {fs : List (Str × V)} (e : H a = some (.ins C dx fs)) (cl : Cls K C) (ha : PySem.W.findIn K (.ref C) "__class__" = some (some (.builtin "object.__class__")))
      (hn : PySem.W.specialIn K (.builtin "object.__class__") "__get__" = some (some (.builtin "getset_descriptor.__get__"))) (htk : PySem.W.takesIn K (.builtin "object.__class__") = some true)
      (hm : PySem.W.mroIn K C (.type "object") = some true) : TyOf K H (.ref a) (.ref C)
/-- isinstance(x, c) for one class c, a built-in or an own one: kitOne's answer -/
theorem isinst_ok {x : V} {u t : Value} (I : Inv X pins σ H s) (rx : RelV x u) (ty : TyOf X.K H x t) (e : PySem.W.kitOne X.K t c = some b) (h : ∀ tk, Q (.bool b) { s with toks := tk }) :
    wpAny (model X.prog X.w) A (call (.builtin "isinstance") [u, c]) Q E s := by
  cases ty with
  | non => cases (show u = Value.none from rx); exact PySem.W.kia_one PySem.W.kitx_none I.kIn True.intro e (fun z => nomatch z) h
  | bl y => cases (show u = Value.bool y from rx); exact PySem.W.kia_one PySem.W.kitx_bool I.kIn True.intro e (fun z => nomatch z) h
  | int i => obtain ⟨t, q⟩ := (show ∃ t, u = Value.int i t from rx); cases q; exact PySem.W.kia_one PySem.W.kitx_int I.kIn True.intro e (fun z => nomatch z) h
  | str y => obtain ⟨t, q⟩ := (show ∃ t, u = Value.str y t from rx); cases q; exact PySem.W.kia_one PySem.W.kitx_str I.kIn True.intro e (fun z => nomatch z) h
  | flt y => obtain ⟨t, q⟩ := (show ∃ t, u = Value.float y t from rx); cases q; exact PySem.W.kia_one PySem.W.kitx_float I.kIn True.intro e (fun z => nomatch z) h
  | @lst a xs ea =>
    cases (show u = Value.ref a from rx)
    obtain ⟨_, _, n, _, h1⟩ := (show ObjOk X.prog X.w H s.heap a (.lst xs) from I.hok a _ ea)
    exact PySem.W.kia_one PySem.W.kitx_list I.kIn ⟨_, h1, rfl⟩ e (fun z => nomatch z) h
  | @frz a ob xs ea =>
    cases (show u = Value.ref a from rx)
    obtain ⟨_, _, _, n, _, h1⟩ := (show ObjOk X.prog X.w H s.heap a (.frz ob (.lst xs)) from I.hok a _ ea)
    exact PySem.W.kia_one PySem.W.kitx_list I.kIn ⟨_, h1, rfl⟩ e (fun z => nomatch z) h
  | @tup a xs ea =>
    cases (show u = Value.ref a from rx)
    obtain ⟨_, _, _, p⟩ := (show ObjOk X.prog X.w H s.heap a (.tup xs) from I.hok a _ ea)
    obtain ⟨o, h1, h2, _⟩ := p
    exact PySem.W.kia_one PySem.W.kitx_tuple I.kIn ⟨o, h1, h2⟩ e (fun z => nomatch z) h
  | @dK a kvs ea =>
    cases (show u = Value.ref a from rx)
    obtain ⟨_, _, vs, _, p⟩ := (show ObjOk X.prog X.w H s.heap a (.dK kvs) from I.hok a _ ea)
    obtain ⟨o, es, ep, h1, h2, _⟩ := p
    exact PySem.W.kia_one PySem.W.kitx_dict I.kIn ⟨o, h1, h2.1⟩ e (fun z => nomatch z) h
  | @dT a kvs ea =>
    cases (show u = Value.ref a from rx)
    obtain ⟨_, _, xs, _, o, es, ep, h1, h2, _⟩ := (show ObjOk X.prog X.w H s.heap a (.dT kvs) from I.hok a _ ea)
    exact PySem.W.kia_one PySem.W.kitx_dict I.kIn ⟨o, h1, h2.1⟩ e (fun z => nomatch z) h
  | @ins a C dx fs ea cl ha hn htk hm =>
    cases (show u = Value.ref a from rx)
    obtain ⟨mA, O, _⟩ := ins_get I.hok ea
    obtain ⟨od, J, _⟩ := O.look
    exact PySem.W.kia_one (PySem.W.kitx_own (cl.get _) cl.hd ha hn htk hm) I.kIn J e (fun z => nomatch z) h
end
end L2

namespace L2
open PySem PySem.Spec PyProof.Rows

/-! ### room -/
structure Room (k : Nat) (A : Around) : Prop where
  hd : A.handled = none
  dp : A.depth + 3 * k + 5 < recursionLimit
  un : A.units + 16 * k + 200 < cLine
theorem Room.mono {j k : Nat} {A : Around} (r : Room k A) (h : j ≤ k) : Room j A := ⟨r.hd, by have := r.dp; omega, by have := r.un; omega⟩
theorem Room.deeper {k : Nat} {A : Around} (r : Room (k + 1) A) (env : Env) : Room k (A.deeper env) :=
  ⟨r.hd, by have := r.dp; show A.depth + 1 + 3 * k + 5 < _; omega, by have := r.un; show A.units + 3 + 16 * k + 200 < _; omega⟩
theorem Room.in1 {k : Nat} {A : Around} (r : Room (k + 1) A) : Room k A.in1 :=
  ⟨r.hd, by have := r.dp; show A.depth + 3 * k + 5 < _; omega, by have := r.un; show A.units + 1 + 16 * k + 200 < _; omega⟩
theorem make_depth {A : Around} {C : Addr} {us : List Value} {kw : List (Str × Value)} : (A.under (.builtin "type.__call__" ⟨.ref C :: us, kw⟩)).depth = A.depth + 1 := by
  first | rfl | simp [Around.under, Code.weight, Code.isCreation, Code.isGuard, Code.isCaller, Code.frames, Code.isFrame, guardIds]
theorem make_units {A : Around} {C : Addr} {us : List Value} {kw : List (Str × Value)} : (A.under (.builtin "type.__call__" ⟨.ref C :: us, kw⟩)).units = A.units + 1 := by
  first | rfl | simp [Around.under, Code.cUnits, Code.frames, Code.isFrame]
theorem Room.make {k : Nat} {A : Around} (r : Room (k + 1) A) (C : Addr) (us : List Value) (kw : List (Str × Value)) : Room k (A.under (.builtin "type.__call__" ⟨.ref C :: us, kw⟩)) :=
  ⟨r.hd, by have := r.dp; rw [make_depth]; omega, by have := r.un; rw [make_units]; omega⟩
theorem Room.depth {k : Nat} {A : Around} (r : Room k A) : A.depth < recursionLimit := by have := r.dp; omega
theorem Room.units {k : Nat} {A : Around} (r : Room k A) : A.units + 64 < cLine := by have := r.un; omega
theorem Room.units0 {k : Nat} {A : Around} (r : Room k A) : A.units < cLine := by have := r.un; omega

/-! ### argument lists and displays -/
def tNil : TA := fun _ H Q => Q [] H
def tCons (ta : TE) (tr : TA) : TA := fun σ H Q => ta σ H fun x H1 => tr σ H1 fun xs H2 => Q (x :: xs) H2
section
variable {X : Cx} {e : Expr} {es : List Expr} {te : TE} {t : TA} {pos : Pos}
theorem pa_nil : PA X [] tNil := fun _ _ _ _ H Q I h => Calls.spliced_nil ⟨[], H, I, .nil, h⟩
theorem pa_cons (ha : PE X e te) (hr : PA X es t) (hs : starEach (e :: es) X.env = (false, eval e X.env) :: starEach es X.env := by rfl) : PA X (e :: es) (tCons te t) := by
  intro pos pins s σ H Q I h
  rw [hs]
  show wpAny _ _ (spliced ((false, eval e X.env) :: backTo pos (starEach es X.env))) _ _ s
  refine Calls.spliced_cons (thn (ha pins s σ H _ I h) fun u s1 ⟨x, H1, I1, r1, q1⟩ => ?_)
  exact thn (hr pos pins s1 σ H1 _ I1 q1) fun us s2 ⟨xs, H2, I2, r2, q2⟩ => ⟨x :: xs, H2, I2, .cons r1 r2, q2⟩

/-- a tuple, a list of written items -/
def tTup (t : TA) : TE := fun σ H Q => t σ H fun xs H1 => xs.length ≤ sizeLine ∧ ∀ p, H1 p = none → Q (.ref p) (upd H1 p (.tup xs))
def tLst (t : TA) : TE := fun σ H Q => t σ H fun xs H1 => xs.length ≤ sizeLine ∧ ∀ p, H1 p = none → Q (.ref p) (upd H1 p (.lst xs))
theorem pe_tup {x1} (h : PA X es t) : PE X (.Tuple es x1 pos) (tTup t) := by
  intro pins s σ H Q I hq
  refine wpAny_Tuple_spliced (thn (h pos pins s σ H _ I hq) fun us s1 ⟨xs, H1, I1, r, z, q⟩ => ⟨by rw [← r.length]; exact z, ?_⟩)
  have hf : H1 s1.heap.objs.size = none := I1.hok.fresh (Nat.le_refl _)
  refine ⟨.ref s1.heap.objs.size, upd H1 s1.heap.objs.size (.tup xs), I1.laid (t' := s1.toks) (fun b u e => Heap.get?_push_of_some _ e) (Nat.le_refl _) ?_, rfl, q _ hf⟩
  exact ⟨z, us, r, ⟨_, Heap.get?_push_size _ rfl, rfl, _, rfl⟩⟩
theorem pe_lst (h : PA X es t) : PE X (.List es pos) (tLst t) := by
  intro pins s σ H Q I hq
  refine wpAny_List_spliced (thn (h pos pins s σ H _ I hq) fun us s1 ⟨xs, H1, I1, r, z, q⟩ => ⟨by rw [← r.length]; exact z, ?_⟩)
  have hf : H1 s1.heap.objs.size = none := I1.hok.fresh (Nat.le_refl _)
  refine ⟨.ref s1.heap.objs.size, upd H1 s1.heap.objs.size (.lst xs), I1.laid (t' := s1.toks) (fun b u e => Heap.get?_push_of_some _ e) (Nat.le_refl _) ?_, rfl, q _ hf⟩
  exact ⟨z, us, 0, r, Heap.get?_push_size _ rfl⟩
end

/-! ### what a def promises -/
/-- a def's promise: the bound arguments in the parameters' order, the heap, the wanted end, the wanted exception -/
abbrev Sp := List V → Hp → VK → XK → Prop
/-- how an exception lies behind a call (file 08 gives it): the callers' frames, abstract heap and state ahead of the call, the wish, the exception, the state -/
abbrev CXT := List Env → Hp → Shared → XK → Value → Shared → Prop

/-- the state at a call -/
structure Env0 (P : Program) (w : World) (K : PySem.W.Frag) (mg : Str → Option Value) (base : Heap) (A : Around) (outer : List Env) (s : Shared) (H : Hp) : Prop where
  frames : A.frames = some outer
  mod : Mod K mg base
  bs : ∀ b o, base.get? b = some o → s.heap.get? b = some o ∧ H b = none
  bsz : base.objs.size ≤ s.heap.objs.size
  funs : s.heap.FunFrames base outer
  frf : ∀ b ∈ frs outer, H b = none
  hok : HOk P w H s.heap
  bare : AllBare s.gens
/-- a call's end -/
def CE (outer : List Env) (P : Program) (w : World) (H : Hp) (s : Shared) (Q : VK) (u : Value) (s' : Shared) : Prop :=
  ∃ v H', s'.os = s.os ∧ AllBare s'.gens ∧ Un (frs outer) [] H H' s.heap s'.heap ∧ HOk P w H' s'.heap ∧ RelV v u ∧ Q v H'
def CR (CX : CXT) (outer : List Env) (P : Program) (w : World) (H : Hp) (s : Shared) (Q : VK) (E : XK) (r : Result) (s' : Shared) : Prop :=
  match r with
  | .ok (.ret u) => CE outer P w H s Q u s'
  | .ok _ => False
  | .error e => CX outer H s E e s'
structure FnOk (P : Program) (w : World) (K : PySem.W.Frag) (mg : Str → Option Value) (base : Heap) (CX : CXT) (k : Nat) (f : Addr) (fd : FuncData) (ps : List Str) (sp : Sp) : Prop where
  len : ∀ vs H Q E, sp vs H Q E → vs.length = ps.length
  run : ∀ (A : Around) (outer : List Env) (s : Shared) (H : Hp) (args : Args) (us : List Value) (vs : List V) (Q : VK) (E : XK), Room k A → Env0 P w K mg base A outer s H → BindsTo s fd args (ps.zip us) → Vals vs us → sp vs H Q E →
    codeAny (model P w) A (.call (.ref f) args) (CR CX outer P w H s Q E) s
theorem FnOk.mono {P : Program} {w : World} {K : PySem.W.Frag} {mg : Str → Option Value} {base : Heap} {CX : CXT} {j k : Nat} {f : Addr} {fd : FuncData} {ps : List Str} {sp : Sp} (F : FnOk P w K mg base CX j f fd ps sp) (h : j ≤ k) :
    FnOk P w K mg base CX k f fd ps sp := ⟨F.len, fun A outer s H args us vs Q E hr => F.run A outer s H args us vs Q E (hr.mono h)⟩
/-- a weaker promise -/
theorem FnOk.imp {P : Program} {w : World} {K : PySem.W.Frag} {mg : Str → Option Value} {base : Heap} {CX : CXT} {k : Nat} {f : Addr} {fd : FuncData} {ps : List Str} {sp sp' : Sp} (F : FnOk P w K mg base CX k f fd ps sp)
    (h : ∀ vs H Q E, sp' vs H Q E → sp vs H Q E) : FnOk P w K mg base CX k f fd ps sp' :=
  ⟨fun vs H Q E q => F.len vs H Q E (h _ _ _ _ q), fun A outer s H args us vs Q E hr he hb hv hs => F.run A outer s H args us vs Q E hr he hb hv (h _ _ _ _ hs)⟩

theorem Env0.make {P : Program} {w : World} {K : PySem.W.Frag} {mg : Str → Option Value} {base : Heap} {A : Around} {outer : List Env} {s : Shared} {H : Hp} (e : Env0 P w K mg base A outer s H) (C : Addr) (us : List Value) (kw : List (Str × Value)) :
    Env0 P w K mg base (A.under (.builtin "type.__call__" ⟨.ref C :: us, kw⟩)) outer s H := ⟨by first | exact e.frames | (simpa [Around.under, Code.envs, Code.isFrame, pushEnvs] using e.frames), e.mod, e.bs, e.bsz, e.funs, e.frf, e.hok, e.bare⟩
theorem Env0.in1 {P : Program} {w : World} {K : PySem.W.Frag} {mg : Str → Option Value} {base : Heap} {A : Around} {outer : List Env} {s : Shared} {H : Hp} (e : Env0 P w K mg base A outer s H) :
    Env0 P w K mg base A.in1 outer s H := ⟨e.frames, e.mod, e.bs, e.bsz, e.funs, e.frf, e.hok, e.bare⟩

section
variable {X : Cx} {pins : List (Addr × Obj)} {σ : St} {H : Hp} {s s' : Shared}
/-- from a body: what a callee wants -/
theorem Inv.env0 (I : Inv X pins σ H s) : Env0 X.prog X.w X.K X.mg X.base X.A X.stack s H :=
  ⟨I.ok.frames, I.ok.mod, I.bs, Nat.le_trans I.ok.bsz I.sz, I.stack, I.stkFree, I.hok, I.bare⟩
/-- behind a call -/
theorem Inv.after {Q : VK} {u : Value} (I : Inv X pins σ H s) (h : CE X.stack X.prog X.w H s Q u s') : EP X pins σ Q u s' := by
  obtain ⟨v, H', os, bare, un, hok, r, q⟩ := h
  obtain ⟨hh, g, d, t, os'⟩ := s'
  obtain rfl : os' = s.os := os
  exact ⟨v, H', I.call (h' := hh) (g' := g) (d' := d) (t' := t) (ch := []) un hok bare (fun b z => absurd z (by simp)), r, q⟩
end

/-! ### calls -/
/-- f(..): the written arguments, then the defaults dvs; E: what is wanted of an exception -/
def tCall (sp : Sp) (dvs : List V) (E : XK) (t : TA) : TE := fun σ H Q => t σ H fun vs H1 => sp (vs ++ dvs) H1 Q E
/-- o.m(..) of an instance of the class at C -/
def tMeth (C : Addr) (m : Str) (sp : Sp) (dvs : List V) (E : XK) (ta : TE) (t : TA) : TE := fun σ H Q => ta σ H fun x H1 => ∃ a dx fs, x = .ref a ∧ H1 a = some (.ins C dx fs) ∧ fs.lookup m = none ∧
  t σ H1 fun vs H2 => sp (x :: (vs ++ dvs)) H2 Q E
/-- C(..): a new instance and its dict, then __init__ -/
def tMake (C : Addr) (sp : Sp) (dvs : List V) (E : XK) (t : TA) : TE := fun σ H Q => t σ H fun vs H1 => ∀ x dx, H1 x = none → H1 dx = none → dx ≠ x →
  sp (.ref x :: (vs ++ dvs)) (upd (upd H1 dx (.own x)) x (.ins C dx [])) (fun v H2 => v = .non ∧ Q (.ref x) H2) E

/-- how the parameters are bound: us the positional arguments, kw the keywords' values by name, ds the defaults that fill up -/
def Binds (K : PySem.W.Frag) (fd : FuncData) (ps : List Str) (ds : List Value) : Prop :=
  ∀ (s : Shared) (us : List Value), K.In s.heap → (us ++ ds).length = ps.length → BindsTo s fd ⟨us, []⟩ (ps.zip (us ++ ds))
/-- every parameter is given -/
theorem Binds.all {K : PySem.W.Frag} {fd : FuncData} {ps : List Str} (h : ∀ us : List Value, us.length = ps.length → bindArgs fd ⟨us, []⟩ = pure (ps.zip us)) : Binds K fd ps [] := fun s us _ hl => by
  rw [List.append_nil] at hl ⊢
  exact .of_eq (h us hl)

/-- an exception of a callee reaches what this body wants of exceptions -/
def Passes (CX : CXT) (X : Cx) (E : XK) : Prop := ∀ (pins : List (Addr × Obj)) (σ : St) (H : Hp) (s : Shared) (e : Value) (s' : Shared), Inv X pins σ H s → CX X.stack H s E e s' → X.xe e s'

section
variable {X : Cx} {CX : CXT} {k : Nat} {f C : Addr} {fd : FuncData} {ps : List Str} {sp : Sp} {dvs : List V} {ds : List Value} {E : XK} {x m : Str} {p pos apos : Pos} {e o : Expr} {es : List Expr} {ta : TE} {t : TA}

/-- the callee runs -/
theorem run_fn {pins : List (Addr × Obj)} {σ : St} {H : Hp} {s : Shared} {Q : VK} {us : List Value} {vs : List V} (F : FnOk X.prog X.w X.K X.mg X.base CX k f fd ps sp) (hr : Room k X.A) (hb : Binds X.K fd ps ds) (hd : Vals dvs ds) (hx : Passes CX X E)
    (I : Inv X pins σ H s) (r : Vals vs us) (h : sp (vs ++ dvs) H Q E) : wpAny (model X.prog X.w) X.A (call (.ref f) us) (EP X pins σ Q) X.xe s := by
  have r2 : Vals (vs ++ dvs) (us ++ ds) := r.append hd
  have hl : (us ++ ds).length = ps.length := by rw [← r2.length]; exact F.len _ _ _ _ h
  refine wpAny_call (codeAny_mono (F.run X.A X.stack s H ⟨us, []⟩ (us ++ ds) (vs ++ dvs) Q E hr I.env0 (hb s us I.kIn hl) r2 h) fun r s' hq => ?_)
  cases r with
  | error e => exact hx pins σ H s e s' I hq
  | ok fl =>
    cases fl with
    | ret u => exact I.after hq
    | next => exact False.elim hq
    | brk => exact False.elim hq
    | cont => exact False.elim hq

theorem pe_call (F : FnOk X.prog X.w X.K X.mg X.base CX k f fd ps sp) (hr : Room k X.A) (hg : Gl X x) (hm : X.mg x = some (.ref f)) (hk : PySem.W.keepIn X.K (.ref f) = true) (hb : Binds X.K fd ps ds) (hd : Vals dvs ds) (hx : Passes CX X E)
    (ha : PA X (e :: es) t) (hdb : (x == ("__debug__" : Str)) = false := by decide) (he : starEach (e :: es) X.env = (false, eval e X.env) :: starEach es X.env := by rfl) (hpl : (backTo pos (starEach es X.env)).any (·.1) = false := by rfl) :
    PE X (.Call (.Name x p) (e :: es) [] pos) (tCall sp dvs E t) := by
  intro pins s σ H Q I h
  refine wpAny_Call_Name_kw (ld_glob I hg hm ?_ hdb)
  refine PySem.W.callWith_K (h₀ := X.base) I.ok.mod.kin hk (thn (ha pos pins s σ H _ I h) fun us s1 ⟨vs, H1, I1, r, q⟩ => ⟨I1.kIn, ?_⟩) he hpl
  exact run_fn F hr hb hd hx I1 r q
theorem pe_call0 (F : FnOk X.prog X.w X.K X.mg X.base CX k f fd ps sp) (hr : Room k X.A) (hg : Gl X x) (hm : X.mg x = some (.ref f)) (hk : PySem.W.keepIn X.K (.ref f) = true) (hb : Binds X.K fd ps ds) (hd : Vals dvs ds) (hx : Passes CX X E)
    (hdb : (x == ("__debug__" : Str)) = false := by decide) : PE X (.Call (.Name x p) [] [] pos) (tCall sp dvs E tNil) := by
  intro pins s σ H Q I h
  refine wpAny_Call_Name_kw (ld_glob I hg hm ?_ hdb)
  exact PySem.W.callWith_K0 I.kIn hk (run_fn (us := []) F hr hb hd hx I .nil h)

/-- o.m(e, ..) -/
theorem pe_meth {pl : Sem Bool} (he : PE X o ta) (c : Cls X.K C) (hm : Meth X.K C m f) (F : FnOk X.prog X.w X.K X.mg X.base CX k f fd ps sp) (hr : Room k X.A) (hb : Binds X.K fd ps ds) (hd : Vals dvs ds) (hx : Passes CX X E) (ha : PA X (e :: es) t)
    (hst : starEach (e :: es) X.env = (false, eval e X.env) :: starEach es X.env := by rfl) (hpl : (backTo pos (starEach es X.env)).any (·.1) = false := by rfl)
    (ht : eval (.Call (.Attribute o m apos) (e :: es) [] pos) X.env = (do
      let ov ← eval o X.env
      standAt apos.atName
      let (f, first) ← holding [ov] (getMethod ov m pl)
      callWith pos f first (backTo pos (starEach (e :: es) X.env)) (backToKw pos (keywordEach [] X.env))) := by rfl) :
    PE X (.Call (.Attribute o m apos) (e :: es) [] pos) (tMeth C m sp dvs E ta t) := by
  intro pins s σ H Q I h
  refine PySem.W.methodCall_KW (pl := pl) (thn (he pins s σ H _ I h) fun u s1 ⟨x, H1, I1, rx, a, dx, fs, ex, ea, l, q⟩ => ?_) ht
  subst ex
  obtain rfl : u = Value.ref a := rx
  refine getmeth_ok I1 ea c hm l ?_
  refine PySem.W.callWith_K (first := [.ref a]) (h₀ := X.base) I.ok.mod.kin hm.kp (thn (ha pos pins s1 σ H1 _ I1 q) fun us s2 ⟨vs, H2, I2, r, q2⟩ => ⟨I2.kIn, ?_⟩) hst hpl
  exact run_fn (us := .ref a :: us) (vs := .ref a :: vs) F hr hb hd hx I2 (.cons rfl r) q2
/-- o.m() -/
theorem pe_meth0 {pl : Sem Bool} (he : PE X o ta) (c : Cls X.K C) (hm : Meth X.K C m f) (F : FnOk X.prog X.w X.K X.mg X.base CX k f fd ps sp) (hr : Room k X.A) (hb : Binds X.K fd ps ds) (hd : Vals dvs ds) (hx : Passes CX X E)
    (ht : eval (.Call (.Attribute o m apos) [] [] pos) X.env = (do
      let ov ← eval o X.env
      standAt apos.atName
      let (f, first) ← holding [ov] (getMethod ov m pl)
      callWith pos f first (backTo pos (starEach [] X.env)) (backToKw pos (keywordEach [] X.env))) := by rfl) :
    PE X (.Call (.Attribute o m apos) [] [] pos) (tMeth C m sp dvs E ta tNil) := by
  intro pins s σ H Q I h
  refine PySem.W.methodCall_KW (pl := pl) (thn (he pins s σ H _ I h) fun u s1 ⟨x, H1, I1, rx, a, dx, fs, ex, ea, l, q⟩ => ?_) ht
  subst ex
  obtain rfl : u = Value.ref a := rx
  refine getmeth_ok I1 ea c hm l ?_
  exact PySem.W.callWith_K0 (first := [.ref a]) I1.kIn hm.kp (run_fn (us := [.ref a]) (vs := [.ref a]) F hr hb hd hx I1 (.cons rfl .nil) q)

/-- what a class must have to be made -/
structure Mk (K : PySem.W.Frag) (C f : Addr) : Prop where
  makes : PySem.W.makesIn K C = true
  init : PySem.W.findIn K (.ref C) "__init__" = some (some (.ref f))
  fn : PySem.W.isFn K (.ref f) = true
  kp : PySem.W.keepIn K (.ref C) = true

theorem run_make {pins : List (Addr × Obj)} {σ : St} {H : Hp} {s : Shared} {Q : VK} {us : List Value} {vs : List V} (M : Mk X.K C f) (F : FnOk X.prog X.w X.K X.mg X.base CX k f fd ps sp) (hr : Room (k + 1) X.A) (hb : Binds X.K fd ps ds) (hd : Vals dvs ds)
    (hx : Passes CX X E) (I : Inv X pins σ H s) (r : Vals vs us)
    (h : ∀ x dx, H x = none → H dx = none → dx ≠ x → sp (.ref x :: (vs ++ dvs)) (upd (upd H dx (.own x)) x (.ins C dx [])) (fun v H2 => v = .non ∧ Q (.ref x) H2) E) :
    wpAny (model X.prog X.w) X.A (call (.ref C) us) (EP X pins σ Q) X.xe s := by
  have hq := h (s.heap.objs.size + 1) s.heap.objs.size (I.hok.fresh (Nat.le_succ _)) (I.hok.fresh (Nat.le_refl _)) (Nat.ne_of_lt (Nat.lt_succ_self _))
  have I2 := Inv.made (C := C) I
  have r2 : Vals (V.ref (s.heap.objs.size + 1) :: (vs ++ dvs)) (Value.ref (s.heap.objs.size + 1) :: (us ++ ds)) := .cons rfl (r.append hd)
  have hl : (Value.ref (s.heap.objs.size + 1) :: us ++ ds).length = ps.length := by
    have e := r2.length
    rw [F.len _ _ _ _ hq] at e
    exact e.symm
  refine wpAny_call (make_map (f := f) I.kIn M.makes M.init (beq_iff_eq.mp M.fn) (codeAny_mono (F.run _ X.stack _ _ ⟨Value.ref (s.heap.objs.size + 1) :: us, []⟩ (Value.ref (s.heap.objs.size + 1) :: (us ++ ds)) _ _ E (hr.make C us [])
    (I2.env0.make C us []) (hb _ (Value.ref (s.heap.objs.size + 1) :: us) I2.kIn hl) r2 hq) fun r s' hq' => ?_))
  cases r with
  | error e => exact hx pins σ _ _ e s' I2 hq'
  | ok fl =>
    cases fl with
    | ret u =>
      obtain ⟨v, H', I3, rv, ev, q3⟩ := I2.after hq'
      subst ev
      exact ⟨rv, ⟨V.ref (s.heap.objs.size + 1), H', I3, rfl, q3⟩⟩
    | next => exact False.elim hq'
    | brk => exact False.elim hq'
    | cont => exact False.elim hq'
theorem pe_make (M : Mk X.K C f) (F : FnOk X.prog X.w X.K X.mg X.base CX k f fd ps sp) (hr : Room (k + 1) X.A) (hg : Gl X x) (hm : X.mg x = some (.ref C)) (hb : Binds X.K fd ps ds) (hd : Vals dvs ds) (hx : Passes CX X E)
    (ha : PA X (e :: es) t) (hdb : (x == ("__debug__" : Str)) = false := by decide) (he : starEach (e :: es) X.env = (false, eval e X.env) :: starEach es X.env := by rfl) (hpl : (backTo pos (starEach es X.env)).any (·.1) = false := by rfl) :
    PE X (.Call (.Name x p) (e :: es) [] pos) (tMake C sp dvs E t) := by
  intro pins s σ H Q I h
  refine wpAny_Call_Name_kw (ld_glob I hg hm ?_ hdb)
  refine PySem.W.callWith_K (h₀ := X.base) I.ok.mod.kin M.kp (thn (ha pos pins s σ H _ I h) fun us s1 ⟨vs, H1, I1, r, q⟩ => ⟨I1.kIn, ?_⟩) he hpl
  exact run_make M F hr hb hd hx I1 r q
theorem pe_make0 (M : Mk X.K C f) (F : FnOk X.prog X.w X.K X.mg X.base CX k f fd ps sp) (hr : Room (k + 1) X.A) (hg : Gl X x) (hm : X.mg x = some (.ref C)) (hb : Binds X.K fd ps ds) (hd : Vals dvs ds) (hx : Passes CX X E)
    (hdb : (x == ("__debug__" : Str)) = false := by decide) : PE X (.Call (.Name x p) [] [] pos) (tMake C sp dvs E tNil) := by
  intro pins s σ H Q I h
  refine wpAny_Call_Name_kw (ld_glob I hg hm ?_ hdb)
  exact PySem.W.callWith_K0 I.kIn M.kp (run_make (us := []) M F hr hb hd hx I .nil h)
end

/-! ### keywords -/
/-- the values of the keywords, from the left -/
def PK (X : Cx) (kws : List Keyword) (t : TA) : Prop :=
  ∀ (pos : Pos) (pins : List (Addr × Obj)) (s : Shared) (σ : St) (H : Hp) (Q : List V → Hp → Prop), Inv X pins σ H s → t σ H Q → wpAny (model X.prog X.w) X.A (evalAll ((backToKw pos (keywordEach kws X.env)).map (·.2))) (AP X pins σ Q) X.xe s
section
variable {X : Cx} {CX : CXT} {k : Nat} {f C : Addr} {fd : FuncData} {ps ks : List Str} {sp : Sp} {E : XK} {x m : Str} {p pos apos kpos : Pos} {e o : Expr} {es : List Expr} {kws : List Keyword} {te ta : TE} {t tk : TA} {nm : Option Str}
theorem pk_nil : PK X [] tNil := fun _ _ _ _ H Q I h => wpAny_evalAll_nil ⟨[], H, I, .nil, h⟩
theorem pk_cons (ha : PE X e te) (hr : PK X kws t) : PK X (⟨nm, e, kpos⟩ :: kws) (tCons te t) := by
  intro pos pins s σ H Q I h
  show wpAny _ _ (evalAll ((do let v ← eval e X.env; standAt pos; pure v) :: (backToKw pos (keywordEach kws X.env)).map (·.2))) _ _ s
  refine wpAny_evalAll_cons (wpAny_bind (thn (ha pins s σ H _ I h) fun u s1 ⟨x, H1, I1, r1, q1⟩ => wpAny_bind (wpAny_standAt (wpAny_pure ?_))))
  exact thn (hr pos pins s1 σ H1 _ I1 q1) fun us s2 ⟨xs, H2, I2, r2, q2⟩ => ⟨x :: xs, H2, I2, .cons r1 r2, q2⟩

/-- how a call with keywords binds: g puts the positional values us and the keywords' values ws (names ks) in the parameters' order, defaults among them -/
structure KBinds (K : PySem.W.Frag) (fd : FuncData) (ps ks : List Str) (g : List Value → List Value → List Value) (gV : List V → List V → List V) : Prop where
  to : ∀ (s : Shared) (us ws : List Value), K.In s.heap → (g us ws).length = ps.length → BindsTo s fd ⟨us, ks.zip ws⟩ (ps.zip (g us ws))
  rel : ∀ {vs : List V} {us : List Value} {zs : List V} {ws : List Value}, Vals vs us → Vals zs ws → Vals (gV vs zs) (g us ws)
def tCallK (sp : Sp) (gV : List V → List V → List V) (E : XK) (t tk : TA) : TE := fun σ H Q => t σ H fun vs H1 => tk σ H1 fun zs H2 => sp (gV vs zs) H2 Q E
variable {g : List Value → List Value → List Value} {gV : List V → List V → List V}
theorem run_fnk {pins : List (Addr × Obj)} {σ : St} {H : Hp} {s : Shared} {Q : VK} {us ws : List Value} {vs zs : List V} (F : FnOk X.prog X.w X.K X.mg X.base CX k f fd ps sp) (hr : Room k X.A) (hb : KBinds X.K fd ps ks g gV) (hx : Passes CX X E)
    (I : Inv X pins σ H s) (r : Vals vs us) (rz : Vals zs ws) (h : sp (gV vs zs) H Q E) : wpAny (model X.prog X.w) X.A (call (.ref f) us (ks.zip ws)) (EP X pins σ Q) X.xe s := by
  have r2 := hb.rel r rz
  have hl : (g us ws).length = ps.length := by rw [← r2.length]; exact F.len _ _ _ _ h
  refine wpAny_call (codeAny_mono (F.run X.A X.stack s H ⟨us, ks.zip ws⟩ (g us ws) (gV vs zs) Q E hr I.env0 (hb.to s us ws I.kIn hl) r2 h) fun r s' hq => ?_)
  cases r with
  | error e => exact hx pins σ H s e s' I hq
  | ok fl =>
    cases fl with
    | ret u => exact I.after hq
    | next => exact False.elim hq
    | brk => exact False.elim hq
    | cont => exact False.elim hq
/-- f(e, .., k = v, ..) -/
theorem pe_callK (F : FnOk X.prog X.w X.K X.mg X.base CX k f fd ps sp) (hr : Room k X.A) (hg : Gl X x) (hm : X.mg x = some (.ref f)) (hk : PySem.W.keepIn X.K (.ref f) = true) (hb : KBinds X.K fd ps ks g gV) (hx : Passes CX X E)
    (ha : PA X (e :: es) t) (hkw : PK X kws tk) (hall : (backToKw pos (keywordEach kws X.env)).all (·.1.isSome) = true := by rfl) (hks : (backToKw pos (keywordEach kws X.env)).filterMap (·.1) = ks := by rfl)
    (hdb : (x == ("__debug__" : Str)) = false := by decide) (he : starEach (e :: es) X.env = (false, eval e X.env) :: starEach es X.env := by rfl)
    (hpl : ((backTo pos (starEach (e :: es) X.env)).any (·.1) || (backToKw pos (keywordEach kws X.env)).any (·.1.isNone)) = false := by rfl) :
    PE X (.Call (.Name x p) (e :: es) kws pos) (tCallK sp gV E t tk) := by
  intro pins s σ H Q I h
  refine wpAny_Call_Name_kw (ld_glob I hg hm ?_ hdb)
  refine PySem.W.callWith_KW (h₀ := X.base) I.ok.mod.kin hk hall (thn (ha pos pins s σ H _ I h) fun us s1 ⟨vs, H1, I1, r, q⟩ => ?_) hpl he
  refine thn (hkw pos pins s1 σ H1 _ I1 q) fun ws s2 ⟨zs, H2, I2, rz, q2⟩ => ⟨I2.kIn, ?_⟩
  rw [hks]
  exact run_fnk F hr hb hx I2 r rz q2
end

/-! ### a def's body keeps its promise -/
/-- names: the parameters first -/
structure FnScope (N P : List Str) (sc : Scope) : Prop where
  kind : sc.kind = .function
  co : sc.isCoroutine = false
  gen : sc.isGenerator = false
  nd : N.Nodup
  pre : N.take P.length = P
  par : ∀ x ∈ P, sc.names.lookup x = some .local ∨ sc.names.lookup x = some .cell
  nofree : ∀ y ∈ sc.names, y.2 ≠ .free

theorem bindL_out {kindOf : Str → Option NameKind} {x : Str} : ∀ {binds : List (Str × Value)} {m : Str → Option Value}, (∀ v, (x, v) ∉ binds) → bindL kindOf binds m x = m x
  | [], _, _ => rfl
  | (n, v) :: r, m, h => by
    unfold bindL
    rw [bindL_out fun w hw => h w (List.mem_cons_of_mem _ hw)]
    split
    · have : x ≠ n := by rintro rfl; exact h v List.mem_cons_self
      simp [this]
    · rfl
theorem bindC_out {kindOf : Str → Option NameKind} {x : Str} : ∀ {binds : List (Str × Value)} {m : Str → Option Value}, (∀ v, (x, v) ∉ binds) → bindC kindOf binds m x = m x
  | [], _, _ => rfl
  | (n, v) :: r, m, h => by
    unfold bindC
    rw [bindC_out fun w hw => h w (List.mem_cons_of_mem _ hw)]
    split
    · rfl
    · have : x ≠ n := by rintro rfl; exact h v List.mem_cons_self
      simp [this]
theorem bindL_get {kindOf : Str → Option NameKind} {x : Str} {v : Value} : ∀ {P : List Str} {vs : List Value} {i : Nat} {m : Str → Option Value}, P.Nodup → P[i]? = some x → vs[i]? = some v → kindOf x = some .local →
    bindL kindOf (P.zip vs) m x = some v
  | [], _, _, _, _, h, _, _ => by simp at h
  | _ :: _, [], _, _, _, _, h, _ => by simp at h
  | p :: P, w :: vs, 0, m, nd, h1, h2, hk => by
    simp at h1 h2; subst h1; subst h2
    show bindL kindOf ((p, w) :: P.zip vs) m p = _
    unfold bindL
    rw [bindL_out fun v hv => (List.nodup_cons.mp nd).1 (List.of_mem_zip hv).1, if_pos hk]
    simp
  | p :: P, w :: vs, i + 1, m, nd, h1, h2, hk => by
    show bindL kindOf ((p, w) :: P.zip vs) m x = _
    unfold bindL
    exact bindL_get (i := i) (List.nodup_cons.mp nd).2 (by simpa using h1) (by simpa using h2) hk
theorem bindC_get {kindOf : Str → Option NameKind} {x : Str} {v : Value} : ∀ {P : List Str} {vs : List Value} {i : Nat} {m : Str → Option Value}, P.Nodup → P[i]? = some x → vs[i]? = some v → kindOf x ≠ some .local →
    bindC kindOf (P.zip vs) m x = some v
  | [], _, _, _, _, h, _, _ => by simp at h
  | _ :: _, [], _, _, _, _, h, _ => by simp at h
  | p :: P, w :: vs, 0, m, nd, h1, h2, hk => by
    simp at h1 h2; subst h1; subst h2
    show bindC kindOf ((p, w) :: P.zip vs) m p = _
    unfold bindC
    rw [bindC_out fun v hv => (List.nodup_cons.mp nd).1 (List.of_mem_zip hv).1, if_neg hk]
    simp
  | p :: P, w :: vs, i + 1, m, nd, h1, h2, hk => by
    show bindC kindOf ((p, w) :: P.zip vs) m x = _
    unfold bindC
    exact bindC_get (i := i) (List.nodup_cons.mp nd).2 (by simpa using h1) (by simpa using h2) hk

/-- the names' values at the entry -/
def start (N : List Str) (vs : List V) : St := vs.map some ++ List.replicate (N.length - vs.length) none

/-- the context of a def's body, at its entry; an exception leaves the frame, then lies as CX says -/
def cxOf (CX : CXT) (P : Program) (w : World) (K : PySem.W.Frag) (mg : Str → Option Value) (base : Heap) (N : List Str) (qual : Str) (scope : Scope) (f : Addr) (cd : Value) (A : Around) (outer : List Env) (s : Shared) (H : Hp) (E : XK) : Cx where
  prog := P
  w := w
  K := K
  mg := mg
  base := base
  A := A.deeper (envOfC qual scope s.heap.objs.size f cd)
  N := N
  s₀ := s
  H₀ := H
  env := envOfC qual scope s.heap.objs.size f cd
  outer := outer
  stack := envOfC qual scope s.heap.objs.size f cd :: outer
  ex := []
  calm := true
  fn := fun _ => true
  pn := []
  xe := fun e s' => wpAny (model P w) (A.deeper (envOfC qual scope s.heap.objs.size f cd)) (leaving (envOfC qual scope s.heap.objs.size f cd) e) (fun _ s'' => CX outer H s E e s'') (fun e' s'' => CX outer H s E e' s'') s'

theorem cell_has {sc : Scope} {n : Nat} {x : Str} (h : sc.names.lookup x = some .cell) : ∃ c, (cellsFrom n sc.names []).lookup x = some c := by
  have q := PySem.W.cellsFrom_some sc.names n [] (.inl h)
  exact Option.isSome_iff_exists.mp q

theorem inv_start {CX : CXT} {P : Program} {w : World} {K : PySem.W.Frag} {mg : Str → Option Value} {base : Heap} {N ps : List Str} {qual : Str} {scope : Scope} {f : Addr} {cd : Value} {A : Around} {outer : List Env} {s s1 : Shared} {H : Hp} {E : XK} {us : List Value} {vs : List V}
    (S : FnScope N ps scope) (hd : A.handled = none) (e0 : Env0 P w K mg base A outer s H) (hl : vs.length = ps.length) (r : Vals vs us)
    (x : InCallC s s.heap.objs.size (bindL (envOfC qual scope s.heap.objs.size f cd).kindOf (ps.zip us) fun _ => none) (cellsFrom (s.heap.objs.size + 1) scope.names []) (bindC (envOfC qual scope s.heap.objs.size f cd).kindOf (ps.zip us) fun _ => none) s1) :
    Inv (cxOf CX P w K mg base N qual scope f cd A outer s H E) [] (start N vs) H s1 := by
  have hpl : ps.length ≤ N.length := by have := congrArg List.length S.pre; rw [List.length_take] at this; omega
  obtain ⟨h1, tk, rfl, hk⟩ := x.done
  have noA : ∀ b : Addr, b ∉ (cxOf CX P w K mg base N qual scope f cd A outer s H E).ex := fun b z => absurd (show b ∈ ([] : List Addr) from z) (by simp)
  refine ⟨⟨e0.mod, S.kind, rfl, rfl, Nat.le_refl _, fun y z c h1 h2 => ?_, fun y hy => ?_, fun y c _ h => ?_, fun _ => hd, Around.frames_deeper e0.frames, .inr ⟨rfl, rfl⟩, fun b z => absurd z (noA b), e0.bs, e0.bsz, fun b _ _ => noA b, fun b z => absurd z (noA b), e0.funs, e0.frf⟩,
    rfl, e0.bare, Un.kept hk, ⟨_, x.toInCall.ns, fun i y v h1 h2 h3 => ?_⟩, fun y c h => ⟨_, x.cell y c h⟩, e0.hok.fresh (Nat.le_refl _), fun y c h => ?_, fun p hp => absurd (show p ∈ ([] : List (Addr × Obj)) from hp) (by simp), e0.hok.kept hk, ?_⟩
  · exact name_of_addr x.apart (PySem.mem_of_lookup h1) (PySem.mem_of_lookup h2)
  · have hy : scope.names.lookup y = some .cell ∨ scope.names.lookup y = some .free := hy
    rcases hy with hy | hy
    · exact cell_has hy
    · exact absurd rfl (S.nofree _ (PySem.mem_of_lookup hy))
  · exact Nat.le_of_lt (x.above y c (PySem.mem_of_lookup h))
  · have hi : i < vs.length := by
      unfold start at h2
      by_cases hi : i < vs.length
      · exact hi
      · rw [List.getElem?_append_right (by simpa using hi)] at h2
        rw [List.getElem?_replicate] at h2
        split at h2 <;> cases h2
    have ha : vs[i]? = some v := by
      unfold start at h2
      rw [List.getElem?_append_left (by simpa using hi), List.getElem?_map] at h2
      cases e : vs[i]? with
      | none => rw [e] at h2; cases h2
      | some a => rw [e] at h2; cases h2; rfl
    obtain ⟨u, hu, rv⟩ := r.get ha
    have hp : ps[i]? = some y := by
      rw [← S.pre, List.getElem?_take_of_lt (by omega)]; exact h1
    have ndP : ps.Nodup := by rw [← S.pre]; exact S.nd.sublist (List.take_sublist _ _)
    refine ⟨u, rv, ?_⟩
    rcases S.par y (List.mem_of_getElem? hp) with k | k
    · exact .inl ⟨k, bindL_get ndP hp hu k⟩
    · obtain ⟨c, e⟩ := cell_has (n := s.heap.objs.size + 1) k
      refine .inr ⟨.inl k, c, e, ?_⟩
      have q := x.cell y c e
      rw [bindC_get ndP hp hu (by show scope.names.lookup y ≠ _; rw [k]; decide)] at q
      exact q
  · exact e0.hok.fresh (Nat.le_of_lt (x.above y c (PySem.mem_of_lookup h)))
  · unfold start
    show _ = N.length
    rw [List.length_append, List.length_map, List.length_replicate]
    omega

/-- THE RULE: a def (or a method) of the text, by its body. The body's reading t is chosen for each entry; it is run at the parameters' values -/
theorem fn_of {CX : CXT} {P : Program} {w : World} {K : PySem.W.Frag} {mg : Str → Option Value} {base : Heap} {k : Nat} {f : Addr} {name qual : Str} {params : Arguments} {body : List Stmt} {scope : Scope} {dV kV doc pm cdv ct oc : Value} {an od : Option Addr}
    {osl : Array (Option Value)} {N ps : List Str} {sp : Sp} (lk : K.lookup f = some ⟨oc, od, .func (PySem.W.fnOf name qual params body scope dV kV doc pm an cdv ct), osl⟩) (hcd : PySem.W.codeIn K cdv qual = true) (S : FnScope N ps scope)
    (len : ∀ vs H Q E, sp vs H Q E → vs.length = ps.length)
    (hbody : ∀ (A : Around) (outer : List Env) (s : Shared) (H : Hp) (vs : List V) (Q : VK) (E : XK), Room k (A.deeper (envOfC qual scope s.heap.objs.size f cdv)) → sp vs H Q E →
      ∃ t, PSs (cxOf CX P w K mg base N qual scope f cdv A outer s H E) body t ∧ t { nx := fun _ H' => Q .non H', rt := Q } (start N vs) H) :
    FnOk P w K mg base CX (k + 1) f (PySem.W.fnOf name qual params body scope dV kV doc pm an cdv ct) ps sp := by
  refine ⟨len, fun A outer s H args us vs Q E hr e0 hb r hsp => ?_⟩
  have hl := len _ _ _ _ hsp
  have KX : K.In s.heap := e0.mod.kin.keeps fun b o e => (e0.bs b o e).1
  have lim : s.heap.NoLimit := e0.mod.nolimit.keeps fun b o e => (e0.bs b o e).1
  have hkind : ∀ y ∈ ps.zip us, scope.names.lookup y.1 = some .local ∨ (scope.names.lookup y.1 = some .cell ∧ ((cellsFrom (s.heap.objs.size + 1) scope.names []).lookup y.1).isSome = true) := fun ⟨n, v⟩ hy => by
    rcases S.par n (List.of_mem_zip hy).1 with q | q
    · exact .inl q
    · exact .inr ⟨q, PySem.W.cellsFrom_some _ _ _ (.inl q)⟩
  refine codeAny_call_function hr.depth (KX _ _ lk) rfl S.co S.gen rfl (PySem.W.codeRec_of KX hcd) (hb _ _ _ _ ?_)
  refine wpAny_newFunctionEnv_cells S.kind hkind fun env he s1 x => ?_
  subst he
  refine ⟨lim.keeps x.toInCall.keep, codeAny_func ?_⟩
  obtain ⟨t, ht, hq⟩ := hbody A outer s H vs Q E (hr.deeper _) hsp
  have I : Inv (cxOf CX P w K mg base N qual scope f cdv A outer s H E) [] (start N vs) H s1 := inv_start S hr.hd e0 hl r x
  refine wpAny_mono (ht [] s1 (start N vs) H _ I hq) (fun fl s' hs => ?_) fun e s' hs => hs
  have fin : ∀ {σ' : St} {H' : Hp} {v : V} {u : Value}, Inv (cxOf CX P w K mg base N qual scope f cdv A outer s H E) [] σ' H' s' → RelV v u → Q v H' → CE outer P w H s Q u s' :=
    fun {σ' H' v u} J rv q => ⟨v, H', J.os, J.bare, J.base, J.hok, rv, q⟩
  cases fl with
  | ret u =>
    obtain ⟨v, σ', H', J, rv, q⟩ := hs
    exact fin J rv q
  | next =>
    obtain ⟨σ', H', J, q⟩ := hs
    exact fin (v := V.non) (u := Value.none) J rfl q
  | brk =>
    obtain ⟨_, _, _, q⟩ := hs
    exact False.elim q
  | cont =>
    obtain ⟨_, _, _, q⟩ := hs
    exact False.elim q
end L2

namespace L2
open PySem PySem.Spec PyProof.Rows
section
variable {X : Cx} {x : Str} {p pos : Pos} {e : Expr} {es : List Expr} {t : TA} {id T : String} {r : List V → Hp → VK → Prop}

def tCB (r : List V → Hp → VK → Prop) (t : TA) : TE := fun σ H Q => t σ H fun vs H1 => r vs H1 Q
/-- f(e, ..), f a built-in function -/
theorem pe_callB (hc : CallR X (.builtin id) r) (hg : Gl X x) (hm : X.mg x = none) (hv : bootBuiltins x = some (.builtin id)) (ha : PA X (e :: es) t) (hn : x ≠ "__name__" := by decide) (hdb : (x == ("__debug__" : Str)) = false := by decide)
    (he : starEach (e :: es) X.env = (false, eval e X.env) :: starEach es X.env := by rfl) (hpl : (backTo pos (starEach es X.env)).any (·.1) = false := by rfl) : PE X (.Call (.Name x p) (e :: es) [] pos) (tCB r t) := by
  intro pins s σ H Q I h
  refine wpAny_Call_Name_kw (ld_blt I hg hm hv ?_ hn hdb)
  exact PyProof.Rows.callWith_builtin1 (thn (ha pos pins s σ H _ I h) fun us s1 ⟨vs, H1, I1, r1, q1⟩ => hc pins s1 σ H1 vs us Q I1 r1 q1) he hpl
/-- T(e, ..), T a built-in type -/
theorem pe_callTy (hc : CallR X (.type T) r) (hg : Gl X x) (hm : X.mg x = none) (hv : bootBuiltins x = some (.type T)) (ha : PA X (e :: es) t) (hn : x ≠ "__name__" := by decide) (hdb : (x == ("__debug__" : Str)) = false := by decide)
    (he : starEach (e :: es) X.env = (false, eval e X.env) :: starEach es X.env := by rfl) (hpl : (backTo pos (starEach es X.env)).any (·.1) = false := by rfl) : PE X (.Call (.Name x p) (e :: es) [] pos) (tCB r t) := by
  intro pins s σ H Q I h
  refine wpAny_Call_Name_kw (ld_blt I hg hm hv ?_ hn hdb)
  exact PyProof.Rows.callWith_type1 (thn (ha pos pins s σ H _ I h) fun us s1 ⟨vs, H1, I1, r1, q1⟩ => hc pins s1 σ H1 vs us Q I1 r1 q1) he hpl
/-- T() -/
theorem pe_callTy0 (hc : CallR X (.type T) r) (hg : Gl X x) (hm : X.mg x = none) (hv : bootBuiltins x = some (.type T)) (hn : x ≠ "__name__" := by decide) (hdb : (x == ("__debug__" : Str)) = false := by decide) :
    PE X (.Call (.Name x p) [] [] pos) (tCB r tNil) := by
  intro pins s σ H Q I h
  refine wpAny_Call_Name_kw (ld_blt I hg hm hv ?_ hn hdb)
  exact PyProof.Rows.callWith_type0 (hc pins s σ H [] [] Q I .nil h)
end
end L2

namespace L2
open PySem PySem.Spec PyProof.Rows

/-! ### lists of pairs as tables -/
section
variable {κ : Type} [DecidableEq κ]
def valV (kvs : List (κ × V)) (k : κ) : Option V := (kvs.find? fun kv => decide (kv.1 = k)).map (·.2)
/-- in its place, or at the end -/
def putK (kvs : List (κ × V)) (k : κ) (v : V) : List (κ × V) :=
  if (kvs.any fun kv => decide (kv.1 = k)) = true then kvs.map (fun kv => if kv.1 = k then (kv.1, v) else kv) else kvs ++ [(k, v)]
def dropK (kvs : List (κ × V)) (k : κ) : List (κ × V) := kvs.filter fun kv => decide (kv.1 ≠ k)

theorem valV_nil {k : κ} : valV ([] : List (κ × V)) k = none := rfl
theorem valV_pos {p : κ × V} {r : List (κ × V)} {k : κ} (e : p.1 = k) : valV (p :: r) k = some p.2 := by simp [valV, List.find?_cons, e]
theorem valV_neg {p : κ × V} {r : List (κ × V)} {k : κ} (e : ¬ p.1 = k) : valV (p :: r) k = valV r k := by simp [valV, List.find?_cons, e]
theorem valV_any (k : κ) : ∀ kvs : List (κ × V), (kvs.any fun kv => decide (kv.1 = k)) = (valV kvs k).isSome
  | [] => rfl
  | p :: r => by
    rw [List.any_cons]
    by_cases e : p.1 = k
    · simp only [valV_pos e, decide_eq_true e, Bool.true_or, Option.isSome_some]
    · rw [valV_neg e, decide_eq_false e, Bool.false_or]; exact valV_any k r
theorem valV_map (k j : κ) (y : V) : ∀ kvs : List (κ × V), valV (kvs.map fun kv => if kv.1 = k then (kv.1, y) else kv) j = (valV kvs j).map fun x => if j = k then y else x
  | [] => rfl
  | p :: r => by
    have ih := valV_map k j y r
    rw [List.map_cons]
    by_cases h : p.1 = k
    · rw [if_pos h]
      by_cases e : p.1 = j
      · rw [valV_pos (p := (p.1, y)) e, valV_pos e, Option.map_some, if_pos (e.symm.trans h)]
      · rw [valV_neg (p := (p.1, y)) e, valV_neg e, ih]
    · rw [if_neg h]
      by_cases e : p.1 = j
      · rw [valV_pos (p := p) e, valV_pos e, Option.map_some, if_neg (fun z => h (e.trans z))]
      · rw [valV_neg (p := p) e, valV_neg e, ih]
theorem valV_snoc (k j : κ) (y : V) : ∀ kvs : List (κ × V), valV kvs k = none → valV (kvs ++ [(k, y)]) j = if j = k then some y else valV kvs j
  | [], _ => by
    by_cases e : k = j
    · rw [if_pos e.symm]; exact valV_pos (p := (k, y)) e
    · rw [if_neg (fun z => e z.symm)]; exact valV_neg (p := (k, y)) e
  | p :: r, hn => by
    rw [List.cons_append]
    have hk : ¬ p.1 = k := fun z => by rw [valV_pos z] at hn; cases hn
    rw [valV_neg hk] at hn
    have ih := valV_snoc k j y r hn
    by_cases e : p.1 = j
    · rw [valV_pos e, valV_pos e, if_neg (fun z => hk (e.trans z))]
    · rw [valV_neg e, valV_neg e, ih]
theorem valV_put (kvs : List (κ × V)) (k j : κ) (y : V) : valV (putK kvs k y) j = if j = k then some y else valV kvs j := by
  unfold putK
  by_cases a : (kvs.any fun kv => decide (kv.1 = k)) = true
  · rw [if_pos a, valV_map]
    rw [valV_any] at a
    by_cases e : j = k
    · obtain ⟨x, hx⟩ := Option.isSome_iff_exists.mp a
      rw [if_pos e, e, hx, Option.map_some, if_pos rfl]
    · rw [if_neg e]
      cases valV kvs j with
      | none => rfl
      | some x => rw [Option.map_some, if_neg e]
  · rw [if_neg a]
    refine valV_snoc k j y kvs ?_
    rw [valV_any] at a
    cases q : valV kvs k with
    | none => rfl
    | some x => rw [q] at a; exact (a rfl).elim
theorem length_putK (kvs : List (κ × V)) (k : κ) (v : V) : (putK kvs k v).length ≤ kvs.length + 1 := by
  unfold putK
  split
  · rw [List.length_map]; omega
  · rw [List.length_append, List.length_cons, List.length_nil]; omega
theorem putK_new {kvs : List (κ × V)} {k : κ} (v : V) (h : valV kvs k = none) : putK kvs k v = kvs ++ [(k, v)] := by
  unfold putK
  rw [valV_any, h]
  exact if_neg (by decide)

theorem RelO.isSome_eq {o : Option V} {u : Option Value} (r : RelO o u) : o.isSome = u.isSome := by
  cases o with
  | none => cases u with
    | none => rfl
    | some _ => exact (show False from r).elim
  | some _ => cases u with
    | none => exact (show False from r).elim
    | some _ => rfl
theorem RelO.getD {o : Option V} {u : Option Value} {d : V} {d' : Value} (r : RelO o u) (rd : RelV d d') : RelV (o.getD d) (u.getD d') := by
  cases o with
  | none => cases u with
    | none => exact rd
    | some _ => exact (show False from r).elim
  | some _ => cases u with
    | none => exact (show False from r).elim
    | some _ => exact r

/-- raw tables of the same keys -/
theorem KV.val {kvs : List (κ × V)} {vs : List (κ × Value)} (r : KV kvs vs) (k : κ) : RelO (valV kvs k) (valueAt vs k) := by
  unfold KV at r
  induction r with
  | nil => exact True.intro
  | @cons p q ps qs h t ih =>
    obtain ⟨h1, h2⟩ := h
    by_cases e : p.1 = k
    · have e' : q.1 = k := h1.symm.trans e
      have b : valueAt (q :: qs) k = some q.2 := by simp [valueAt, List.find?_cons, e']
      rw [valV_pos e, b]; exact h2
    · have e' : ¬ q.1 = k := fun z => e (h1.trans z)
      have b : valueAt (q :: qs) k = valueAt qs k := by simp [valueAt, List.find?_cons, e']
      rw [valV_neg e, b]; exact ih
theorem KV.any {kvs : List (κ × V)} {vs : List (κ × Value)} (r : KV kvs vs) (k : κ) : (kvs.any fun kv => decide (kv.1 = k)) = vs.any fun kv => decide (kv.1 = k) := by
  unfold KV at r
  induction r with
  | nil => rfl
  | cons h t ih => rw [List.any_cons, List.any_cons, ih, h.1]
theorem KV.repl {kvs : List (κ × V)} {vs : List (κ × Value)} (r : KV kvs vs) (k : κ) {y : V} {u : Value} (ry : RelV y u) :
    KV (kvs.map fun kv => if kv.1 = k then (kv.1, y) else kv) (vs.map fun kv => if kv.1 = k then (kv.1, u) else kv) := by
  unfold KV at r ⊢
  induction r with
  | nil => exact .nil
  | @cons p q ps qs h t ih =>
    rw [List.map_cons, List.map_cons]
    refine .cons ?_ ih
    obtain ⟨h1, h2⟩ := h
    by_cases e : p.1 = k
    · rw [if_pos e, if_pos (h1.symm.trans e)]; exact ⟨h1, ry⟩
    · rw [if_neg e, if_neg (fun z => e (h1.trans z))]; exact ⟨h1, h2⟩
theorem KV.put {kvs : List (κ × V)} {vs : List (κ × Value)} (r : KV kvs vs) (k : κ) {y : V} {u : Value} (ry : RelV y u) : KV (putK kvs k y) (stored vs k u) := by
  unfold putK stored
  rw [r.any k]
  by_cases e : (vs.any fun kv => decide (kv.1 = k)) = true
  · rw [if_pos e, if_pos e]; exact r.repl k ry
  · rw [if_neg e, if_neg e]; exact Paired.snoc r ⟨rfl, ry⟩
theorem KV.drop {kvs : List (κ × V)} {vs : List (κ × Value)} (r : KV kvs vs) (k : κ) : KV (dropK kvs k) (without vs k) := by
  unfold KV at r ⊢
  unfold dropK without
  induction r with
  | nil => exact .nil
  | @cons p q ps qs h t ih =>
    obtain ⟨h1, h2⟩ := h
    rw [List.filter_cons, List.filter_cons]
    by_cases e : p.1 = k
    · have a : ¬ decide (p.1 ≠ k) = true := by simp [e]
      have b : ¬ decide (q.1 ≠ k) = true := by simp [h1.symm.trans e]
      rw [if_neg a, if_neg b]; exact ih
    · have e' : ¬ q.1 = k := fun z => e (h1.trans z)
      have a : decide (p.1 ≠ k) = true := by simp [e]
      have b : decide (q.1 ≠ k) = true := by simp [e']
      rw [if_pos a, if_pos b]; exact .cons ⟨h1, h2⟩ ih
theorem KV.keys {kvs : List (κ × V)} {vs : List (κ × Value)} (r : KV kvs vs) : kvs.map (·.1) = vs.map (·.1) := by
  unfold KV at r
  induction r with
  | nil => rfl
  | cons h t ih => rw [List.map_cons, List.map_cons, ih, h.1]
theorem KV.length {kvs : List (κ × V)} {vs : List (κ × Value)} (r : KV kvs vs) : kvs.length = vs.length := Paired.length r
theorem dropK_le (kvs : List (κ × V)) (k : κ) : (dropK kvs k).length ≤ kvs.length := List.length_filter_le _ _
end


/-! ### a tracked dict, its keys ints and texts or tuples of these -/
theorem kV_is {P : Program} {w : World} {k : Key} {u : Value} (r : RelV (kV k) u) : (mixKind P w).is k u = true := by
  cases k with
  | inl i => obtain ⟨t, e⟩ := (show ∃ t, u = Value.int i t from r); subst e; exact mixKind_int P w i t
  | inr x => obtain ⟨t, e⟩ := (show ∃ t, u = Value.str x t from r); subst e; exact mixKind_str P w x t
theorem kV_inj {a b : Key} (e : kV a = kV b) : a = b := by
  cases a with
  | inl i => cases b with
    | inl j => have e' : V.int i = V.int j := e; injection e' with e'; rw [e']
    | inr y => exact nomatch (show V.int i = V.str y from e)
  | inr x => cases b with
    | inl j => exact nomatch (show V.str x = V.int j from e)
    | inr y => have e' : V.str x = V.str y := e; injection e' with e'; rw [e']
theorem kVs_inj : ∀ {a b : List Key}, a.map kV = b.map kV → a = b
  | [], [], _ => rfl
  | [], _ :: _, e => by simp at e
  | _ :: _, [], e => by simp at e
  | x :: xs, y :: ys, e => by
    rw [List.map_cons, List.map_cons] at e
    injection e with e1 e2
    rw [kV_inj e1, kVs_inj e2]
theorem items_are {P : Program} {w : World} : ∀ {ks : List Key} {us : List Value}, Vals (ks.map kV) us → ItemsAre (mixKind P w) ks us
  | [], _, r => by rw [List.map_nil] at r; cases r; exact .nil
  | k :: ks, _, r => by
    rw [List.map_cons] at r
    cases r with
    | cons h t => exact .cons (kV_is h) (items_are t)

/-- raw entries of a dict with tuple keys -/
abbrev KT (H : Hp) : List (List Key × V) → List (List Key × Addr × Value) → Prop := Paired fun p q => p.1 = q.1 ∧ H q.2.1 = some (.tup (p.1.map kV)) ∧ RelV p.2 q.2.2
theorem KT.val {H : Hp} {kvs : List (List Key × V)} {xs : List (List Key × Addr × Value)} (r : KT H kvs xs) (k : List Key) : RelO (valV kvs k) ((atKey xs k).map (·.2)) := by
  induction r with
  | nil => exact True.intro
  | @cons p q ps qs h t ih =>
    obtain ⟨h1, _, h2⟩ := h
    by_cases e : p.1 = k
    · have e' : q.1 = k := h1.symm.trans e
      have b : atKey (q :: qs) k = some q.2 := by simp [atKey, List.find?_cons, e']
      rw [valV_pos e, b]; exact h2
    · have e' : ¬ q.1 = k := fun z => e (h1.trans z)
      have b : atKey (q :: qs) k = atKey qs k := by simp [atKey, List.find?_cons, e']
      rw [valV_neg e, b]; exact ih
theorem KT.repl {H : Hp} {kvs : List (List Key × V)} {xs : List (List Key × Addr × Value)} (r : KT H kvs xs) (k : List Key) {y : V} {u : Value} (ry : RelV y u) :
    KT H (kvs.map fun kv => if kv.1 = k then (kv.1, y) else kv) (xs.map (putAt k u)) := by
  induction r with
  | nil => exact .nil
  | @cons p q ps qs h t ih =>
    rw [List.map_cons, List.map_cons]
    refine .cons ?_ ih
    obtain ⟨h1, h2, h3⟩ := h
    unfold putAt
    by_cases e : p.1 = k
    · rw [if_pos e, if_pos (h1.symm.trans e)]; exact ⟨h1, h2, ry⟩
    · rw [if_neg e, if_neg (fun z => e (h1.trans z))]; exact ⟨h1, h2, h3⟩
theorem KT.put {H : Hp} {kvs : List (List Key × V)} {xs : List (List Key × Addr × Value)} (r : KT H kvs xs) (k : List Key) {b : Addr} {y : V} {u : Value} (hb : H b = some (.tup (k.map kV))) (ry : RelV y u) :
    KT H (putK kvs k y) (storedH xs k b u) := by
  have e : (kvs.any fun kv => decide (kv.1 = k)) = (atKey xs k).isSome := by
    rw [valV_any, (r.val k).isSome_eq, Option.isSome_map]
  unfold putK storedH
  rw [e]
  by_cases q : (atKey xs k).isSome = true
  · rw [if_pos q, if_pos q]; exact r.repl k ry
  · rw [if_neg q, if_neg q]; exact Paired.snoc r ⟨rfl, hb, ry⟩
theorem KT.keeps {H H' : Hp} {kvs : List (List Key × V)} {xs : List (List Key × Addr × Value)} (r : KT H kvs xs) (ht : ∀ b ys, H b = some (.tup ys) → H' b = some (.tup ys)) : KT H' kvs xs :=
  Paired.mapP r fun _ _ z => ⟨z.1, ht _ _ z.2.1, z.2.2⟩

section
variable {P : Program} {w : World} {H : Hp} {h : Heap} {a : Addr}
theorem rd_of {u : HO} (ok : HOk P w H h) (e : Rd H a u) : ObjOk P w H h a u := e.ok ok
theorem dk_rd {kvs : List (Key × V)} (ok : HOk P w H h) (e : Rd H a (.dK kvs)) : kvs.length ≤ sizeLine ∧ (a == sysModules) = false ∧ ∃ vs, KV kvs vs ∧ h.DictOf (mixKind P w) a vs :=
  show ObjOk P w H h a (.dK kvs) from rd_of ok e
theorem dk_of {kvs : List (Key × V)} (ok : HOk P w H h) (e : H a = some (.dK kvs)) : kvs.length ≤ sizeLine ∧ (a == sysModules) = false ∧ ∃ vs, KV kvs vs ∧ h.DictOf (mixKind P w) a vs := dk_rd ok (.inl e)
/-- a tracked tuple of ints and texts is a key -/
theorem key_of {ks : List Key} (ok : HOk P w H h) (e : H a = some (.tup (ks.map kV))) : (tupleKind (mixKind P w)).is h ks a := by
  obtain ⟨_, its, r, o, h1, h2, n, h3⟩ := (show ObjOk P w H h a (.tup (ks.map kV)) from ok a _ e)
  exact ⟨o, its.toArray, n, h1, h2, h3, by simpa using items_are r⟩
theorem dt_rd {kvs : List (List Key × V)} (ok : HOk P w H h) (e : Rd H a (.dT kvs)) : kvs.length ≤ sizeLine ∧ (a == sysModules) = false ∧
    ∃ xs, KT H kvs xs ∧ h.DictOfH (tupleKind (mixKind P w)) a xs := by
  obtain ⟨z, y, xs, r, o, es, ep, h1, h2, h3, h4, h5⟩ := (show ObjOk P w H h a (.dT kvs) from rd_of ok e)
  refine ⟨z, y, xs, r, o, es, ep, h1, h2, h3, h4, fun x hx => ?_, h5⟩
  have all : ∀ {l : List (List Key × V)} {m : List (List Key × Addr × Value)}, KT H l m → ∀ x ∈ m, (tupleKind (mixKind P w)).is h x.1 x.2.1 := by
    intro l m q
    induction q with
    | nil => intro x hx; exact nomatch hx
    | @cons p q ps qs hq t ih =>
      intro x hx
      rcases List.mem_cons.mp hx with e | hx
      · subst e
        exact key_of ok (by rw [← hq.1]; exact hq.2.1)
      · exact ih x hx
  exact all r x hx
theorem dt_of {kvs : List (List Key × V)} (ok : HOk P w H h) (e : H a = some (.dT kvs)) : kvs.length ≤ sizeLine ∧ (a == sysModules) = false ∧
    ∃ xs, KT H kvs xs ∧ h.DictOfH (tupleKind (mixKind P w)) a xs := dt_rd ok (.inl e)
end

/-- what the dict at a holds at the key y -/
def DGet (H : Hp) (a : Addr) (y : V) (r : Option V) : Prop :=
  (∃ kvs k, Rd H a (.dK kvs) ∧ y = kV k ∧ r = valV kvs k) ∨ ∃ kvs k b, Rd H a (.dT kvs) ∧ y = .ref b ∧ H b = some (.tup (k.map kV)) ∧ r = valV kvs k
/-- the heap behind a[y] = v -/
def DPut (H : Hp) (a : Addr) (y v : V) (H' : Hp) : Prop :=
  (∃ kvs k, H a = some (.dK kvs) ∧ y = kV k ∧ kvs.length < sizeLine ∧ H' = upd H a (.dK (putK kvs k v))) ∨
  ∃ kvs k b, H a = some (.dT kvs) ∧ y = .ref b ∧ H b = some (.tup (k.map kV)) ∧ kvs.length < sizeLine ∧ H' = upd H a (.dT (putK kvs k v))
theorem DGet.k {H : Hp} {a : Addr} {kvs : List (Key × V)} {k : Key} (e : H a = some (.dK kvs)) : DGet H a (kV k) (valV kvs k) := .inl ⟨kvs, k, .inl e, rfl, rfl⟩
theorem DGet.t {H : Hp} {a b : Addr} {kvs : List (List Key × V)} {k : List Key} (e : H a = some (.dT kvs)) (eb : H b = some (.tup (k.map kV))) : DGet H a (.ref b) (valV kvs k) := .inr ⟨kvs, k, b, .inl e, rfl, eb, rfl⟩
theorem DPut.k {H : Hp} {a : Addr} {kvs : List (Key × V)} {k : Key} {v : V} (e : H a = some (.dK kvs)) (hl : kvs.length < sizeLine) : DPut H a (kV k) v (upd H a (.dK (putK kvs k v))) := .inl ⟨kvs, k, e, rfl, hl, rfl⟩
theorem DPut.t {H : Hp} {a b : Addr} {kvs : List (List Key × V)} {k : List Key} {v : V} (e : H a = some (.dT kvs)) (eb : H b = some (.tup (k.map kV))) (hl : kvs.length < sizeLine) :
    DPut H a (.ref b) v (upd H a (.dT (putK kvs k v))) := .inr ⟨kvs, k, b, e, rfl, eb, hl, rfl⟩


section
variable {X : Cx} {pins : List (Addr × Obj)} {σ : St} {H : Hp} {s : Shared} {a : Addr} {y v : V} {u r : Value} {o : Option V} {A : Around} {E : Value → Shared → Prop}

theorem Inv.big (I : Inv X pins σ H s) : sysModules < s.heap.objs.size := by
  have h : mainGlobals < s.heap.objs.size := (I.mod.glob.keeps I.bk).lt
  exact Nat.lt_trans (by decide) h

/-- d[y], there -/
theorem d_getItem {Q : Value → Shared → Prop} (hu : A.units + 1 < cLine) (I : Inv X pins σ H s) (g : DGet H a y (some v)) (ry : RelV y u) (h : ∀ w' s', Inv X pins σ H s' → RelV v w' → Q w' s') :
    wpAny (model X.prog X.w) A (getItem (.ref a) u) Q E s := by
  rcases g with ⟨kvs, k, e, ey, l⟩ | ⟨kvs, k, b, e, ey, eb, l⟩
  · subst ey
    obtain ⟨z, hd, vs, rel, dd⟩ := dk_rd I.hok e
    obtain ⟨w', hw, rw'⟩ := RelO.some_of (v := v) (o := valueAt vs k) (by rw [l]; exact rel.val k)
    exact wpAny_getItem_of (kV_is ry) dd.mapOf hw (h w' _ (I.tok _) rw')
  · subst ey
    cases (show u = Value.ref b from ry)
    obtain ⟨z, hd, xs, rel, dd⟩ := dt_rd I.hok e
    obtain ⟨w', hw, rw'⟩ := RelO.some_of (v := v) (o := (atKey xs k).map (·.2)) (by rw [l]; exact rel.val k)
    obtain ⟨p, hp, hp2⟩ := Option.map_eq_some_iff.mp hw
    refine wpAny_getItem_heap (tupleKind_room_in1 hu) (key_of I.hok eb) dd hp ?_
    rw [hp2]
    exact h w' _ (I.tok _) rw'
/-- y in d -/
theorem d_in {Q : Value → Shared → Prop} (hu : A.units + 1 < cLine) (I : Inv X pins σ H s) (g : DGet H a y o) (ry : RelV y u) (h : ∀ s', Inv X pins σ H s' → Q (.bool o.isSome) s') :
    wpAny (model X.prog X.w) A (compareOp .In u (.ref a)) Q E s := by
  rcases g with ⟨kvs, k, e, ey, l⟩ | ⟨kvs, k, b, e, ey, eb, l⟩
  · subst ey
    obtain ⟨z, hd, vs, rel, dd⟩ := dk_rd I.hok e
    refine wpAny_in_of (kV_is ry) hd dd.mapOf ?_
    rw [← (rel.val k).isSome_eq, ← l]
    exact h _ (I.tok _)
  · subst ey
    cases (show u = Value.ref b from ry)
    obtain ⟨z, hd, xs, rel, dd⟩ := dt_rd I.hok e
    refine wpAny_in_heap (tupleKind_room_in1 hu) (key_of I.hok eb) hd dd ?_
    have q := (rel.val k).isSome_eq
    rw [Option.isSome_map] at q
    rw [← q, ← l]
    exact h _ (I.tok _)
theorem d_notIn {Q : Value → Shared → Prop} (hu : A.units + 1 < cLine) (I : Inv X pins σ H s) (g : DGet H a y o) (ry : RelV y u) (h : ∀ s', Inv X pins σ H s' → Q (.bool (!o.isSome)) s') :
    wpAny (model X.prog X.w) A (compareOp .NotIn u (.ref a)) Q E s := by
  rcases g with ⟨kvs, k, e, ey, l⟩ | ⟨kvs, k, b, e, ey, eb, l⟩
  · subst ey
    obtain ⟨z, hd, vs, rel, dd⟩ := dk_rd I.hok e
    refine wpAny_notIn_of (kV_is ry) hd dd.mapOf ?_
    rw [← (rel.val k).isSome_eq, ← l]
    exact h _ (I.tok _)
  · subst ey
    cases (show u = Value.ref b from ry)
    obtain ⟨z, hd, xs, rel, dd⟩ := dt_rd I.hok e
    refine wpAny_notIn_heap (tupleKind_room_in1 hu) (key_of I.hok eb) hd dd ?_
    have q := (rel.val k).isSome_eq
    rw [Option.isSome_map] at q
    rw [← q, ← l]
    exact h _ (I.tok _)
/-- a dict's object is replaced -/
theorem d_write {h' : Heap} {t' : Nat} {ob : HO} (I : Inv X pins σ H s) (mu : Mut (H a)) (hs : Heap.SameBut a s.heap h') (he : ∃ q, h'.get? a = some q) (new : ObjOk X.prog X.w (upd H a ob) h' a ob) :
    Inv X pins σ (upd H a ob) { s with heap := h', toks := t' } :=
  I.write (x := a) (e := a) mu (.inl rfl) (fun b q hb z => (hs.2 b hb).trans z) he new
theorem dk_new {P : Program} {w : World} {H' : Hp} {h' : Heap} {kvs : List (Key × V)} {vs : List (Key × Value)} (z : kvs.length ≤ sizeLine) (hd : (a == sysModules) = false) (rel : KV kvs vs) (dd : h'.DictOf (mixKind P w) a vs) :
    ObjOk P w H' h' a (.dK kvs) := ⟨z, hd, vs, rel, dd⟩
/-- d[y] = v -/
theorem d_setItem {H' : Hp} {Q : Unit → Shared → Prop} (hu : A.units + 1 < cLine) (I : Inv X pins σ H s) (g : DPut H a y v H') (ry : RelV y u) (rv : RelV v r) (h : ∀ s', Inv X pins σ H' s' → Q () s') :
    wpAny (model X.prog X.w) A (setItem (.ref a) u r) Q E s := by
  rcases g with ⟨kvs, k, e, ey, l, eH⟩ | ⟨kvs, k, b, e, ey, eb, l, eH⟩
  · subst ey eH
    obtain ⟨z, hd, vs, rel, dd⟩ := dk_of I.hok e
    have hz : vs.length ≤ sizeLine := by rw [← rel.length]; exact z
    have hl : (putK kvs k v).length ≤ sizeLine := by have := length_putK kvs k v; omega
    refine wpAny_setItem_pairs (hsz := hz) (kV_is ry) dd fun h' dd' hs => h _ ?_
    have he : ∃ q, h'.get? a = some q := let ⟨q, _, _, hq, _⟩ := dd'; ⟨q, hq⟩
    exact d_write I (by rw [e]; exact True.intro) hs he (dk_new hl hd (rel.put k rv) dd')
  · subst ey eH
    cases (show u = Value.ref b from ry)
    obtain ⟨z, hd, xs, rel, dd⟩ := dt_of I.hok e
    have hz : xs.length ≤ sizeLine := by rw [← Paired.length rel]; exact z
    have hl : (putK kvs k v).length ≤ sizeLine := by have := length_putK kvs k v; omega
    refine wpAny_setItem_heap (hsz := hz) (tupleKind_room_in1 hu) (key_of I.hok eb) dd fun h' dd' hs => h _ ?_
    obtain ⟨q, es, ep, hq, h2, h3, h4, _, h5⟩ := dd'
    refine d_write I (by rw [e]; exact True.intro) hs ⟨q, hq⟩ ⟨hl, hd, _, (rel.put k eb rv).keeps fun c ys ec => ?_, q, es, ep, hq, h2, h3, h4, h5⟩
    rw [upd_ne (ne_of ec e (fun z => nomatch z))]
    exact ec
end

section
variable {X : Cx} {pins : List (Addr × Obj)} {σ : St} {H : Hp} {s : Shared} {a : Addr} {kvs : List (Key × V)} {k : Key} {u : Value} {A : Around} {E : Value → Shared → Prop}
/-- del d[k] -/
theorem d_delItem {Q : Unit → Shared → Prop} (I : Inv X pins σ H s) (e : H a = some (.dK kvs)) (ry : RelV (kV k) u) (l : (valV kvs k).isSome = true) (h : ∀ s', Inv X pins σ (upd H a (.dK (dropK kvs k))) s' → Q () s') :
    wpAny (model X.prog X.w) A (delItem (.ref a) u) Q E s := by
  obtain ⟨z, hd, vs, rel, dd⟩ := dk_of I.hok e
  refine wpAny_delItem_slot dd.typeIs (by decide) PySem.F.slot_dict_delitem
    (call_meetsIn PySem.F.slot_dict_delitem dd.typeIs PySem.F.entry_dict_delitem (PySem.F.args_dict_delitem_2 _ _) (meets_dict_delitem_pairs (mixKind X.prog X.w) a (kV_is ry)) ⟨vs, dd, by rw [← rel.length]; exact z, by rw [← (rel.val k).isSome_eq]; exact l, fun h' dd' hs => h _ ?_⟩)
  have he : ∃ q, h'.get? a = some q := let ⟨q, _, _, hq, _⟩ := dd'; ⟨q, hq⟩
  exact d_write I (by rw [e]; exact True.intro) hs he (dk_new (Nat.le_trans (dropK_le kvs k) z) hd (rel.drop k) dd')
/-- d.pop(k[, x]), there -/
theorem d_pop {v : V} {more : List Value} {Q : Value → Shared → Prop} (I : Inv X pins σ H s) (e : H a = some (.dK kvs)) (ry : RelV (kV k) u) (l : valV kvs k = some v) (hm : more = [] ∨ ∃ x, more = [x])
    (h : ∀ w' s', Inv X pins σ (upd H a (.dK (dropK kvs k))) s' → RelV v w' → Q w' s') : wpAny (model X.prog X.w) A (call (.builtin "dict.pop") (.ref a :: u :: more)) Q E s := by
  obtain ⟨z, hd, vs, rel, dd⟩ := dk_of I.hok e
  obtain ⟨w', hw, rw'⟩ := RelO.some_of (v := v) (o := valueAt vs k) (by rw [← l]; exact rel.val k)
  have hp : (keyPart u).isSome = true := by
    cases k with
    | inl i => obtain ⟨t, q⟩ := (show ∃ t, u = Value.int i t from ry); subst q; rfl
    | inr x => obtain ⟨t, q⟩ := (show ∃ t, u = Value.str x t from ry); subst q; rfl
  have ha : argsOk "dict.pop" ⟨.ref a :: u :: more, []⟩ := by
    rcases hm with q | ⟨x, q⟩
    · subst q; exact PySem.F.args_dict_pop_2 _ _
    · subst q; exact PySem.F.args_dict_pop_3 _ _ _
  refine call_meetsIn PySem.F.slot_dict_pop dd.typeIs PySem.F.entry_dict_pop ha (meets_dict_pop_there (mixKind X.prog X.w) a (kV_is ry) more hm hp)
    ⟨vs, w', dd, by rw [← rel.length]; exact z, hw, fun h' dd' hs => h w' _ ?_ rw'⟩
  have he : ∃ q, h'.get? a = some q := let ⟨q, _, _, hq, _⟩ := dd'; ⟨q, hq⟩
  exact d_write I (by rw [e]; exact True.intro) hs he (dk_new (Nat.le_trans (dropK_le kvs k) z) hd (rel.drop k) dd')
/-- d.pop(k, x), not there -/
theorem d_popD {r : Value} {Q : Value → Shared → Prop} (I : Inv X pins σ H s) (e : H a = some (.dK kvs)) (ry : RelV (kV k) u) (l : valV kvs k = none) (h : ∀ s', Inv X pins σ H s' → Q r s') :
    wpAny (model X.prog X.w) A (call (.builtin "dict.pop") [.ref a, u, r]) Q E s := by
  obtain ⟨z, hd, vs, rel, dd⟩ := dk_of I.hok e
  have hn : valueAt vs k = none := RelO.none_of (by rw [← l]; exact rel.val k)
  have hp : (keyPart u).isSome = true := by
    cases k with
    | inl i => obtain ⟨t, q⟩ := (show ∃ t, u = Value.int i t from ry); subst q; rfl
    | inr x => obtain ⟨t, q⟩ := (show ∃ t, u = Value.str x t from ry); subst q; rfl
  exact call_meetsIn PySem.F.slot_dict_pop dd.typeIs PySem.F.entry_dict_pop (PySem.F.args_dict_pop_3 _ _ _) (meets_dict_pop_default (mixKind X.prog X.w) a (kV_is ry) hd hp r) ⟨vs, dd, hn, h _ (I.tok _)⟩
/-- d.clear() -/
theorem d_clear {Q : Value → Shared → Prop} (I : Inv X pins σ H s) (e : H a = some (.dK kvs)) (h : ∀ s', Inv X pins σ (upd H a (.dK [])) s' → Q .none s') : wpAny (model X.prog X.w) A (call (.builtin "dict.clear") [.ref a]) Q E s := by
  obtain ⟨z, hd, vs, rel, dd⟩ := dk_of I.hok e
  refine call_meetsIn PySem.F.slot_dict_clear dd.typeIs PySem.F.entry_dict_clear (PySem.F.args_dict_clear_1 _) (meets_dict_clear (mixKind X.prog X.w) a) ⟨vs, dd, by rw [← rel.length]; exact z, fun h' dd' hs => h _ ?_⟩
  have he : ∃ q, h'.get? a = some q := let ⟨q, _, _, hq, _⟩ := dd'; ⟨q, hq⟩
  exact d_write (t' := s.toks) I (by rw [e]; exact True.intro) hs he (dk_new (Nat.zero_le _) hd .nil dd')
/-- len(d) -/
theorem d_len {Q : Value → Shared → Prop} (I : Inv X pins σ H s) (e : Rd H a (.dK kvs)) (h : ∀ t s', Inv X pins σ H s' → Q (.int kvs.length t) s') : wpAny (model X.prog X.w) A (call (.builtin "len") [.ref a]) Q E s := by
  obtain ⟨z, hd, vs, rel, dd⟩ := dk_rd I.hok e
  refine call_len_dict hd dd (by rw [← rel.length]; rw [sizeLine_eq] at z; omega) ?_
  rw [← rel.length]
  exact h _ _ (I.tok _)
/-- if d -/
theorem d_truth {Q : Bool → Shared → Prop} (I : Inv X pins σ H s) (e : Rd H a (.dK kvs)) (h : ∀ s', Inv X pins σ H s' → Q (!kvs.isEmpty) s') : wpAny (model X.prog X.w) A (truthy (.ref a)) Q E s := by
  obtain ⟨z, hd, vs, rel, dd⟩ := dk_rd I.hok e
  refine wpAny_truthy_dict hd dd (by rw [← rel.length]; rw [sizeLine_eq] at z; omega) ?_
  have q : kvs.isEmpty = vs.isEmpty := by cases rel <;> rfl
  rw [← q]
  exact h _ (I.tok _)
end


/-! ### readings and rules -/
/-- the element of a subscription, not a slice -/
def NoSl (i : Expr) : Prop := ∀ ov iv, subscripted i false ov iv = operate [ov, iv] (getItem ov iv)
theorem subD_of {prog : Program} {w : World} {A : Around} {E : Value → Shared → Prop} {s : Shared} {env : Env} {value slice : Expr} {pos : Pos} {T id : String} {Q : Value → Shared → Prop}
    (hl : typeLookup (.type T) "__getitem__" = pure (some (.builtin id))) (hs : NoSl slice)
    (h : wpAny (model prog w) A (eval value env) (fun o s₁ => wpAny (model prog w) A (eval slice env) (fun i s₂ => s₂.TypeIs o T ∧ wpAny (model prog w) A (getItem o i) Q E s₂) E s₁) E s) :
    wpAny (model prog w) A (eval (.Subscript value slice pos) env) Q E s := by
  refine Subscript_ (wpAny_mono h (fun o s₁ h₁ => wpAny_mono h₁ (fun i s₂ h₂ => ?_) fun _ _ x => x) fun _ _ x => x)
  obtain ⟨hT, h₂⟩ := h₂
  unfold subscriptTail
  refine wpAny_bind ?_
  rw [getitemInPython_of_ne hT.not_modules]
  refine wpAny_bind (wpAny_specialOf hT hl ?_)
  have fin : wpAny (model prog w) A (subscripted slice false o i) (fun r s₃ => wpAny (model prog w) A (letTemporaryGo value o r >>= fun _ => pure r) Q E s₃) E s₂ := by
    rw [hs o i]
    exact wpAny_operating (wpAny_mono h₂ (fun r s₃ h₃ => wpAny_bind (wpAny_letTemporaryGo (wpAny_pure h₃))) fun _ _ x => x)
  first
    | exact wpAny_pure (wpAny_bind fin)
    | exact wpAny_bind (wpAny_pure (wpAny_bind fin))
    | exact wpAny_bind fin

theorem dict_typeIs {X : Cx} {pins : List (Addr × Obj)} {σ : St} {H : Hp} {s : Shared} {a : Addr} {y : V} {o : Option V} (I : Inv X pins σ H s) (g : DGet H a y o) : s.TypeIs (.ref a) "dict" := by
  rcases g with ⟨kvs, k, e, _, _⟩ | ⟨kvs, k, b, e, _, _, _⟩
  · obtain ⟨_, _, vs, _, dd⟩ := dk_rd I.hok e
    exact dd.typeIs
  · obtain ⟨_, _, xs, _, dd⟩ := dt_rd I.hok e
    exact dd.typeIs
theorem dict_noDict {X : Cx} {pins : List (Addr × Obj)} {σ : St} {H : Hp} {s : Shared} {a : Addr} {y : V} {o : Option V} (I : Inv X pins σ H s) (g : DGet H a y o) :
    ∀ b, Value.ref a = .ref b → ∃ ob, s.heap.get? b = some ob ∧ ob.dict = none := fun b q => by
  cases q
  rcases g with ⟨kvs, k, e, _, _⟩ | ⟨kvs, k, b, e, _, _, _⟩
  · obtain ⟨_, _, vs, _, ob, _, _, h1, h2, _⟩ := dk_rd I.hok e
    exact ⟨ob, h1, h2.2.1⟩
  · obtain ⟨_, _, xs, _, ob, _, _, h1, h2, _⟩ := dt_rd I.hok e
    exact ⟨ob, h1, h2.2.1⟩

/-- d[y] -/
def tDGet (td ty : TE) : TE := fun σ H Q => td σ H fun x H1 => ty σ H1 fun y H2 => ∃ a v, x = .ref a ∧ DGet H2 a y (some v) ∧ Q v H2
/-- y in d, y not in d -/
def tDIn (ty td : TE) : TE := fun σ H Q => ty σ H fun y H1 => td σ H1 fun x H2 => ∃ a o, x = .ref a ∧ DGet H2 a y o ∧ Q (.bl o.isSome) H2
def tDNotIn (ty td : TE) : TE := fun σ H Q => ty σ H fun y H1 => td σ H1 fun x H2 => ∃ a o, x = .ref a ∧ DGet H2 a y o ∧ Q (.bl (!o.isSome)) H2
/-- d[y] = v -/
def sDPut (td ty tv : TE) : TS := fun D σ H => tv σ H fun v H1 => td σ H1 fun x H2 => ty σ H2 fun y H3 => ∃ a H4, x = .ref a ∧ DPut H3 a y v H4 ∧ D.nx σ H4
/-- d[y] op= v -/
def sDAug (td ty tv : TE) (rd : V → V → Hp → VK → Prop) : TS := fun D σ H => td σ H fun x H1 => ty σ H1 fun y H2 => ∃ a v, x = .ref a ∧ DGet H2 a y (some v) ∧
  tv σ H2 fun y2 H3 => rd v y2 H3 fun z H4 => ∃ H5, DPut H4 a y z H5 ∧ D.nx σ H5
/-- del d[y] -/
def sDDel (td ty : TE) : TS := fun D σ H => td σ H fun x H1 => ty σ H1 fun y H2 => ∃ a kvs k, x = .ref a ∧ H2 a = some (.dK kvs) ∧ y = kV k ∧ (valV kvs k).isSome = true ∧ D.nx σ (upd H2 a (.dK (dropK kvs k)))

section
variable {X : Cx} {o i e value : Expr} {pos pos' tpos : Pos} {td ty tv : TE}
theorem pe_dget (hu : X.A.units + 1 < cLine) (ho : PE X o td) (hi : PE X i ty) (hs : NoSl i) : PE X (.Subscript o i pos) (tDGet td ty) := by
  intro pins s σ H Q I h
  refine subD_of PySem.F.slot_dict_getitem.lookup hs (thn (ho pins s σ H _ I h) fun u s1 ⟨x, H1, I1, rx, q1⟩ => thn (hi pins s1 σ H1 _ I1 q1) fun iv s2 ⟨y, H2, I2, ry, a, v, ex, g, q2⟩ => ?_)
  subst ex
  obtain rfl : u = Value.ref a := rx
  exact ⟨dict_typeIs I2 g, d_getItem hu I2 g ry fun w' s3 I3 rw' => ⟨v, H2, I3, rw', q2⟩⟩
theorem pc_din (hu : X.A.units + 1 < cLine) (hi : PE X i ty) (ho : PE X o td) : PC X .In i o (tDIn ty td) := by
  intro pins s σ H Q I h
  refine thn (hi pins s σ H _ I h) fun iv s1 ⟨y, H1, I1, ry, q1⟩ => thn (ho pins s1 σ H1 _ I1 q1) fun u s2 ⟨x, H2, I2, rx, a, ov, ex, g, q2⟩ => ?_
  subst ex
  obtain rfl : u = Value.ref a := rx
  exact d_in hu I2 g ry fun s3 I3 => ⟨.bl ov.isSome, H2, I3, rfl, q2⟩
theorem pc_dnotin (hu : X.A.units + 1 < cLine) (hi : PE X i ty) (ho : PE X o td) : PC X .NotIn i o (tDNotIn ty td) := by
  intro pins s σ H Q I h
  refine thn (hi pins s σ H _ I h) fun iv s1 ⟨y, H1, I1, ry, q1⟩ => thn (ho pins s1 σ H1 _ I1 q1) fun u s2 ⟨x, H2, I2, rx, a, ov, ex, g, q2⟩ => ?_
  subst ex
  obtain rfl : u = Value.ref a := rx
  exact d_notIn hu I2 g ry fun s3 I3 => ⟨.bl (!ov.isSome), H2, I3, rfl, q2⟩
theorem ps_dput (hu : X.A.units + 1 < cLine) (ho : PE X o td) (hi : PE X i ty) (hv : PE X value tv) (hs : swapsWith value (some (.Subscript o i pos')) pos.line X.env = pure false) :
    PS X (.Assign [.Subscript o i pos'] value pos) (sDPut td ty tv) := by
  intro pins s σ H D I h
  refine wpAny_Assign_Subscript (thn (hv pins s σ H _ I h) fun r s1 ⟨v, H1, I1, rv, q1⟩ => thn (ho pins s1 σ H1 _ I1 q1) fun u s2 ⟨x, H2, I2, rx, q2⟩ => thn (hi pins s2 σ H2 _ I2 q2) fun iv s3 ⟨y, H3, I3, ry, a, H4, ex, g, q3⟩ => ?_) hs
  subst ex
  obtain rfl : u = Value.ref a := rx
  exact d_setItem hu I3 g ry rv fun s4 I4 => ⟨σ, H4, I4, q3⟩
theorem ps_daug {op : Operator} {rd : V → V → Hp → VK → Prop} (hu : X.A.units + 1 < cLine) (ho : PE X o td) (hi : PE X i ty) (hv : PE X value tv) (hop : InOp X op rd)
    (ha : ∀ ov iv new, augStore i ov iv new = (do holding [new, ov, iv] (setItem ov iv new); release [new, ov, iv] []; pure .next)) : PS X (.AugAssign (.Subscript o i tpos) op value pos) (sDAug td ty tv rd) := by
  intro pins s σ H D I h
  refine wpAny_AugAssign_SubscriptAny (thn (ho pins s σ H _ I h) fun u s1 ⟨x, H1, I1, rx, q1⟩ => thn (hi pins s1 σ H1 _ I1 q1) fun iv s2 ⟨y, H2, I2, ry, a, v, ex, g, q2⟩ => ?_) ha
  subst ex
  obtain rfl : u = Value.ref a := rx
  refine d_getItem hu I2 g ry fun w' s3 I3 rw' => thn (hv pins s3 σ H2 _ I3 q2) fun w2 s4 ⟨y2, H3, I4, ry2, q3⟩ => thn (hop pins s4 σ H3 v y2 w' w2 _ I4 rw' ry2 q3) fun w3 s5 ⟨z, H4, I5, rz, H5, g5, q4⟩ => ?_
  exact d_setItem hu I5 g5 ry rz fun s6 I6 => ⟨σ, H5, I6, q4⟩
theorem ps_ddel (ho : PE X o td) (hi : PE X i ty) : PS X (.Delete [.Subscript o i tpos] pos) (sDDel td ty) := by
  intro pins s σ H D I h
  refine wpAny_Delete (wpAny_deleteEach_cons (wpAny_delete_Subscript (thn (ho pins s σ H _ I h) fun u s1 ⟨x, H1, I1, rx, q1⟩ => thn (hi pins s1 σ H1 _ I1 q1) fun iv s2 ⟨y, H2, I2, ry, a, kvs, k, ex, e, ey, l, q2⟩ => ?_)))
  subst ex ey
  obtain rfl : u = Value.ref a := rx
  exact d_delItem I2 e ry l fun s3 I3 => wpAny_deleteEach_nil ⟨σ, _, I3, q2⟩
end


/-! ### displays -/
theorem dk_empty {P : Program} {w : World} {H : Hp} (h : Heap) (hb : sysModules < h.objs.size) : ObjOk P w H (h.push { cls := .type "dict", data := .dict #[] }) h.objs.size (.dK []) :=
  ⟨Nat.zero_le _, beq_eq_false_iff_ne.mpr (Ne.symm (Nat.ne_of_lt hb)), [], .nil, Heap.DictOf.new h⟩
theorem dt_empty {P : Program} {w : World} {H : Hp} (h : Heap) (hb : sysModules < h.objs.size) : ObjOk P w H (h.push { cls := .type "dict", data := .dict #[] }) h.objs.size (.dT []) :=
  ⟨Nat.zero_le _, beq_eq_false_iff_ne.mpr (Ne.symm (Nat.ne_of_lt hb)), [], .nil, _, #[], 0, Heap.get?_push_size _ rfl, ⟨rfl, rfl, rfl⟩, rfl, rfl, List.nodup_nil⟩
/-- {}, to be a dict of the kind that is wanted -/
def tDNewK : TE := fun _ H Q => ∀ p, H p = none → Q (.ref p) (upd H p (.dK []))
def tDNewT : TE := fun _ H Q => ∀ p, H p = none → Q (.ref p) (upd H p (.dT []))
section
variable {X : Cx} {pos : Pos}
theorem pe_dnewK : PE X (.Dict [] [] pos) tDNewK := fun pins s σ H Q I h =>
  wpAny_Dict_empty ⟨.ref s.heap.objs.size, _, I.laid (a := s.heap.objs.size) (o := .dK []) (t' := s.toks) (fun _ _ q => Heap.get?_push_of_some _ q) (Nat.le_refl _) (dk_empty s.heap I.big), rfl, h _ (I.hok.fresh (Nat.le_refl _))⟩
theorem pe_dnewT : PE X (.Dict [] [] pos) tDNewT := fun pins s σ H Q I h =>
  wpAny_Dict_empty ⟨.ref s.heap.objs.size, _, I.laid (a := s.heap.objs.size) (o := .dT []) (t' := s.toks) (fun _ _ q => Heap.get?_push_of_some _ q) (Nat.le_refl _) (dt_empty s.heap I.big), rfl, h _ (I.hok.fresh (Nat.le_refl _))⟩
end

/-- the pairs of a display, from the left -/
def tPairs : List (TE × TE) → St → Hp → (List (V × V) → Hp → Prop) → Prop
  | [], _, H, Q => Q [] H
  | (tk, tv) :: r, σ, H, Q => tk σ H fun x H1 => tv σ H1 fun y H2 => tPairs r σ H2 fun ps H3 => Q ((x, y) :: ps) H3
abbrev VV : List (V × V) → List (Value × Value) → Prop := Paired fun p q => RelV p.1 q.1 ∧ RelV p.2 q.2
def PPs (X : Cx) (pos : Pos) (keys : List (Option Expr)) (values : List Expr) (trs : List (TE × TE)) : Prop :=
  ∀ (pins : List (Addr × Obj)) (s : Shared) (σ : St) (H : Hp) (Q : List (V × V) → Hp → Prop), Inv X pins σ H s → tPairs trs σ H Q →
    wpAny (model X.prog X.w) X.A (evalPairs (pairTrees keys values X.env pos)) (fun vs s' => ∃ ps H', Inv X pins σ H' s' ∧ VV ps vs ∧ Q ps H') X.xe s
theorem pps_nil {X : Cx} {pos : Pos} : PPs X pos [] [] [] := fun pins s σ H Q I h => pairTrees_nil_walk ⟨[], H, I, .nil, h⟩
theorem pps_cons {X : Cx} {pos : Pos} {k v : Expr} {ks : List (Option Expr)} {vs : List Expr} {tk tv : TE} {trs : List (TE × TE)} (hk : PE X k tk) (hv : PE X v tv) (hr : PPs X pos ks vs trs) :
    PPs X pos (some k :: ks) (v :: vs) ((tk, tv) :: trs) := fun pins s σ H Q I h =>
  pairTrees_cons_walk (thn (hk pins s σ H _ I h) fun u s1 ⟨x, H1, I1, rx, q1⟩ => thn (hv pins s1 σ H1 _ I1 q1) fun w2 s2 ⟨y, H2, I2, ry, q2⟩ =>
    thn (hr pins s2 σ H2 _ I2 q2) fun ws s3 ⟨ps, H3, I3, rel, q3⟩ => ⟨(x, y) :: ps, H3, I3, .cons ⟨rx, ry⟩ rel, q3⟩)

def mergeK (kvs more : List (Key × V)) : List (Key × V) := more.foldl (fun acc kv => putK acc kv.1 kv.2) kvs
theorem KV.merge : ∀ {more : List (Key × V)} {rs : List (Key × Value)} {kvs : List (Key × V)} {vs : List (Key × Value)}, KV more rs → KV kvs vs → KV (mergeK kvs more) (merged vs rs) := by
  intro more rs kvs vs r
  unfold KV at r
  induction r generalizing kvs vs with
  | nil => intro q; exact q
  | @cons p q ps qs h t ih =>
    intro r0
    have e : KV (putK kvs p.1 p.2) (stored vs q.1 q.2) := by
      have := r0.put p.1 h.2
      rw [← h.1]; exact this
    exact ih e
theorem length_mergeK : ∀ (more kvs : List (Key × V)), (mergeK kvs more).length ≤ kvs.length + more.length
  | [], kvs => by show kvs.length ≤ kvs.length + 0; omega
  | p :: r, kvs => by
    have h1 := length_mergeK r (putK kvs p.1 p.2)
    have h2 := length_putK kvs p.1 p.2
    show (mergeK (putK kvs p.1 p.2) r).length ≤ _
    rw [List.length_cons]; omega
theorem carries_of {P : Program} {w : World} : ∀ {kvs : List (Key × V)} {ws : List (Value × Value)}, VV (kvs.map fun kv => (kV kv.1, kv.2)) ws → ∃ rs, Carries (mixKind P w) ws rs ∧ KV kvs rs
  | [], _, r => by rw [List.map_nil] at r; cases r; exact ⟨[], True.intro, .nil⟩
  | p :: kvs, _, r => by
    rw [List.map_cons] at r
    cases r with
    | @cons a b as bs h t =>
      obtain ⟨rs, c, q⟩ := carries_of (P := P) (w := w) t
      obtain ⟨b1, b2⟩ := b
      exact ⟨(p.1, b2) :: rs, ⟨kV_is h.1, rfl, c⟩, .cons ⟨rfl, h.2⟩ q⟩
/-- {k: v, ..} with keys ints and texts; the new dict stands empty while the pairs are made -/
def tDisp (trs : List (TE × TE)) : TE := fun σ H Q => ∀ p, H p = none → tPairs trs σ (upd H p (.dK [])) fun ps H2 => H2 p = some (.dK []) ∧ ∃ kvs : List (Key × V), ps = kvs.map (fun kv => (kV kv.1, kv.2)) ∧ kvs.length ≤ 15 ∧ Q (.ref p) (upd H2 p (.dK (mergeK [] kvs)))
theorem pe_disp {X : Cx} {pos : Pos} {keys : List (Option Expr)} {values : List Expr} {trs : List (TE × TE)} (h : PPs X pos keys values trs) (hall : keys.all (·.isSome) = true) (hl : keys.length = values.length) (h0 : keys ≠ [])
    (h15 : keys.length ≤ 15) : PE X (.Dict keys values pos) (tDisp trs) := by
  intro pins s σ H Q I q
  have hn := I.hok.fresh (Nat.le_refl s.heap.objs.size)
  have I1 := I.laid (a := s.heap.objs.size) (o := .dK []) (h' := s.heap.push { cls := .type "dict", data := .dict #[] }) (t' := s.toks) (fun _ _ q => Heap.get?_push_of_some _ q) (Nat.le_refl _) (dk_empty s.heap I.big)
  refine wpAny_Dict_walk (knd := mixKind X.prog X.w) hall hl h0 h15 (thn (h pins _ σ _ _ I1 (q _ hn)) fun ws s2 ⟨ps, H2, I2, rel, e, kvs, ep, lk, q2⟩ => ?_)
  subst ep
  obtain ⟨rs, c, rk⟩ := carries_of (P := X.prog) (w := X.w) rel
  obtain ⟨z, hd, vs0, r0, dd⟩ := dk_of I2.hok e
  cases r0
  refine ⟨rs, c, dd, fun h' dd' hs => ⟨.ref s.heap.objs.size, _, ?_, rfl, q2⟩⟩
  have hz : (mergeK [] kvs).length ≤ sizeLine := by
    have h1 := length_mergeK kvs []
    rw [List.length_nil] at h1
    rw [sizeLine_eq]; omega
  have he : ∃ q, h'.get? s.heap.objs.size = some q := let ⟨q, _, _, hq, _⟩ := dd'; ⟨q, hq⟩
  exact d_write I2 (by rw [e]; exact True.intro) hs he (dk_new hz hd (rk.merge .nil) dd')


/-! ### methods -/
/-- a method call o.m(e) of a built-in, with one argument: what must be seen of the text -/
structure M1 (X : Cx) (o : Expr) (m : Str) (apos : Pos) (e : Expr) (cpos : Pos) : Prop where
  base : attributeBase o m X.env (eval o X.env) = eval o X.env
  few : ((backTo cpos (starEach [e] X.env)).all (fun x => !x.1) && (backToKw cpos (keywordEach [] X.env)).all (fun x => x.1.isSome)
    && decide (([e] : List Expr).length + ([] : List Keyword).length + (if ([] : List Keyword).isEmpty then 0 else 1) < 30)) = true
  line : (apos.endLine == cpos.line) = true
  trees : backTo cpos (starEach [e] X.env) = [(false, eval e X.env)]
structure M2 (X : Cx) (o : Expr) (m : Str) (apos : Pos) (e f : Expr) (cpos : Pos) : Prop where
  base : attributeBase o m X.env (eval o X.env) = eval o X.env
  few : ((backTo cpos (starEach [e, f] X.env)).all (fun x => !x.1) && (backToKw cpos (keywordEach [] X.env)).all (fun x => x.1.isSome)
    && decide (([e, f] : List Expr).length + ([] : List Keyword).length + (if ([] : List Keyword).isEmpty then 0 else 1) < 30)) = true
  line : (apos.endLine == cpos.line) = true
  trees : backTo cpos (starEach [e, f] X.env) = [(false, eval e X.env), (false, eval f X.env)]

/-- a is a dict, whatever its keys -/
def IsD (H : Hp) (a : Addr) : Prop := (∃ kvs, Rd H a (.dK kvs)) ∨ ∃ kvs, Rd H a (.dT kvs)
theorem isD_at {X : Cx} {pins : List (Addr × Obj)} {σ : St} {H : Hp} {s : Shared} {a : Addr} (I : Inv X pins σ H s) (d : IsD H a) :
    s.TypeIs (.ref a) "dict" ∧ (∀ b, Value.ref a = .ref b → ∃ ob, s.heap.get? b = some ob ∧ ob.dict = none) ∧ (a == sysModules) = false := by
  rcases d with ⟨kvs, e⟩ | ⟨kvs, e⟩
  · obtain ⟨_, hd, vs, _, dd⟩ := dk_rd I.hok e
    refine ⟨dd.typeIs, fun b q => ?_, hd⟩
    cases q
    obtain ⟨ob, _, _, h1, h2, _⟩ := dd
    exact ⟨ob, h1, h2.2.1⟩
  · obtain ⟨_, hd, xs, _, dd⟩ := dt_rd I.hok e
    refine ⟨dd.typeIs, fun b q => ?_, hd⟩
    cases q
    obtain ⟨ob, _, _, h1, h2, _⟩ := dd
    exact ⟨ob, h1, h2.2.1⟩

section
variable {X : Cx} {pins : List (Addr × Obj)} {σ : St} {H : Hp} {s : Shared} {a : Addr} {y d : V} {u r : Value} {o : Option V} {A : Around} {E : Value → Shared → Prop}
/-- d.get(y) -/
theorem d_get1 {Q : Value → Shared → Prop} (hu : A.units + 1 < cLine) (I : Inv X pins σ H s) (g : DGet H a y o) (ry : RelV y u) (h : ∀ w' s', Inv X pins σ H s' → RelV (o.getD .non) w' → Q w' s') :
    wpAny (model X.prog X.w) A (call (.builtin "dict.get") [.ref a, u]) Q E s := by
  rcases g with ⟨kvs, k, e, ey, l⟩ | ⟨kvs, k, b, e, ey, eb, l⟩
  · subst ey
    obtain ⟨z, hd, vs, rel, dd⟩ := dk_rd I.hok e
    refine call_meetsIn PySem.F.slot_dict_get dd.typeIs PySem.F.entry_dict_get (PySem.F.args_dict_get_2 _ _) (meets_dict_get (mixKind X.prog X.w) a (kV_is ry) hd) ⟨_, dd.mapOf, h _ _ (I.tok _) ?_⟩
    rw [l]
    exact (rel.val k).getD rfl
  · subst ey
    cases (show u = Value.ref b from ry)
    obtain ⟨z, hd, xs, rel, dd⟩ := dt_rd I.hok e
    refine call_meetsIn PySem.F.slot_dict_get dd.typeIs PySem.F.entry_dict_get (PySem.F.args_dict_get_2 _ _) (meetsH_dict_get (tupleKind (mixKind X.prog X.w)) a b hd) ⟨tupleKind_room_in1 hu, k, xs, key_of I.hok eb, dd, h _ _ (I.tok _) ?_⟩
    rw [l]
    exact (rel.val k).getD rfl
/-- d.get(y, x) -/
theorem d_get2 {Q : Value → Shared → Prop} (hu : A.units + 1 < cLine) (I : Inv X pins σ H s) (g : DGet H a y o) (ry : RelV y u) (rd : RelV d r) (h : ∀ w' s', Inv X pins σ H s' → RelV (o.getD d) w' → Q w' s') :
    wpAny (model X.prog X.w) A (call (.builtin "dict.get") [.ref a, u, r]) Q E s := by
  rcases g with ⟨kvs, k, e, ey, l⟩ | ⟨kvs, k, b, e, ey, eb, l⟩
  · subst ey
    obtain ⟨z, hd, vs, rel, dd⟩ := dk_rd I.hok e
    refine call_meetsIn PySem.F.slot_dict_get dd.typeIs PySem.F.entry_dict_get (PySem.F.args_dict_get_3 _ _ _) (meets_dict_get_default (mixKind X.prog X.w) a (kV_is ry) hd r) ⟨_, dd.mapOf, h _ _ (I.tok _) ?_⟩
    rw [l]
    exact (rel.val k).getD rd
  · subst ey
    cases (show u = Value.ref b from ry)
    obtain ⟨z, hd, xs, rel, dd⟩ := dt_rd I.hok e
    refine call_meetsIn PySem.F.slot_dict_get dd.typeIs PySem.F.entry_dict_get (PySem.F.args_dict_get_3 _ _ _) (meetsH_dict_get_default (tupleKind (mixKind X.prog X.w)) a b hd r) ⟨tupleKind_room_in1 hu, k, xs, key_of I.hok eb, dd, h _ _ (I.tok _) ?_⟩
    rw [l]
    exact (rel.val k).getD rd
end

def tDGet1 (td ty : TE) : TE := fun σ H Q => td σ H fun x H1 => ∃ a, x = .ref a ∧ IsD H1 a ∧ ty σ H1 fun y H2 => ∃ o, DGet H2 a y o ∧ Q (o.getD .non) H2
def tDGet2 (td ty tx : TE) : TE := fun σ H Q => td σ H fun x H1 => ∃ a, x = .ref a ∧ IsD H1 a ∧ ty σ H1 fun y H2 => tx σ H2 fun z H3 => ∃ o, DGet H3 a y o ∧ Q (o.getD z) H3
/-- d.pop(k): there; d.pop(k, x): there or not -/
def tDPop1 (td ty : TE) : TE := fun σ H Q => td σ H fun x H1 => ∃ a, x = .ref a ∧ IsD H1 a ∧ ty σ H1 fun y H2 => ∃ kvs k v, H2 a = some (.dK kvs) ∧ y = kV k ∧ valV kvs k = some v ∧ Q v (upd H2 a (.dK (dropK kvs k)))
def tDPop2 (td ty tx : TE) : TE := fun σ H Q => td σ H fun x H1 => ∃ a, x = .ref a ∧ IsD H1 a ∧ ty σ H1 fun y H2 => tx σ H2 fun z H3 => ∃ kvs k, H3 a = some (.dK kvs) ∧ y = kV k ∧
  (∀ v, valV kvs k = some v → Q v (upd H3 a (.dK (dropK kvs k)))) ∧ (valV kvs k = none → Q z H3)
section
variable {X : Cx} {o e f : Expr} {apos cpos : Pos} {td ty tx : TE}
theorem pe_dget1 (hu : X.A.units + 1 < cLine) (ho : PE X o td) (he : PE X e ty) (m : M1 X o "get" apos e cpos) : PE X (.Call (.Attribute o "get" apos) [e] [] cpos) (tDGet1 td ty) := by
  intro pins s σ H Q I h
  refine wpAny_Call_method m.base m.few m.line PySem.F.plainAttrs_dict PySem.F.slot_dict_get PySem.F.type_dict_get (thn (ho pins s σ H _ I h) fun u s1 ⟨x, H1, I1, rx, a, ex, d, q1⟩ => ?_)
  subst ex
  obtain rfl : u = Value.ref a := rx
  obtain ⟨t1, t2, _⟩ := isD_at I1 d
  refine ⟨t1, t2, ?_⟩
  rw [m.trees]
  refine Calls.callWith_builtin rfl (Calls.evalArgs_plain (Calls.spliced_cons (thn (he pins s1 σ H1 _ I1 q1) fun iv s2 ⟨y, H2, I2, ry, ov, g, q2⟩ => Calls.spliced_nil ?_)))
  exact d_get1 hu I2 g ry fun w' s3 I3 rw' => ⟨_, H2, I3, rw', q2⟩
theorem pe_dget2 (hu : X.A.units + 1 < cLine) (ho : PE X o td) (he : PE X e ty) (hf : PE X f tx) (m : M2 X o "get" apos e f cpos) : PE X (.Call (.Attribute o "get" apos) [e, f] [] cpos) (tDGet2 td ty tx) := by
  intro pins s σ H Q I h
  refine wpAny_Call_method m.base m.few m.line PySem.F.plainAttrs_dict PySem.F.slot_dict_get PySem.F.type_dict_get (thn (ho pins s σ H _ I h) fun u s1 ⟨x, H1, I1, rx, a, ex, d, q1⟩ => ?_)
  subst ex
  obtain rfl : u = Value.ref a := rx
  obtain ⟨t1, t2, _⟩ := isD_at I1 d
  refine ⟨t1, t2, ?_⟩
  rw [m.trees]
  refine Calls.callWith_builtin rfl (Calls.evalArgs_plain (Calls.spliced_cons (thn (he pins s1 σ H1 _ I1 q1) fun iv s2 ⟨y, H2, I2, ry, q2⟩ =>
    Calls.spliced_cons (thn (hf pins s2 σ H2 _ I2 q2) fun fv s3 ⟨z, H3, I3, rz, ov, g, q3⟩ => Calls.spliced_nil ?_))))
  exact d_get2 hu I3 g ry rz fun w' s4 I4 rw' => ⟨_, H3, I4, rw', q3⟩
theorem pe_dpop1 (ho : PE X o td) (he : PE X e ty) (m : M1 X o "pop" apos e cpos) : PE X (.Call (.Attribute o "pop" apos) [e] [] cpos) (tDPop1 td ty) := by
  intro pins s σ H Q I h
  refine wpAny_Call_method m.base m.few m.line PySem.F.plainAttrs_dict PySem.F.slot_dict_pop PySem.F.type_dict_pop (thn (ho pins s σ H _ I h) fun u s1 ⟨x, H1, I1, rx, a, ex, d, q1⟩ => ?_)
  subst ex
  obtain rfl : u = Value.ref a := rx
  obtain ⟨t1, t2, _⟩ := isD_at I1 d
  refine ⟨t1, t2, ?_⟩
  rw [m.trees]
  refine Calls.callWith_builtin rfl (Calls.evalArgs_plain (Calls.spliced_cons (thn (he pins s1 σ H1 _ I1 q1) fun iv s2 ⟨y, H2, I2, ry, kvs, k, v, ea, ey, l, q2⟩ => Calls.spliced_nil ?_)))
  subst ey
  exact d_pop I2 ea ry l (.inl rfl) fun w' s3 I3 rw' => ⟨v, _, I3, rw', q2⟩
theorem pe_dpop2 (ho : PE X o td) (he : PE X e ty) (hf : PE X f tx) (m : M2 X o "pop" apos e f cpos) : PE X (.Call (.Attribute o "pop" apos) [e, f] [] cpos) (tDPop2 td ty tx) := by
  intro pins s σ H Q I h
  refine wpAny_Call_method m.base m.few m.line PySem.F.plainAttrs_dict PySem.F.slot_dict_pop PySem.F.type_dict_pop (thn (ho pins s σ H _ I h) fun u s1 ⟨x, H1, I1, rx, a, ex, d, q1⟩ => ?_)
  subst ex
  obtain rfl : u = Value.ref a := rx
  obtain ⟨t1, t2, _⟩ := isD_at I1 d
  refine ⟨t1, t2, ?_⟩
  rw [m.trees]
  refine Calls.callWith_builtin rfl (Calls.evalArgs_plain (Calls.spliced_cons (thn (he pins s1 σ H1 _ I1 q1) fun iv s2 ⟨y, H2, I2, ry, q2⟩ =>
    Calls.spliced_cons (thn (hf pins s2 σ H2 _ I2 q2) fun fv s3 ⟨z, H3, I3, rz, kvs, k, ea, ey, q3, q4⟩ => Calls.spliced_nil ?_))))
  subst ey
  cases l : valV kvs k with
  | some v => exact d_pop I3 ea ry l (.inr ⟨fv, rfl⟩) fun w' s4 I4 rw' => ⟨v, _, I4, rw', q3 v l⟩
  | none => exact d_popD I3 ea ry l fun s4 I4 => ⟨z, H3, I4, rz, q4 l⟩
end

/-! ### dict(d): a copy -/
section
variable {X : Cx} {pins : List (Addr × Obj)} {σ : St} {H : Hp} {s : Shared} {a : Addr} {kvs : List (Key × V)} {A : Around} {E : Value → Shared → Prop}
theorem d_copyOf {Q : Value → Shared → Prop} (I : Inv X pins σ H s) (e : Rd H a (.dK kvs)) (h : ∀ p s', H p = none → Inv X pins σ (upd H p (.dK kvs)) s' → Q (.ref p) s') : wpAny (model X.prog X.w) A (call (.type "dict") [.ref a]) Q E s := by
  obtain ⟨z, hd, vs, rel, dd⟩ := dk_rd I.hok e
  refine kt_call_dict hd dd (by rw [← rel.length]; exact z) fun h' dd' hs => ?_
  refine h _ _ (I.hok.fresh (Nat.le_refl _)) (I.laid (a := s.heap.objs.size) (o := .dK kvs) (t' := s.toks) (fun b q hq => ?_) (Nat.le_refl _) (dk_new z (beq_eq_false_iff_ne.mpr (Ne.symm (Nat.ne_of_lt I.big))) rel dd'))
  exact (hs.2 b (Nat.ne_of_lt (Heap.lt_size hq))).trans (Heap.get?_push_of_some _ hq)
end


section
variable {X : Cx} {pins : List (Addr × Obj)} {σ : St} {H : Hp} {s : Shared} {a : Addr} {y : V} {u : Value} {A : Around} {E : Value → Shared → Prop}
/-- d[y], not there: a KeyError -/
theorem d_missing {Q : Value → Shared → Prop} (hu : A.units + 1 < cLine) (hh : A.handled = none) (I : Inv X pins σ H s) (g : DGet H a y none) (ry : RelV y u)
    (h : ∀ h' e t', Heap.NewExc s.heap h' e "KeyError" → E (.ref e) { s with heap := h', toks := t' }) : wpAny (model X.prog X.w) A (getItem (.ref a) u) Q E s := by
  rcases g with ⟨kvs, k, e, ey, l⟩ | ⟨kvs, k, b, e, ey, eb, l⟩
  · subst ey
    obtain ⟨z, hd, vs, rel, dd⟩ := dk_rd I.hok e
    have hn : valueAt vs k = none := RelO.none_of (by rw [l]; exact rel.val k)
    exact wpAny_getItem_missing_of (kV_is ry) hd hh dd.mapOf hn fun h' ex ne => h h' ex _ ne
  · subst ey
    cases (show u = Value.ref b from ry)
    obtain ⟨z, hd, xs, rel, dd⟩ := dt_rd I.hok e
    have hn : (atKey xs k).map (·.2) = none := RelO.none_of (by rw [l]; exact rel.val k)
    exact wpAny_getItem_missing_heap (tupleKind_room_in1 hu) (key_of I.hok eb) hd hh dd (Option.map_eq_none_iff.mp hn) fun h' ex ne => h h' ex _ ne
end
end L2

namespace HT
open PySem PyProof.Rows

/-- t < u of tuples of ints -/
def lexLt : List Int → List Int → Bool
  | [], [] => false
  | [], _ :: _ => true
  | _ :: _, [] => false
  | x :: xs, y :: ys => if x = y then lexLt xs ys else decide (x < y)
theorem lexLt_cons (x y : Int) (xs ys : List Int) : lexLt (x :: xs) (y :: ys) = if x = y then lexLt xs ys else decide (x < y) := rfl
theorem lexLt_nil_nil : lexLt [] [] = false := rfl
theorem lexLt_nil_cons (y : Int) (ys : List Int) : lexLt [] (y :: ys) = true := rfl
theorem lexLt_cons_nil (x : Int) (xs : List Int) : lexLt (x :: xs) [] = false := rfl

theorem eqAt_int (A : Around) (s : Shared) (a : Int) (t : Tok) (c : Int) (u : Tok) : ∃ e, SeqAt.EqAt A s (.int a t) (.int c u) e ∧ (e = true ↔ a = c) :=
  ⟨(a == c), SeqAt.EqAt.int_int a t c u, by simp⟩
theorem rcLt_int (A : Around) (s : Shared) (a : Int) (t : Tok) (c : Int) (u : Tok) (prog : Program) (w : World) (E : Value → Shared → Prop) (Q : Value → Shared → Prop) (h : Q (.bool (decide (a < c))) s) :
    wpAny (model prog w) A (richCompare .Lt (.int a t) (.int c u)) Q E s :=
  (PyProof.Rows.lt_int h : wpAny (model prog w) A (compareOp .Lt (.int a t) (.int c u)) Q E s)

section
open PySem.SeqAt
open PySem.AutoSeq1 (wpAny_loadPart')
open PySem.MeetsSeq PySem.MeetsSeq2 PySem.MeetsSeq3

theorem tuple_lt_ints (l b : Addr) (items items2 : Array Value) (n n2 : Nat) (dd dd2 : Option Addr) (sl sl2 : Array (Option Value)) (ns ms : List Int) (hi : IntsAre items.toList ns) (hj : IntsAre items2.toList ms) :
    Meets (Builtin.«tuple.__lt__» ⟨[.ref l, .ref b], []⟩)
      (fun _ R s => s.heap.get? l = some { cls := .type "tuple", dict := dd, data := .seq items n, slots := sl } ∧ s.heap.get? b = some { cls := .type "tuple", dict := dd2, data := .seq items2 n2, slots := sl2 } ∧
        R (.ok (.ret (.bool (lexLt ns ms)))) s) :=
  .of_wp fun prog w A R s h => by
    obtain ⟨hp, g, d, tk, os⟩ := s; obtain ⟨hl, hb, h⟩ := h
    have f2 := AutoSeq1.sub_tuple_tuple
    have z1 : items.size = ns.length := by rw [← hi.length]; simp
    have z2 : items2.size = ms.length := by rw [← hj.length]; simp
    wp_walk using wpAny_loadPart' hl, wpAny_loadPart' hb, wpAny_forIn_list _ (fun rest b s' => b.1 = none ∧ s' = ⟨hp, g, d, tk, os⟩ ∧ ∃ (vs ws : List Value) (ns' ms' : List Int), rest = vs.zip ws ∧
      IntsAre vs ns' ∧ IntsAre ws ms' ∧ ns'.length + items2.size = ms'.length + items.size ∧ R (.ok (.ret (.bool (lexLt ns' ms')))) ⟨hp, g, d, tk, os⟩) _
    case turn =>
      rintro ⟨y, x⟩ rest b s' ⟨hb', rfl, vs, ws, ns', ms', hz, hvi, hwi, hlen, hR⟩
      cases hvi with
      | nil => rw [List.zip_nil_left] at hz; cases hz
      | cons a t hvi' =>
        cases hwi with
        | nil => rw [List.zip_nil_right] at hz; cases hz
        | cons c u hwi' =>
          rw [List.zip_cons_cons] at hz
          injection hz with hyx hrest
          injection hyx with hy hx
          subst hy hx
          rw [lexLt_cons] at hR
          simp only [List.length_cons] at hlen
          obtain ⟨e, he, hiff⟩ := eqAt_int A.in1 ⟨hp, g, d, tk, os⟩ a t c u
          refine wpAny_bind (he prog w _ _ ?_)
          cases e with
          | true =>
            rw [if_pos (hiff.mp rfl)] at hR
            wp_walk
            exact ⟨rfl, rfl, _, _, _, _, hrest, hvi', hwi', by omega, hR⟩
          | false =>
            rw [if_neg (fun q => absurd (hiff.mpr q) Bool.false_ne_true)] at hR
            have hri := rcLt_int A.in1 ⟨hp, g, d, tk, os⟩ a t c u prog w
            wp_walk using hri
            exact ⟨_, rfl, by simpa using hR⟩
    case fin =>
      rintro ⟨b1, b2⟩ s' ⟨hb', rfl, vs, ws, ns', ms', hz, hvi, hwi, hlen, hR⟩
      simp only at hb'
      subst hb'
      have hv : lexLt ns' ms' = decide (items.size < items2.size) := by
        cases hvi with
        | nil =>
          cases hwi with
          | nil =>
            simp only [List.length_nil] at hlen
            rw [lexLt_nil_nil]
            exact (decide_eq_false (by omega)).symm
          | cons c u hw =>
            simp only [List.length_nil, List.length_cons] at hlen
            rw [lexLt_nil_cons]
            exact (decide_eq_true (by omega)).symm
        | cons a t hv =>
          cases hwi with
          | nil =>
            simp only [List.length_nil, List.length_cons] at hlen
            rw [lexLt_cons_nil]
            exact (decide_eq_false (by omega)).symm
          | cons c u hw =>
            rw [List.zip_cons_cons] at hz
            cases hz
      rw [hv] at hR
      wp_walk
      exact ⟨_, rfl, by simpa [Builtin.Tuple.tupleCompareSizes] using hR⟩
    case h =>
      exact ⟨rfl, rfl, items.toList, items2.toList, ns, ms, rfl, hi, hj, by omega, h⟩
end

section
variable {prog : Program} {w : World} {A : Around} {E : Value → Shared → Prop} {s : Shared}

theorem lt_tupInts {l b : Addr} {items items2 : Array Value} {ns ms : List Int} {Q : Value → Shared → Prop} (hl : IsTup s.heap l items) (hb : IsTup s.heap b items2) (hi : IntsAre items.toList ns) (hj : IntsAre items2.toList ms)
    (hu : A.units < cLine) (h : Q (.bool (lexLt ns ms)) s) : wpAny (model prog w) A (compareOp .Lt (.ref l) (.ref b)) Q E s := by
  obtain ⟨⟨cls, dd, data, sl⟩, ho, hc, n, hd⟩ := id hl
  obtain ⟨⟨cls2, dd2, data2, sl2⟩, ho2, hc2, n2, hd2⟩ := id hb
  simp only at hc hd hc2 hd2
  subst hc hd hc2 hd2
  exact richCompare_meets_room (op := .Lt) ⟨_, ho, rfl⟩ ⟨_, ho2, rfl⟩ PySem.F.slot_tuple_lt PySem.F.entry_tuple_lt (PySem.F.args_tuple_lt_2 _ _) (tuple_lt_ints l b items items2 n n2 dd dd2 sl sl2 ns ms hi hj)
    ⟨ho, ho2, show Value.bool (lexLt ns ms) ≠ Value.notImplemented ∧ Q (.bool (lexLt ns ms)) s from ⟨(fun x => nomatch x), h⟩⟩ hu

/-- t + u, t not empty -/
theorem cat_tup {t b : Addr} {vs ws : List Value} {Q : Value → Shared → Prop} (ht : IsTup s.heap t vs.toArray) (hb : IsTup s.heap b ws.toArray) (hv : vs ≠ [])
    (h1 : ws = [] → Q (.ref t) s) (h2 : ws ≠ [] → Q (.ref s.heap.objs.size) { s with heap := s.heap.push { cls := .type "tuple", data := .seq (vs ++ ws).toArray } })
    (hsz : vs.length + ws.length ≤ sizeLine) : wpAny (model prog w) A (binaryOp .Add (.ref t) (.ref b)) Q E s := by
  obtain ⟨⟨cls, dd, data, sl⟩, ho, hc, n, hd⟩ := id ht
  obtain ⟨⟨cls2, dd2, data2, sl2⟩, ho2, hc2, n2, hd2⟩ := id hb
  simp only at hc hd hc2 hd2
  subst hc hd hc2 hd2
  have e : vs.toArray ++ ws.toArray = (vs ++ ws).toArray := by simp
  by_cases hw : ws = []
  · exact concat_meets ⟨_, ho, rfl⟩ ⟨_, ho2, rfl⟩ noFill_tuple_add seq_tuple_add PySem.F.slot_tuple_add PySem.F.entry_tuple_add (PySem.F.args_tuple_add_2 _ _)
      (tuple_addW1 t b vs.toArray ws.toArray n n2 dd dd2 sl sl2 (by simpa using hv) (by simp [hw])) ⟨ho, ho2, h1 hw⟩
  · refine concat_meets ⟨_, ho, rfl⟩ ⟨_, ho2, rfl⟩ noFill_tuple_add seq_tuple_add PySem.F.slot_tuple_add PySem.F.entry_tuple_add (PySem.F.args_tuple_add_2 _ _)
      (tuple_addW2 t b vs.toArray ws.toArray n n2 dd dd2 sl sl2 (by simpa using hv) (by simpa using hw) (by rw [List.size_toArray, List.size_toArray]; exact hsz)) ⟨ho, ho2, ?_⟩
    rw [e]
    exact h2 hw

/-! ### t[a:b], not the whole -/
/-- a slice's bound as a place among n (d where it is left out) -/
def sIx (n d : Nat) : Option Int → Nat
  | none => d
  | some v => if v < 0 then (v + (n : Int)).toNat else min v.toNat n
theorem sIx_none (n d : Nat) : sIx n d none = d := rfl
theorem sIx_nat (n d k : Nat) : sIx n d (some (k : Int)) = min k n := by
  show (if (k : Int) < 0 then ((k : Int) + (n : Int)).toNat else min (k : Int).toNat n) = min k n
  rw [if_neg (by omega), Int.toNat_natCast]
theorem sIx_le (n d : Nat) (hd : d ≤ n) (o : Option Int) : sIx n d o ≤ n := by
  cases o with
  | none => exact hd
  | some v =>
    show (if v < 0 then (v + (n : Int)).toNat else min v.toNat n) ≤ n
    by_cases hv : v < 0
    · rw [if_pos hv]; omega
    · rw [if_neg hv]; exact Nat.min_le_right _ _
theorem clip_eq (v : Int) (n d : Nat) : (if v < 0 then max (v + (n : Int)) 0 else min v (n : Int)) = ((sIx n d (some v) : Nat) : Int) := by
  show (if v < 0 then max (v + (n : Int)) 0 else min v (n : Int)) = (((if v < 0 then (v + (n : Int)).toNat else min v.toNat n) : Nat) : Int)
  by_cases hv : v < 0
  · simp only [if_pos hv]; omega
  · simp only [if_neg hv]; omega
theorem adjust_gen (lo hi : Option Int) (n : Nat) : Builtin.Slice.sliceAdjust lo hi 1 (n : Int) = (((sIx n 0 lo : Nat) : Int), ((sIx n n hi : Nat) : Int)) := by
  have h1 : ¬ ((1 : Int) < 0) := by omega
  unfold Builtin.Slice.sliceAdjust
  simp only [h1, if_false]
  refine Prod.ext ?_ ?_
  · cases lo with
    | none => rfl
    | some v => exact clip_eq v n 0
  · cases hi with
    | none => rfl
    | some v => exact clip_eq v n n
theorem places_gen (i j : Nat) : Builtin.Slice.slicePlaces (i : Int) (j : Int) 1 = j - i := by
  unfold Builtin.Slice.slicePlaces
  have h1 : (1 : Int) > 0 := by omega
  simp only [h1, if_true, Int.ediv_one]
  split <;> omega
theorem slicePart_ {v : Value} {o : Option Int} {Q : Option Int → Shared → Prop} (p : IsPart v o) (h : Q o s) : wpAny (model prog w) A (Builtin.Slice.slicePartIndex v) Q E s := by
  cases p with
  | none => exact slicePart_none h
  | int i t => exact slicePart_int h
theorem sliceApplied_gen {sl : Addr} {vl vu : Value} {lo hi : Option Int} {n : Nat} {Q : Int × Int × Nat → Shared → Prop} (hs : s.heap.IsSliceOf sl vl vu .none) (pl : IsPart vl lo) (pu : IsPart vu hi)
    (h : Q (((sIx n 0 lo : Nat) : Int), 1, sIx n n hi - sIx n 0 lo) s) : wpAny (model prog w) A (Builtin.Slice.sliceApplied (.ref sl) (pure (n : Int))) Q E s := by
  obtain ⟨os, hos, hcs, hds⟩ := id hs
  unfold Builtin.Slice.sliceApplied Builtin.Slice.sliceFields
  refine wpAny_bind (wpAny_bind (wpAny_field hos hds (x := vl) rfl (wpAny_bind (wpAny_field hos hds (x := vu) rfl (wpAny_bind (wpAny_field hos hds (x := .none) rfl (wpAny_pure ?_)))))))
  refine wpAny_bind (slicePart_none ?_)
  show wpAny _ _ (if ((1 : Int) == 0) = true then _ else _) _ _ s
  rw [if_neg (by decide)]
  refine wpAny_bind (slicePart_ pl (wpAny_bind (slicePart_ pu (wpAny_bind (wpAny_pure ?_)))))
  show wpAny _ _ (match Builtin.Slice.sliceAdjust lo hi 1 (n : Int) with | (lo, hi) => pure (lo, (1 : Int), Builtin.Slice.slicePlaces lo hi 1)) _ _ s
  rw [adjust_gen lo hi n]
  show wpAny _ _ (pure (((sIx n 0 lo : Nat) : Int), (1 : Int), Builtin.Slice.slicePlaces ((sIx n 0 lo : Nat) : Int) ((sIx n n hi : Nat) : Int) 1)) _ _ s
  rw [places_gen]
  exact wpAny_pure h
theorem pick_gen (xs : Array Value) (i k : Nat) : ((List.range k).filterMap fun (m : Nat) => xs[((i : Int) + (m : Int) * 1).toNat]?).toArray = ((xs.toList.drop i).take k).toArray := by
  have e : (fun (m : Nat) => xs[((i : Int) + (m : Int) * 1).toNat]?) = fun m => xs[i + m]? := by
    funext m
    have : ((i : Int) + (m : Int) * 1).toNat = i + m := by omega
    rw [this]
  rw [e]
  have := pick_run xs i k
  rw [List.filterMap_map] at this
  have e2 : ((fun x => xs[x]?) ∘ fun x => i + x) = fun m => xs[i + m]? := rfl
  rw [e2] at this
  rw [this]

theorem getItem_tuple_cut {t sl : Addr} {items : Array Value} {vl vu : Value} {lo hi : Option Int} {Q : Value → Shared → Prop} (ht : IsTup s.heap t items) (hs : s.heap.IsSliceOf sl vl vu .none) (pl : IsPart vl lo) (pu : IsPart vu hi)
    (hw : ¬ (sIx items.size 0 lo = 0 ∧ sIx items.size items.size hi = items.size))
    (h : Q (.ref s.heap.objs.size) { s with heap := s.heap.push { cls := .type "tuple", data := .seq ((items.toList.drop (sIx items.size 0 lo)).take (sIx items.size items.size hi - sIx items.size 0 lo)).toArray } })
    (hsz : items.size ≤ sizeLine) : wpAny (model prog w) A (getItem (.ref t) (.ref sl)) Q E s := by
  have htake : sizeOk (.seq ((items.toList.drop (sIx items.size 0 lo)).take (sIx items.size items.size hi - sIx items.size 0 lo)).toArray) := by
    show ((items.toList.drop (sIx items.size 0 lo)).take (sIx items.size items.size hi - sIx items.size 0 lo)).toArray.size ≤ sizeLine
    rw [List.size_toArray, List.length_take, List.length_drop, Array.length_toList]
    omega
  have hj : sIx items.size items.size hi ≤ items.size := sIx_le _ _ (Nat.le_refl _) hi
  obtain ⟨os, hos, hcs, hds⟩ := id hs
  have hTs : s.TypeIs (.ref sl) "slice" := ⟨os, hos, hcs⟩
  unfold getItem
  try with_reducible refine wpAny_holding ?_
  first | refine wpAny_bind (wpAny_pure ?_) | skip
  refine wpAny_bind (wpAny_sequenceKey ht.typeIs (by decide) ?_)
  refine wpAny_bind (wpAny_callSpecial?_slot (name := Str.ofString "__getitem__") ht.typeIs PyProof.Rows.slot_tuple_getitem
    (wpAny_call_entry PyProof.Rows.slot_tuple_getitem ht.typeIs entry_tuple_getitem ?_ (args_tuple_getitem _ _)))
  show wpAny _ _ (Builtin.Tuple.tupleItemsOf (.ref t) >>= _) _ _ s
  refine wpAny_bind (tupleItemsOf_ ht ?_)
  refine wpAny_bind (wpAny_typeOf hTs ?_)
  rw [if_pos (by decide)]
  refine wpAny_bind (sliceApplied_gen hs pl pu ?_)
  have hno : ¬ ((((sIx items.size 0 lo : Nat) : Int) == 0 && (1 : Int) == 1 && (sIx items.size items.size hi - sIx items.size 0 lo) == items.size) = true) := by
    intro q
    rw [Bool.and_eq_true, Bool.and_eq_true] at q
    have q1 : ((sIx items.size 0 lo : Nat) : Int) = 0 := eq_of_beq q.1.1
    have q2 : sIx items.size items.size hi - sIx items.size 0 lo = items.size := eq_of_beq q.2
    exact hw ⟨by omega, by omega⟩
  show wpAny _ _ (if (((sIx items.size 0 lo : Nat) : Int) == 0 && (1 : Int) == 1 && (sIx items.size items.size hi - sIx items.size 0 lo) == items.size) = true then _ else _) _ _ s
  rw [if_neg hno, pick_gen]
  first
    | exact wpAny_bind (m := Builtin.Tuple.tupleExact _) (wpAny_newObj_type (wpAny_pure ⟨_, rfl, wpAny_pure h⟩) htake)
    | exact wpAny_bind (m := Builtin.Tuple.tupleExact _) (wpAny_newObj_type (wpAny_bind (wpAny_pure (wpAny_pure ⟨_, rfl, wpAny_pure h⟩))) htake)
    | exact wpAny_bind (wpAny_bind (m := Builtin.Tuple.tupleExact _) (wpAny_newObj_type (wpAny_pure (wpAny_pure ⟨_, rfl, wpAny_pure h⟩)) htake))
    | exact wpAny_bind (wpAny_bind (m := Builtin.Tuple.tupleExact _) (wpAny_newObj_type (wpAny_pure ⟨_, rfl, wpAny_pure h⟩) htake))
end
end HT

namespace L2
open PySem PySem.Spec PyProof.Rows

/-! ### the parts of a slice -/
abbrev TO := St → Hp → (Option Int → Hp → Prop) → Prop
/-- a slice's part (left out, or an int) -/
def PO (X : Cx) (e : Option Expr) (t : TO) : Prop :=
  ∀ (pins : List (Addr × Obj)) (s : Shared) (σ : St) (H : Hp) (Q : Option Int → Hp → Prop), Inv X pins σ H s → t σ H Q →
    wpAny (model X.prog X.w) X.A (evalPart e X.env) (fun u s' => ∃ o H', Inv X pins σ H' s' ∧ IsPart u o ∧ Q o H') X.xe s
def tNoPart : TO := fun _ H Q => Q none H
def tPart (t : TE) : TO := fun σ H Q => t σ H fun x H1 => ∃ i, x = .int i ∧ Q (some i) H1

theorem intsAre_of {ns : List Int} : ∀ {us : List Value}, Vals (ns.map V.int) us → IntsAre us ns := by
  induction ns with
  | nil => intro us r; rw [List.map_nil] at r; cases r; exact .nil
  | cons n ns ih =>
    intro us r
    rw [List.map_cons] at r
    cases r with
    | cons r1 r2 =>
      obtain ⟨t, e⟩ := r1
      subst e
      exact .cons n t (ih r2)

section
variable {X : Cx} {e : Expr} {te : TE} {lo hi : Option Expr} {tl th : TO} {pos p2 : Pos}

theorem po_none : PO X none tNoPart := by
  intro pins s σ H Q I h
  rw [evalPart_none]
  exact wpAny_pure ⟨none, H, I, .none, h⟩
theorem po_some (h : PE X e te) : PO X (some e) (tPart te) := by
  intro pins s σ H Q I hw
  rw [evalPart_some]
  refine thn (h pins s σ H _ I hw) fun u s1 ⟨x, H1, I1, r1, q1⟩ => ?_
  obtain ⟨i, rfl, q⟩ := q1
  obtain ⟨t, rfl⟩ := r1
  exact ⟨some i, H1, I1, .int i t, q⟩

/-- what a slice of a value is, by values: the slice object stands at sl -/
def SlR (X : Cx) (r : V → Option Int → Option Int → Hp → VK → Prop) : Prop :=
  ∀ (pins : List (Addr × Obj)) (s : Shared) (σ : St) (H : Hp) (x : V) (v vl vu : Value) (lo hi : Option Int) (sl : Addr) (Q : VK), Inv X pins σ H s → RelV x v → s.heap.IsSliceOf sl vl vu .none → IsPart vl lo → IsPart vu hi → r x lo hi H Q →
    ∃ T id, typeLookup (.type T) "__getitem__" = pure (some (.builtin id)) ∧ s.TypeIs v T ∧ wpAny (model X.prog X.w) X.A (getItem v (.ref sl)) (EP X pins σ Q) X.xe s
theorem SlR.or {r r' : V → Option Int → Option Int → Hp → VK → Prop} (h : SlR X r) (h' : SlR X r') : SlR X (fun x lo hi H Q => r x lo hi H Q ∨ r' x lo hi H Q) := by
  intro pins s σ H x v vl vu lo hi sl Q I rx hs pl pu q
  rcases q with q | q
  · exact h pins s σ H x v vl vu lo hi sl Q I rx hs pl pu q
  · exact h' pins s σ H x v vl vu lo hi sl Q I rx hs pl pu q
def tSl (r : V → Option Int → Option Int → Hp → VK → Prop) (te : TE) (tl th : TO) : TE := fun σ H Q => te σ H fun x H1 => tl σ H1 fun l H2 => th σ H2 fun u H3 => r x l u H3 Q
/-- a[lo:hi], any a -/
theorem pe_slice {r : V → Option Int → Option Int → Hp → VK → Prop} (hr : SlR X r) (he : PE X e te) (hl : PO X lo tl) (hu : PO X hi th) : PE X (.Subscript e (.Slice lo hi none p2) pos) (tSl r te tl th) := by
  intro pins s σ H Q I h
  refine Subscript_ (thn (he pins s σ H _ I h) fun v s1 ⟨x, H1, I1, r1, q1⟩ => ?_)
  refine wpAny_Slice (thn (hl pins s1 σ H1 _ I1 q1) fun vl s2 ⟨l, H2, I2, pl, q2⟩ => thn (hu pins s2 σ H2 _ I2 q2) fun vu s3 ⟨u, H3, I3, pu, q3⟩ => ?_)
  rw [evalPart_none]
  refine wpAny_pure ?_
  have I4 : Inv X pins σ H3 { s3 with heap := s3.heap.push { cls := .type "slice", data := .fields #[vl, vu, .none] } } := I3.kept (t' := s3.toks) fun b ob q => Heap.get?_push_of_some _ q
  obtain ⟨T, id, hT, ht, hg⟩ := hr pins { s3 with heap := s3.heap.push { cls := .type "slice", data := .fields #[vl, vu, .none] } } σ H3 x v vl vu l u s3.heap.objs.size Q I4 r1 (Heap.IsSliceOf.new ..) pl pu q3
  show wpAny (model X.prog X.w) X.A (subscriptTail e (.Slice lo hi none p2) v (.ref s3.heap.objs.size)) (EP X pins σ Q) X.xe { s3 with heap := s3.heap.push { cls := .type "slice", data := .fields #[vl, vu, .none] } }
  exact tail_any (ops := [.ref s3.heap.objs.size, v]) ht hT hg (by with_unfolding_all rfl)

/-- the items of xs[lo:hi] -/
def cutV (xs : List V) (lo hi : Option Int) : List V := (xs.drop (HT.sIx xs.length 0 lo)).take (HT.sIx xs.length xs.length hi - HT.sIx xs.length 0 lo)
theorem cutV_length (xs : List V) (lo hi : Option Int) : (cutV xs lo hi).length ≤ xs.length := by
  unfold cutV
  rw [List.length_take, List.length_drop]
  omega
/-- t[lo:hi], not the whole of it (the whole would be t itself) -/
def rSlT (K : PySem.W.Frag) : V → Option Int → Option Int → Hp → VK → Prop := fun x lo hi H Q => ∃ a xs, x = .ref a ∧ SqT K H a xs ∧
  ¬ (HT.sIx xs.length 0 lo = 0 ∧ HT.sIx xs.length xs.length hi = xs.length) ∧ ∀ p, H p = none → Q (.ref p) (upd H p (.tup (cutV xs lo hi)))
theorem sl_tup : SlR X (rSlT X.K) := by
  intro pins s σ H x v vl vu lo hi sl Q I rx hs pl pu h
  obtain ⟨a, xs, rfl, hx, hw, q⟩ := h
  cases rx
  obtain ⟨its, r, ht, hz⟩ := I.tuple hx
  have hlen : its.toArray.size = xs.length := by rw [List.size_toArray]; exact r.length.symm
  refine ⟨"tuple", _, PyProof.Rows.slot_tuple_getitem.lookup, ht.typeIs, ?_⟩
  refine HT.getItem_tuple_cut ht hs pl pu (by rw [hlen]; exact hw) ?_ (by rw [hlen]; exact hz)
  rw [hlen]
  refine ⟨.ref s.heap.objs.size, _, I.laid (t' := s.toks) (o := .tup (cutV xs lo hi)) (fun b ob q => Heap.get?_push_of_some _ q) (Nat.le_refl _) ?_, rfl, q _ (I.hok.fresh (Nat.le_refl _))⟩
  exact ⟨Nat.le_trans (cutV_length xs lo hi) hz, _, (r.drop (HT.sIx xs.length 0 lo)).take (HT.sIx xs.length xs.length hi - HT.sIx xs.length 0 lo), IsTup.new _ _⟩

/-! ### t < u, t + u -/
def rLtT (K : PySem.W.Frag) : R2 := fun x y H Q => ∃ a b ns ms, x = .ref a ∧ y = .ref b ∧ SqT K H a (ns.map V.int) ∧ SqT K H b (ms.map V.int) ∧ Q (.bl (HT.lexLt ns ms)) H
theorem op_ltT (hu : X.A.units < cLine) : OpR X (compareOp .Lt) (rLtT X.K) := by
  intro pins s σ H x y v u Q I rx ry h
  obtain ⟨a, b, ns, ms, rfl, rfl, ha, hb, q⟩ := h
  cases rx
  cases ry
  obtain ⟨its, r1, p1, _⟩ := I.tuple ha
  obtain ⟨its2, r2, p2, _⟩ := I.tuple hb
  have i1 : IntsAre its.toArray.toList ns := intsAre_of r1
  have i2 : IntsAre its2.toArray.toList ms := intsAre_of r2
  exact HT.lt_tupInts p1 p2 i1 i2 hu ⟨.bl (HT.lexLt ns ms), H, I, rfl, q⟩
/-- t + u, t not empty: u empty gives t itself -/
def rCatT (K : PySem.W.Frag) : R2 := fun x y H Q => ∃ a b xs ys, x = .ref a ∧ y = .ref b ∧ SqT K H a xs ∧ SqT K H b ys ∧ xs ≠ [] ∧ xs.length + ys.length ≤ sizeLine ∧
  (ys = [] → Q (.ref a) H) ∧ (ys ≠ [] → ∀ p, H p = none → Q (.ref p) (upd H p (.tup (xs ++ ys))))
theorem Vals.nil_iff {xs : List V} {us : List Value} (r : Vals xs us) : us = [] ↔ xs = [] := by
  cases r with
  | nil => simp
  | cons _ _ => simp
theorem op_catT : OpR X (binaryOp .Add) (rCatT X.K) := by
  intro pins s σ H x y v u Q I rx ry h
  obtain ⟨a, b, xs, ys, rfl, rfl, ha, hb, hx, hz, q1, q2⟩ := h
  cases rx
  cases ry
  obtain ⟨its, r1, p1, _⟩ := I.tuple ha
  obtain ⟨its2, r2, p2, _⟩ := I.tuple hb
  refine HT.cat_tup p1 p2 (fun z => hx (r1.nil_iff.mp z)) (fun z => ⟨.ref a, H, I, rfl, q1 (r2.nil_iff.mp z)⟩) (fun z => ?_) (by rw [← r1.length, ← r2.length]; exact hz)
  refine ⟨.ref s.heap.objs.size, _, I.laid (t' := s.toks) (o := .tup (xs ++ ys)) (fun b ob q => Heap.get?_push_of_some _ q) (Nat.le_refl _) ?_, rfl, q2 (fun w => z (r2.nil_iff.mpr w)) _ (I.hok.fresh (Nat.le_refl _))⟩
  exact ⟨by rw [List.length_append]; exact hz, _, r1.append r2, IsTup.new _ _⟩
/-- tuple(t) -/
theorem call_tupleT : CallR X (.type "tuple") (fun xs H Q => ∃ a ys, xs = [.ref a] ∧ SqT X.K H a ys ∧ Q (.ref a) H) := by
  intro pins s σ H xs us Q I r h
  obtain ⟨a, ys, rfl, ha, q⟩ := h
  obtain ⟨u, rfl, ru⟩ := vals1 r
  cases ru
  obtain ⟨its, _, p1, _⟩ := I.tuple ha
  exact call_tuple_same (items := its.toArray) p1 ⟨.ref a, H, I, rfl, q⟩
end
end L2

namespace L2
open PySem PySem.Spec PyProof.Rows

/-! ### places -/
/-- the place that an index of any sign means -/
def ixN (n : Nat) (i : Int) : Option Nat := if 0 ≤ i then (if i < n then some i.toNat else none) else if -(n : Int) ≤ i then some (i + n).toNat else none
def atI {α : Type} (xs : List α) (i : Int) : Option α := (ixN xs.length i).bind fun j => xs[j]?
theorem ixN_seq {n : Nat} {i : Int} {j : Nat} (h : ixN n i = some j) : seqIndex? i n = some j ∧ j < n ∧ -(n : Int) ≤ i ∧ i < n := by
  unfold ixN at h
  by_cases h0 : 0 ≤ i
  · rw [if_pos h0] at h
    by_cases h1 : i < n
    · rw [if_pos h1] at h
      have e : i.toNat = j := Option.some.inj h
      exact ⟨by rw [seqIndex_of h0 h1, e], by omega, by omega, h1⟩
    · rw [if_neg h1] at h; cases h
  · rw [if_neg h0] at h
    by_cases h1 : -(n : Int) ≤ i
    · rw [if_pos h1] at h
      have e : (i + n).toNat = j := Option.some.inj h
      exact ⟨by rw [seqIndex_neg (by omega) h1, e], by omega, h1, by omega⟩
    · rw [if_neg h1] at h; cases h
theorem atI_get {α : Type} {xs : List α} {i : Int} {v : α} (h : atI xs i = some v) : ∃ j, seqIndex? i xs.length = some j ∧ xs[j]? = some v ∧ j < xs.length ∧ -(xs.length : Int) ≤ i ∧ i < xs.length := by
  unfold atI at h
  cases e : ixN xs.length i with
  | none => rw [e] at h; cases h
  | some j =>
    rw [e] at h
    obtain ⟨h1, h2, h3, h4⟩ := ixN_seq e
    exact ⟨j, h1, h, h2, h3, h4⟩
theorem atI_nat {α : Type} {xs : List α} {j : Nat} {v : α} (h : xs[j]? = some v) : atI xs (j : Int) = some v := by
  have hj : j < xs.length := (List.getElem?_eq_some_iff.mp h).1
  have e : ixN xs.length (j : Int) = some j := by
    unfold ixN
    rw [if_pos (by omega), if_pos (by omega)]; simp
  unfold atI; rw [e]; exact h
theorem atI_last {α : Type} (xs : List α) (v : α) : atI (xs ++ [v]) (-1) = some v := by
  have hl : (xs ++ [v]).length = xs.length + 1 := by simp
  have e : ixN (xs ++ [v]).length (-1) = some xs.length := by
    unfold ixN
    rw [hl, if_neg (by decide), if_pos (by omega)]
    congr 1
    omega
  unfold atI
  rw [e]
  show (xs ++ [v])[xs.length]? = some v
  simp

/-! ### what may be subscripted -/
/-- what stands as an index of a plain subscript -/
def PlainIx (b : Expr) : Prop := ∀ o i, subscripted b false o i = operate [o, i] (getItem o i)
/-- a subscript by values -/
def IxR (X : Cx) (r : R2) : Prop :=
  ∀ (value slice : Expr) (pins : List (Addr × Obj)) (s : Shared) (σ : St) (H : Hp) (x y : V) (v u : Value) (Q : VK), Inv X pins σ H s → RelV x v → RelV y u → r x y H Q →
    subscripted slice false v u = operate [v, u] (getItem v u) → wpAny (model X.prog X.w) X.A (subscriptTail value slice v u) (EP X pins σ Q) X.xe s
/-- a call of a builtin's method by values: the receiver, the arguments -/
def MtR (X : Cx) (id : String) (r : V → List V → Hp → VK → Prop) : Prop :=
  ∀ (pins : List (Addr × Obj)) (s : Shared) (σ : St) (H : Hp) (x : V) (xs : List V) (v : Value) (us : List Value) (Q : VK), Inv X pins σ H s → RelV x v → Vals xs us → r x xs H Q →
    wpAny (model X.prog X.w) X.A (call (.builtin id) (v :: us)) (EP X pins σ Q) X.xe s
section
variable {X : Cx} {a b : Expr} {ta tb : TE} {pos : Pos}
theorem IxR.or {r r' : R2} (h : IxR X r) (h' : IxR X r') : IxR X (fun x y H Q => r x y H Q ∨ r' x y H Q) := by
  intro value slice pins s σ H x y v u Q I rx ry q hs
  rcases q with q | q
  · exact h value slice pins s σ H x y v u Q I rx ry q hs
  · exact h' value slice pins s σ H x y v u Q I rx ry q hs
theorem MtR.or {id : String} {r r' : V → List V → Hp → VK → Prop} (h : MtR X id r) (h' : MtR X id r') : MtR X id (fun x xs H Q => r x xs H Q ∨ r' x xs H Q) := by
  intro pins s σ H x xs v us Q I rx rs q
  rcases q with q | q
  · exact h pins s σ H x xs v us Q I rx rs q
  · exact h' pins s σ H x xs v us Q I rx rs q
/-- a[b] -/
theorem pe_ix {r : R2} (hr : IxR X r) (ha : PE X a ta) (hb : PE X b tb) (hs : PlainIx b) : PE X (.Subscript a b pos) (tOp r ta tb) := by
  intro pins s σ H Q I h
  exact Subscript_ (binT ha hb I h fun v u s2 x y H2 I2 rx ry q => hr a b pins s2 σ H2 x y v u Q I2 rx ry q (hs _ _))

def rIxL (K : PySem.W.Frag) : R2 := fun x y H Q => ∃ p xs i v, x = .ref p ∧ y = .int i ∧ SqL K H p xs ∧ atI xs i = some v ∧ Q v H
def rIxT (K : PySem.W.Frag) : R2 := fun x y H Q => ∃ p xs i v, x = .ref p ∧ y = .int i ∧ SqT K H p xs ∧ atI xs i = some v ∧ Q v H
def rIxS : R2 := fun x y H Q => ∃ z i c, x = .str z ∧ y = .int i ∧ z.length ≤ sizeLine ∧ atI z.cps.toList i = some c ∧ Q (.str ⟨#[c]⟩) H
theorem ix_list : IxR X (rIxL X.K) := by
  intro value slice pins s σ H x y v u Q I rx ry h hs
  obtain ⟨p, xs, i, z, rfl, rfl, hq, he, q⟩ := h
  cases rx
  obtain ⟨t, rfl⟩ := ry
  obtain ⟨its, r, pl, hz⟩ := I.list hq
  obtain ⟨j, h1, h2, h3, h4, h5⟩ := atI_get he
  obtain ⟨w, ew, rw'⟩ := r.get h2
  have hl := r.length
  have hn := line63
  have fin : EP X pins σ Q w s := ⟨z, H, I, rw', q⟩
  by_cases h0 : 0 ≤ i
  · have hj : i.toNat = j := by
      rw [seqIndex_of h0 h5] at h1
      exact Option.some.inj h1
    exact item_listR pl.isList h0 (by omega) (by rw [hj]; simpa using ew) fin hs
  · have hj : (i + (its.toArray.size : Int)).toNat = j := by
      rw [seqIndex_neg (by omega) h4] at h1
      rw [List.size_toArray, ← hl]
      exact Option.some.inj h1
    exact subscriptTail_builtinR (x := w) pl.isList.typeIs slot_list_getitem.lookup
      (wpAny_getItem_list_neg (Q := fun r s' => r = w ∧ EP X pins σ Q r s') pl.isList (by omega) (by rw [List.size_toArray] <;> omega) (by omega) (by rw [hj]; simpa using ew) ⟨rfl, fin⟩) hs
theorem ix_tup : IxR X (rIxT X.K) := by
  intro value slice pins s σ H x y v u Q I rx ry h hs
  obtain ⟨p, xs, i, z, rfl, rfl, hq, he, q⟩ := h
  cases rx
  obtain ⟨t, rfl⟩ := ry
  obtain ⟨its, r, pl, hz⟩ := I.tuple hq
  obtain ⟨j, h1, h2, h3, h4, h5⟩ := atI_get he
  obtain ⟨w, ew, rw'⟩ := r.get h2
  have hl := r.length
  have hn := line63
  have fin : EP X pins σ Q w s := ⟨z, H, I, rw', q⟩
  exact subscriptTail_builtinR (x := w) pl.typeIs slot_tuple_getitem.lookup
    (getItem_tuple (j := j) (Q := fun r s' => r = w ∧ EP X pins σ Q r s') pl (by omega) (by omega) (by rw [List.size_toArray, ← hl]; exact h1) (by simpa using ew) ⟨rfl, fin⟩) hs
theorem ix_str : IxR X rIxS := by
  intro value slice pins s σ H x y v u Q I rx ry h hs
  obtain ⟨z, i, c, rfl, rfl, hz, he, q⟩ := h
  obtain ⟨t, rfl⟩ := rx
  obtain ⟨t', rfl⟩ := ry
  obtain ⟨j, h1, h2, h3, h4, h5⟩ := atI_get he
  have hl : z.cps.toList.length = z.length := by simp [Str.length]
  rw [hl] at h1 h4 h5
  have hn := line63
  exact tail_any (typeIs_str s z t) slot_str_getitem.lookup (getItem_str (c := c) (by
    have e1 : decide (i < -(2 ^ 63 : Int)) = false := decide_eq_false (by omega)
    have e2 : decide (i ≥ 2 ^ 63) = false := decide_eq_false (by omega)
    rw [e1, e2, Bool.or_false]) (by rw [h1]; simpa using h2) ⟨.str ⟨#[c]⟩, H, I.tok _, ⟨_, rfl⟩, q⟩) hs
/-- list, tuple or str -/
def rIx (K : PySem.W.Frag) : R2 := fun x y H Q => rIxL K x y H Q ∨ rIxT K x y H Q ∨ rIxS x y H Q
theorem ix_seq : IxR X (rIx X.K) := ix_list.or (ix_tup.or ix_str)

/-! ### xs[i] = v, any sign -/
/-- the list's object behind a store -/
theorem mapSeq_set (its : List Value) (n j : Nat) (u : Value) : Obj.mapSeq (·.setIfInBounds j u) { cls := .type "list", data := .seq its.toArray n } = { cls := .type "list", data := .seq (its.set j u).toArray n } := by
  simp [Obj.mapSeq]
theorem Inv.lst {pins : List (Addr × Obj)} {σ : St} {H : Hp} {s : Shared} {p : Addr} {xs : List V} (I : Inv X pins σ H s) (h : H p = some (.lst xs)) :
    ∃ (its : List Value) (n : Nat), Vals xs its ∧ s.heap.get? p = some { cls := .type "list", data := .seq its.toArray n } ∧ xs.length ≤ sizeLine := by
  obtain ⟨z, its, n, r, e⟩ := I.hok p _ h
  exact ⟨its, n, r, e, z⟩
/-- the list at p is written by an update of its object -/
theorem Inv.lstUpd {pins : List (Addr × Obj)} {σ : St} {H : Hp} {s : Shared} {p : Addr} {xs ys : List V} {its its' : List Value} {n n' : Nat} {f : Obj → Obj} (I : Inv X pins σ H s) (h : H p = some (.lst xs))
    (ho : s.heap.get? p = some { cls := .type "list", data := .seq its.toArray n }) (hf : f { cls := .type "list", data := .seq its.toArray n } = { cls := .type "list", data := .seq its'.toArray n' }) (r : Vals ys its') (hz : ys.length ≤ sizeLine) (t : Nat) :
    Inv X pins σ (upd H p (.lst ys)) { s with heap := s.heap.update p f, toks := t } := by
  have e : (s.heap.update p f).get? p = some { cls := .type "list", data := .seq its'.toArray n' } := by
    rw [Heap.get?_update_self f ho (by rw [hf] <;> rfl), hf]
  refine I.write (x := p) (e := p) (by rw [h]; trivial) (.inl rfl) (fun b u hb q => (Heap.get?_update_other _ _ (Ne.symm hb)).trans q) ⟨_, e⟩ ?_
  exact ⟨hz, its', n', r, e⟩
def rSetL : V → V → V → Hp → (Hp → Prop) → Prop := fun o i v H Q => ∃ p xs k j, o = .ref p ∧ i = .int k ∧ H p = some (.lst xs) ∧ ixN xs.length k = some j ∧ Q (upd H p (.lst (xs.set j v)))
theorem set_list : PSet X rSetL := by
  intro pins s σ H o i v ov iv u Q I ro ri rv h
  obtain ⟨p, xs, k, j, rfl, rfl, hp, hj, q⟩ := h
  cases ro
  obtain ⟨t, rfl⟩ := ri
  obtain ⟨its, n, r, ho, hz⟩ := I.lst hp
  obtain ⟨h1, h2, h3, h4⟩ := ixN_seq hj
  have hl := r.length
  have hn := line63
  have I' : Inv X pins σ (upd H p (.lst (xs.set j v))) { s with heap := s.heap.update p (Obj.mapSeq (·.setIfInBounds j u)) } :=
    I.lstUpd hp ho (mapSeq_set its n j u) (r.set rv j) (by rw [List.length_set]; exact hz) s.toks
  by_cases h0 : 0 ≤ k
  · have hk : k.toNat = j := by
      rw [seqIndex_of h0 h4] at h1
      exact Option.some.inj h1
    exact PySem.W.ki_setAt ho h0 (by omega) (by rw [List.size_toArray, ← hl]; exact h4) (by rw [hk]; exact ⟨_, I', q⟩)
  · have hk : (k + (its.toArray.size : Int)).toNat = j := by
      rw [seqIndex_neg (by omega) h3] at h1
      rw [List.size_toArray, ← hl]
      exact Option.some.inj h1
    exact PySem.W.ki_setBack ho (by omega) (by rw [List.size_toArray, ← hl]; exact h3) (by omega) (by rw [hk]; exact ⟨_, I', q⟩)

/-! ### slices -/
theorem slice_bounds (lo hi : Option Int) (n : Nat) : (sliceBounds lo hi none n).1 = ((HT.sIx n 0 lo : Nat) : Int) ∧ (sliceBounds lo hi none n).2.1 = ((HT.sIx n n hi : Nat) : Int) ∧ (sliceBounds lo hi none n).2.2 = 1 := by
  refine ⟨?_, ?_, rfl⟩
  · cases lo with
    | none => simp [sliceBounds, HT.sIx]
    | some i =>
      simp only [sliceBounds, HT.sIx, Option.getD_none, show (1 : Int) > 0 by decide, if_true]
      by_cases h : i < 0
      · simp only [h, if_true] <;> omega
      · simp only [h, if_false] <;> omega
  · cases hi with
    | none => simp [sliceBounds, HT.sIx]
    | some i =>
      simp only [sliceBounds, HT.sIx, Option.getD_none, show (1 : Int) > 0 by decide, if_true]
      by_cases h : i < 0
      · simp only [h, if_true] <;> omega
      · simp only [h, if_false] <;> omega
theorem slicePick_cut (its : List Value) (lo hi : Option Int) : slicePick its.toArray lo hi none = ((its.drop (HT.sIx its.length 0 lo)).take (HT.sIx its.length its.length hi - HT.sIx its.length 0 lo)).toArray := by
  obtain ⟨h1, h2, h3⟩ := slice_bounds lo hi its.toArray.size
  unfold slicePick
  rw [h1, h2, h3]
  simp only [sliceRange_one, pick_run, List.size_toArray] <;> rfl
/-- xs[lo:hi] of a list: a new list -/
def rSlL (K : PySem.W.Frag) : V → Option Int → Option Int → Hp → VK → Prop := fun x lo hi H Q => ∃ a xs, x = .ref a ∧ SqL K H a xs ∧ ∀ p, H p = none → Q (.ref p) (upd H p (.lst (cutV xs lo hi)))
theorem sl_list : SlR X (rSlL X.K) := by
  intro pins s σ H x v vl vu lo hi sl Q I rx hs pl pu h
  obtain ⟨a, xs, rfl, hx, q⟩ := h
  cases rx
  obtain ⟨its, r, ht, hz⟩ := I.list hx
  have hlen := r.length
  refine ⟨"list", _, slot_list_getitem.lookup, ht.isList.typeIs, ?_⟩
  refine wpAny_getItem_list_slice ht.isList hs pl pu .none (by simp) ?_ (by rw [List.size_toArray] <;> omega)
  rw [slicePick_cut, ← hlen]
  refine ⟨.ref s.heap.objs.size, _, I.laid (t' := s.toks) (o := .lst (cutV xs lo hi)) (fun b ob q => Heap.get?_push_of_some _ q) (Nat.le_refl _) ?_, rfl, q _ (I.hok.fresh (Nat.le_refl _))⟩
  exact ⟨Nat.le_trans (cutV_length xs lo hi) hz, _, 0, (r.drop (HT.sIx xs.length 0 lo)).take (HT.sIx xs.length xs.length hi - HT.sIx xs.length 0 lo), Heap.get?_push_size _ rfl⟩

/-! ### in, not in: flat items -/
def flatV : V → Bool
  | .non => true
  | .bl _ => true
  | .int _ => true
  | .str _ => true
  | _ => false
/-- == of flat values -/
def eqV : V → V → Bool
  | .non, .non => true
  | .bl a, .bl b => a == b
  | .bl a, .int b => (if a then 1 else 0) == b
  | .int a, .bl b => a == (if b then 1 else 0)
  | .int a, .int b => a == b
  | .str a, .str b => a == b
  | _, _ => false
theorem eqAt_V {A : Around} {s : Shared} {y x : V} {u v : Value} (ry : RelV y u) (rx : RelV x v) (fy : flatV y = true) (fx : flatV x = true) : SeqAt.EqAt A s u v (eqV y x) := by
  cases y with
  | non =>
    cases ry
    cases x with
    | non => cases rx; exact SeqAt.EqAt.same _
    | bl b => cases rx; exact SeqAt.EqAt.none_bool b
    | int b => obtain ⟨t, rfl⟩ := rx; exact SeqAt.EqAt.none_int b t
    | str b => obtain ⟨t, rfl⟩ := rx; exact SeqAt.EqAt.none_str b t
    | _ => exact absurd (show false = true from fx) Bool.false_ne_true
  | bl a =>
    cases ry
    cases x with
    | non => cases rx; exact SeqAt.EqAt.bool_none a
    | bl b => cases rx; exact SeqAt.EqAt.bool_bool a b
    | int b => obtain ⟨t, rfl⟩ := rx; exact SeqAt.EqAt.bool_int a b t
    | str b => obtain ⟨t, rfl⟩ := rx; exact SeqAt.EqAt.bool_str a b t
    | _ => exact absurd (show false = true from fx) Bool.false_ne_true
  | int a =>
    obtain ⟨t', rfl⟩ := ry
    cases x with
    | non => cases rx; exact SeqAt.EqAt.int_none a t'
    | bl b => cases rx; exact SeqAt.EqAt.int_bool a t' b
    | int b => obtain ⟨t, rfl⟩ := rx; exact SeqAt.EqAt.int_int a t' b t
    | str b => obtain ⟨t, rfl⟩ := rx; exact SeqAt.EqAt.int_str a t' b t
    | _ => exact absurd (show false = true from fx) Bool.false_ne_true
  | str a =>
    obtain ⟨t', rfl⟩ := ry
    cases x with
    | non => cases rx; exact SeqAt.EqAt.str_none a t'
    | bl b => cases rx; exact SeqAt.EqAt.str_bool a t' b
    | int b => obtain ⟨t, rfl⟩ := rx; exact SeqAt.EqAt.str_int a t' b t
    | str b => obtain ⟨t, rfl⟩ := rx; exact SeqAt.EqAt.str_str a t' b t
    | _ => exact absurd (show false = true from fx) Bool.false_ne_true
  | _ => exact absurd (show false = true from fy) Bool.false_ne_true
/-- the items' answers, read off the values (a value's own answer does not lean on its token) -/
def eqU (x : V) (u : Value) : Bool := match u with
  | .none => eqV .non x
  | .bool b => eqV (.bl b) x
  | .int i _ => eqV (.int i) x
  | .str z _ => eqV (.str z) x
  | _ => false
theorem eqU_of {x y : V} {u : Value} (r : RelV y u) (f : flatV y = true) : eqU x u = eqV y x := by
  cases y with
  | non => cases r; rfl
  | bl b => cases r; rfl
  | int i => obtain ⟨t, rfl⟩ := r; rfl
  | str z => obtain ⟨t, rfl⟩ := r; rfl
  | _ => exact absurd (show false = true from f) Bool.false_ne_true
theorem any_eqU {x : V} : ∀ {xs : List V} {us : List Value}, Vals xs us → xs.all flatV = true → us.any (eqU x) = xs.any fun y => eqV y x
  | _, _, .nil, _ => rfl
  | y :: xs, u :: us, .cons r t, f => by
    rw [List.all_cons, Bool.and_eq_true] at f
    rw [List.any_cons, List.any_cons, eqU_of r f.1, any_eqU t f.2]
theorem mem_eqAt {A : Around} {s : Shared} {x : V} {v : Value} (rx : RelV x v) (fx : flatV x = true) : ∀ {xs : List V} {us : List Value}, Vals xs us → xs.all flatV = true → ∀ u ∈ us, SeqAt.EqAt A s u v (eqU x u)
  | _, _, .nil, _ => fun u hu => by cases hu
  | y :: xs, u :: us, .cons r t, f => fun u' hu => by
    rw [List.all_cons, Bool.and_eq_true] at f
    rcases List.mem_cons.mp hu with rfl | hu
    · rw [eqU_of r f.1]; exact eqAt_V r rx f.1 fx
    · exact mem_eqAt rx fx t f.2 u' hu
def inV (x : V) (xs : List V) : Bool := xs.any fun y => eqV y x
/-- x in a list or tuple of flat items -/
def rIn (K : PySem.W.Frag) (neg : Bool) : R2 := fun x y H Q => ∃ p xs, y = .ref p ∧ (SqL K H p xs ∨ SqT K H p xs) ∧ flatV x = true ∧ xs.all flatV = true ∧ Q (.bl (if neg then !inV x xs else inV x xs)) H
theorem op_in_seq : OpR X (compareOp .In) (rIn X.K false) := by
  intro pins s σ H x y v u Q I rx ry h
  obtain ⟨p, xs, rfl, hq, fx, fs, q⟩ := h
  cases ry
  rcases hq with hq | hq
  · obtain ⟨its, r, pl, hz⟩ := I.list hq
    refine SeqAt.in_listAt (eqU x) pl.isList (fun w hw => mem_eqAt rx fx r fs w (by simpa using hw)) ⟨.bl _, H, I, rfl, ?_⟩
    rw [show its.toArray.any (eqU x) = its.any (eqU x) by simp, any_eqU r fs]
    exact q
  · obtain ⟨its, r, pl, hz⟩ := I.tuple hq
    refine SeqAt.in_tupleAt (eqU x) pl (fun w hw => mem_eqAt rx fx r fs w (by simpa using hw)) ⟨.bl _, H, I, rfl, ?_⟩
    rw [show its.toArray.any (eqU x) = its.any (eqU x) by simp, any_eqU r fs]
    exact q
theorem op_notIn_seq : OpR X (compareOp .NotIn) (rIn X.K true) := by
  intro pins s σ H x y v u Q I rx ry h
  obtain ⟨p, xs, rfl, hq, fx, fs, q⟩ := h
  cases ry
  rcases hq with hq | hq
  · obtain ⟨its, r, pl, hz⟩ := I.list hq
    refine SeqAt.notIn_listAt (eqU x) pl.isList (fun w hw => mem_eqAt rx fx r fs w (by simpa using hw)) ⟨.bl _, H, I, rfl, ?_⟩
    rw [show its.toArray.any (eqU x) = its.any (eqU x) by simp, any_eqU r fs]
    exact q
  · obtain ⟨its, r, pl, hz⟩ := I.tuple hq
    refine SeqAt.notIn_tupleAt (eqU x) pl (fun w hw => mem_eqAt rx fx r fs w (by simpa using hw)) ⟨.bl _, H, I, rfl, ?_⟩
    rw [show its.toArray.any (eqU x) = its.any (eqU x) by simp, any_eqU r fs]
    exact q
theorem op_notIn_str : OpR X (compareOp .NotIn) (fun x y H Q => ∃ i j, x = .str i ∧ y = .str j ∧ Q (.bl (!(!(Builtin.Str.occurrences j i 0 j.length 1).isEmpty))) H) := by
  intro pins s σ H x y v u Q I rx ry h
  obtain ⟨i, j, rfl, rfl, q⟩ := h
  obtain ⟨t, rfl⟩ := rx
  obtain ⟨t', rfl⟩ := ry
  exact notIn_str ⟨.bl _, H, I, rfl, q⟩

/-! ### len, list(x), tuple(x) of any list or tuple that is read -/
theorem call_len_seq : CallR X (.builtin "len") (fun xs H Q => ∃ p ys, xs = [.ref p] ∧ (SqL X.K H p ys ∨ SqT X.K H p ys) ∧ Q (.int ys.length) H) := by
  intro pins s σ H xs us Q I r h
  obtain ⟨p, ys, rfl, hq, q⟩ := h
  obtain ⟨u, rfl, rx⟩ := vals1 r
  cases rx
  have hn := line63
  rcases hq with hq | hq
  · obtain ⟨its, r', pl, hz⟩ := I.list hq
    have hlen := r'.length
    exact Calls.call_len_list pl.isList (by simp only [List.size_toArray] <;> omega) ⟨.int ys.length, H, I.tok _, ⟨s.toks + 1, by rw [List.size_toArray, hlen]⟩, q⟩
  · obtain ⟨its, r', pl, hz⟩ := I.tuple hq
    have hlen := r'.length
    exact len_tuple pl (by simp only [List.size_toArray] <;> omega) ⟨.int ys.length, H, I.tok _, ⟨s.toks + 1, by rw [List.size_toArray, hlen]⟩, q⟩
theorem call_len_str : CallR X (.builtin "len") (fun xs H Q => ∃ z, xs = [.str z] ∧ z.length ≤ sizeLine ∧ Q (.int z.length) H) := by
  intro pins s σ H xs us Q I r h
  obtain ⟨z, rfl, hz, q⟩ := h
  obtain ⟨u, rfl, t, rfl⟩ := vals1 r
  have hn := line63
  exact len_str (by omega) ⟨.int z.length, H, I.tok _, ⟨_, rfl⟩, q⟩
theorem CallR.or {f : Value} {r r' : List V → Hp → VK → Prop} (h : CallR X f r) (h' : CallR X f r') : CallR X f (fun xs H Q => r xs H Q ∨ r' xs H Q) := by
  intro pins s σ H xs us Q I rs q
  rcases q with q | q
  · exact h pins s σ H xs us Q I rs q
  · exact h' pins s σ H xs us Q I rs q
theorem call_list_of : CallR X (.type "list") (fun xs H Q => ∃ p ys, xs = [.ref p] ∧ (SqL X.K H p ys ∨ SqT X.K H p ys) ∧ ∀ l, H l = none → Q (.ref l) (upd H l (.lst ys))) := by
  intro pins s σ H xs us Q I r h
  obtain ⟨p, ys, rfl, hq, q⟩ := h
  obtain ⟨u, rfl, rx⟩ := vals1 r
  cases rx
  have fin : ∀ (its : List Value), Vals ys its → ys.length ≤ sizeLine → ∀ (h' : Heap) (c' : Nat), (∀ b o', s.heap.get? b = some o' → h'.get? b = some o') →
      h'.get? s.heap.objs.size = some { cls := .type "list", dict := none, data := .seq its.toArray c', slots := #[] } → EP X pins σ Q (.ref s.heap.objs.size) { s with heap := h' } := fun its r' hz h' c' kp e =>
    ⟨.ref s.heap.objs.size, _, I.laid (t' := s.toks) kp (Nat.le_refl _) (show ObjOk X.prog X.w _ h' _ (.lst ys) from ⟨hz, its, c', r', e⟩), rfl, q _ (I.hok.fresh (Nat.le_refl _))⟩
  rcases hq with hq | hq
  · obtain ⟨its, r', pl, hz⟩ := I.list hq
    have hlen := r'.length
    obtain ⟨o, ho, hc, n, hd⟩ := pl.isList
    exact call_list_seq p (.inl rfl) ho hc hd (fun h' c' kp e => fin its r' hz h' c' kp e) (by simp only [List.size_toArray] <;> omega)
  · obtain ⟨its, r', pl, hz⟩ := I.tuple hq
    have hlen := r'.length
    obtain ⟨o, ho, hc, n, hd⟩ := pl
    exact call_list_seq p (.inr rfl) ho hc hd (fun h' c' kp e => fin its r' hz h' c' kp e) (by simp only [List.size_toArray] <;> omega)
theorem call_tuple_of : CallR X (.type "tuple") (fun xs H Q => ∃ p ys, xs = [.ref p] ∧ ((SqL X.K H p ys ∧ ∀ l, H l = none → Q (.ref l) (upd H l (.tup ys))) ∨ (SqT X.K H p ys ∧ Q (.ref p) H))) := by
  intro pins s σ H xs us Q I r h
  obtain ⟨p, ys, rfl, h⟩ := h
  obtain ⟨u, rfl, rx⟩ := vals1 r
  cases rx
  rcases h with ⟨hq, q⟩ | ⟨hq, q⟩
  · obtain ⟨its, r', pl, hz⟩ := I.list hq
    have hlen := r'.length
    refine call_tuple_list pl.isList (fun h' kp => ?_) (by simp only [List.size_toArray] <;> omega)
    have I1 : Inv X pins σ H { s with heap := h' } := I.kept (t' := s.toks) kp
    have I2 : Inv X pins σ (upd H h'.objs.size (.tup ys)) { s with heap := h'.push { cls := .type "tuple", data := .seq its.toArray } } :=
      I1.laid (t' := s.toks) (fun b o e => Heap.get?_push_of_some _ e) (Nat.le_refl _) (show ObjOk X.prog X.w _ _ _ (.tup ys) from ⟨hz, its, r', IsTup.new _ _⟩)
    exact ⟨.ref h'.objs.size, _, I2, rfl, q _ (I1.hok.fresh (Nat.le_refl _))⟩
  · obtain ⟨its, r', pl, hz⟩ := I.tuple hq
    exact call_tuple_same pl ⟨.ref p, H, I, rfl, q⟩

/-! ### the call of a builtin's method: o.m(..) -/
/-- the value is of that builtin type -/
def tyV (K : PySem.W.Frag) (T : String) (x : V) (H : Hp) : Prop := match x with
  | .str _ => T = "str"
  | .int _ => T = "int"
  | .ref p => (T = "list" ∧ ∃ xs, SqL K H p xs) ∨ (T = "tuple" ∧ ∃ o, K.lookup p = some o ∧ o.cls = .type "tuple" ∧ o.dict = none) ∨
      (T = "dict" ∧ ((∃ kvs, H p = some (.dK kvs)) ∨ ∃ kvs, H p = some (.dT kvs))) ∨ (T = "set" ∧ ∃ S n, H p = some (.set S n))
  | _ => False
theorem tyV_is {pins : List (Addr × Obj)} {σ : St} {H : Hp} {s : Shared} {T : String} {x : V} {v : Value} (I : Inv X pins σ H s) (r : RelV x v) (ty : tyV X.K T x H) :
    s.TypeIs v T ∧ ∀ a, v = .ref a → ∃ ob, s.heap.get? a = some ob ∧ ob.dict = none := by
  cases x with
  | str z =>
    obtain ⟨t, rfl⟩ := r
    cases (show T = "str" from ty)
    exact ⟨typeIs_str s z t, fun _ e => nomatch e⟩
  | int i =>
    obtain ⟨t, rfl⟩ := r
    cases (show T = "int" from ty)
    exact ⟨typeIs_int s i t, fun _ e => nomatch e⟩
  | ref p =>
    cases r
    rcases ty with ⟨rfl, xs, hq⟩ | ⟨rfl, o, hk, hc, hd⟩ | ⟨rfl, hk⟩ | ⟨rfl, S, n, hk⟩
    · obtain ⟨its, _, pl, _⟩ := I.list hq
      refine ⟨pl.isList.typeIs, fun a e => ?_⟩
      cases e
      obtain ⟨o, n, e, c, hd, _⟩ := pl
      exact ⟨o, e, hd⟩
    · refine ⟨⟨o, I.kIn p o hk, hc⟩, fun a e => ?_⟩
      cases e
      exact ⟨o, I.kIn _ o hk, hd⟩
    · have z : ∃ o, s.heap.get? p = some o ∧ o.ExactDict := by
        rcases hk with ⟨kvs, hk⟩ | ⟨kvs, hk⟩
        · obtain ⟨_, _, _, _, o, _, _, e, ex, _⟩ := I.hok p _ hk
          exact ⟨o, e, ex⟩
        · obtain ⟨_, _, _, _, o, _, _, e, ex, _⟩ := I.hok p _ hk
          exact ⟨o, e, ex⟩
      obtain ⟨o, e, ex⟩ := z
      refine ⟨⟨o, e, ex.1⟩, fun a e2 => ?_⟩
      cases e2
      exact ⟨o, e, ex.2.1⟩
    · obtain ⟨o, _, _, _, e, ex, _⟩ := I.hok p _ hk
      refine ⟨⟨o, e, ex.1⟩, fun a e2 => ?_⟩
      cases e2
      exact ⟨o, e, ex.2.1⟩
  | _ => exact False.elim ty
def tBM0 (K : PySem.W.Frag) (T : String) (r : V → List V → Hp → VK → Prop) (to : TE) : TE := fun σ H Q => to σ H fun x H1 => tyV K T x H1 ∧ r x [] H1 Q
def tBM (K : PySem.W.Frag) (T : String) (r : V → List V → Hp → VK → Prop) (to : TE) (t : TA) : TE := fun σ H Q => to σ H fun x H1 => tyV K T x H1 ∧ t σ H1 fun xs H2 => r x xs H2 Q
variable {o e : Expr} {es : List Expr} {to : TE} {t : TA} {name : Str} {apos cpos : Pos} {T id : String} {r : V → List V → Hp → VK → Prop}
theorem pe_bm0 (pa : PlainAttrs T) (slot : Slot T name id) (hty : typeOf (.builtin id) = pure (.type "method_descriptor")) (hm : MtR X id r) (ho : PE X o to)
    (hbase : attributeBase o name X.env (eval o X.env) = eval o X.env := by rfl) (hline : (apos.endLine == cpos.line) = true := by rfl) : PE X (.Call (.Attribute o name apos) [] [] cpos) (tBM0 X.K T r to) := by
  intro pins s σ H Q I h
  refine wpAny_Call_method0_late hbase hline (thn (ho pins s σ H _ I h) fun v s1 ⟨x, H1, I1, r1, ty, q1⟩ => ?_)
  obtain ⟨h1, h2⟩ := tyV_is I1 r1 ty
  exact ⟨T, id, pa, slot, hty, h1, h2, Calls.callWith_builtin rfl (PySem.evalArgs_none (hm pins s1 σ H1 x [] v [] Q I1 r1 .nil q1))⟩
theorem pe_bm (pa : PlainAttrs T) (slot : Slot T name id) (hty : typeOf (.builtin id) = pure (.type "method_descriptor")) (hm : MtR X id r) (ho : PE X o to) (ha : PA X (e :: es) t)
    (hbase : attributeBase o name X.env (eval o X.env) = eval o X.env := by rfl)
    (hfew : ((backTo cpos (starEach (e :: es) X.env)).all (fun x => !x.1) && (backToKw cpos (keywordEach [] X.env)).all (fun x => x.1.isSome)
      && decide ((e :: es).length + ([] : List Keyword).length + (if ([] : List Keyword).isEmpty then 0 else 1) < 30)) = true := by rfl)
    (hline : (apos.endLine == cpos.line) = true := by rfl) (hs : starEach (e :: es) X.env = (false, eval e X.env) :: starEach es X.env := by rfl) (hplain : (backTo cpos (starEach es X.env)).any (·.1) = false := by rfl) :
    PE X (.Call (.Attribute o name apos) (e :: es) [] cpos) (tBM X.K T r to t) := by
  intro pins s σ H Q I h
  refine wpAny_Call_method_late hbase hfew hline rfl (thn (ho pins s σ H _ I h) fun v s1 ⟨x, H1, I1, r1, ty, q1⟩ => ?_)
  obtain ⟨h1, h2⟩ := tyV_is I1 r1 ty
  refine ⟨T, id, pa, slot, hty, h1, h2, ?_⟩
  have hA := ha cpos pins s1 σ H1 _ I1 q1
  rw [hs] at hA ⊢
  refine Calls.callWith_builtin (by show (false || (backTo cpos (starEach es X.env)).any (·.1)) = false; rw [hplain] <;> rfl) (Calls.evalArgs_plain ?_)
  exact thn hA fun us s2 ⟨vs, H2, I2, r2, q2⟩ => hm pins s2 σ H2 x vs v us Q I2 r1 r2 q2
/- xs.append(e), list.index on a module's tuple .. are MtR facts of 06m -/
end
end L2

namespace L2
open PySem PySem.Spec PyProof.Rows

def MtM (X : Cx) (id : String) (r : V → List V → Hp → VK → Prop) : Prop :=
  ∀ (pins : List (Addr × Obj)) (s : Shared) (σ : St) (H : Hp) (x : V) (xs : List V) (v : Value) (us : List Value) (Q : VK), Inv X pins σ H s → RelV x v → Vals xs us → r x xs H Q →
    wpAny (model X.prog X.w) X.A (call (.builtin id) (v :: us)) (EP X pins σ Q) X.xe s

/-! ### lists of values -/
theorem Vals.one : ∀ {x : V} {us : List Value}, Vals [x] us → ∃ u, us = [u] ∧ RelV x u
  | _, _, .cons r .nil => ⟨_, rfl, r⟩
theorem Vals.two : ∀ {x y : V} {us : List Value}, Vals [x, y] us → ∃ u v, us = [u, v] ∧ RelV x u ∧ RelV y v
  | _, _, _, .cons r (.cons q .nil) => ⟨_, _, rfl, r, q⟩
theorem Vals.zero : ∀ {us : List Value}, Vals [] us → us = []
  | _, .nil => rfl
theorem Vals.dropLast {xs : List V} {us : List Value} (h : Vals xs us) : Vals xs.dropLast us.dropLast := by
  induction h with
  | nil => exact .nil
  | cons r t ih =>
    cases t with
    | nil => exact .nil
    | cons q t' => exact .cons r ih
theorem Vals.eraseIdx : ∀ {xs : List V} {us : List Value} (i : Nat), Vals xs us → Vals (xs.eraseIdx i) (us.eraseIdx i)
  | _, _, _, .nil => .nil
  | _, _, 0, .cons _ t => t
  | _, _, i + 1, .cons r t => .cons r (Vals.eraseIdx i t)
theorem Vals.reverse {xs : List V} {us : List Value} (h : Vals xs us) : Vals xs.reverse us.reverse := by
  induction h with
  | nil => exact .nil
  | cons r t ih => rw [List.reverse_cons, List.reverse_cons]; exact Vals.append ih (.cons r .nil)
theorem Vals.rep {xs : List V} {us : List Value} (h : Vals xs us) : ∀ k : Nat, Vals (List.replicate k xs).flatten (List.replicate k us).flatten
  | 0 => .nil
  | k + 1 => by
    rw [List.replicate_succ, List.replicate_succ, List.flatten_cons, List.flatten_cons]
    exact Vals.append h (Vals.rep h k)
theorem erase_last {α : Type} (l : List α) : l.eraseIdx (l.length - 1) = l.dropLast := by
  induction l with
  | nil => rfl
  | cons a r ih =>
    cases r with
    | nil => rfl
    | cons b r =>
      have e : (a :: b :: r).length - 1 = ((b :: r).length - 1) + 1 := by
        have h1 : (a :: b :: r).length = r.length + 2 := rfl
        have h2 : (b :: r).length = r.length + 1 := rfl
        omega
      rw [e, List.eraseIdx_cons_succ, ih]
      all_goals rfl
theorem len_erase {α : Type} : ∀ (l : List α) (i : Nat), (l.eraseIdx i).length ≤ l.length
  | [], _ => Nat.le_refl _
  | _ :: _, 0 => Nat.le_succ _
  | _ :: r, i + 1 => Nat.succ_le_succ (len_erase r i)
theorem foldl_rep (its : List Value) : ∀ (k : Nat) (acc : List Value),
    List.foldl (fun x1 x2 => x1 ++ x2) acc.toArray (List.replicate k its.toArray) = (acc ++ (List.replicate k its).flatten).toArray
  | 0, acc => by simp
  | k + 1, acc => by
    have e : acc.toArray ++ its.toArray = (acc ++ its).toArray := by simp
    have e2 : (acc ++ its) ++ (List.replicate k its).flatten = acc ++ (List.replicate (k + 1) its).flatten := by
      rw [List.replicate_succ, List.flatten_cons, List.append_assoc]
    rw [← e2, ← foldl_rep its k (acc ++ its), ← e, List.replicate_succ, List.foldl_cons]

section
variable {X : Cx} {pins : List (Addr × Obj)} {σ : St} {H : Hp} {s : Shared} {l b : Addr} {xs ys zs : List V}

/-! ### the two steps: a tracked list is rewritten, a new list is laid -/
theorem Inv.lset {its its' : List Value} {n : Nat} {f : Array Value → Array Value} {t' : Nat} (I : Inv X pins σ H s) (hH : H l = some (.lst xs))
    (e : s.heap.get? l = some { cls := .type "list", data := .seq its.toArray n }) (hf : f its.toArray = its'.toArray) (hv : Vals ys its') (hz : ys.length ≤ sizeLine) :
    Inv X pins σ (upd H l (.lst ys)) { s with heap := s.heap.update l (Obj.mapSeq f), toks := t' } := by
  have q := PySem.IsL.update e f
  rw [hf] at q
  refine I.write (x := l) (e := l) (by rw [hH]; exact trivial) (.inl rfl) (fun b' u hb hu => (Heap.get?_update_other s.heap (Obj.mapSeq f) (Ne.symm hb)).trans hu) ⟨_, q⟩ ?_
  exact ⟨hz, its', _, hv, q⟩
theorem Inv.lnew {its : List Value} {t' : Nat} (I : Inv X pins σ H s) (hv : Vals ys its) (hz : ys.length ≤ sizeLine) :
    Inv X pins σ (upd H s.heap.objs.size (.lst ys)) { s with heap := s.heap.push { cls := .type "list", data := .seq its.toArray }, toks := t' } :=
  I.laid (fun _ _ q => Heap.get?_push_of_some _ q) (Nat.le_refl _) ⟨hz, its, 0, hv, Heap.get?_push_size _ rfl⟩
theorem Inv.fresh (I : Inv X pins σ H s) : H s.heap.objs.size = none := I.hok.fresh (Nat.le_refl _)
theorem Inv.lstM (I : Inv X pins σ H s) (hH : H l = some (.lst xs)) : xs.length ≤ sizeLine ∧ ∃ (its : List Value) (n : Nat), Vals xs its ∧ xs.length = its.length ∧ s.heap.get? l = some { cls := .type "list", data := .seq its.toArray n } := by
  obtain ⟨z, its, n, r, e⟩ := I.hok l _ hH
  exact ⟨z, its, n, r, r.length, e⟩

theorem notLongL {n : Nat} (h : n ≤ sizeLine) : Builtin.List.listTooLong n = false := by
  unfold Builtin.List.listTooLong
  exact decide_eq_false (by omega)
end

section
variable {X : Cx}

/-! ### methods -/
def rAppend : V → List V → Hp → VK → Prop := fun x vs H Q => ∃ l xs y, x = .ref l ∧ vs = [y] ∧ H l = some (.lst xs) ∧ xs.length < sizeLine ∧ Q .non (upd H l (.lst (xs ++ [y])))
theorem mt_append : MtM X "list.append" rAppend := by
  intro pins s σ H x vs v us Q I rx rv h
  obtain ⟨l, xs, y, rfl, rfl, hH, hz, q⟩ := h
  cases rx
  obtain ⟨u, rfl, ru⟩ := rv.one
  obtain ⟨z, its, n, r, hl, e⟩ := I.lstM hH
  refine call_meets F.slot_list_append ⟨_, e, rfl⟩ F.entry_list_append (F.args_list_append_2 _ _) (PySem.list_append l its.toArray n u (by rw [List.size_toArray]; omega)) ⟨e, ?_⟩
  refine ⟨.non, _, I.lset (its' := its ++ [u]) hH e (by simp) (r.append (.cons ru .nil)) ?_, rfl, q⟩
  rw [List.length_append, List.length_singleton]
  omega

def rExtend : V → List V → Hp → VK → Prop := fun x vs H Q => ∃ l b xs zs, x = .ref l ∧ vs = [.ref b] ∧ H l = some (.lst xs) ∧ H b = some (.lst zs) ∧ xs.length + zs.length ≤ sizeLine ∧ Q .non (upd H l (.lst (xs ++ zs)))
theorem mt_extend : MtM X "list.extend" rExtend := by
  intro pins s σ H x vs v us Q I rx rv h
  obtain ⟨l, b, xs, zs, rfl, rfl, hH, hB, hz, q⟩ := h
  cases rx
  obtain ⟨u, rfl, ru⟩ := rv.one
  cases ru
  obtain ⟨z, its, n, r, hl, e⟩ := I.lstM hH
  obtain ⟨z2, its2, n2, r2, hl2, e2⟩ := I.lstM hB
  have hsz : its.toArray.size + its2.toArray.size ≤ sizeLine := by rw [List.size_toArray, List.size_toArray]; omega
  have hlong : ¬ (!its.toArray.isEmpty && Builtin.List.listTooLong (its.toArray.size + its2.toArray.size)) = true := by
    rw [notLongL hsz, Bool.and_false]
    exact Bool.false_ne_true
  refine call_meets F.slot_list_extend ⟨_, e, rfl⟩ F.entry_list_extend (F.args_list_extend_2 _ _)
    (AutoSeq1.list_extend_list_list_0 l its.toArray n b its2.toArray n2 hlong (by rw [List.size_toArray]; omega) (by omega)) ⟨e, e2, ?_⟩
  refine ⟨.non, _, I.lset (its' := its ++ its2) hH e (by simp) (r.append r2) ?_, rfl, q⟩
  rw [List.length_append]
  omega

def rPop : V → List V → Hp → VK → Prop := fun x vs H Q => ∃ l xs y, x = .ref l ∧ vs = [] ∧ H l = some (.lst xs) ∧ xs[xs.length - 1]? = some y ∧ Q y (upd H l (.lst xs.dropLast))
theorem mt_pop : MtM X "list.pop" rPop := by
  intro pins s σ H x vs v us Q I rx rv h
  obtain ⟨l, xs, y, rfl, rfl, hH, hy, q⟩ := h
  cases rx
  have hus := rv.zero
  subst hus
  obtain ⟨z, its, n, r, hl, e⟩ := I.lstM hH
  obtain ⟨u, hu, ru⟩ := r.get hy
  have hy' : its.toArray[its.toArray.size - 1]? = some u := by
    show its.toArray[its.length - 1]? = some u
    rw [← Array.getElem?_toList, ← hl]
    exact hu
  refine call_meets F.slot_list_pop ⟨_, e, rfl⟩ F.entry_list_pop (F.args_list_pop_1 _) (MeetsSeq.list_pop_last l its.toArray n u hy' (by rw [List.size_toArray]; omega)) ⟨e, ?_⟩
  refine ⟨y, _, I.lset (its' := its.dropLast) hH e ?_ r.dropLast ?_, ru, q⟩
  · show its.toArray.eraseIdxIfInBounds (its.toArray.size - 1) = its.dropLast.toArray
    rw [List.size_toArray, List.eraseIdxIfInBounds_toArray, erase_last]
  · rw [List.length_dropLast]
    omega

def rPopAt : V → List V → Hp → VK → Prop := fun x vs H Q => ∃ l xs i k y, x = .ref l ∧ vs = [.int i] ∧ H l = some (.lst xs) ∧ -(2 ^ 63) ≤ i ∧ i < 2 ^ 63 ∧ seqIndex? i xs.length = some k ∧ xs[k]? = some y ∧ Q y (upd H l (.lst (xs.eraseIdx k)))
theorem mt_popAt : MtM X "list.pop" rPopAt := by
  intro pins s σ H x vs v us Q I rx rv h
  obtain ⟨l, xs, i, k, y, rfl, rfl, hH, h1, h2, hk, hy, q⟩ := h
  cases rx
  obtain ⟨u, rfl, ru⟩ := rv.one
  obtain ⟨t, rfl⟩ := ru
  obtain ⟨z, its, n, r, hl, e⟩ := I.lstM hH
  obtain ⟨w, hw, rw'⟩ := r.get hy
  refine call_meets F.slot_list_pop ⟨_, e, rfl⟩ F.entry_list_pop (F.args_list_pop_2 _ _)
    (MeetsSeq.list_pop_at l its.toArray n i t k w (fitsIndex_both h1 h2) (by rw [List.size_toArray, ← hl]; exact hk) (by rw [← Array.getElem?_toList]; exact hw) (by rw [List.size_toArray]; omega)) ⟨e, ?_⟩
  refine ⟨y, _, I.lset (its' := its.eraseIdx k) hH e ?_ (r.eraseIdx k) ?_, rw', q⟩
  · show its.toArray.eraseIdxIfInBounds k = (its.eraseIdx k).toArray
    rw [List.eraseIdxIfInBounds_toArray]
  · have := len_erase xs k
    omega

def rReverse : V → List V → Hp → VK → Prop := fun x vs H Q => ∃ l xs, x = .ref l ∧ vs = [] ∧ H l = some (.lst xs) ∧ Q .non (upd H l (.lst xs.reverse))
theorem mt_reverse : MtM X "list.reverse" rReverse := by
  intro pins s σ H x vs v us Q I rx rv h
  obtain ⟨l, xs, rfl, rfl, hH, q⟩ := h
  cases rx
  have hus := rv.zero
  subst hus
  obtain ⟨z, its, n, r, hl, e⟩ := I.lstM hH
  refine call_meets F.slot_list_reverse ⟨_, e, rfl⟩ F.entry_list_reverse (F.args_list_reverse_1 _) (AutoSeq1.list_reverse_list_0 l its.toArray n (by rw [List.size_toArray]; omega)) ⟨e, ?_⟩
  refine ⟨.non, _, I.lset (its' := its.reverse) hH e (by simp) r.reverse ?_, rfl, q⟩
  rw [List.length_reverse]
  omega

def rClear : V → List V → Hp → VK → Prop := fun x vs H Q => ∃ l xs, x = .ref l ∧ vs = [] ∧ H l = some (.lst xs) ∧ Q .non (upd H l (.lst []))
theorem mt_clear : MtM X "list.clear" rClear := by
  intro pins s σ H x vs v us Q I rx rv h
  obtain ⟨l, xs, rfl, rfl, hH, q⟩ := h
  cases rx
  have hus := rv.zero
  subst hus
  obtain ⟨z, its, n, r, hl, e⟩ := I.lstM hH
  refine call_meets F.slot_list_clear ⟨_, e, rfl⟩ F.entry_list_clear (F.args_list_clear_1 _) (AutoSeq1.list_clear_list_0 l its.toArray n (by rw [List.size_toArray]; omega)) ⟨e, ?_⟩
  exact ⟨.non, _, I.lset (its' := []) (ys := []) hH e rfl .nil (Nat.zero_le _), rfl, q⟩

/-! ### list + list, list += list, list * int -/
def rCat : R2 := fun x y H Q => ∃ l b xs zs, x = .ref l ∧ y = .ref b ∧ H l = some (.lst xs) ∧ H b = some (.lst zs) ∧ xs.length + zs.length ≤ sizeLine ∧ ∀ p, H p = none → Q (.ref p) (upd H p (.lst (xs ++ zs)))
theorem op_cat : OpR X (binaryOp .Add) rCat := by
  intro pins s σ H x y v u Q I rx ry h
  obtain ⟨l, b, xs, zs, rfl, rfl, hH, hB, hz, q⟩ := h
  cases rx
  cases ry
  obtain ⟨z, its, n, r, hl, e⟩ := I.lstM hH
  obtain ⟨z2, its2, n2, r2, hl2, e2⟩ := I.lstM hB
  refine PySem.P.add_list e e2 ?_ (by rw [List.size_toArray, List.size_toArray]; omega)
  have ea : its.toArray ++ its2.toArray = (its ++ its2).toArray := by simp
  rw [ea]
  exact ⟨.ref _, _, I.lnew (t' := s.toks) (r.append r2) (by rw [List.length_append]; omega), rfl, q _ I.fresh⟩
/-- a list times an int (a negative one is nothing) -/
def rRep : R2 := fun x y H Q => ∃ l k xs, x = .ref l ∧ y = .int k ∧ H l = some (.lst xs) ∧ -(2 ^ 63) ≤ k ∧ k < 2 ^ 63 ∧ xs.length * k.toNat ≤ sizeLine ∧
  ∀ p, H p = none → Q (.ref p) (upd H p (.lst (List.replicate k.toNat xs).flatten))
theorem len_rep {α : Type} (xs : List α) (k : Nat) : (List.replicate k xs).flatten.length = k * xs.length := by
  induction k with
  | zero => simp
  | succ k ih => rw [List.replicate_succ, List.flatten_cons, List.length_append, ih, Nat.succ_mul, Nat.add_comm]
theorem op_rep : OpR X (binaryOp .Mult) rRep := by
  intro pins s σ H x y v u Q I rx ry h
  obtain ⟨l, k, xs, rfl, rfl, hH, h1, h2, hz, q⟩ := h
  cases rx
  obtain ⟨t, rfl⟩ := ry
  obtain ⟨z, its, n, r, hl, e⟩ := I.lstM hH
  have hlen : its.toArray.size * k.toNat ≤ sizeLine := by rw [List.size_toArray, ← hl]; exact hz
  have hcap : ¬ its.toArray.size * k.toNat > (2 ^ 63 - 1) / 8 := by
    have : (sizeLine : Nat) ≤ (2 ^ 63 - 1) / 8 := by decide
    omega
  have hfit : ¬ (!Builtin.List.listFitsIndex k) = true := by
    rw [fitsIndex_both h1 h2]
    exact Bool.false_ne_true
  have hlong : ¬ Builtin.List.listTooLong (its.toArray.size * k.toNat) = true := by
    rw [notLongL hlen]
    exact Bool.false_ne_true
  have hnew : List.foldl (fun x1 x2 => x1 ++ x2) #[] (List.replicate (if its.toArray.isEmpty = true then 0 else k.toNat) its.toArray) = (List.replicate k.toNat its).flatten.toArray := by
    have f0 : ∀ m : Nat, List.foldl (fun x1 x2 => x1 ++ x2) #[] (List.replicate m its.toArray) = (List.replicate m its).flatten.toArray := fun m => by
      have := foldl_rep its m []
      rw [List.nil_append] at this
      exact this
    rw [f0]
    cases its with
    | nil => simp
    | cons a r' => rw [if_neg (by simp)]
  refine wpAny_binaryOp_repeat_ref (T := "list") (U := "int") (by decide) ⟨_, e, rfl⟩ (fun s' => typeIs_int s' k t) noFill_list_mul F.fills_int_mul F.slot_int_rmul repeat_list F.slot_int_index.lookup
    (call_meets F.slot_int_rmul (typeIs_int s k t) F.entry_int_rmul (F.args_int_rmul_2 _ _) (int___rmul___int_list k t l its.toArray n)
      ⟨e, rfl, ⟨_, e, rfl⟩, call_meets F.slot_list_mul ⟨_, e, rfl⟩ F.entry_list_mul (F.args_list_mul_2 _ _) (AutoListH.list___mul___list_int_3 l its.toArray n k t hfit hcap hlong) ⟨e, ?_⟩⟩)
  rw [hnew]
  exact ⟨.ref _, _, I.lnew (t' := s.toks) (r.rep k.toNat) (by rw [len_rep, Nat.mul_comm]; exact hz), rfl, q _ I.fresh⟩

/-! ### del xs[i] -/
theorem del_list {pins : List (Addr × Obj)} {s : Shared} {σ : St} {H : Hp} {l : Addr} {xs : List V} {i : Int} {t : Tok} {k : Nat} {Q : Unit → Shared → Prop} (I : Inv X pins σ H s) (hH : H l = some (.lst xs))
    (h1 : -(2 ^ 63) ≤ i) (h2 : i < 2 ^ 63) (hk : seqIndex? i xs.length = some k) (h : ∀ s', Inv X pins σ (upd H l (.lst (xs.eraseIdx k))) s' → Q () s') :
    wpAny (model X.prog X.w) X.A (delItem (.ref l) (.int i t)) Q X.xe s := by
  obtain ⟨z, its, n, r, hl, e⟩ := I.lstM hH
  refine PySem.P.delItem_list (k := k) e (fitsIndex_both h1 h2) (by rw [List.size_toArray, ← hl]; exact hk) (h _ ?_) (by rw [List.size_toArray]; omega)
  refine I.lset (its' := its.eraseIdx k) (t' := s.toks) hH e ?_ (r.eraseIdx k) ?_
  · show its.toArray.eraseIdxIfInBounds k = (its.eraseIdx k).toArray
    rw [List.eraseIdxIfInBounds_toArray]
  · have := len_erase xs k
    omega
end

/-! ### xs[a:b] = ys -/
section
variable {prog : Program} {w : World} {A : Around} {E : Value → Shared → Prop} {s : Shared}
theorem splice_eq (its its2 : List Value) (a c : Nat) : its.toArray.extract 0 a ++ its2.toArray ++ its.toArray.extract c its.toArray.size = (its.take a ++ its2 ++ its.drop c).toArray := by
  apply Array.toList_inj.mp
  first
    | (simp
       exact List.take_of_length_le (by simp))
    | simp [List.take_of_length_le]
    | simp
theorem bounds_run {a c n : Nat} (hac : a ≤ c) (hc : c ≤ n) : sliceBounds (some (a : Int)) (some (c : Int)) none n = ((a : Int), (c : Int), 1) := by
  simp only [sliceBounds, Option.getD_none]
  have h1 : ¬ ((a : Int) < 0) := by omega
  have h2 : ¬ ((c : Int) < 0) := by omega
  simp only [h1, h2, if_false, show (1 : Int) > 0 by decide, if_true]
  congr 1
  · omega
  · congr 1; omega
set_option maxRecDepth 100000 in
/-- list.__setitem__ with a slice of step one and another list -/
theorem setItem_slice {l b sl : Addr} {items new : Array Value} {n n2 : Nat} {vl vu : Value} {a c : Nat} {Q : Unit → Shared → Prop}
    (e : s.heap.get? l = some { cls := .type "list", data := .seq items n }) (e2 : s.heap.get? b = some { cls := .type "list", data := .seq new n2 }) (hne : l ≠ b)
    (hs : s.heap.IsSliceOf sl vl vu .none) (pl : IsPart vl (some (a : Int))) (pu : IsPart vu (some (c : Int))) (hac : a ≤ c) (hc : c ≤ items.size)
    (hsz : items.size + new.size ≤ sizeLine) (h : Q () { s with heap := s.heap.update l (Obj.mapSeq fun xs => xs.extract 0 a ++ new ++ xs.extract c xs.size) }) :
    wpAny (model prog w) A (setItem (.ref l) (.ref sl) (.ref b)) Q E s := by
  have hl : s.heap.IsList l items := PySem.IsL.isList e
  have hb : s.heap.IsList b new := PySem.IsL.isList e2
  obtain ⟨os, hos, hcs, hds⟩ := id hs
  have hTs : s.TypeIs (.ref sl) "slice" := ⟨os, hos, hcs⟩
  have hstep : ¬ ((rawPart none == rawInt 0) = true) := Bool.false_ne_true
  have hsame : Builtin.List.listSameRef (.ref l) (.ref b) = false := by
    unfold Builtin.List.listSameRef
    exact beq_eq_false_iff_ne.mpr hne
  have hmax : (max (a : Int) (c : Int)).toNat = c := by omega
  have hz' : ((fun xs : Array Value => xs.extract 0 a ++ new ++ xs.extract c xs.size) items).size ≤ sizeLine + 1 := by
    simp only [Array.size_append, Array.size_extract]
    omega
  unfold setItem
  try with_reducible refine wpAny_holding ?_
  first | refine wpAny_bind (wpAny_pure ?_) | skip
  refine wpAny_bind (wpAny_sequenceKey hl.typeIs (by decide) ?_)
  refine wpAny_bind (wpAny_callSpecial?_slot (name := Str.ofString "__setitem__") hl.typeIs slot_list_setitem
    (wpAny_call_entry slot_list_setitem hl.typeIs entry_list_setitem ?_ (args_list_setitem _ _ _)))
  show wpAny _ _ (Builtin.List.listSubscript? (.ref sl) >>= _) _ _ s
  refine wpAny_bind ?_
  unfold Builtin.List.listSubscript?
  refine wpAny_bind (wpAny_specialOf hTs slice_no_index ?_)
  simp only [Option.isNone_none, if_true]
  refine wpAny_pure ?_
  show wpAny _ _ (typeOf (.ref sl) >>= _) _ _ s
  refine wpAny_bind (wpAny_typeOf hTs ?_)
  first
    | rw [if_neg (by decide)]
    | refine PySem.W.KFB.if_not (by decide) ?_
  rw [listSliceParts_eq]
  refine wpAny_bind (wpAny_bind (wpAny_field hos hds (x := .none) rfl (wpAny_bind (wpAny_listPart .none ?_))))
  rw [if_neg hstep]
  refine wpAny_bind (wpAny_field hos hds (x := vl) rfl (wpAny_bind (wpAny_listPart pl ?_)))
  refine wpAny_bind (wpAny_field hos hds (x := vu) rfl (wpAny_bind (wpAny_listPart pu (wpAny_pure ?_))))
  first
    | simp only [hsame, Bool.false_eq_true, if_false]
    | refine PySem.W.KFB.if_not hsame ?_
    | (dsimp only
       rw [if_neg (by rw [hsame]; exact Bool.false_ne_true)])
  refine wpAny_bind (m := Builtin.List.listAllItems (.ref b) "must assign iterable to extended slice") ?_
  unfold Builtin.List.listAllItems
  refine wpAny_bind (wpAny_typeOf hb.typeIs ?_)
  first
    | refine PySem.W.KFB.if_so (by decide) ?_
    | rw [if_pos (by decide)]
    | simp only [beq_self_eq_true, Bool.true_or, if_true]
  unfold Builtin.List.listItems
  refine wpAny_bind (wpAny_seqItems e2 rfl (wpAny_pure ?_))
  refine wpAny_bind (wpAny_bind (wpAny_seqItems e rfl (wpAny_pure ?_)))
  refine wpAny_bind (wpAny_of_eq ((sliceIndices_raw (some (a : Int)) (some (c : Int)) none items.size (by simp)).trans (congrArg (pure : Int × Int × Int → Sem (Int × Int × Int)) (bounds_run hac hc))) ?_)
  show wpAny _ _ (if ((1 : Int) == 1) = true then _ else _) _ _ s
  rw [if_pos (by decide)]
  refine wpAny_bind (wpAny_rule ?_)
  first
    | simp only [notLongL hsz, Bool.false_eq_true, if_false]
    | refine PySem.W.KFB.if_not (notLongL hsz) ?_
  first | refine wpAny_bind (wpAny_pure ?_) | skip
  show wpAny _ _ (updateSeq l (fun xs => xs.extract 0 ((a : Int)).toNat ++ new ++ xs.extract (max (a : Int) (c : Int)).toNat xs.size) >>= _) _ _ s
  rw [hmax, Int.toNat_natCast]
  refine wpAny_bind (wpAny_updateSeq (hz := Nat.le_trans (Nat.le_add_right _ _) hsz) (_hz' := hz') e rfl ?_)
  refine wpAny_bind (wpAny_letGo ?_)
  first
    | exact wpAny_bind (wpAny_pure (wpAny_pure ⟨.none, rfl, wpAny_pure h⟩))
    | exact wpAny_pure ⟨.none, rfl, wpAny_pure h⟩
end

section
variable {X : Cx}
/-- xs[a:c] = ys of another list, at the value level: sl is the slice object that was just made -/
theorem set_slice {pins : List (Addr × Obj)} {s : Shared} {σ : St} {H : Hp} {l b sl : Addr} {xs ys : List V} {a c : Int} {vl vu : Value} {Q : Unit → Shared → Prop} (I : Inv X pins σ H s)
    (hH : H l = some (.lst xs)) (hB : H b = some (.lst ys)) (hne : l ≠ b) (hs : s.heap.IsSliceOf sl vl vu .none) (ra : RelV (.int a) vl) (rc : RelV (.int c) vu) (h0 : 0 ≤ a) (hac : a ≤ c) (hc : c ≤ xs.length)
    (hz : xs.length + ys.length ≤ sizeLine) (h : ∀ s', Inv X pins σ (upd H l (.lst (xs.take a.toNat ++ ys ++ xs.drop c.toNat))) s' → Q () s') :
    wpAny (model X.prog X.w) X.A (setItem (.ref l) (.ref sl) (.ref b)) Q X.xe s := by
  obtain ⟨ta, rfl⟩ := ra
  obtain ⟨tc, rfl⟩ := rc
  obtain ⟨z, its, n, r, hl, e⟩ := I.lstM hH
  obtain ⟨z2, its2, n2, r2, hl2, e2⟩ := I.lstM hB
  obtain ⟨a', rfl⟩ := Int.eq_ofNat_of_zero_le h0
  obtain ⟨c', rfl⟩ := Int.eq_ofNat_of_zero_le (Int.le_trans h0 hac)
  simp only [Int.toNat_natCast] at h
  refine setItem_slice (a := a') (c := c') e e2 hne hs (.int _ _) (.int _ _) (by omega) (by rw [List.size_toArray]; omega) (by rw [List.size_toArray, List.size_toArray]; omega) (h _ ?_)
  refine I.lset (its' := its.take a' ++ its2 ++ its.drop c') (t' := s.toks) hH e ?_ (Vals.append (Vals.append (r.take _) r2) (r.drop _)) ?_
  · exact splice_eq its its2 a' c'
  · rw [List.length_append, List.length_append, List.length_take, List.length_drop]
    omega
end
end L2

namespace Att
open PySem PySem.W PySem.Calls PyProof.Rows

/-! ### the script -/
theorem ints_of_wellAll {P : Params} {h : Heap} : ∀ (ns : List Int) (vs : List Value), WellAll P h vs (ns.map WData.int) → IntsAre vs ns := by
  intro ns
  induction ns with
  | nil =>
    intro vs w
    rw [List.map_nil] at w
    cases w
    exact .nil
  | cons n ns ih =>
    intro vs w
    rw [List.map_cons] at w
    cases w with
    | cons a b =>
      cases a
      exact .cons _ _ (ih _ b)

theorem script_of {l : OpenLaw} {n : Nat} (hn : l.most = some n) {P : Params} {h : Heap} {args : List WData} {vals : List Value}
    (hpre : l.row.toRowW.claim.pre args = true) (hwl : WellAll P h vals args) :
    ∃ a vs ns, vals = [Value.ref a] ∧ args = [WData.list (ns.map WData.int)] ∧ h.get? a = some { cls := .type "list", data := .seq vs.toArray } ∧ IntsAre vs ns ∧ ns.length ≤ n := by
  have hsh : WShape.hasAll [] args [.list .int] = true := (pre_splitW hpre).1
  have hc : l.pre.holds [] { args := args } = true := (pre_splitW hpre).2
  obtain ⟨d, r, rfl, h1, h2⟩ := hasAllW_cons hsh
  obtain rfl := hasAllW_nil h2
  obtain ⟨xs, rfl, h3⟩ := hasW_list h1
  obtain ⟨ns, rfl⟩ := items_int h3
  have hlen : ns.length ≤ n := by
    unfold OpenLaw.pre at hc
    have h4 : (WTm.not (.lt (.lit (.int (n : Int))) (.len (.arg 0)))).holds [] { args := [.list (ns.map .int)] } = true := by
      have h4 := (holds_andW hc).1
      rw [hn] at h4
      exact h4
    have h5 := condW_of h4 (w_not (w_lt w_lit (w_len_list (w_arg rfl))))
    rw [List.length_map] at h5
    refine Nat.le_of_not_lt fun q => ?_
    have q' : (n : Int) < ((ns.length : Nat) : Int) := by omega
    first
      | (rw [decide_eq_true q'] at h5; exact absurd h5 (by decide))
      | (simp at h5; omega)
  cases hwl with
  | cons w1 w2 =>
    cases w2
    cases w1 with
    | list ho hall => exact ⟨_, _, ns, rfl, rfl, ho, ints_of_wellAll ns _ hall, hlen⟩

theorem post_true (l : OpenLaw) (args : List WData) : l.row.toRowW.claim.post args (.bool true) args = true :=
  postW_of (r := l.row.toRowW) (X := (true == true))
    (show WShape.has [] (.bool true) .bool = true by first | rfl | decide | simp [WShape.has, WShape.arms, WShape.armsAll])
    (show (WTm.eq .res (.lit (.bool true))).value [] { args := args, res := some (.bool true), after := args } = some (.bool (true == true)) from w_eq_bool (w_res rfl) w_lit) rfl

/-! ### the attachment: holds_open's last premise (the goal 'hc' behind k_head) from a wpAny of the law's body -/
theorem attach {l : OpenLaw} {n : Nat} {q : Program} {loose : List Str} {XP : (Str → Option Value) → Heap → Prop} {YP : World → Heap → Prop} {d : DefRec} {x : Str}
    (hn : l.most = some n) (hdf : d.params.defaults = [])
    (hbind : ∀ pm cd doc v : Value, bindArgs (docDef d.name d.params d.body d.scope pm cd doc) ⟨[v], []⟩ = pure [(x, v)])
    (hx : d.scope.names.lookup x = some .local ∨ d.scope.names.lookup x = some .cell)
    (hk : d.scope.kind = .function) (hco : d.scope.isCoroutine = false) (hgen : d.scope.isGenerator = false)
    (body : ∀ (w : World) (s₀ s₁ s : Shared) (mg mb : Str → Option Value) (fa : Addr) (o : Obj) (pm cd doc : Value) (a : Addr) (vs : List Value) (ns : List Int),
      Ground q loose [] XP w s₀ mg mb s₁.heap → YP w s₁.heap →
      s₁.heap.get? fa = some o → o.data = .func (docDef d.name d.params d.body d.scope pm cd doc) → s₁.heap.CodeRec cd d.name → mg d.name = some (.ref fa) →
      s₁.heap.get? a = some { cls := .type "list", data := .seq vs.toArray } → IntsAre vs ns → ns.length ≤ n →
      s.gens = #[] → s.os = s₁.os →
      Fr s₁.heap s₁.heap.objs.size s.heap (bindL (envOfC d.name d.scope s₁.heap.objs.size fa cd).kindOf [(x, .ref a)] fun _ => none) →
      Cl s₁.heap.objs.size (cellsFrom (s₁.heap.objs.size + 1) d.scope.names []) s.heap (bindC (envOfC d.name d.scope s₁.heap.objs.size fa cd).kindOf [(x, .ref a)] fun _ => none) →
      wpAny (model l.prog w) (callerA.deeper (envOfC d.name d.scope s₁.heap.objs.size fa cd)) (execs d.body (envOfC d.name d.scope s₁.heap.objs.size fa cd))
        (fun f s' => f = .ret (.bool true) ∧ OldK s₁.heap s'.heap ∧ s'.os = s₁.os ∧ AllBare s'.gens) (fun _ _ => False) s) :
    WalkO q loose XP YP l.row.toRowW d [] (fun f vs => PySem.call f vs) := by
  intro w s₀ s₁ mg mb G Y fa o pm cd doc dV kV ho hd hcd hD hmg hg args vals as hpre hlay hrd hwl hlo
  obtain rfl : dV = .none := Dflts.none hD hdf
  obtain rfl : kV = .none := Dflts.noKw hD
  obtain ⟨a, vs, ns, rfl, rfl, hobj, hints, hlen⟩ := script_of hn hpre hwl
  refine enter_call ?_
  refine call_cells_ret (o := o) (by rw [depth_caller]; decide) ho (fd_plain hd) G.T.nolimit hcd (hbind pm cd doc (.ref a)) (fun y hy => ?_) (fun h₁ tk F X => ?_) hco hgen hk
  · obtain rfl : y = (x, Value.ref a) := List.mem_singleton.mp hy
    rcases hx with e | e
    · exact .inl e
    · exact .inr ⟨e, cellsFrom_some _ _ _ (.inl e)⟩
  · refine wpAny_mono (body w s₀ s₁ { s₁ with heap := h₁, toks := tk } mg mb fa o pm cd doc a vs ns G Y ho (fd_plain hd) hcd hmg hobj hints hlen hg rfl F X) (fun f s' hq => ?_) (fun _ _ hq => hq)
    obtain ⟨rfl, h2, h3, h4⟩ := hq
    exact ⟨.inl ⟨.bool true, .bool true, [], rfl, fun _ => rfl, .bool true, post_true l _, fun _ => ⟨List.Pairwise.nil, fun _ hm => (nomatch hm)⟩⟩, h2, h3, h4⟩

/-- the same from a codeAny of the CALL (for a layer whose function contracts speak of calls) -/
theorem attach_call {l : OpenLaw} {n : Nat} {q : Program} {loose : List Str} {XP : (Str → Option Value) → Heap → Prop} {YP : World → Heap → Prop} {d : DefRec}
    (hn : l.most = some n) (hdf : d.params.defaults = [])
    (call : ∀ (w : World) (s₀ s₁ : Shared) (mg mb : Str → Option Value) (fa : Addr) (o : Obj) (pm cd doc : Value) (a : Addr) (vs : List Value) (ns : List Int),
      Ground q loose [] XP w s₀ mg mb s₁.heap → YP w s₁.heap →
      s₁.heap.get? fa = some o → o.data = .func (docDef d.name d.params d.body d.scope pm cd doc) → s₁.heap.CodeRec cd d.name → mg d.name = some (.ref fa) →
      s₁.heap.get? a = some { cls := .type "list", data := .seq vs.toArray } → IntsAre vs ns → ns.length ≤ n → s₁.gens = #[] →
      codeAny (model l.prog w) callerA (.call (.ref fa) ⟨[.ref a], []⟩) (fun r s' => r = .ok (.ret (.bool true)) ∧ OldK s₁.heap s'.heap ∧ s'.os = s₁.os ∧ AllBare s'.gens) s₁) :
    WalkO q loose XP YP l.row.toRowW d [] (fun f vs => PySem.call f vs) := by
  intro w s₀ s₁ mg mb G Y fa o pm cd doc dV kV ho hd hcd hD hmg hg args vals as hpre hlay hrd hwl hlo
  obtain rfl : dV = .none := Dflts.none hD hdf
  obtain rfl : kV = .none := Dflts.noKw hD
  obtain ⟨a, vs, ns, rfl, rfl, hobj, hints, hlen⟩ := script_of hn hpre hwl
  refine enter_call (codeAny_mono (call w s₀ s₁ mg mb fa o pm cd doc a vs ns G Y ho (fd_plain hd) hcd hmg hobj hints hlen hg) fun r s' hq => ?_)
  obtain ⟨rfl, h2, h3, h4⟩ := hq
  exact ⟨.inl ⟨.bool true, .bool true, [], rfl, fun _ => rfl, .bool true, post_true l _, fun _ => ⟨List.Pairwise.nil, fun _ hm => (nomatch hm)⟩⟩, h2, h3, h4⟩

/-- the same where the top left finished generators (o_head chose holds_openN): nothing may have changed at all and no generator may be left -/
theorem attachN {l : OpenLaw} {n : Nat} {q : Program} {loose : List Str} {XP : (Str → Option Value) → Heap → Prop} {YP : World → Heap → Prop} {d : DefRec} {x : Str}
    (hn : l.most = some n) (hdf : d.params.defaults = [])
    (hbind : ∀ pm cd doc v : Value, bindArgs (docDef d.name d.params d.body d.scope pm cd doc) ⟨[v], []⟩ = pure [(x, v)])
    (hx : d.scope.names.lookup x = some .local ∨ d.scope.names.lookup x = some .cell)
    (hk : d.scope.kind = .function) (hco : d.scope.isCoroutine = false) (hgen : d.scope.isGenerator = false)
    (body : ∀ (w : World) (s₀ s₁ s : Shared) (mg mb : Str → Option Value) (fa : Addr) (o : Obj) (pm cd doc : Value) (a : Addr) (vs : List Value) (ns : List Int),
      Ground q loose [] XP w s₀ mg mb s₁.heap → YP w s₁.heap →
      s₁.heap.get? fa = some o → o.data = .func (docDef d.name d.params d.body d.scope pm cd doc) → s₁.heap.CodeRec cd d.name → mg d.name = some (.ref fa) →
      s₁.heap.get? a = some { cls := .type "list", data := .seq vs.toArray } → IntsAre vs ns → ns.length ≤ n →
      s.gens = #[] → s.os = s₁.os →
      Fr s₁.heap s₁.heap.objs.size s.heap (bindL (envOfC d.name d.scope s₁.heap.objs.size fa cd).kindOf [(x, .ref a)] fun _ => none) →
      Cl s₁.heap.objs.size (cellsFrom (s₁.heap.objs.size + 1) d.scope.names []) s.heap (bindC (envOfC d.name d.scope s₁.heap.objs.size fa cd).kindOf [(x, .ref a)] fun _ => none) →
      wpAny (model l.prog w) (callerA.deeper (envOfC d.name d.scope s₁.heap.objs.size fa cd)) (execs d.body (envOfC d.name d.scope s₁.heap.objs.size fa cd))
        (fun f s' => f = .ret (.bool true) ∧ (∀ b o, s₁.heap.get? b = some o → s'.heap.get? b = some o) ∧ s'.os = s₁.os ∧ s'.gens = #[]) (fun _ _ => False) s) :
    WalkN q loose XP YP l.row.toRowW d [] (fun f vs => PySem.call f vs) := by
  intro w s₀ s₁ mg mb G Y fa o pm cd doc dV kV ho hd hcd hD hmg hg args vals as hpre hlay hrd hwl hlo
  obtain rfl : dV = .none := Dflts.none hD hdf
  obtain rfl : kV = .none := Dflts.noKw hD
  obtain ⟨a, vs, ns, rfl, rfl, hobj, hints, hlen⟩ := script_of hn hpre hwl
  refine enter_callW ?_
  refine call_cells_ret (o := o) (by rw [depth_caller]; decide) ho (fd_plain hd) G.T.nolimit hcd (hbind pm cd doc (.ref a)) (fun y hy => ?_) (fun h₁ tk F X => ?_) hco hgen hk
  · obtain rfl : y = (x, Value.ref a) := List.mem_singleton.mp hy
    rcases hx with e | e
    · exact .inl e
    · exact .inr ⟨e, cellsFrom_some _ _ _ (.inl e)⟩
  · refine wpAny_mono (body w s₀ s₁ { s₁ with heap := h₁, toks := tk } mg mb fa o pm cd doc a vs ns G Y ho (fd_plain hd) hcd hmg hobj hints hlen hg rfl F X) (fun f s' hq => ?_) (fun _ _ hq => hq)
    obtain ⟨rfl, h2, h3, h4⟩ := hq
    exact ⟨.inl ⟨.bool true, .bool true, [], rfl, fun _ => rfl, .bool true, post_true l _, fun _ => ⟨List.Pairwise.nil, fun _ hm => (nomatch hm)⟩⟩, h2, h3, h4⟩

/-! ### rules over ANY heap (no ledger) from facts about the written part K: the library's own take a ledger (News) for what they write -/
section
variable {prog : Program} {w : World} {A : Around} {E : Value → Shared → Prop} {s : Shared} {K : Frag}

/-- a def of the module, or a method (qual 'C.m'), entered: the frame is the next address; cells behind it -/
theorem call_fn {R : Result → Shared → Prop} {name qual : Str} {params : Arguments} {body : List Stmt} {scope : Scope} {dV kV doc pm cdv ct oc : Value} {an od : Option Addr} {osl : Array (Option Value)} {f : Addr} {args : Args} {binds : List (Str × Value)}
    (X : K.In s.heap) (hlim : s.heap.NoLimit) (ho : K.lookup f = some ⟨oc, od, .func (fnOf name qual params body scope dV kV doc pm an cdv ct), osl⟩) (hcd : codeIn K cdv qual = true) (hroom : A.depth < recursionLimit)
    (hbind : BindsTo s (fnOf name qual params body scope dV kV doc pm an cdv ct) args binds)
    (hkind : (binds.all fun y => scope.names.lookup y.1 == some .local || scope.names.lookup y.1 == some .cell) = true)
    (h : ∀ s₁, InCallC s s.heap.objs.size (bindL (envOfC qual scope s.heap.objs.size f cdv).kindOf binds fun _ => none) (cellsFrom (s.heap.objs.size + 1) scope.names [])
        (bindC (envOfC qual scope s.heap.objs.size f cdv).kindOf binds fun _ => none) s₁ →
      wpAny (model prog w) (A.deeper (envOfC qual scope s.heap.objs.size f cdv)) (execs body (envOfC qual scope s.heap.objs.size f cdv))
        (fun fl s' => R (.ok (.ret (match fl with | .ret v => v | _ => .none))) s')
        (fun e s' => wpAny (model prog w) (A.deeper (envOfC qual scope s.heap.objs.size f cdv)) (leaving (envOfC qual scope s.heap.objs.size f cdv) e) (fun _ s'' => R (.error e) s'') (fun e' s'' => R (.error e') s'') s') s₁)
    (hco : scope.isCoroutine = false) (hgen : scope.isGenerator = false) (hk : scope.kind = .function) : codeAny (model prog w) A (.call (.ref f) args) R s := by
  refine codeAny_call_function hroom (X _ _ ho) rfl hco hgen rfl (codeRec_of X hcd) (hbind _ _ _ _ ?_)
  refine wpAny_newFunctionEnv_cells hk (kindsX hkind _) fun env he s₁ x => ?_
  subst he
  exact ⟨hlim.keeps x.toInCall.keep, codeAny_func (h s₁ x)⟩

/-- C(..): dict at size, instance at size + 1, then __init__ -/
theorem make_obj {R : Result → Shared → Prop} {C fI : Addr} {rest : List Value} {kw : List (Str × Value)}
    (X : K.In s.heap) (hm : makesIn K C = true) (hi : findIn K (.ref C) "__init__" = some (some (.ref fI))) (hf : isFn K (.ref fI) = true)
    (h : codeAny (model prog w) (A.under (.builtin "type.__call__" ⟨.ref C :: rest, kw⟩)) (.call (.ref fI) ⟨.ref (s.heap.objs.size + 1) :: rest, kw⟩) (InitBack (s.heap.objs.size + 1) R)
      { s with heap := (s.heap.push emptyDict).push (instObj C s.heap.objs.size) }) : codeAny (model prog w) A (.call (.ref C) ⟨rest, kw⟩) R s := by
  obtain ⟨hh, g, d, t, os⟩ := s
  exact make_core (makes_of X hm) (looks_findIn X hi) (fun self => bind_fn X self (beq_iff_eq.mp hf)) (.inl rfl) h

/-- x.name where the instance's dict holds the name and the class does not -/
theorem get_field {x C : Addr} {ox : Obj} {es : List DictEntry} {n : Nat} {name : Str} {expr : Bool} {v : Value} {Q : Value → Shared → Prop}
    (X : K.In s.heap) (I : PySem.W.InstAt s.heap x ox C (some (dictOf es n))) (hg : plainGet K C name = true) (hh : hasDictIn K C = true) (ha : findIn K (.ref C) name = some none)
    (hl : getL name es = some (some v)) (hv : handedIn v = true) (h : Q v { s with toks := s.toks + 1 }) : wpAny (model prog w) A (getAttr (.ref x) name expr) Q E s :=
  get_value X I (plainGet_of hg).1 (findObj_own hh ha rfl hl) hv h

/-- x.m(..): the method found in the class -/
theorem get_method {x C f : Addr} {ox : Obj} {es : List DictEntry} {n : Nat} {name : Str} {pl : Sem Bool} {Q : Value × List Value → Shared → Prop}
    (X : K.In s.heap) (I : PySem.W.InstAt s.heap x ox C (some (dictOf es n))) (hg : plainGet K C name = true) (hf : findIn K (.ref C) name = some (some (.ref f))) (ht : isFn K (.ref f) = true)
    (hl : getL name es = some none) (h : Q (.ref f, [.ref x]) s) : wpAny (model prog w) A (getMethod (.ref x) name pl) Q E s :=
  method_fn X I (plainGet_of hg).1 (plainGet_of hg).2 hf (beq_iff_eq.mp ht) (by show (lookIn name (dictOf es n)).map _ = _; rw [lookIn_dict, hl]; rfl) h

/-! the whole heap as the ledger: makes every rule that writes through a ledger a rule over any heap -/
def noObjs (h : Heap) : Heap := { h with objs := #[] }
theorem noObjs_get (h : Heap) (b : Addr) : (noObjs h).get? b = none := by
  cases e : (noObjs h).get? b with
  | none => rfl
  | some o => exact absurd (Heap.lt_size e) (Nat.not_lt_zero _)
def ledger (h : Heap) (L d : Addr) : List (Addr × Obj) := (List.range h.objs.size).filterMap fun a => if a = L ∨ a = d then none else (h.get? a).map fun o => (a, o)
theorem mem_ledger {h : Heap} {L d a : Addr} {o : Obj} : (a, o) ∈ ledger h L d ↔ a ≠ L ∧ a ≠ d ∧ h.get? a = some o := by
  unfold ledger
  rw [List.mem_filterMap]
  constructor
  · rintro ⟨b, _, e⟩
    split at e
    · cases e
    · rename_i hb
      obtain ⟨o', ho, e'⟩ := Option.map_eq_some_iff.mp e
      cases e'
      exact ⟨fun q => hb (.inl q), fun q => hb (.inr q), ho⟩
  · rintro ⟨n1, n2, ho⟩
    refine ⟨a, List.mem_range.mpr (Heap.lt_size ho), ?_⟩
    rw [if_neg (show ¬ (a = L ∨ a = d) from fun q => q.elim n1 n2), ho] <;> rfl
theorem news_ledger {h : Heap} {L d : Addr} {od : Obj} (hne : d ≠ L) (ho : h.get? d = some od) : News (noObjs h) L h ([] ++ (d, od) :: ledger h L d) := by
  rintro ⟨a, o⟩ hp
  rcases List.mem_cons.mp hp with e | hp
  · cases e
    exact ⟨ho, hne, noObjs_get _ _⟩
  · obtain ⟨n1, n2, e⟩ := mem_ledger.mp hp
    exact ⟨e, n1, noObjs_get _ _⟩
theorem fr_all {h : Heap} {L : Addr} {m : Str → Option Value} (n : h.Ns L m) : Fr (noObjs h) L h m :=
  ⟨n, fun b o e => (by rw [noObjs_get] at e; cases e), Nat.zero_le _⟩
/-- Upd of the head entry (for append_K, setItem_K ..) -/
theorem upd_ledger {h : Heap} {L d : Addr} {o o' : Obj} : Upd d o o' ((d, o) :: ledger h L d) ((d, o') :: ledger h L d) :=
  .head fun ⟨_, _⟩ hp => (mem_ledger.mp hp).2.1

/-- x.name = v over any heap: L is any namespace of the heap (the frame's, say): its map stays, its object is not told; all else but the dict stays -/
theorem set_field {x C dx L : Addr} {ox : Obj} {m : Str → Option Value} {es es' : List DictEntry} {n n' : Nat} {name : Str} {v : Value} {Q : Unit → Shared → Prop}
    (X : K.In s.heap) (I : PySem.W.InstAt s.heap x ox C (some (dictOf es n))) (hd : ox.dict = some dx) (hL : s.heap.Ns L m) (hne : dx ≠ L)
    (hs : findIn K (.ref C) "__setattr__" = some (some (.builtin "object.__setattr__"))) (hp : plainOver K C = true) (ht : takerIn K C name = some none) (hh : hasDictIn K C = true) (hl : (getL name es).isSome = true)
    (e : (putL name (PyData.keyHash w.params name) (.str name (s.toks + 1)) v es, putN name es n) = (es', n')) (hz : es'.length ≤ 1000)
    (h : ∀ h' : Heap, h'.Ns L m → h'.get? dx = some (dictOf es' n') → (∀ b o, b ≠ dx → b ≠ L → s.heap.get? b = some o → h'.get? b = some o) → Q () { s with heap := h', toks := s.toks + 2 }) :
    wpAny (model prog w) A (setAttr (.ref x) name v) Q E s := by
  obtain ⟨e1, e2⟩ := Prod.mk.inj e
  have hdx : s.heap.get? dx = some (dictOf es n) := by
    have := I.dict
    rw [hd] at this
    exact this
  refine set_plain X I hs (osa_dict (s := { s with toks := s.toks + 1 }) (h₀ := noObjs s.heap) (L := L) (m := m) (od := dictOf es n) (od' := dictOf es' n') (es := es') (n := n') (pre := []) (post := ledger s.heap L dx)
    (fr_all hL) (news_ledger hne hdx) X I hd hp ht hh hl (fun _ q => nomatch q) (fun ⟨_, _⟩ q => (mem_ledger.mp q).2.1) (by rw [putName_dict, e1, e2]) rfl hz fun h' F' N' => ?_)
  exact h h' F'.ns (N'.get (List.Mem.head _)) fun b o n1 n2 ho => N'.get (List.Mem.tail _ (mem_ledger.mpr ⟨n2, n1, ho⟩))
end
end Att

namespace L2
open PySem PySem.Spec PyProof.Rows

theorem vals_ints : ∀ {vs : List Value} {ns : List Int}, IntsAre vs ns → Vals (ns.map V.int) vs
  | _, _, .nil => .nil
  | _, _, .cons n t h => .cons ⟨t, rfl⟩ (vals_ints h)

/-- nothing is tracked but the script, known to the object (or it is an object of the module) -/
def Only (H : Hp) : Prop := ∀ b, H b = none ∨ ∃ o xs, H b = some (.frz o (.lst xs))

/-- THE HEAD: the law's promise, at the heap behind the top. F, the promise of the law's def, may use that base is part of the heap (so K.In base, base.Ns mainGlobals mg stand in Mod) -/
theorem law_call {P : Program} {w : World} {K : PySem.W.Frag} {mg mb : Str → Option Value} {CX : CXT} {k : Nat} {fa a : Addr} {fd : FuncData} {x : Str} {sp : Sp} {s₁ : Shared} {vs : List Value} {ns : List Int}
    (KX : K.In s₁.heap) (hns : s₁.heap.Ns mainGlobals mg) (hb : s₁.heap.Ns builtinsNs mb) (hbb : ∀ x : Str, x ≠ "__name__" → mb x = bootBuiltins x) (hlim : s₁.heap.NoLimit) (hg : s₁.gens = #[])
    (ha : s₁.heap.get? a = some { cls := .type "list", data := .seq vs.toArray }) (hi : IntsAre vs ns) (hl : ns.length ≤ sizeLine) (hr : Room k callerA)
    (F : ∀ base : Heap, K.In base → base.Ns mainGlobals mg → FnOk P w K mg base CX k fa fd [x] sp) (hbind : ∀ (s : Shared) (u : Value), BindsTo s fd ⟨[u], []⟩ [(x, u)])
    (hsp : ∀ H : Hp, Only H → SqL K H a (ns.map V.int) → sp [.ref a] H (fun v _ => v = .bl true) fun _ _ _ => False)
    (hCX : ∀ H e s', CX [] H s₁ (fun _ _ _ => False) e s' → False) :
    codeAny (model P w) callerA (.call (.ref fa) ⟨[.ref a], []⟩) (fun r s' => r = .ok (.ret (.bool true)) ∧ OldK s₁.heap s'.heap ∧ s'.os = s₁.os ∧ AllBare s'.gens) s₁ := by
  have rv := vals_ints hi
  have lenV := hi.length
  -- from an abstract heap in which nothing but the script may be tracked
  have core : ∀ H : Hp, Only H → SqL K H a (ns.map V.int) → HOk P w H s₁.heap → (∀ b, H b ≠ none → b = a) → (H a ≠ none → K.lookup a = none) →
      codeAny (model P w) callerA (.call (.ref fa) ⟨[.ref a], []⟩) (fun r s' => r = .ok (.ret (.bool true)) ∧ OldK s₁.heap s'.heap ∧ s'.os = s₁.os ∧ AllBare s'.gens) s₁ := by
    intro H hO hS hok hA hK
    have base_of : ∀ {b : Addr} {o : Obj}, s₁.heap.get? b = some o → H b = none → (hidT s₁.heap H).get? b = some o := fun e n => hidT_get e n
    have noA : ∀ {b : Addr} {o : Obj} {es : Array DictEntry} {ep : Nat}, s₁.heap.get? b = some o → o.data = .dict es ep → H b = none := fun {b o es ep} e d => by
      cases q : H b with
      | none => rfl
      | some u =>
        have e' : b = a := hA b (by rw [q]; simp)
        subst e'
        rw [ha] at e; cases e
        have d' : Data.seq vs.toArray _ = Data.dict es ep := d
        cases d'
    have nsK : ∀ {b : Addr} {m : Str → Option Value}, s₁.heap.Ns b m → (hidT s₁.heap H).Ns b m := fun {b m} ⟨o, es, ep, e, d, r⟩ => ⟨o, es, ep, base_of e (noA e d), d, r⟩
    have hKb : K.In (hidT s₁.heap H) := fun b o e => base_of (KX b o e) (by
      cases q : H b with
      | none => rfl
      | some u =>
        have e' : b = a := hA b (by rw [q]; simp)
        subst e'
        rw [hK (by rw [q]; simp)] at e; cases e)
    have hM : Mod K mg (hidT s₁.heap H) := ⟨hKb, nsK hns, ⟨mb, nsK hb, hbb⟩, let ⟨mc, h1, h2⟩ := hlim; ⟨mc, nsK h1, h2⟩⟩
    have e0 : Env0 P w K mg (hidT s₁.heap H) callerA [] s₁ H := ⟨rfl, hM, fun b o e => of_hidT e, Nat.le_of_eq (hidT_size _ _), trivial, fun b hb => absurd (show b ∈ ([] : List Addr) from hb) (by simp), hok, .of_eq hg⟩
    refine codeAny_mono ((F _ hKb (nsK hns)).run callerA [] s₁ H ⟨[.ref a], []⟩ [.ref a] [.ref a] _ _ hr e0 (hbind s₁ (.ref a)) (.cons rfl .nil) (hsp H hO hS)) fun r s' h => ?_
    cases r with
    | error e => exact (hCX H e s' h).elim
    | ok fl =>
      cases fl with
      | next => exact False.elim h
      | brk => exact False.elim h
      | cont => exact False.elim h
      | ret u =>
        obtain ⟨v, H', os, bare, un, hok', r', q⟩ := h
        have q' : v = .bl true := q
        subst q'
        obtain rfl : u = Value.bool true := r'
        refine ⟨rfl, OldK.of_keep fun b o e => ?_, os, bare⟩
        cases q : H b with
        | none => exact un.keep b o e q (by intro z; exact absurd (show b ∈ ([] : List Addr) from z) (by simp)) (by simp)
        | some u =>
          rcases hO b with z | ⟨ob, xs, z⟩
          · rw [q] at z; cases z
          · have z2 := un.frzs b ob _ z
            obtain ⟨e1, _⟩ := hok b _ z
            obtain ⟨e2, _⟩ := hok' b _ z2
            rw [e] at e1; cases e1
            exact e2
  cases hk : K.lookup a with
  | some o =>
    -- the script is one of the module's own objects
    have e := KX a o hk
    rw [ha] at e
    cases e
    refine core (fun _ => none) (fun _ => .inl rfl) (.inr ⟨_, vs.toArray, _, hk, rfl, rfl, rfl, by rw [List.size_toArray, lenV]; exact hl, by simpa using rv⟩) (fun b u z => by have z' : (none : Option HO) = some u := z; cases z') (fun b z => absurd rfl z) fun z => absurd rfl z
  | none =>
    refine core (fun b => if b = a then some (.frz { cls := .type "list", data := .seq vs.toArray } (.lst (ns.map V.int))) else none) (fun b => ?_) (.inl (.inr ⟨{ cls := .type "list", data := .seq vs.toArray }, if_pos rfl⟩)) (fun b u z => ?_) (fun b z => ?_) fun _ => hk
    · by_cases hb : b = a
      · exact .inr ⟨_, _, if_pos hb⟩
      · exact .inl (if_neg hb)
    · by_cases hb : b = a
      · have z' := (if_pos hb).symm.trans z
        cases z'
        subst hb
        exact ⟨ha, by rw [List.length_map]; exact hl, vs, _, rv, ha⟩
      · have z' := (if_neg hb).symm.trans z
        cases z'
    · by_cases hb : b = a
      · exact hb
      · exact absurd (if_neg hb) z
end L2

namespace L2
open PySem PySem.Spec PyProof.Rows

abbrev KOf {K : PySem.W.Frag} {h : Heap} (_ : K.In h) : PySem.W.Frag := K

/-- the goal that k_head leaves (case hc), from the law's promise. F gives the function object fd (K's own) once, then the promise over every base -/
theorem walk_of {l : PySem.W.OpenLaw} {n k : Nat} {q : Program} {loose : List Str} {XP : (Str → Option Value) → Heap → Prop} {YP : World → Heap → Prop} {d : DefRec} {K : Params → PySem.W.Frag} {CX : World → CXT} {sp : World → Sp} {x : Str}
    (hn : l.most = some n) (hn2 : n ≤ sizeLine) (hdf : d.params.defaults = []) (hr : Room k callerA)
    (hY : ∀ (w : World) (h : Heap), YP w h → (K w.params).In h)
    (F : ∀ (w : World) (mg : Str → Option Value) (fa : Addr) (h : Heap), (K w.params).In h → h.Ns mainGlobals mg → mg d.name = some (.ref fa) →
      ∃ fd : FuncData, (∀ (s : Shared) (u : Value), BindsTo s fd ⟨[u], []⟩ [(x, u)]) ∧
        ∀ base : Heap, (K w.params).In base → base.Ns mainGlobals mg → FnOk l.prog w (K w.params) mg base (CX w) k fa fd [x] (sp w))
    (hsp : ∀ (w : World) (H : Hp) (a : Addr) (ns : List Int), ns.length ≤ n → Only H → SqL (K w.params) H a (ns.map V.int) → sp w [.ref a] H (fun v _ => v = .bl true) fun _ _ _ => False)
    (hCX : ∀ (w : World) (H : Hp) (s : Shared) (e : Value) (s' : Shared), CX w [] H s (fun _ _ _ => False) e s' → False) :
    PySem.W.WalkO q loose XP YP l.row.toRowW d [] (fun f vs => PySem.call f vs) := by
  refine Att.attach_call hn hdf fun w s₀ s₁ mg mb fa o pm cd doc a vs ns G Y ho hd hcd hmg hobj hints hlen hg => ?_
  have KX := hY w _ Y
  obtain ⟨fd, hb, hF⟩ := F w mg fa _ KX G.T.g hmg
  exact law_call KX G.T.g G.T.b G.T.builtins G.T.nolimit hg hobj hints (Nat.le_trans hlen hn2) hr hF hb (fun H hO hS => hsp w H a ns hlen hO hS) fun H e s' => hCX w H s₁ e s'
/-- the same where the promise hangs on the written part alone: (sp := My.sp_law), no hole under a binder -/
theorem walk_ofK {l : PySem.W.OpenLaw} {n k : Nat} {q : Program} {loose : List Str} {XP : (Str → Option Value) → Heap → Prop} {YP : World → Heap → Prop} {d : DefRec} {K : Params → PySem.W.Frag} {CX : CXT} {sp : PySem.W.Frag → Sp} {x : Str}
    (hn : l.most = some n) (hn2 : n ≤ sizeLine) (hdf : d.params.defaults = []) (hr : Room k callerA)
    (hY : ∀ (w : World) (h : Heap), YP w h → (K w.params).In h)
    (F : ∀ (w : World) (mg : Str → Option Value) (fa : Addr) (h : Heap), (K w.params).In h → h.Ns mainGlobals mg → mg d.name = some (.ref fa) →
      ∃ fd : FuncData, (∀ (s : Shared) (u : Value), BindsTo s fd ⟨[u], []⟩ [(x, u)]) ∧
        ∀ base : Heap, (K w.params).In base → base.Ns mainGlobals mg → FnOk l.prog w (K w.params) mg base CX k fa fd [x] (sp (K w.params)))
    (hsp : ∀ (K : PySem.W.Frag) (H : Hp) (a : Addr) (ns : List Int), ns.length ≤ n → Only H → SqL K H a (ns.map V.int) → sp K [.ref a] H (fun v _ => v = .bl true) fun _ _ _ => False)
    (hCX : ∀ (H : Hp) (s : Shared) (e : Value) (s' : Shared), CX [] H s (fun _ _ _ => False) e s' → False) :
    PySem.W.WalkO q loose XP YP l.row.toRowW d [] (fun f vs => PySem.call f vs) :=
  walk_of (K := K) (CX := fun _ => CX) (sp := fun w => sp (K w.params)) hn hn2 hdf hr hY F (fun w H a ns h1 h2 h3 => hsp (K w.params) H a ns h1 h2 h3) fun _ H s e s' => hCX H s e s'
end L2

/- THE LAST THEOREM (shape; LID, My.* are yours):
   My.Adr: a structure of the addresses that your layer names (classes, functions); My.Txt K t: a structure (Prop) of the equations over K;
   My.txt_mk : {K} {implicit addresses ..} (e1 : nsIn K mainGlobals "law" = some (some (.ref f))) (e2 : K.lookup f = some ⟨oc, od, .func (fnOf "law" "law" params body scope dV kV doc pm an cdv ct), sl⟩) (e3 : codeIn K cdv "law" = true) .. : ∃ t, My.Txt K t

set_option maxRecDepth 100000 in
set_option maxHeartbeats 0 in
theorem PySem.Challenge.cw_LID_holds : PySem.Challenge.rw_LID.Holds := by
  w_on; o_law; k_head; (case hw => w_witness2)
  k_fill
  refine L2.walk_of (l := PySem.Challenge.rw_LID) (n := 63) (k := 40) (x := "script") (CX := fun w => ..) (sp := fun _ => My.sp_law) rfl (by decide) rfl ⟨rfl, by decide, by decide⟩ (fun w h Y => PySem.W.kIn_of Y) ?F ?S ?C
  case F =>
    intro w mg fa h KX G hmg
    have T : ∃ t, My.Txt (L2.KOf KX) t := by
      dsimp only [L2.KOf]                          -- K must stand as «<heap const> w.params» for k_is
      refine' My.txt_mk ?e1 ?e2 ?e3 ..
      (case e1 => PySem.W.k_is)                    -- in the order: a name -> its address -> its object -> its parts
      (case e2 => PySem.W.k_is)
      ..
    obtain ⟨t, T⟩ := T
    have e0 := hmg.symm.trans (PySem.W.mg_of KX G T.law)
    cases e0                                       -- fa is the law's own address
    exact ⟨_, fun s u => .of_eq rfl, fun base kb nb => My.law_fn T kb nb⟩     -- if «.of_eq rfl» comes too early: refine' ⟨_, ?b, fun base kb nb => My.law_fn T kb nb⟩; exact fun s u => .of_eq rfl
  case S => exact fun w H a ns hl hO hS => ..
  case C => exact ..
(the tactic k_is has no namespace: write k_is) -/

/-! SHORT WORDS over the layer: a def of the text, its body, what a loop and a test want. -/
namespace L2
open PySem PySem.Spec PyProof.Rows

/-! ### the text by places -/
/-- the j-th statement of a class's body -/
def inClass (s : Stmt) (j : Nat) : Stmt := match s with
  | .ClassDef _ _ _ body _ _ _ _ _ _ _ => body.getD j (.Pass ⟨0, 0, 0, 0⟩)
  | _ => .Pass ⟨0, 0, 0, 0⟩
def defArgs (s : Stmt) : Arguments := match s with
  | .FunctionDef _ a _ _ _ _ _ _ _ _ => a
  | _ => { posonlyargs := [], args := [], vararg := none, kwonlyargs := [], kw_defaults := [], kwarg := none, defaults := [] }
def defBody (s : Stmt) : List Stmt := match s with
  | .FunctionDef _ _ b _ _ _ _ _ _ _ => b
  | _ => []
def defScope (s : Stmt) : Scope := match s with
  | .FunctionDef _ _ _ _ _ _ sc _ _ _ => sc
  | _ => { kind := .function, names := [], isGenerator := false, isCoroutine := false }

/-! ### no exception leaves a def -/
abbrev CX0 : CXT := fun _ _ _ _ _ _ => False
abbrev E0 : XK := fun _ _ _ => False
theorem pass0 {X : Cx} : Passes CX0 X E0 := fun _ _ _ _ _ _ _ h => h.elim

/-! ### a def (or method) of the text as it stands behind the top -/
structure Fun (K : PySem.W.Frag) (x qual : Str) (st : Stmt) (f : Addr) (fd : FuncData) : Prop where
  ex : ∃ (oc : Value) (od : Option Addr) (kV doc pm : Value) (an : Option Addr) (cdv ct : Value) (osl : Array (Option Value)),
    fd = PySem.W.fnOf x qual (defArgs st) (defBody st) (defScope st) .none kV doc pm an cdv ct ∧ K.lookup f = some ⟨oc, od, .func fd, osl⟩ ∧ PySem.W.codeIn K cdv qual = true
  kp : PySem.W.keepIn K (.ref f) = true
section
variable {P : Program} {w : World} {K : PySem.W.Frag} {mg : Str → Option Value} {base : Heap}
/-- THE RULE for a def: its body as a term of rules, and the reading of that term -/
theorem Fun.ok {x qual : Str} {st : Stmt} {f : Addr} {fd : FuncData} {N ps : List Str} {k : Nat} {sp : Sp} (F : Fun K x qual st f fd) (S : FnScope N ps (defScope st)) (len : ∀ vs H Q E, sp vs H Q E → vs.length = ps.length)
    (hbody : ∀ (cdv : Value) (A : Around) (outer : List Env) (s : Shared) (H : Hp) (vs : List V) (Q : VK) (E : XK), Room k (A.deeper (envOfC qual (defScope st) s.heap.objs.size f cdv)) → sp vs H Q E →
      ∃ t, PSs (cxOf CX0 P w K mg base N qual (defScope st) f cdv A outer s H E).nox (defBody st) t ∧ t { nx := fun _ H' => Q .non H', rt := Q } (start N vs) H) : FnOk P w K mg base CX0 (k + 1) f fd ps sp := by
  obtain ⟨oc, od, kV, doc, pm, an, cdv, ct, osl, rfl, lk, hcd⟩ := F.ex
  refine fn_of lk hcd S len fun A outer s H vs Q E hr hsp => ?_
  obtain ⟨t, h, q⟩ := hbody cdv A outer s H vs Q E hr hsp
  exact ⟨t, h.nox, q⟩
/-- how its arguments bind (no defaults): h is «fun _ _ _ _ _ _ us hl => match us, hl with | [_, _], _ => rfl», one _ a parameter -/
theorem Fun.binds {x qual : Str} {st : Stmt} {f : Addr} {fd : FuncData} {ps : List Str} (F : Fun K x qual st f fd)
    (h : ∀ (kV doc pm : Value) (an : Option Addr) (cdv ct : Value) (us : List Value), us.length = ps.length → bindArgs (PySem.W.fnOf x qual (defArgs st) (defBody st) (defScope st) .none kV doc pm an cdv ct) ⟨us, []⟩ = pure (ps.zip us)) : Binds K fd ps [] := by
  obtain ⟨oc, od, kV, doc, pm, an, cdv, ct, osl, rfl, lk, hcd⟩ := F.ex
  exact .all (h kV doc pm an cdv ct)
theorem fun_mk {x qual : Str} {st : Stmt} {f : Addr} {oc : Value} {od an : Option Addr} {osl : Array (Option Value)} {kV doc pm cdv ct : Value} (l : K.lookup f = some ⟨oc, od, .func (PySem.W.fnOf x qual (defArgs st) (defBody st) (defScope st) .none kV doc pm an cdv ct), osl⟩)
    (c : PySem.W.codeIn K cdv qual = true) (k : PySem.W.keepIn K (.ref f) = true) : Fun K x qual st f (PySem.W.fnOf x qual (defArgs st) (defBody st) (defScope st) .none kV doc pm an cdv ct) := ⟨⟨oc, od, kV, doc, pm, an, cdv, ct, osl, rfl, l, c⟩, k⟩
end
theorem hu_of {A : Around} {k : Nat} (hr : Room k A) : A.units + 1 < cLine := Nat.lt_of_le_of_lt (Nat.add_le_add_left (by decide : 1 ≤ 64) _) hr.units
theorem small1000 {n : Nat} (h : n ≤ 1000) : n < sizeLine := Nat.lt_of_le_of_lt h (by decide)

/-! ### expressions in short: the name that stands in the i-th slot -/
section
variable {X : Cx}
theorem pv (i : Nat) {x : Str} {pos : Pos} (hN : X.N[i]? = some x := by rfl) (hv : Vis X.env.scope x := by first | exact Or.inl rfl | exact Or.inr (Or.inl rfl) | exact Or.inr (Or.inr rfl)) (hd : (x == ("__debug__" : Str)) = false := by decide)
    (hcd : (x == ("__classdict__" : Str)) = false := by decide) : PE X (.Name x pos) (tVar i) := pe_var hN hv hd hcd
end

/-! ### tests -/
theorem iteF {A B : Prop} (h : B) : if false = true then A else B := by
  rw [if_neg Bool.false_ne_true]
  exact h
theorem iteT {A B : Prop} (h : A) : if true = true then A else B := by
  rw [if_pos rfl]
  exact h
theorem ite2 {c A B : Prop} [Decidable c] (h1 : c → A) (h2 : ¬ c → B) : if c then A else B := by
  by_cases h : c
  · rw [if_pos h]
    exact h1 h
  · rw [if_neg h]
    exact h2 h
theorem iteNS {c A B : Prop} [Decidable c] (hc : c) (h : B) : if (!decide c) = true then A else B := by
  rw [decide_eq_true hc]
  exact iteF h

/-! ### heaps -/
/-- all that was tracked is as it was -/
def Same (H H' : Hp) : Prop := ∀ b o, H b = some o → H' b = some o
theorem Same.refl (H : Hp) : Same H H := fun _ _ h => h
theorem Same.trans {H H1 H2 : Hp} (a : Same H H1) (b : Same H1 H2) : Same H H2 := fun c o h => b c o (a c o h)
theorem Same.free {H H' : Hp} (e : Same H H') {l : Addr} (h : H' l = Option.none) : H l = Option.none := by
  cases q : H l with
  | none => rfl
  | some o =>
    rw [e l o q] at h
    cases h
theorem Same.seq {K : PySem.W.Frag} {H H' : Hp} {a : Addr} {xs : List V} (e : Same H H') (h : SqL K H a xs) : SqL K H' a xs := by
  rcases h with (h | ⟨o, h⟩) | h
  · exact .inl (.inl (e _ _ h))
  · exact .inl (.inr ⟨o, e _ _ h⟩)
  · exact .inr h

end L2

namespace L2
open PySem PySem.Spec PyProof.Rows
/-! ### a dict's pairs: keys that differ -/
section
variable {κ : Type} [DecidableEq κ]
theorem valV_not {kvs : List (κ × V)} {k : κ} (h : valV kvs k = none) : ¬ k ∈ kvs.map (·.1) := by
  intro m
  obtain ⟨p, hp, e⟩ := List.mem_map.mp m
  have q : (kvs.any fun kv => decide (kv.1 = k)) = true := List.any_eq_true.mpr ⟨p, hp, decide_eq_true e⟩
  rw [valV_any, h] at q
  exact absurd q (by simp)
theorem valV_in {kvs : List (κ × V)} {k : κ} {v : V} (h : valV kvs k = some v) : k ∈ kvs.map (·.1) := by
  have q : (kvs.any fun kv => decide (kv.1 = k)) = true := by
    rw [valV_any, h]
    all_goals rfl
  obtain ⟨p, hp, e⟩ := List.any_eq_true.mp q
  exact List.mem_map.mpr ⟨p, hp, of_decide_eq_true e⟩
theorem nd_snoc : ∀ {l : List κ} {k : κ}, l.Nodup → ¬ k ∈ l → (l ++ [k]).Nodup
  | [], k, _, _ => by simp
  | a :: r, k, h, hk => by
    obtain ⟨h1, h2⟩ := List.nodup_cons.mp h
    show (a :: (r ++ [k])).Nodup
    refine List.nodup_cons.mpr ⟨fun m => ?_, nd_snoc h2 fun m => hk (List.mem_cons.mpr (Or.inr m))⟩
    rcases List.mem_append.mp m with q | q
    · exact h1 q
    · exact hk (List.mem_cons.mpr (Or.inl (List.mem_singleton.mp q).symm))
theorem nd_putK {kvs : List (κ × V)} {k : κ} (v : V) (hn : (kvs.map (·.1)).Nodup) (h : valV kvs k = none) : ((putK kvs k v).map (·.1)).Nodup := by
  rw [putK_new v h, List.map_append]
  exact nd_snoc hn (valV_not h)
theorem dropK_pos {p : κ × V} {r : List (κ × V)} {k : κ} (e : p.1 = k) : dropK (p :: r) k = dropK r k := by
  unfold dropK
  rw [List.filter_cons, if_neg (by simp [e])]
theorem dropK_neg {p : κ × V} {r : List (κ × V)} {k : κ} (e : ¬ p.1 = k) : dropK (p :: r) k = p :: dropK r k := by
  unfold dropK
  rw [List.filter_cons, if_pos (by simp [e])]
theorem dropK_no : ∀ {kvs : List (κ × V)} {k : κ}, ¬ k ∈ kvs.map (·.1) → dropK kvs k = kvs
  | [], _, _ => rfl
  | p :: r, k, h => by
    have h' : ¬ k ∈ r.map (·.1) := fun m => by
      obtain ⟨q, hq, e⟩ := List.mem_map.mp m
      exact h (List.mem_map.mpr ⟨q, List.mem_cons.mpr (Or.inr hq), e⟩)
    rw [dropK_neg fun e => h (List.mem_map.mpr ⟨p, List.mem_cons.mpr (Or.inl rfl), e⟩), dropK_no h']
theorem dropK_mem {kvs : List (κ × V)} {k : κ} {p : κ × V} (h : p ∈ dropK kvs k) : p ∈ kvs := (List.mem_filter.mp h).1
theorem nd_dropK : ∀ {kvs : List (κ × V)} {k : κ}, (kvs.map (·.1)).Nodup → ((dropK kvs k).map (·.1)).Nodup
  | [], _, _ => List.nodup_nil
  | p :: r, k, h => by
    have h : (p.1 :: r.map (·.1)).Nodup := h
    obtain ⟨h1, h2⟩ := List.nodup_cons.mp h
    by_cases e : p.1 = k
    · rw [dropK_pos e]
      exact nd_dropK h2
    · rw [dropK_neg e]
      show (p.1 :: (dropK r k).map (·.1)).Nodup
      refine List.nodup_cons.mpr ⟨fun m => h1 ?_, nd_dropK h2⟩
      obtain ⟨q, hq, eq⟩ := List.mem_map.mp m
      exact List.mem_map.mpr ⟨q, dropK_mem hq, eq⟩
theorem dropK_len : ∀ {kvs : List (κ × V)} {k : κ}, (kvs.map (·.1)).Nodup → k ∈ kvs.map (·.1) → (dropK kvs k).length + 1 = kvs.length
  | [], _, _, m => by simp at m
  | p :: r, k, h, m => by
    have h : (p.1 :: r.map (·.1)).Nodup := h
    have m : k = p.1 ∨ k ∈ r.map (·.1) := List.mem_cons.mp m
    obtain ⟨h1, h2⟩ := List.nodup_cons.mp h
    by_cases e : p.1 = k
    · subst e
      rw [dropK_pos rfl, dropK_no h1]
      all_goals rfl
    · have m' : k ∈ r.map (·.1) := m.resolve_left fun z => e z.symm
      have q := dropK_len h2 m'
      rw [dropK_neg e, List.length_cons, List.length_cons]
      omega
end
end L2
end
section
set_option Elab.async false
set_option linter.all false
set_option maxRecDepth 100000
set_option maxHeartbeats 4000000
namespace L2
open PySem PySem.Spec PyProof.Rows

/-! ## A list comprehension with one clause, at most one test, that raises nothing -/
def clOf (names : List (Str × NameKind)) (cells : List (Str × Addr)) (acc : List (Str × Addr)) : List (Str × Addr) :=
  match names with
  | [] => acc
  | (n, k) :: r => clOf r cells (if k == .free then (n, (cells.lookup n).getD 0) :: acc else acc)

def cxComp (X : Cx) (N : List Str) (scope : Scope) (C : Addr) (s : Shared) (H : Hp) (fp : List Addr) (pins : List (Addr × Obj)) : Cx where
  prog := X.prog
  w := X.w
  K := X.K
  mg := X.mg
  base := X.base
  A := X.A
  N := N
  s₀ := s
  H₀ := H
  env := compEnvC scope (clOf scope.names X.env.cells []) C X.env
  outer := X.stack
  stack := X.stack
  ex := fp
  fn := fun _ => false
  calm := X.calm
  pn := X.pn ++ pins
  xe := fun _ _ => False

/-- what stands free within is a cell (or free) without; nothing is a cell within; locals are once -/
def scopeOk (on : List (Str × NameKind)) (cn : List (Str × NameKind)) : Bool :=
  cn.all fun y => y.2 != .cell && (y.2 != .free || (on.lookup y.1 == some .cell || on.lookup y.1 == some .free)) && (y.2 != .local || cn.lookup y.1 == some .local) && (y.2 != .free || cn.lookup y.1 == some .free)
def pickOk (XN : List Str) (cn : List (Str × NameKind)) (N : List Str) (pick : List (Option Nat)) : Bool :=
  N.length == pick.length && (N.zip pick).all fun y => match y.2 with
    | none => true
    | some j => XN[j]? == some y.1 && cn.lookup y.1 == some .free
def slotsOf (pick : List (Option Nat)) (σ : St) : St := pick.map fun o => match o with
  | none => none
  | some j => match σ[j]? with
    | some (some v) => some v
    | _ => none

theorem kind_ne {k l : NameKind} (h : (k != l) = true) : k ≠ l := by
  intro e; subst e; cases k <;> cases h
theorem kind_eq {k l : NameKind} (h : (k == l) = true) : k = l := by
  cases k <;> cases l <;> first | rfl | cases h
theorem okind_eq {k : Option NameKind} {l : NameKind} (h : (k == some l) = true) : k = some l := by
  cases k with
  | none => cases h
  | some k => exact congrArg some (kind_eq h)

section
variable {on cn : List (Str × NameKind)}
theorem scopeOk.cell (h : scopeOk on cn = true) : ∀ y ∈ cn, y.2 ≠ .cell := fun y hy => by
  have q := List.all_eq_true.mp h y hy
  simp only [Bool.and_eq_true] at q
  exact kind_ne q.1.1.1
theorem scopeOk.out (h : scopeOk on cn = true) : ∀ y ∈ cn, y.2 = .free → on.lookup y.1 = some .cell ∨ on.lookup y.1 = some .free := fun y hy e => by
  have q := List.all_eq_true.mp h y hy
  simp only [Bool.and_eq_true, Bool.or_eq_true] at q
  rcases q.1.1.2 with z | z
  · exact absurd e (kind_ne z)
  · rcases z with z | z
    · exact .inl (okind_eq z)
    · exact .inr (okind_eq z)
theorem scopeOk.loc (h : scopeOk on cn = true) : ∀ y ∈ cn, y.2 = .local → cn.lookup y.1 = some .local := fun y hy e => by
  have q := List.all_eq_true.mp h y hy
  simp only [Bool.and_eq_true, Bool.or_eq_true] at q
  rcases q.1.2 with z | z
  · exact absurd e (kind_ne z)
  · exact okind_eq z
end

/-- the cells within are cells without -/
theorem clOf_sub {cells : List (Str × Addr)} {x : Str} {c : Addr} : ∀ {names : List (Str × NameKind)} {acc : List (Str × Addr)}, (∀ y ∈ names, y.2 = NameKind.free → (cells.lookup y.1).isSome = true) →
    (acc.lookup x = some c → cells.lookup x = some c) → (clOf names cells acc).lookup x = some c → cells.lookup x = some c
  | [], acc, _, ha, h => ha h
  | (n, k) :: r, acc, hf, ha, h => by
    refine clOf_sub (names := r) (fun y hy e => hf y (List.mem_cons_of_mem _ hy) e) ?_ h
    intro h'
    by_cases hk : (k == NameKind.free) = true
    · rw [if_pos hk, List.lookup_cons] at h'
      cases e : (x == n) with
      | true =>
        rw [e] at h'
        have en : x = n := by simpa using e
        subst en
        have q := hf (x, k) List.mem_cons_self (kind_eq hk)
        obtain ⟨d, hd⟩ := Option.isSome_iff_exists.mp q
        have hd' : cells.lookup x = some d := hd
        rw [hd'] at h' ⊢
        exact h'
      | false =>
        rw [e] at h'
        exact ha h'
    · rw [if_neg hk] at h'
      exact ha h'
theorem clOf_has {cells : List (Str × Addr)} {x : Str} : ∀ {names : List (Str × NameKind)} {acc : List (Str × Addr)}, ((acc.lookup x).isSome = true ∨ ∃ y ∈ names, y.1 = x ∧ y.2 = NameKind.free) → ((clOf names cells acc).lookup x).isSome = true
  | [], acc, h => by
    rcases h with h | ⟨y, hy, _⟩
    · exact h
    · cases hy
  | (n, k) :: r, acc, h => by
    refine clOf_has (names := r) ?_
    by_cases hk : (k == NameKind.free) = true
    · rw [if_pos hk, List.lookup_cons]
      rcases h with h | ⟨y, hy, e1, e2⟩
      · cases e : (x == n) with
        | true => exact .inl rfl
        | false => exact .inl h
      · rcases List.mem_cons.mp hy with z | z
        · subst z
          have : (x == n) = true := by simpa using e1.symm
          rw [this]
          exact .inl rfl
        · exact .inr ⟨y, z, e1, e2⟩
    · rw [if_neg hk]
      rcases h with h | ⟨y, hy, e1, e2⟩
      · exact .inl h
      · rcases List.mem_cons.mp hy with z | z
        · subst z
          exfalso
          apply hk
          have e2' : k = NameKind.free := e2
          rw [e2']
          rfl
        · exact .inr ⟨y, z, e1, e2⟩

/-- a name's kind within: relabelled -/
structure Relab (f : Str × NameKind → Str × NameKind) : Prop where
  nm : ∀ y, (f y).1 = y.1
  kd : ∀ y, (f y).2 = y.2 ∨ (y.2 = .free ∧ (f y).2 = .cell)
theorem Relab.lookup {f : Str × NameKind → Str × NameKind} (R : Relab f) {x : Str} : ∀ names : List (Str × NameKind), (names.map f).lookup x = names.lookup x ∨ (names.lookup x = some .free ∧ (names.map f).lookup x = some .cell)
  | [] => .inl rfl
  | y :: r => by
    obtain ⟨n, k⟩ := y
    have h1 := R.nm (n, k)
    have h2 := R.kd (n, k)
    rw [List.map_cons]
    generalize f (n, k) = z at h1 h2
    obtain ⟨n', k'⟩ := z
    have h1 : n' = n := h1
    have h2 : k' = k ∨ (k = .free ∧ k' = .cell) := h2
    subst h1
    rw [List.lookup_cons, List.lookup_cons]
    cases e : (x == n') with
    | true =>
      rcases h2 with h2 | ⟨h2, h3⟩
      · subst h2; exact .inl rfl
      · subst h2; subst h3; exact .inr ⟨rfl, rfl⟩
    | false => exact R.lookup r
theorem relab (env : Env) : Relab (fun y : Str × NameKind => if (y.2 == NameKind.free && env.scope.kind == .function && env.kindOf y.1 == some .cell) = true then (y.1, NameKind.cell) else (y.1, y.2)) where
  nm := fun y => by
    by_cases h : (y.2 == NameKind.free && env.scope.kind == .function && env.kindOf y.1 == some .cell) = true
    · rw [if_pos h]
    · rw [if_neg h]
  kd := fun y => by
    by_cases h : (y.2 == NameKind.free && env.scope.kind == .function && env.kindOf y.1 == some .cell) = true
    · rw [if_pos h]
      simp only [Bool.and_eq_true] at h
      exact .inr ⟨kind_eq h.1.1, rfl⟩
    · rw [if_neg h]
      exact .inl rfl
theorem relabel_names (scope : Scope) (env : Env) : (relabel scope env).names = scope.names.map (fun y : Str × NameKind => if (y.2 == NameKind.free && env.scope.kind == .function && env.kindOf y.1 == some .cell) = true then (y.1, NameKind.cell) else (y.1, y.2)) := rfl
theorem relabel_lookup {scope : Scope} {env : Env} {x : Str} {k : NameKind} (h : (relabel scope env).names.lookup x = some k) :
    scope.names.lookup x = some k ∨ (k = .cell ∧ scope.names.lookup x = some .free) := by
  rw [relabel_names] at h
  rcases (relab env).lookup (x := x) scope.names with q | ⟨q1, q2⟩
  · rw [q] at h; exact .inl h
  · rw [q2] at h; cases h; exact .inr ⟨rfl, q1⟩
theorem relabel_free {scope : Scope} {env : Env} {x : Str} (h : scope.names.lookup x = some .free) : (relabel scope env).names.lookup x = some .cell ∨ (relabel scope env).names.lookup x = some .free := by
  rw [relabel_names]
  rcases (relab env).lookup (x := x) scope.names with q | ⟨q1, q2⟩
  · rw [q]; exact .inr h
  · exact .inl q2
end L2
end
section
set_option Elab.async false
set_option linter.all false
set_option maxRecDepth 100000
set_option maxHeartbeats 4000000
namespace L2
open PySem PySem.Spec PyProof.Rows

theorem closure_is (env : Env) : ∀ (names : List (Str × NameKind)) (acc : List (Str × Addr)), (∀ y ∈ names, y.2 = NameKind.free → (env.cells.lookup y.1).isSome = true) →
    (forIn names acc (fun (x : Str × NameKind) (cs : List (Str × Addr)) => if (x.2 == NameKind.free) = true then (do let a ← cellOf env x.1; pure (ForInStep.yield ((x.1, a) :: cs))) else pure (ForInStep.yield cs)) : Sem (List (Str × Addr))) = pure (clOf names env.cells acc)
  | [], acc, _ => rfl
  | (n, k) :: r, acc, h => by
    rw [List.forIn_cons]
    by_cases hk : (k == NameKind.free) = true
    · obtain ⟨c, hc⟩ := Option.isSome_iff_exists.mp (h (n, k) List.mem_cons_self (kind_eq hk))
      have hc' : env.cells.lookup n = some c := hc
      have e : cellOf env n = pure c := by unfold cellOf; rw [hc']
      simp only [hk, if_true]
      rw [e]
      have ih := closure_is env r ((n, c) :: acc) fun y hy z => h y (List.mem_cons_of_mem _ hy) z
      have e2 : clOf ((n, k) :: r) env.cells acc = clOf r env.cells ((n, c) :: acc) := by
        show clOf r env.cells (if (k == NameKind.free) = true then (n, (env.cells.lookup n).getD 0) :: acc else acc) = _
        rw [if_pos hk, hc']
        rfl
      rw [e2, ← ih]
      rfl
    · have hk' : (k == NameKind.free) = false := by cases q : (k == NameKind.free) with
        | true => exact absurd q hk
        | false => rfl
      simp only [hk']
      have ih := closure_is env r acc fun y hy z => h y (List.mem_cons_of_mem _ hy) z
      have e2 : clOf ((n, k) :: r) env.cells acc = clOf r env.cells acc := by
        show clOf r env.cells (if (k == NameKind.free) = true then (n, (env.cells.lookup n).getD 0) :: acc else acc) = _
        rw [if_neg hk]
      rw [e2, ← ih]
      rfl
theorem closureFor_is {scope : Scope} {env : Env} (h : ∀ y ∈ scope.names, y.2 = NameKind.free → (env.cells.lookup y.1).isSome = true) : closureFor scope env = pure (clOf scope.names env.cells []) := by
  have e := closure_is env scope.names [] h
  have b : closureFor scope env = ((forIn scope.names ([] : List (Str × Addr)) (fun (x : Str × NameKind) (cs : List (Str × Addr)) => if (x.2 == NameKind.free) = true then (do let a ← cellOf env x.1; pure (ForInStep.yield ((x.1, a) :: cs))) else pure (ForInStep.yield cs)) : Sem (List (Str × Addr))) >>= fun r => pure r) := rfl
  rw [b, e]
  rfl

section
variable {X : Cx} {pins : List (Addr × Obj)} {σ : St} {H : Hp} {s : Shared}

theorem cells_of (I : Inv X pins σ H s) {scope : Scope} (hs : scopeOk X.env.scope.names scope.names = true) : ∀ y ∈ scope.names, y.2 = NameKind.free → (X.env.cells.lookup y.1).isSome = true := fun y hy e => by
  obtain ⟨c, hc⟩ := I.ok.has y.1 (scopeOk.out hs y hy e)
  rw [hc]; rfl

theorem inv_comp (I : Inv X pins σ H s) {N : List Str} {scope : Scope} {pick : List (Option Nat)} {fp : List Addr} {C D : Addr} {h₁ : Heap} {tk : Nat} {ob : Obj}
    (hs : scopeOk X.env.scope.names scope.names = true) (hp : pickOk X.N scope.names N pick = true) (hk : scope.kind = .function)
    (hf : ∀ b ∈ fp, FpOk X pins H b) (ho : ∀ b ∈ fp, ∃ o, s.heap.get? b = some o ∧ ∀ v, o.data ≠ .cell v)
    (hC : s.heap.objs.size ≤ C) (hD : s.heap.objs.size ≤ D) (hDC : D ≠ C) (keep : ∀ b o, s.heap.get? b = some o → h₁.get? b = some o)
    (ns : h₁.Ns C fun _ => none) (hl : h₁.get? D = some ob) (hob : ∀ v, ob.data ≠ .cell v) :
    Inv (cxComp X N scope C s H fp pins) [(D, ob)] (slotsOf pick σ) H { s with heap := h₁, toks := tk } := by
  have cells := cells_of I hs
  have sub : ∀ x c, (clOf scope.names X.env.cells []).lookup x = some c → X.env.cells.lookup x = some c := fun x c e => clOf_sub cells (fun z => by cases z) e
  have lt : ∀ {b o}, s.heap.get? b = some o → b < s.heap.objs.size := fun e => Heap.lt_size e
  simp only [pickOk, Bool.and_eq_true] at hp
  obtain ⟨hpl, hpa⟩ := hp
  have hpl : N.length = pick.length := by simpa using hpl
  have ok : (cxComp X N scope C s H fp pins).Ok := by
    refine ⟨I.ok.mod, hk, I.ok.glob, I.ok.blt, hC, fun x y c e1 e2 => I.ok.inj x y c (sub x c e1) (sub y c e2), fun x hx => ?_, fun x c e _ => ?_, I.ok.hd, I.ok.frames, .inl rfl, fun b hb => ⟨?_, fun x c e => ?_⟩, I.bs, Nat.le_trans I.ok.bsz I.sz, fun b o e hb => ?_, fun b hb hb' => ?_, I.stack, I.stkFree⟩
    · have hfree : scope.names.lookup x = some .free := by
        rcases hx with z | z
        · rcases relabel_lookup z with q | ⟨_, q⟩
          · exact absurd rfl (scopeOk.cell hs _ (PySem.mem_of_lookup q))
          · exact q
        · rcases relabel_lookup z with q | ⟨q, _⟩
          · exact q
          · cases q
      exact Option.isSome_iff_exists.mp (clOf_has (.inr ⟨_, PySem.mem_of_lookup hfree, rfl, rfl⟩))
    · cases e
    · obtain ⟨o, e, _⟩ := ho b hb
      exact Nat.ne_of_lt (Nat.lt_of_lt_of_le (lt e) hC)
    · exact (hf b hb).2.2.2.2.1 x c (sub x c e)
    · rcases (hf b hb).2.2.2.1 with z | z
      · exact I.ok.noex b o e z
      · exact absurd (Nat.lt_of_lt_of_le (Heap.lt_size (I.ok.bs b o e).1) z) (Nat.lt_irrefl _)
    · rcases List.mem_cons.mp (I.stkSub b hb') with z | z
      · exact (hf b hb).2.1 z
      · exact (hf b hb).2.2.1 z
  have fresh : ∀ {a : Addr}, s.heap.objs.size ≤ a → H a = none := fun h => I.hok.fresh h
  have nst : ∀ {a : Addr}, s.heap.objs.size ≤ a → a ∉ frs X.stack := fun {a} h hb => by
    rcases List.mem_cons.mp (I.stkSub _ hb) with z | z
    · rw [z] at h
      exact absurd (Nat.lt_of_lt_of_le I.lt h) (Nat.lt_irrefl _)
    · exact I.nofs h z
  refine ⟨ok, rfl, I.bare, Un.kept keep, ⟨_, ns, fun i x v e1 e2 e3 => ?_⟩, fun x c e => ?_, fresh hC, fun x c e => I.freeC x c (sub x c e), fun p hp => ?_, I.hok.kept keep, ?_⟩
  · -- a free name's value is the cell's
    have e2 : (slotsOf pick σ)[i]? = some (some v) := e2
    have e1 : N[i]? = some x := e1
    unfold slotsOf at e2
    rw [List.getElem?_map] at e2
    cases ep : pick[i]? with
    | none => rw [ep] at e2; cases e2
    | some o =>
      rw [ep] at e2
      cases o with
      | none => cases e2
      | some j =>
        have hz : (x, some j) ∈ N.zip pick := by
          have := List.getElem?_zip_eq_some (l₁ := N) (l₂ := pick) (i := i) (z := (x, some j))
          exact List.mem_of_getElem? (this.mpr ⟨e1, ep⟩)
        have q := List.all_eq_true.mp hpa _ hz
        simp only [Bool.and_eq_true] at q
        have qN : X.N[j]? = some x := by simpa using q.1
        have qF : scope.names.lookup x = some .free := okind_eq q.2
        have eσ : σ[j]? = some (some v) := by
          cases eo : σ[j]? with
          | none => simp only [eo, Option.map_some, Option.some.injEq] at e2; cases e2
          | some ov =>
            cases ov with
            | none => simp only [eo, Option.map_some, Option.some.injEq] at e2; cases e2
            | some v' => simp only [eo, Option.map_some, Option.some.injEq] at e2; rw [e2]
        have ok' := scopeOk.out hs _ (PySem.mem_of_lookup qF) rfl
        obtain ⟨m, hn, hl'⟩ := I.loc
        obtain ⟨u, r, l⟩ := hl' j x v qN eσ (.inr ok')
        refine ⟨u, r, ?_⟩
        rcases l with ⟨k, _⟩ | ⟨k, c, hc, hcell⟩
        · have k' : X.env.scope.names.lookup x = some .local := k
          rcases ok' with z | z
          · rw [z] at k'; cases k'
          · rw [z] at k'; cases k'
        · obtain ⟨c', hc'⟩ := Option.isSome_iff_exists.mp (clOf_has (cells := X.env.cells) (x := x) (acc := []) (.inr ⟨_, PySem.mem_of_lookup qF, rfl, rfl⟩))
          have e' := sub x c' hc'
          rw [hc] at e'; cases e'
          obtain ⟨o, ho', hd'⟩ := hcell
          exact .inr ⟨relabel_free qF, c, hc', ⟨o, keep c o ho', hd'⟩⟩
  · obtain ⟨v, o, ho', hd'⟩ := I.cell x c (sub x c e)
    exact ⟨v, o, keep c o ho', hd'⟩
  · have hp : p ∈ (X.pn ++ pins) ++ [(D, ob)] := hp
    rcases List.mem_append.mp hp with z | z
    · obtain ⟨a1, a2, a3, a4, a5⟩ := I.pin p z
      refine ⟨keep _ _ a1, a2, Nat.ne_of_lt (Nat.lt_of_lt_of_le (lt a1) hC), fun hb => ?_, a5⟩
      rcases List.mem_cons.mp (I.stkSub _ hb) with y | y
      · exact a3 y
      · exact a4 y
    · have z : p = (D, ob) := List.mem_singleton.mp z
      subst z
      exact ⟨hl, fresh hD, hDC, nst hD, hob⟩
  · show (slotsOf pick σ).length = N.length
    unfold slotsOf
    rw [List.length_map, hpl]
end

/-- the loop of a comprehension that raises nothing -/
theorem comp_turns {prog : Program} {w : World} {A : Around} {R : Result → Shared → Prop} {s : Shared} {elt tg iter : Expr} {ifs : List Expr} {scope : Scope} {pos : Pos} {it acc : Value} {env : Env} (J : Nat → Shared → Prop)
    (turn : ∀ n s, J n s → wpAny (model prog w) A (pyNext it) (fun r s₁ => match r with
      | none => R (.ok .next) s₁
      | some v => wpAny (model prog w) A (letOwnedTupleGo tg it v) (fun _ s₂ => wpAny (model prog w) A (assign tg env v) (fun _ s₃ =>
          wpAny (model prog w) A (forIn ifs true fun c r => if r = true then do let ok ← isTrue c env (eval c env); pure (ForInStep.yield ok) else pure (ForInStep.yield r)) (fun ok s₄ =>
            if ok = true then wpAny (model prog w) A (eval elt env) (fun x s₅ => wpAny (model prog w) A (call (.builtin "list.append") [acc, x]) (fun _ s₆ => ∃ m, m < n ∧ J m s₆) (fun _ _ => False) s₅) (fun _ _ => False) s₄
            else ∃ m, m < n ∧ J m s₄) (fun _ _ => False) s₃) (fun _ _ => False) s₂) (fun _ _ => False) s₁) (fun _ _ => False) s)
    (n : Nat) (h : J n s) : codeAny (model prog w) A (.compLoop (.ListComp elt [⟨tg, iter, ifs, 0⟩] scope pos) 0 it acc env) R s := by
  have no : ∀ {E : Value → Shared → Prop} (x : Value) (s' : Shared), False → E x s' := fun _ _ z => z.elim
  refine codeAny_loop rfl J (fun k s' hJ => ?_) n h
  show wpAny (model prog w) A ((compTurn (.ListComp elt [⟨tg, iter, ifs, 0⟩] scope pos) 0 it acc env).onRaise (fun e => do noteFrame e env; theTreesLotGoes e)) _ _ s'
  refine wpAny_noted ?_
  rw [compTurn_list]
  refine wpAny_bind (wpAny_standAt (wpAny_bind (wpAny_mono (turn k s' hJ) (fun r s₁ h₁ => ?_) no)))
  cases r with
  | none => exact wpAny_pure h₁
  | some v =>
    refine wpAny_bind (wpAny_mono h₁ (fun _ s₂ h₂ => ?_) no)
    refine wpAny_bind (wpAny_mono h₂ (fun _ s₃ h₃ => ?_) no)
    refine wpAny_bind (wpAny_mono h₃ (fun ok s₄ h₄ => ?_) no)
    cases ok with
    | true =>
      simp only [if_true] at h₄ ⊢
      exact wpAny_bind (wpAny_bind (wpAny_mono h₄ (fun x s₅ h₅ => wpAny_bind (wpAny_mono h₅ (fun _ s₆ h₆ => wpAny_pure (wpAny_pure ⟨rfl, h₆⟩)) no)) no))
    | false =>
      simp only [Bool.false_eq_true, if_false] at h₄ ⊢
      exact wpAny_bind (wpAny_pure (wpAny_pure ⟨rfl, h₄⟩))

/-- an untracked object is tracked from now on -/
theorem HOk.track {P : Program} {w : World} {H : Hp} {h : Heap} {a : Addr} {o : HO} (x : HOk P w H h) (hn : H a = none) (new : ObjOk P w (upd H a o) h a o) : HOk P w (upd H a o) h := fun b u e => by
  by_cases hb : b = a
  · subst hb; rw [upd_same] at e; cases e; exact new
  · rw [upd_ne hb] at e
    exact (x b u e).stay (fun c v _ q => q) (fun c q => by rw [upd_ne (ne_of_none q hn)]; exact q) fun c xs q => by rw [upd_ne (ne_of_none q hn)]; exact q
end L2
end
section
set_option Elab.async false
set_option linter.all false
set_option maxRecDepth 100000
set_option maxHeartbeats 4000000
namespace L2
open PySem PySem.Spec PyProof.Rows

/-- the tests of a clause -/
def PTs (X : Cx) (ifs : List Expr) (t : TT) : Prop :=
  ∀ (pins : List (Addr × Obj)) (s : Shared) (σ : St) (H : Hp) (Q : Bool → Hp → Prop), Inv X pins σ H s → t σ H Q →
    wpAny (model X.prog X.w) X.A (forIn ifs true fun c r => if r = true then do let ok ← isTrue c X.env (eval c X.env); pure (ForInStep.yield ok) else pure (ForInStep.yield r)) (TP X pins σ Q) X.xe s
def tYes : TT := fun _ H Q => Q true H
theorem pts_nil {X : Cx} : PTs X [] tYes := fun _ _ _ H _ I h => wpAny_tests_nil ⟨H, I, h⟩
theorem pts_one {X : Cx} {c : Expr} {t : TT} (h : PT X c t) : PTs X [c] t := fun pins s σ H Q I q => wpAny_tests_one (h pins s σ H Q I q)

/-- what was known of the slots is known still -/
def Keep (σ σ' : St) : Prop := σ'.length = σ.length ∧ ∀ (i : Nat) v, σ[i]? = some (some v) → σ'[i]? = some (some v)
/-- pick: for each name within its slot without -/
def tComp (pick : List (Option Nat)) (wi : TI) (g : TG) (tc : TT) (te : TE) : TE := fun σ H Q => wi σ H fun J H1 => ∃ W : Nat → Nat → List V → Hp → Prop, (∃ m, W 0 m [] H1) ∧ ∀ i m acc H, W i m acc H →
  (J.stop i H ∧ acc.length ≤ sizeLine ∧ ∀ p, H p = none → Q (.ref p) (upd H p (.lst acc))) ∨
  (J.go i H ∧ acc.length < sizeLine ∧ ∃ Nx : List V → Hp → Prop, (∀ acc' H', Nx acc' H' → ∃ m', m' < m ∧ W (i + 1) m' acc' H') ∧
    ∀ x H', J.yld i H x H' → g x (slotsOf pick σ) H' fun σ2 H2 => Keep (slotsOf pick σ) σ2 ∧ tc σ2 H2 fun b H3 => if b = true then te σ2 H3 fun y H4 => Nx (acc ++ [y]) H4 else Nx acc H3)

/-- the block of a comprehension: fin tells what is done with its list -/
theorem comp_gen {X : Cx} {N : List Str} {pick : List (Option Nat)} {elt tg iter : Expr} {ifs : List Expr} {scope : Scope} {pos p0 : Pos} {wi : TI} {g : TG} {tc : TT} {te : TE} {use : Option (Value → Sem Unit)} {Q' : Value → Shared → Prop} {pins : List (Addr × Obj)} {s : Shared} {σ : St} {H : Hp} {Q : VK} (hc : X.calm = true)
    (hs : scopeOk X.env.scope.names scope.names = true) (hp : pickOk X.N scope.names N pick = true) (hk : scope.kind = .function) (hi : PI X tg iter wi)
    (hg : ∀ C s H fp pins, PG (cxComp X N scope C s H fp pins) tg g) (ht : ∀ C s H fp pins, PTs (cxComp X N scope C s H fp pins) ifs tc) (he : ∀ C s H fp pins, PE (cxComp X N scope C s H fp pins) elt te)
    (hfs : ∀ x, foldedSetIterable iter X.env x = pure x) (I : Inv X pins σ H s) (h : tComp pick wi g tc te σ H Q)
    (fin : ∀ (D C : Addr) (Hx : Hp) (s4 : Shared), (∃ m, s4.heap.Ns C m) → (∀ h', Heap.SameBut C s4.heap h' → Inv X pins σ Hx { s4 with heap := h' }) → Hx C = none → C ≠ X.env.locals → X.s₀.heap.objs.size ≤ C → (∀ x c, X.env.cells.lookup x = some c → c ≠ C) → (∀ p ∈ X.pn ++ pins, p.1 ≠ C) → Q (.ref D) Hx →
      compPost (model X.prog X.w) X.A X.xe use Q' (.ref D) C (.ok .next) s4) :
    wpAny (model X.prog X.w) X.A (comprehension (.ListComp elt [⟨tg, iter, ifs, 0⟩] scope pos) scope X.env p0 (newList []) false (eval iter X.env) use) Q' X.xe s := by
  have no : ∀ {E : Value → Shared → Prop} (x : Value) (s' : Shared), False → E x s' := fun _ _ z => z.elim
  refine wpAny_comprehension_free rfl hfs (closureFor_is (cells_of I hs)) hk (scopeOk.loc hs) (thn (hi pins s σ H _ I h) fun v s1 h1 => thn h1 fun itv s2 h2 => ?_)
  obtain ⟨it, fp, tn, J, H2, e, I2, Tn, st2, f2, W, ⟨m0, w0⟩, turn⟩ := h2
  subst e
  refine wpAny_newObj_type (wpAny_newFunctionEnv (scopeOk.cell hs) (by intro y hy; simp at hy) (fun h₁ hns hsb => ?_) hk)
  dsimp only at hns hsb ⊢
  generalize hG : s2.heap.push { cls := .type "list", dict := none, data := .seq ([] : List Value).toArray } = G at hns hsb ⊢
  have hC : G.objs.size = s2.heap.objs.size + 1 := by rw [← hG, Heap.size_push]
  have hDC : s2.heap.objs.size ≠ G.objs.size := by rw [hC]; exact Nat.ne_of_lt (Nat.lt_succ_self _)
  have hCl : s2.heap.objs.size ≤ G.objs.size := by rw [hC]; exact Nat.le_succ _
  have low : ∀ {b o}, s2.heap.get? b = some o → b ≠ G.objs.size := fun e => by rw [hC]; exact Nat.ne_of_lt (Nat.lt_succ_of_lt (Heap.lt_size e))
  have low2 : ∀ {b o}, s2.heap.get? b = some o → b ≠ s2.heap.objs.size := fun e => Nat.ne_of_lt (Heap.lt_size e)
  have old : ∀ b o, s2.heap.get? b = some o → h₁.get? b = some o := fun b o e => hsb.extBut b o (low e) (Heap.get?_push_of_some _ (hG ▸ Heap.get?_push_of_some _ e))
  have hD : h₁.get? s2.heap.objs.size = some { cls := .type "list", data := .seq ([] : List Value).toArray } := hsb.extBut _ _ hDC (Heap.get?_push_of_some _ (hG ▸ Heap.get?_push_size _ rfl))
  have I3 : Inv (cxComp X N scope G.objs.size s2 H2 fp pins) [(s2.heap.objs.size, { cls := .type "list", data := .seq ([] : List Value).toArray })] (slotsOf pick σ) H2 { s2 with heap := h₁, toks := s2.toks + ([] : List (Str × Value)).length } :=
    inv_comp I2 hs hp hk f2 (Tn.obj 0 _ st2) hCl (Nat.le_refl _) hDC old hns hD (fun v z => by cases z)
  have cellLt : ∀ x c, (clOf scope.names X.env.cells []).lookup x = some c → c < s2.heap.objs.size := fun x c e => by
    obtain ⟨v, q⟩ := I2.cell x c (clOf_sub (cells_of I2 hs) (fun z => by cases z) e)
    exact q.lt
  have fpLt : ∀ b ∈ fp, b < s2.heap.objs.size := fun b hb => by
    obtain ⟨o, e, _⟩ := Tn.obj 0 _ st2 b hb
    exact Heap.lt_size e
  have pinLt : ∀ p ∈ X.pn ++ pins, p.1 < s2.heap.objs.size := fun p hp' => Heap.lt_size (I2.pin p hp').1
  have stat : ∀ {H' : Hp} {ob : Obj}, (∀ b ∈ fp, H' b = none) → ∀ b ∈ fp, FpOk (cxComp X N scope G.objs.size s2 H2 fp pins) [(s2.heap.objs.size, ob)] H' b := fun {H' ob} hn b hb => by
    refine ⟨hn b hb, ?_, fun z => ?_, .inl hb, fun x c e => ?_, fun p hp' => ?_⟩
    · show b ≠ G.objs.size
      rw [hC]; exact Nat.ne_of_lt (Nat.lt_succ_of_lt (fpLt b hb))
    · have z : b ∈ frs X.stack := z
      rcases List.mem_cons.mp (I2.stkSub b z) with y | y
      · exact (f2 b hb).2.1 y
      · exact (f2 b hb).2.2.1 y
    · exact (f2 b hb).2.2.2.2.1 x c (clOf_sub (cells_of I2 hs) (fun z => by cases z) e)
    · have hp' : p ∈ (X.pn ++ pins) ++ [(s2.heap.objs.size, ob)] := hp'
      rcases List.mem_append.mp hp' with z | z
      · exact (f2 b hb).2.2.2.2.2 p z
      · have z : p = (s2.heap.objs.size, ob) := List.mem_singleton.mp z
        subst z
        exact Nat.ne_of_gt (fpLt b hb)
  have loop : ∀ s3 : Shared, s3 = { s2 with heap := h₁, toks := s2.toks + ([] : List (Str × Value)).length } →
      codeAny (model X.prog X.w) X.A (.compLoop (.ListComp elt [⟨tg, iter, ifs, 0⟩] scope pos) 0 (.ref it) (.ref s2.heap.objs.size) (compEnvC scope (clOf scope.names X.env.cells []) G.objs.size X.env))
        (compPost (model X.prog X.w) X.A X.xe use Q' (.ref s2.heap.objs.size) G.objs.size) s3 := by
    rintro s3 rfl
    refine comp_turns (fun n s' => ∃ i acc its k H', Inv (cxComp X N scope G.objs.size s2 H2 fp pins) [(s2.heap.objs.size, { cls := .type "list", data := .seq (its : List Value).toArray k })] (slotsOf pick σ) H' s' ∧ Vals acc its ∧ tn i s'.heap ∧ (∀ b ∈ fp, H' b = none) ∧ W i n acc H') ?_ m0
      ⟨0, [], [], 0, H2, I3, .nil, Tn.keep _ _ _ st2 fun b hb o e => old b o e, fun b hb => (f2 b hb).1, w0⟩
    rintro n s3 ⟨i, acc, its, k, H3, I3, rv, st3, fr3, w3⟩
    rcases turn i n acc H3 w3 with ⟨stop, hz, fin0⟩ | ⟨go, hz, Nx, hN, step⟩
    · refine wpAny_mono (Tn.done (cxComp X N scope G.objs.size s2 H2 fp pins) rfl rfl rfl hc i _ s3 _ H3 (fun _ _ => False) I3 (stat fr3) st3 stop) (fun r s4 hr => ?_) no
      obtain ⟨hr, I4⟩ := hr
      subst hr
      obtain ⟨m, hnC, _⟩ := I4.loc
      obtain ⟨p1, p2, p3, p4, p5⟩ := I4.pin (s2.heap.objs.size, _) (List.mem_append_right _ (List.mem_singleton.mpr rfl))
      have nC : H3 G.objs.size = none := I4.free
      have low3 : ∀ {b o}, X.s₀.heap.get? b = some o → b ≠ G.objs.size := fun e => by
        rw [hC]; exact Nat.ne_of_lt (Nat.lt_of_lt_of_le (Heap.lt_size e) (Nat.le_succ_of_le I2.sz))
      refine fin s2.heap.objs.size G.objs.size (upd H3 s2.heap.objs.size (.lst acc)) s4 ⟨m, hnC⟩ (fun h' sb => ?_) (by rw [upd_ne (Ne.symm hDC)]; exact nC) (fun z => ?_) (Nat.le_trans I2.sz hCl) (fun x c e => ?_) (fun p hp' => by rw [hC]; exact Nat.ne_of_lt (Nat.lt_succ_of_lt (pinLt p hp'))) (fin0 _ p2)
      rotate_left
      · obtain ⟨m', ⟨o', _, _, ho', _⟩, _⟩ := I2.loc
        exact low ho' z.symm
      · obtain ⟨v', o', ho', _⟩ := I2.cell x c e
        exact low ho'
      have kp : ∀ b o, b ≠ G.objs.size → s4.heap.get? b = some o → h'.get? b = some o := fun b o hb e => sb.extBut b o hb e
      have hok : HOk X.prog X.w H3 h' := fun b u e => by
        refine (I4.hok b u e).stay (fun c v hc' q => kp c v ?_ q) (fun _ q => q) fun _ _ q => q
        rcases hc' with z | z
        · rw [z]; exact ne_of_none e nC
        · exact ne_of_none z nC
      have hok' : HOk X.prog X.w (upd H3 s2.heap.objs.size (.lst acc)) h' := hok.track p2 ⟨hz, its, k, rv, kp _ _ hDC p1⟩
      have un := I4.base
      have un' : Un (frs X.stack) fp H2 (upd H3 s2.heap.objs.size (.lst acc)) s2.heap h' := by
        have f0 : H2 s2.heap.objs.size = none := I2.fresh
        refine ⟨fun b o e n' hb hx => kp b o (low e) (un.keep b o e n' hb hx), fun b o e n' hb hx => ?_, fun b o e n' hx => ?_, fun b o e hx => ?_, fun b xs e => ?_, fun b o u e => ?_, fun b ps e => ?_⟩
        · obtain ⟨sl, q⟩ := un.slot b o e n' hb hx
          exact ⟨sl, kp b _ (low e) q⟩
        · rw [upd_ne (low2 e)]; exact un.free b o e n' hx
        · obtain ⟨o', q⟩ := un.there b o e hx
          exact ⟨o', kp b o' (low e) q⟩
        · rw [upd_ne (ne_of_none e f0)]; exact un.tups b xs e
        · rw [upd_ne (ne_of_none e f0)]; exact un.frzs b o u e
        · obtain ⟨more, q⟩ := un.tbls b ps e
          exact ⟨more, by rw [upd_ne (ne_of_none e f0)]; exact q⟩
      have hos : s4.os = s2.os := I4.os
      refine I2.call' (s' := { s4 with heap := h' }) hos un' hok' I4.bare (fun b hb => ?_)
      exact ⟨(f2 b hb).2.2.2.1, (f2 b hb).2.1, (f2 b hb).2.2.2.2.1, (f2 b hb).2.2.2.2.2⟩
    · refine wpAny_mono (Tn.item (cxComp X N scope G.objs.size s2 H2 fp pins) rfl rfl rfl hc i _ s3 _ H3 (fun _ _ => False) I3 (stat fr3) st3 go) (fun r s4 hr => ?_) no
      obtain ⟨u, hr, h4⟩ := hr
      subst hr
      refine wpAny_mono h4 (fun _ s5 h5 => ?_) no
      obtain ⟨x, H5, I5, r5, y5, st5, fr5⟩ := h5
      have I5' := I5.pinned (stat fr5) (Tn.obj _ _ st5)
      refine wpAny_mono (hg _ _ _ _ _ _ s5 _ H5 x u _ I5' r5 (step x H5 y5)) (fun _ s6 h6 => ?_) no
      obtain ⟨σ6, H6, I6, kp6, q6⟩ := h6
      refine wpAny_mono (ht _ _ _ _ _ _ s6 σ6 H6 _ I6 q6) (fun ok s7 h7 => ?_) no
      obtain ⟨H7, I7, q7⟩ := h7
      -- the iterator's records behind the body
      have tnOf : ∀ {σ' : St} {H' : Hp} {s' : Shared} {pl : List (Addr × Obj)}, (∀ p ∈ pinsAt fp s5.heap, p ∈ pl) → Inv (cxComp X N scope G.objs.size s2 H2 fp pins) pl σ' H' s' → tn (i + 1) s'.heap ∧ ∀ b ∈ fp, H' b = none := fun {σ' H' s' pl} hpl I' => by
        refine ⟨Tn.keep _ _ _ st5 fun b hb o e => (I'.pin (b, o) (List.mem_append_right _ (hpl _ (mem_pinsAt hb e)))).1, fun b hb => ?_⟩
        obtain ⟨o, e, _⟩ := Tn.obj _ _ st5 b hb
        exact (I'.pin (b, o) (List.mem_append_right _ (hpl _ (mem_pinsAt hb e)))).2.1
      cases ok with
      | false =>
        rw [if_neg Bool.false_ne_true] at q7 ⊢
        obtain ⟨m', hm, w7⟩ := hN _ _ q7
        obtain ⟨t7, f7⟩ := tnOf (fun p hp' => List.mem_append_right _ hp') I7
        exact ⟨m', hm, i + 1, acc, its, k, H7, (I7.unpinned).weak (kp6.1.symm) (fun j v e => kp6.2 j v e), rv, t7, f7, w7⟩
      | true =>
        rw [if_pos rfl] at q7 ⊢
        refine wpAny_mono (he _ _ _ _ _ _ s7 σ6 H7 _ I7 q7) (fun xv s8 h8 => ?_) no
        obtain ⟨y, H8, I8, r8, q8⟩ := h8
        obtain ⟨p1, p2, p3, p4, p5⟩ := I8.pin (s2.heap.objs.size, _) (List.mem_append_right _ (List.mem_append_left _ (List.mem_singleton.mpr rfl)))
        have hl := rv.length
        refine wpAny_list_append_plain (items := its.toArray) ⟨k, p1⟩ (fun h' il sb => ?_) (by rw [List.size_toArray]; omega)
        obtain ⟨k', e'⟩ := il
        obtain ⟨t8, f8⟩ := tnOf (fun p hp' => List.mem_append_right _ hp') I8
        have I8' : Inv (cxComp X N scope G.objs.size s2 H2 fp pins) [] σ6 H8 s8 := I8.pins_of fun p hp' => by cases hp'
        have I9 : Inv (cxComp X N scope G.objs.size s2 H2 fp pins) [] σ6 H8 { s8 with heap := h' } := I8'.turned (t' := s8.toks) (it := s2.heap.objs.size) (fun b o hb e => sb.extBut b o hb e) p2 hDC (.inr (Nat.le_refl _)) (fun x c e => Nat.ne_of_lt (cellLt x c e)) (fun p hp' => by
          have hp' : p ∈ (X.pn ++ pins) ++ [] := hp'
          rw [List.append_nil] at hp'
          exact Nat.ne_of_lt (pinLt p hp'))
        have e'' : h'.get? s2.heap.objs.size = some { cls := .type "list", data := .seq (its ++ [xv]).toArray k' } := by rw [e']; simp
        have I10 : Inv (cxComp X N scope G.objs.size s2 H2 fp pins) [(s2.heap.objs.size, { cls := .type "list", data := .seq (its ++ [xv]).toArray k' })] σ6 H8 { s8 with heap := h' } := I9.pins_of fun p hp' => by
          have hp' : p = (s2.heap.objs.size, _) := List.mem_singleton.mp hp'
          subst hp'
          exact ⟨e'', p2, p3, p4, fun v z => by cases z⟩
        obtain ⟨m', hm, w8⟩ := hN _ _ q8
        refine ⟨m', hm, i + 1, acc ++ [y], its ++ [xv], k', H8, I10.weak (kp6.1.symm) (fun j v e => kp6.2 j v e), rv.append (.cons r8 .nil), ?_, f8, w8⟩
        refine Tn.keep _ _ _ t8 fun b hb o e => sb.extBut b o (Nat.ne_of_lt (fpLt b hb)) e
  exact codeAny_compStart_list (loop _ rfl) (Tn.self _ 0 _ _ _ (Tn.keep _ _ _ st2 fun b hb o e => old b o e) (loop _ rfl))

theorem pe_comp {X : Cx} {N : List Str} {pick : List (Option Nat)} {elt tg iter : Expr} {ifs : List Expr} {scope : Scope} {pos : Pos} {wi : TI} {g : TG} {tc : TT} {te : TE} (hc : X.calm = true)
    (hs : scopeOk X.env.scope.names scope.names = true) (hp : pickOk X.N scope.names N pick = true) (hk : scope.kind = .function) (hi : PI X tg iter wi)
    (hg : ∀ C s H fp pins, PG (cxComp X N scope C s H fp pins) tg g) (ht : ∀ C s H fp pins, PTs (cxComp X N scope C s H fp pins) ifs tc) (he : ∀ C s H fp pins, PE (cxComp X N scope C s H fp pins) elt te)
    (hfs : ∀ x, foldedSetIterable iter X.env x = pure x := by intro _; rfl) : PE X (.ListComp elt [⟨tg, iter, ifs, 0⟩] scope pos) (tComp pick wi g tc te) := by
  intro pins s σ H Q I h
  rw [eval_ListComp]
  exact comp_gen hc hs hp hk hi hg ht he hfs I h fun D C Hx s4 ⟨m, hn⟩ hI _ _ _ _ _ q => ⟨m, hn, fun h' sb => ⟨.ref D, Hx, hI h' sb, rfl, q⟩⟩
/-- name = [..] -/
theorem ps_setComp {X : Cx} {N : List Str} {pick : List (Option Nat)} {elt tg iter : Expr} {ifs : List Expr} {scope : Scope} {pos spos : Pos} {wi : TI} {g : TG} {tc : TT} {te : TE} {i : Nat} {y : Str} {py : Pos} (hc : X.calm = true)
    (hs : scopeOk X.env.scope.names scope.names = true) (hp : pickOk X.N scope.names N pick = true) (hk : scope.kind = .function) (hi : PI X tg iter wi)
    (hg : ∀ C s H fp pins, PG (cxComp X N scope C s H fp pins) tg g) (ht : ∀ C s H fp pins, PTs (cxComp X N scope C s H fp pins) ifs tc) (he : ∀ C s H fp pins, PE (cxComp X N scope C s H fp pins) elt te)
    (hN : X.N.Nodup) (hy : X.N[i]? = some y) (hx : Loc X.env.scope y) (hsw : swapsWith (.ListComp elt [⟨tg, iter, ifs, 0⟩] scope pos) (some (.Name y py)) spos.line X.env = pure true) (hf : X.fn y = true ∨ X.env.scope.names.lookup y = some .local)
    (hfs : ∀ x, foldedSetIterable iter X.env x = pure x := by intro _; rfl) : PS X (.Assign [.Name y py] (.ListComp elt [⟨tg, iter, ifs, 0⟩] scope pos) spos) (tAsg (tComp pick wi g tc te) (gName i)) := by
  intro pins s σ H D I h
  rw [exec_Assign_Name_used _ _ _ _ hsw]
  refine wpAny_bind (wpAny_standAt (wpAny_bind ?_))
  show wpAny _ X.A (do let _ ← comprehension (.ListComp elt [⟨tg, iter, ifs, 0⟩] scope pos) scope X.env _ (newList []) false (eval iter X.env) (some (assign (.Name y py) X.env))) _ _ s
  refine wpAny_bind (wpAny_mono (comp_gen (Q' := fun _ s' => ∃ σ' H', Inv X pins σ' H' s' ∧ D.nx σ' H') hc hs hp hk hi hg ht he hfs I h fun L C Hx s4 hn hI nC nL sz cs ps q => ?_) (fun _ s' hq => wpAny_pure (wpAny_pure hq)) fun _ _ e => e)
  obtain ⟨m, hn⟩ := hn
  have I4 : Inv X pins σ Hx s4 := hI s4.heap ⟨rfl, fun _ _ => rfl⟩
  show wpAny _ X.A (assign (.Name y py) X.env (.ref L)) _ _ s4
  refine wpAny_assign_Name (store_ok2 I4 hN hy hx (v := .ref L) rfl (fun s5 I5 ⟨a, sb, ha⟩ => ?_) hf)
  have na : C ≠ a := by
    rcases ha with rfl | ha
    · exact nL
    · exact fun z => cs y a ha z.symm
  refine ⟨m, hn.sameBut sb na, fun h' sb' => ⟨_, _, I5.turned (t' := s5.toks) (it := C) (fun b o hb e => sb'.extBut b o hb e) nC nL (.inr sz) cs ps, q⟩⟩
end L2
end
section
set_option Elab.async false
set_option linter.all false
set_option maxRecDepth 100000
set_option maxHeartbeats 4000000
namespace L2
open PySem PySem.Spec PyProof.Rows
section
variable {X : Cx}
/-! ### the signs of a text -/
def Its (x : Str) : It := ⟨fun i _ => i < x.cps.size, fun i H v H' => H' = H ∧ ∃ c, x.cps[i]? = some c ∧ v = .str ⟨#[c]⟩, fun i _ => i = x.cps.size⟩
theorem go_str {M : Model} {A : Around} {E : Value → Shared → Prop} {s : Shared} {tg : Expr} {it : Addr} {x : Str} {t : Tok} {Q : Unit → Shared → Prop} (hQ : Q () s) : wpAny M A (letOwnedTupleGo tg (.ref it) (.str x t)) Q E s := by
  unfold letOwnedTupleGo
  cases tg <;> exact wpAny_pure hQ
theorem turn_str {P : Program} {w : World} {K : PySem.W.Frag} {tg : Expr} {it : Addr} {x : Str} {t : Tok} {nm : String}
    (W : ∀ A' : Around, A'.handled = none → Walks P w A' it [it] [it] x.cps.size (SignAt x) (fun i h => h.IsStrIter it nm x t i))
    (hself : ∀ (A : Around) (i : Nat) (s : Shared) (Q : Value → Shared → Prop) (E : Value → Shared → Prop), s.heap.IsStrIter it nm x t i → Q (.ref it) s → wpAny (model P w) A (pyIter (.ref it)) Q E s) : Turn P w K tg (Its x) [it] it (fun i h => h.IsStrIter it nm x t i) where
  mem := by simp
  obj := fun i h st b hb => by
    have e : b = it := by simpa using hb
    subst e
    obtain ⟨o, e, c, d⟩ := st
    exact ⟨o, e, fun v z => by rw [d] at z; cases z⟩
  keep := fun i h h' st k => by
    obtain ⟨o, e, r⟩ := st
    exact ⟨o, k it (by simp) o e, r⟩
  item := by
    intro X hP hw hK hc i pins s σ H E I hf st hg
    subst hP hw hK
    obtain ⟨f0, f1, f2, f3, f4, f5⟩ := hf it (by simp)
    refine (W X.A (I.ok.hd hc)).item i s _ _ hg st fun v h' tk hv st' kk => ?_
    obtain ⟨c, u, hcu, rfl⟩ := hv
    have I1 : Inv X pins σ H { s with heap := h', toks := tk } := I.turned (fun b o hb e => kk b o (by simpa using hb) e) f0 f1 f3 f4 f5
    exact ⟨_, rfl, go_str ⟨.str ⟨#[c]⟩, H, I1, ⟨u, rfl⟩, ⟨rfl, c, hcu, rfl⟩, st', fun b hb => (hf b hb).1⟩⟩
  done := by
    intro X hP hw hK hc i pins s σ H E I hf st hg
    subst hP hw hK
    obtain ⟨f0, f1, f2, f3, f4, f5⟩ := hf it (by simp)
    have hg : i = x.cps.size := hg
    subst hg
    refine (W X.A (I.ok.hd hc)).done s _ _ st fun h' tk kk => ⟨rfl, I.turned (fun b o hb e => kk b o (by simpa using hb) e) f0 f1 f3 f4 f5⟩
  self := hself
/-- what a loop walks: a list, a tuple, a text -/
def iAny (K : PySem.W.Frag) (tl : TE) : TI := fun σ H R => tl σ H fun x H1 => (∃ a, x = .ref a ∧ (((∃ xs, SqL K H1 a xs) ∧ R (Itl K a) H1) ∨ ((∃ xs, SqT K H1 a xs) ∧ R (Itt K a) H1))) ∨ ∃ z, x = .str z ∧ R (Its z) H1
theorem pi_any {tg iter : Expr} {tl : TE} (hl : PE X iter tl) : PI X tg iter (iAny X.K tl) := by
  intro pins s σ H R I h
  refine thn (hl pins s σ H _ I h) fun v s1 hv => ?_
  obtain ⟨x, H1, I1, r1, q1⟩ := hv
  have fresh : ∀ b ∈ [s1.heap.objs.size], FpOk X pins H1 b := fun b hb => by rw [List.mem_singleton.mp hb]; exact I1.fpOk (Nat.le_refl _) (I1.hok.fresh (Nat.le_refl _))
  rcases q1 with ⟨l, e, q⟩ | ⟨z, e, q⟩
  · subst e
    cases r1
    rcases q with ⟨⟨xs, hq⟩, q⟩ | ⟨⟨xs, hq⟩, q⟩
    · obtain ⟨its, rv, p, hz⟩ := I1.list hq
      exact wpAny_pyIter_list p.isList ⟨s1.heap.objs.size, [s1.heap.objs.size], _, _, H1, rfl, I1.kept (t' := s1.toks) (fun b o e => Heap.get?_push_of_some _ e), turn_list l _, ⟨_, Heap.get?_push_size _ rfl, rfl, rfl⟩, fresh, q⟩
    · obtain ⟨its, rv, p, hz⟩ := I1.tuple hq
      exact wpAny_pyIter_tuple (show s1.heap.IsTuple l its.toArray from p) ⟨s1.heap.objs.size, [s1.heap.objs.size], _, _, H1, rfl, I1.kept (t' := s1.toks) (fun b o e => Heap.get?_push_of_some _ e), turn_tuple l _, ⟨_, Heap.get?_push_size _ rfl, rfl, rfl⟩, fresh, q⟩
  · subst e
    obtain ⟨t, rfl⟩ := r1
    cases ha : z.cps.all (· < 128)
    · exact wpAny_pyIter_wide ha ⟨s1.heap.objs.size, [s1.heap.objs.size], _, _, H1, rfl, I1.kept (t' := s1.toks) (fun b o e => Heap.get?_push_of_some _ e), turn_str (x := z) (t := t) (fun A' hA => Walks.strWide hA _ z t) (fun _ _ _ _ _ st h => wpAny_pyIter_striter_wide st h), ⟨_, Heap.get?_push_size _ rfl, rfl, rfl⟩, fresh, q⟩
    · exact wpAny_pyIter_ascii ha ⟨s1.heap.objs.size, [s1.heap.objs.size], _, _, H1, rfl, I1.kept (t' := s1.toks) (fun b o e => Heap.get?_push_of_some _ e), turn_str (x := z) (t := t) (fun A' hA => Walks.strAscii hA _ z t) (fun _ _ _ _ _ st h => wpAny_pyIter_striter_ascii st h), ⟨_, Heap.get?_push_size _ rfl, rfl, rfl⟩, fresh, q⟩

/-! ### all(list of bools) -/
theorem call_all (hc : X.calm = true) : CallR X (.builtin "all") (fun xs H Q => ∃ (p : Addr) (bs : List Bool), xs = [.ref p] ∧ SqL X.K H p (bs.map V.bl) ∧ Q (.bl (bs.all id)) H) := by
  intro pins s σ H xs us Q I r h
  obtain ⟨p, bs, rfl, hq, q⟩ := h
  obtain ⟨u, rfl, ru⟩ := vals1 r
  cases ru
  obtain ⟨its, rv, pl, hz⟩ := I.list hq
  have lt : p < s.heap.objs.size := by
    obtain ⟨o, n, e, _⟩ := pl
    exact Heap.lt_size e
  have hit : ∀ (i : Nat) v, its.toArray[i]? = some v → ∃ b, bs[i]? = some b ∧ v = .bool b := fun i v e => by
    have e' : its[i]? = some v := by simpa using e
    have hl := rv.length
    have hi : i < its.length := (List.getElem?_eq_some_iff.mp e').1
    have hi2 : i < (bs.map V.bl).length := by omega
    obtain ⟨w', hw, rw'⟩ := rv.get (List.getElem?_eq_getElem hi2)
    rw [e'] at hw
    cases hw
    rw [List.getElem_map] at rw'
    rw [List.length_map] at hi2
    exact ⟨bs[i], List.getElem?_eq_getElem hi2, rw'⟩
  refine call_all_walk (wpAny_pyIter_list pl.isList ?_)
  refine ⟨s.heap.objs.size, [s.heap.objs.size, p], [s.heap.objs.size], its.toArray.size, _, _, fun i => bs.getD i true, rfl, Walks.list (A := X.A.in1) (show X.A.in1.handled = none from I.ok.hd hc) _ p (Nat.ne_of_lt lt) its.toArray,
    ⟨⟨_, Heap.get?_push_size _ rfl, rfl, rfl⟩, Heap.IsList.push pl.isList _⟩, fun i v s' Q' E' hv hQ' => ?_, fun h' tk kk => ?_⟩
  · obtain ⟨b, hb, rfl⟩ := hit i v hv
    have e : bs.getD i true = b := by rw [List.getD_eq_getElem?_getD, hb]; rfl
    dsimp only at hQ'
    rw [e] at hQ'
    exact wpAny_truthy_bool hQ'
  · have hl := rv.length
    rw [List.length_map] at hl
    have e : (List.range its.toArray.size).all (fun i => bs.getD i true) = bs.all id := by
      rw [List.size_toArray, ← hl, Bool.eq_iff_iff, List.all_eq_true, List.all_eq_true]
      constructor
      · intro a b hb
        obtain ⟨i, hi, rfl⟩ := List.mem_iff_getElem.mp hb
        have := a i (List.mem_range.mpr hi)
        rw [List.getD_eq_getElem?_getD, List.getElem?_eq_getElem hi] at this
        exact this
      · intro a i hi
        have hi' := List.mem_range.mp hi
        rw [List.getD_eq_getElem?_getD, List.getElem?_eq_getElem hi']
        exact a _ (List.getElem_mem hi')
    rw [e]
    refine ⟨.bl _, H, ?_, rfl, q⟩
    have I1 : Inv X pins σ H { s with heap := s.heap.push { cls := .type "list_iterator", data := .fields #[.ref p, .int 0 0] } } := I.kept (t' := s.toks) fun b o e => Heap.get?_push_of_some _ e
    have f := I.fpOk (H' := H) (Nat.le_refl _) I.fresh
    exact I1.turned (t' := tk) (it := s.heap.objs.size) (fun b o hb e => kk b o (by simpa using hb) e) f.1 f.2.1 f.2.2.2.1 f.2.2.2.2.1 f.2.2.2.2.2

/-! ### texts -/
theorem op_le_str : OpR X (compareOp .LtE) (fun x y H Q => ∃ i j, x = .str i ∧ y = .str j ∧ Q (.bl (!decide (j.cps.toList < i.cps.toList))) H) := by
  rintro pins s σ H x y v u Q I rx ry ⟨i, j, rfl, rfl, q⟩
  obtain ⟨t, rfl⟩ := rx
  obtain ⟨t', rfl⟩ := ry
  exact PySem.P.le_str ⟨.bl _, H, I, rfl, q⟩
theorem mt_find : MtR X "str.find" (fun x vs H Q => ∃ a b, x = .str a ∧ vs = [.str b] ∧ Q (.int (Txt.find a b)) H) := by
  intro pins s σ H x vs v us Q I rx rv h
  obtain ⟨a, b, rfl, rfl, q⟩ := h
  obtain ⟨t, rfl⟩ := rx
  obtain ⟨u, rfl, ru⟩ := rv.one
  obtain ⟨t', rfl⟩ := ru
  exact SC.find ⟨.int _, H, I.tok _, ⟨_, rfl⟩, q⟩
theorem mt_upper : MtR X "str.upper" (fun x vs H Q => ∃ a, x = .str a ∧ vs = [] ∧ Builtin.Str.tooLong (Txt.upper a).length = false ∧ Q (.str (Txt.upper a)) H) := by
  intro pins s σ H x vs v us Q I rx rv h
  obtain ⟨a, rfl, rfl, hl, q⟩ := h
  obtain ⟨t, rfl⟩ := rx
  cases rv.zero
  exact SC.upper hl ⟨.str _, H, I.tok _, ⟨_, rfl⟩, q⟩
/-- x[lo:hi] of a text -/
def rSlS : V → Option Int → Option Int → Hp → VK → Prop := fun x lo hi H Q => ∃ z, x = .str z ∧ z.length ≤ sizeLine ∧ Q (.str (Txt.slice z lo hi)) H
theorem sl_str : SlR X rSlS := by
  intro pins s σ H x v vl vu lo hi sl Q I rx hs pl pu h
  obtain ⟨z, rfl, hz, q⟩ := h
  obtain ⟨t, rfl⟩ := rx
  have fin : ∀ t' k, EP X pins σ Q (.str (Txt.slice z lo hi) t') { s with toks := k } := fun t' k => ⟨.str _, H, I.tok k, ⟨_, rfl⟩, q⟩
  refine ⟨"str", _, F.slot_str_getitem.lookup, typeIs_str _ _ _, ?_⟩
  cases pl with
  | none =>
    cases pu with
    | none => exact wpAny_getItem_str_slice (l := none) (u := none) (st := none) hs rfl (post_val_or_str ⟨Nat.le_trans (Txt.slice_le z _ _) hz, fin⟩)
    | int j uj => exact wpAny_getItem_str_slice (l := none) (u := some (j, uj)) (st := none) hs rfl (post_val_or_str ⟨Nat.le_trans (Txt.slice_le z _ _) hz, fin⟩)
  | int i ui =>
    cases pu with
    | none => exact wpAny_getItem_str_slice (l := some (i, ui)) (u := none) (st := none) hs rfl (post_val_or_str ⟨Nat.le_trans (Txt.slice_le z _ _) hz, fin⟩)
    | int j uj => exact wpAny_getItem_str_slice (l := some (i, ui)) (u := some (j, uj)) (st := none) hs rfl (post_val_or_str ⟨Nat.le_trans (Txt.slice_le z _ _) hz, fin⟩)
end
end L2
end
section
set_option Elab.async false
set_option linter.all false
set_option maxRecDepth 100000
set_option maxHeartbeats 4000000
namespace L2
open PySem PySem.Spec PyProof.Rows
section
variable {X : Cx} {pins : List (Addr × Obj)} {σ : St} {H : Hp} {s : Shared} {h' : Heap}
/-- several untracked records of ours have turned -/
theorem Inv.turns {t' : Nat} {ch : List Addr} (I : Inv X pins σ H s) (k : ∀ b o, b ∉ ch → s.heap.get? b = some o → h'.get? b = some o) (hf : ∀ b ∈ ch, FpOk X pins H b) : Inv X pins σ H { s with heap := h', toks := t' } := by
  have nch : ∀ b u, H b = some u → b ∉ ch := fun b u e z => by rw [(hf b z).1] at e; cases e
  refine I.step (g' := s.gens) (d' := s.drawn) (ch := ch) (fun b hb => ⟨(hf b hb).2.2.2.1, (hf b hb).2.1, (hf b hb).2.2.2.2.1, (hf b hb).2.2.2.2.2⟩) (fun b o _ _ hc e _ => k b o hc e) (fun b o _ _ hc e _ => ⟨o.slots, k b o hc e⟩) (fun _ _ _ _ n => n)
    (fun b o hc e => ⟨o, k b o hc e⟩) (fun _ _ e => e) (fun _ _ _ e => e) (fun b ps e => ⟨#[], by rw [e]; simp⟩) (fun m hm => ?_) (fun b u e => ?_) I.bare
  · obtain ⟨o, es, ep, ho, r⟩ := hm
    exact ⟨o, es, ep, k _ o (fun z => (hf _ z).2.1 rfl) ho, r⟩
  · refine (I.hok b u e).stay (fun c v hc q => k c v ?_ q) (fun _ q => q) fun _ _ q => q
    rcases hc with z | z
    · rw [z]; exact nch b u e
    · exact nch c _ z
/-- a record of ours is tracked from now on -/
theorem Inv.track {a : Addr} {o : HO} (I : Inv X pins σ H s) (f : FpOk X pins H a) (new : ObjOk X.prog X.w (upd H a o) s.heap a o) : Inv X pins σ (upd H a o) s := by
  obtain ⟨f0, f1, f2, f3, f4, f5⟩ := f
  have nb : ∀ b ob, X.s₀.heap.get? b = some ob → b ∉ X.ex → b ≠ a := fun b ob e hx z => by
    subst z
    rcases f3 with q | q
    · exact hx q
    · exact absurd (Nat.lt_of_lt_of_le (Heap.lt_size e) q) (Nat.lt_irrefl _)
  refine ⟨I.ok, I.os, I.bare, ⟨I.base.keep, I.base.slot, fun b ob e n hx => ?_, I.base.there, fun b xs e => ?_, fun b ob u e => ?_, fun b ps e => ?_⟩, I.loc, I.cell, ?_, fun x c e => ?_, fun p hp => ?_, I.hok.track f0 new, I.len⟩
  · rw [upd_ne (nb b ob e hx)]; exact I.base.free b ob e n hx
  · have q := I.base.tups b xs e; rw [upd_ne (ne_of_none q f0)]; exact q
  · have q := I.base.frzs b ob u e; rw [upd_ne (ne_of_none q f0)]; exact q
  · obtain ⟨more, q⟩ := I.base.tbls b ps e
    exact ⟨more, by rw [upd_ne (ne_of_none q f0)]; exact q⟩
  · rw [upd_ne (Ne.symm f1)]; exact I.free
  · rw [upd_ne (f4 x c e)]; exact I.freeC x c e
  · obtain ⟨a1, a2, a3⟩ := I.pin p hp
    exact ⟨a1, by rw [upd_ne (f5 p hp)]; exact a2, a3⟩
end

/-! ### zip(t, u) of two tuples of a length, walked by a pair of names -/
section
variable {prog : Program} {w : World} {A : Around} {E : Value → Shared → Prop} {s : Shared}
theorem nextOf_tup_item {it t : Addr} {i : Nat} {items : Array Value} {x : Value} {Q : Value → Shared → Prop} (hit : s.heap.IsTupleIter it t i) (ht : s.heap.IsTuple t items) (hx : items[i]? = some x)
    (hQ : ∀ g, g.IsTupleIter it t (i + 1) → Heap.SameBut it s.heap g → Q x { s with heap := g }) : wpAny (model prog w) A (Builtin.SmallTypes.nextOf (.ref it)) Q E s := by
  obtain ⟨o, ho, hc, hd⟩ := id hit
  obtain ⟨ol, hol, _, nl, hdl⟩ := ht
  unfold Builtin.SmallTypes.nextOf
  refine wpAny_bind (wpAny_callSpecial?_slot (name := Str.ofString "__next__") hit.typeIs F.slot_tuple_iterator_next (wpAny_call_entry F.slot_tuple_iterator_next hit.typeIs F.entry_tuple_iterator_next ?_ (F.args_tuple_iterator_next_1 _)))
  show wpAny _ _ (field (.ref it) 0 >>= _) _ _ s
  refine wpAny_bind (wpAny_field ho hd (x := .ref t) rfl ?_)
  show wpAny (model prog w) _ (if (Value.ref t == Value.none) = true then _ else _) _ _ s
  rw [if_neg (show ¬ ((Value.ref t == Value.none) = true) from Bool.false_ne_true)]
  show wpAny _ _ (field (.ref it) 1 >>= _) _ _ s
  refine wpAny_bind (wpAny_field ho hd (x := .int i 0) rfl ?_)
  show wpAny _ _ (seqItems? (.ref t) >>= _) _ _ s
  refine wpAny_bind (wpAny_seqItems hol hdl ?_)
  simp only [Int.toNat_natCast, hx]
  refine wpAny_bind (wpAny_setField ho hd (by simp) (wpAny_pure ⟨x, rfl, wpAny_pure (hQ _ ?_ (Heap.SameBut.update ..))⟩))
  refine ⟨_, Heap.get?_update_self _ ho (Obj.isFreed_of_fields (Obj.data_mapFields hd _)), (Obj.cls_mapFields ..).trans hc, ?_⟩
  rw [Obj.data_mapFields hd]
  simp [rawInt]
theorem nextOf_tup_end {it t : Addr} {i : Nat} {items : Array Value} {Q : Value → Shared → Prop} (hh : A.handled = none) (hit : s.heap.IsTupleIter it t i) (ht : s.heap.IsTuple t items) (hx : items[i]? = none)
    (hE : ∀ g e, Heap.ExtBut it s.heap g → (∃ o, g.get? e = some o ∧ o.cls = .type "StopIteration") → E (.ref e) { s with heap := g }) : wpAny (model prog w) A (Builtin.SmallTypes.nextOf (.ref it)) Q E s := by
  obtain ⟨o, ho, hc, hd⟩ := id hit
  obtain ⟨ol, hol, _, nl, hdl⟩ := ht
  unfold Builtin.SmallTypes.nextOf
  refine wpAny_bind (wpAny_callSpecial?_slot (name := Str.ofString "__next__") hit.typeIs F.slot_tuple_iterator_next (wpAny_call_entry F.slot_tuple_iterator_next hit.typeIs F.entry_tuple_iterator_next ?_ (F.args_tuple_iterator_next_1 _)))
  show wpAny _ _ (field (.ref it) 0 >>= _) _ _ s
  refine wpAny_bind (wpAny_field ho hd (x := .ref t) rfl ?_)
  show wpAny (model prog w) _ (if (Value.ref t == Value.none) = true then _ else _) _ _ s
  rw [if_neg (show ¬ ((Value.ref t == Value.none) = true) from Bool.false_ne_true)]
  show wpAny _ _ (field (.ref it) 1 >>= _) _ _ s
  refine wpAny_bind (wpAny_field ho hd (x := .int i 0) rfl ?_)
  show wpAny _ _ (seqItems? (.ref t) >>= _) _ _ s
  refine wpAny_bind (wpAny_seqItems hol hdl ?_)
  simp only [Int.toNat_natCast, hx]
  refine wpAny_bind (wpAny_rule (wpAny_bind (wpAny_setField ho hd (by simp) ?_)))
  show wpAny _ _ (newExc (.type "StopIteration") [] >>= _) _ _ _
  refine wpAny_bind ?_
  simp only [newExc, newTuple]
  refine wpAny_bind (wpAny_newObj_type ?_ (by size_fits))
  refine wpAny_bind (m := firstArgMember _ _) (wpAny_of_eq (a := Value.none) (by first | rfl | (simp only [firstArgMember]; rfl)) ?_)
  refine wpAny_newObj_type ?_ (by size_fits)
  simp only [raiseNew]
  refine wpAny_bind (wpAny_handled ?_)
  first | rw [show A.in1.handled = none from hh] | rw [hh]
  refine wpAny_bind (wpAny_pure (wpAny_throw ?_))
  exact hE _ _ (((Heap.SameBut.update ..).extBut.push _).push _) ⟨_, Heap.get?_push_size _ rfl, rfl⟩
end
end L2
end
section
set_option Elab.async false
set_option linter.all false
set_option maxRecDepth 100000
set_option maxHeartbeats 4000000
namespace L2
open PySem PySem.Spec PyProof.Rows
section
variable {prog : Program} {w : World} {A : Around} {E : Value → Shared → Prop} {s : Shared}
/-- the records of a zip of two tuples, at turn i -/
structure ZipT (h : Heap) (z ti to i1 i2 t1 t2 : Addr) (i : Nat) : Prop where
  z : IsZip h z ti to .none
  ti : IsPair h ti (.ref i1) (.ref i2)
  to : ∃ a b, IsPair h to a b
  i1 : h.IsTupleIter i1 t1 i
  i2 : h.IsTupleIter i2 t2 i
theorem zipT_item {z ti to i1 i2 t1 t2 : Addr} {i : Nat} {xs ys : Array Value} {x y : Value} {Q : Value → Shared → Prop} (D : ZipApart z ti to i1 i2 t1 t2) (Z : ZipT s.heap z ti to i1 i2 t1 t2 i) (l1 : s.heap.IsTuple t1 xs) (l2 : s.heap.IsTuple t2 ys)
    (hx : xs[i]? = some x) (hy : ys[i]? = some y)
    (hQ : ∀ g, IsZip g z ti to (rawInt s.heap.objs.size) → (∃ a b, IsPair g to a b) → g.IsTupleIter i1 t1 (i + 1) → g.IsTupleIter i2 t2 (i + 1) → IsPair g s.heap.objs.size x y →
      (∀ c o, c ≠ z → c ≠ to → c ≠ i1 → c ≠ i2 → s.heap.get? c = some o → g.get? c = some o) → Q (.ref s.heap.objs.size) { s with heap := g }) :
    wpAny (model prog w) A (Builtin.«zip.__next__» ⟨[.ref z], []⟩) (fun fin s' => ∃ v, fin = .done (.ret v) ∧ Q v s') E s := by
  obtain ⟨hz, hTI, ⟨a, b, hTO⟩, h1, h2⟩ := Z
  show wpAny _ _ (field (.ref z) 2 >>= _) _ _ _
  refine wpAny_bind (wpAny_field hz rfl (x := .bool false) rfl ?_)
  show wpAny _ _ (field (.ref z) 3 >>= _) _ _ _
  refine wpAny_bind (wpAny_field hz rfl (x := .ref ti) rfl ?_)
  refine wpAny_bind (wpAny_seqItems hTI rfl ?_)
  show wpAny (model prog w) _ (Builtin.SmallTypes.ownedTupleIsFree (.ref z) >>= _) _ _ _
  refine wpAny_bind ?_
  unfold Builtin.SmallTypes.ownedTupleIsFree
  refine wpAny_bind (wpAny_field hz rfl (x := .none) rfl (wpAny_pure ?_))
  simp only [if_true]
  refine wpAny_bind (wpAny_rule ?_)
  refine wpAny_bind (wpAny_field hz rfl (x := .ref to) rfl ?_)
  refine wpAny_bind (wpAny_setField_rec hz (by simp) fun g1 hz1 k1 => ?_)
  replace hz1 : IsZip g1 z ti to .ellipsis := hz1
  refine wpAny_bind ?_
  simp only [List.zipIdx_cons, List.zipIdx_nil, List.forIn_cons, List.forIn_nil]
  refine wpAny_bind (wpAny_bind (wpAny_onRaise ?_))
  show wpAny (model prog w) _ (Builtin.SmallTypes.nextOf (.ref i1) >>= _) _ _ _
  refine wpAny_bind (nextOf_tup_item (h1.extBut k1.extBut D.i1z) (l1.extBut k1.extBut D.l1z) hx fun g2 n2 k2 => wpAny_pure ?_)
  have o2 : IsPair g2 to a b := k2.extBut _ _ D.TOi1 (k1.extBut _ _ D.TOz hTO)
  refine wpAny_bind (wpAny_seqItems o2 rfl ?_)
  refine wpAny_bind (wpAny_updateSeq_pair o2 fun g3 o3 k3 => ?_)
  replace o3 : IsPair g3 to x b := o3
  refine wpAny_bind (wpAny_letGo (wpAny_pure ?_))
  refine wpAny_bind (wpAny_bind (wpAny_onRaise ?_))
  show wpAny (model prog w) _ (Builtin.SmallTypes.nextOf (.ref i2) >>= _) _ _ _
  refine wpAny_bind (nextOf_tup_item (((h2.extBut k1.extBut D.i2z).extBut k2.extBut D.i12.symm).extBut k3.extBut D.TOi2.symm) (((l2.extBut k1.extBut D.l2z).extBut k2.extBut D.l2i1).extBut k3.extBut D.l2TO) hy fun g4 n4 k4 => wpAny_pure ?_)
  have o4 : IsPair g4 to x b := k4.extBut _ _ D.TOi2 o3
  refine wpAny_bind (wpAny_seqItems o4 rfl ?_)
  refine wpAny_bind (wpAny_updateSeq_pair o4 fun g5 o5 k5 => ?_)
  replace o5 : IsPair g5 to x y := o5
  refine wpAny_bind (wpAny_letGo (wpAny_pure (wpAny_pure ?_)))
  refine wpAny_bind (wpAny_seqItems o5 rfl ?_)
  refine wpAny_bind (wpAny_newTuple ?_)
  have sz : g5.objs.size = s.heap.objs.size := by rw [k5.1, k4.1, k3.1, k2.1, k1.1]
  have z5 : IsZip g5 z ti to .ellipsis := k5.extBut _ _ D.TOz.symm (k4.extBut _ _ D.i2z.symm (k3.extBut _ _ D.TOz.symm (k2.extBut _ _ D.i1z.symm hz1)))
  have kk : ∀ c o, c ≠ z → c ≠ to → c ≠ i1 → c ≠ i2 → s.heap.get? c = some o → g5.get? c = some o := fun c o c1 c2 c3 c4 e => k5.extBut _ _ c2 (k4.extBut _ _ c4 (k3.extBut _ _ c2 (k2.extBut _ _ c3 (k1.extBut _ _ c1 e))))
  have n5 : g5.IsTupleIter i1 t1 (i + 1) := ((n2.extBut k3.extBut D.TOi1.symm).extBut k4.extBut D.i12).extBut k5.extBut D.TOi1.symm
  have m5 : g5.IsTupleIter i2 t2 (i + 1) := n4.extBut k5.extBut D.TOi2.symm
  have zl : z < g5.objs.size := Heap.lt_size z5
  show wpAny (model prog w) _ (Builtin.SmallTypes.ownedTupleHandOut (.ref z) (.ref g5.objs.size) >>= _) _ _ _
  refine wpAny_bind ?_
  unfold Builtin.SmallTypes.ownedTupleHandOut
  have z6 : IsZip (g5.push { cls := .type "tuple", data := .seq #[x, y] }) z ti to .ellipsis := Heap.get?_push_of_some _ z5
  refine wpAny_bind (wpAny_setField_rec z6 (by simp) fun g7 z7 k7 => ?_)
  replace z7 : IsZip g7 z ti to (rawInt g5.objs.size) := z7
  refine wpAny_setField_rec z7 (by simp) fun g8 z8 k8 => ?_
  replace z8 : IsZip g8 z ti to (rawInt g5.objs.size) := z8
  have up : ∀ c o, c ≠ z → g5.get? c = some o → g8.get? c = some o := fun c o c1 e => k8.extBut _ _ c1 (k7.extBut _ _ c1 (Heap.get?_push_of_some _ e))
  have t8 : IsPair g8 g5.objs.size x y := k8.extBut _ _ (Nat.ne_of_gt zl) (k7.extBut _ _ (Nat.ne_of_gt zl) (Heap.get?_push_size _ rfl))
  rw [sz] at z8 t8
  refine wpAny_pure ⟨_, rfl, ?_⟩
  show Q (.ref g5.objs.size) _
  rw [sz]
  have it : ∀ {j t : Addr} {k : Nat}, j ≠ z → g5.IsTupleIter j t k → g8.IsTupleIter j t k := fun hj q => by
    obtain ⟨o, e, r⟩ := q
    exact ⟨o, up _ o hj e, r⟩
  exact hQ g8 z8 ⟨x, y, up _ _ D.TOz o5⟩ (it D.i1z n5) (it D.i2z m5) t8 fun c o c1 c2 c3 c4 e => up c o c1 (kk c o c1 c2 c3 c4 e)
theorem zipT_end {z ti to i1 i2 t1 t2 : Addr} {i : Nat} {xs : Array Value} {Q : Fin → Shared → Prop} (hh : A.handled = none) (D : ZipApart z ti to i1 i2 t1 t2) (Z : ZipT s.heap z ti to i1 i2 t1 t2 i) (l1 : s.heap.IsTuple t1 xs) (hx : xs[i]? = none)
    (hE : ∀ g e, (∀ c o, c ≠ z → c ≠ to → c ≠ i1 → c ≠ i2 → s.heap.get? c = some o → g.get? c = some o) → (∃ o, g.get? e = some o ∧ o.cls = .type "StopIteration") → E (.ref e) { s with heap := g }) :
    wpAny (model prog w) A (Builtin.«zip.__next__» ⟨[.ref z], []⟩) Q E s := by
  obtain ⟨hz, hTI, ⟨a, b, hTO⟩, h1, h2⟩ := Z
  show wpAny _ _ (field (.ref z) 2 >>= _) _ _ _
  refine wpAny_bind (wpAny_field hz rfl (x := .bool false) rfl ?_)
  show wpAny _ _ (field (.ref z) 3 >>= _) _ _ _
  refine wpAny_bind (wpAny_field hz rfl (x := .ref ti) rfl ?_)
  refine wpAny_bind (wpAny_seqItems hTI rfl ?_)
  show wpAny (model prog w) _ (Builtin.SmallTypes.ownedTupleIsFree (.ref z) >>= _) _ _ _
  refine wpAny_bind ?_
  unfold Builtin.SmallTypes.ownedTupleIsFree
  refine wpAny_bind (wpAny_field hz rfl (x := .none) rfl (wpAny_pure ?_))
  simp only [if_true]
  refine wpAny_bind (wpAny_rule ?_)
  refine wpAny_bind (wpAny_field hz rfl (x := .ref to) rfl ?_)
  refine wpAny_bind (wpAny_setField_rec hz (by simp) fun g1 hz1 k1 => ?_)
  replace hz1 : IsZip g1 z ti to .ellipsis := hz1
  refine wpAny_bind ?_
  simp only [List.zipIdx_cons, List.zipIdx_nil, List.forIn_cons, List.forIn_nil]
  refine wpAny_bind (wpAny_bind (wpAny_onRaise ?_))
  show wpAny (model prog w) _ (Builtin.SmallTypes.nextOf (.ref i1) >>= _) _ _ _
  refine wpAny_bind (nextOf_tup_end hh (h1.extBut k1.extBut D.i1z) (l1.extBut k1.extBut D.l1z) hx fun g2 e k2 he => ?_)
  obtain ⟨oe, hoe, hce⟩ := he
  have z2 : IsZip g2 z ti to .ellipsis := k2 _ _ D.i1z.symm hz1
  have hez : e ≠ z := fun q => by subst q; rw [z2] at hoe; cases hoe; simp at hce
  refine wpAny_setField_rec z2 (by simp) fun g3 _ k3 => hE g3 e (fun c o c1 _ c3 _ q => k3.extBut _ _ c1 (k2 _ _ c3 (k1.extBut _ _ c1 q))) ⟨oe, k3.extBut _ _ hez hoe, hce⟩
theorem pyNext_zipT_item {z ti to i1 i2 t1 t2 : Addr} {i : Nat} {xs ys : Array Value} {x y : Value} {Q : Option Value → Shared → Prop} (D : ZipApart z ti to i1 i2 t1 t2) (Z : ZipT s.heap z ti to i1 i2 t1 t2 i) (l1 : s.heap.IsTuple t1 xs) (l2 : s.heap.IsTuple t2 ys)
    (hx : xs[i]? = some x) (hy : ys[i]? = some y)
    (hQ : ∀ g, IsZip g z ti to (rawInt s.heap.objs.size) → (∃ a b, IsPair g to a b) → g.IsTupleIter i1 t1 (i + 1) → g.IsTupleIter i2 t2 (i + 1) → IsPair g s.heap.objs.size x y →
      (∀ c o, c ≠ z → c ≠ to → c ≠ i1 → c ≠ i2 → s.heap.get? c = some o → g.get? c = some o) → Q (some (.ref s.heap.objs.size)) { s with heap := g }) : wpAny (model prog w) A (pyNext (.ref z)) Q E s := by
  have ty : s.TypeIs (.ref z) "zip" := ⟨_, Z.z, rfl⟩
  unfold pyNext
  exact wpAny_bind (wpAny_attempt (wpAny_callSpecial?_slot (name := Str.ofString "__next__") ty F.slot_zip_next (wpAny_call_entry F.slot_zip_next ty F.entry_zip_next (zipT_item D Z l1 l2 hx hy fun g a1 a2 a3 a4 a5 a6 => wpAny_pure (hQ g a1 a2 a3 a4 a5 a6)) (F.args_zip_next_1 _))))
theorem pyNext_zipT_end {z ti to i1 i2 t1 t2 : Addr} {i : Nat} {xs : Array Value} {Q : Option Value → Shared → Prop} (hh : A.handled = none) (D : ZipApart z ti to i1 i2 t1 t2) (Z : ZipT s.heap z ti to i1 i2 t1 t2 i) (l1 : s.heap.IsTuple t1 xs) (hx : xs[i]? = none)
    (hQ : ∀ g, (∀ c o, c ≠ z → c ≠ to → c ≠ i1 → c ≠ i2 → s.heap.get? c = some o → g.get? c = some o) → Q none { s with heap := g }) : wpAny (model prog w) A (pyNext (.ref z)) Q E s := by
  have ty : s.TypeIs (.ref z) "zip" := ⟨_, Z.z, rfl⟩
  unfold pyNext
  refine wpAny_bind (wpAny_attempt (wpAny_callSpecial?_slot (name := Str.ofString "__next__") ty F.slot_zip_next (wpAny_call_entry F.slot_zip_next ty F.entry_zip_next (zipT_end hh D Z l1 hx fun g e hk he => ?_) (F.args_zip_next_1 _))))
  obtain ⟨o, ho, hc⟩ := he
  refine wpAny_bind (wpAny_isInstance (T := "StopIteration") (b := true) ⟨o, ho, hc⟩ isSubtype_stop ?_)
  exact wpAny_pure (hQ _ hk)

abbrev ztH1 (h : Heap) (l1 : Addr) : Heap := h.push { cls := .type "tuple_iterator", data := .fields #[.ref l1, .int 0 0] }
abbrev ztH2 (h : Heap) (l1 l2 : Addr) : Heap := (ztH1 h l1).push { cls := .type "tuple_iterator", data := .fields #[.ref l2, .int 0 0] }
abbrev ztH3 (h : Heap) (l1 l2 : Addr) : Heap := (ztH2 h l1 l2).push { cls := .type "tuple", data := .seq #[.ref h.objs.size, .ref (ztH1 h l1).objs.size] }
abbrev ztH4 (h : Heap) (l1 l2 : Addr) : Heap := (ztH3 h l1 l2).push { cls := .type "tuple", data := .seq #[.none, .none] }
abbrev ztH5 (h : Heap) (l1 l2 : Addr) : Heap := (ztH4 h l1 l2).push { cls := .type "zip", data := .fields #[.none, .bool false, .bool false, .ref (ztH2 h l1 l2).objs.size, .ref (ztH3 h l1 l2).objs.size] }
theorem meets_zipT (l1 l2 : Addr) (xs ys : Array Value) : Meets (Builtin.«zip.__new__» ⟨[.type "zip", .ref l1, .ref l2], []⟩) (fun _ R s => s.heap.IsTuple l1 xs ∧ s.heap.IsTuple l2 ys ∧ R (.ok (.ret (.ref (ztH4 s.heap l1 l2).objs.size))) { s with heap := ztH5 s.heap l1 l2 }) :=
  .of_wp fun prog w A R s h => by
    obtain ⟨hp, g, d, tk, os⟩ := s; obtain ⟨q1, q2, h⟩ := h
    have hsub := sub_zip
    have L1 : Heap.IsTuple (Shared.heap ⟨hp, g, d, tk, os⟩) l1 xs := q1
    have L2 : Heap.IsTuple (Shared.heap ⟨hp.push { cls := .type "tuple_iterator", data := .fields #[.ref l1, .int 0 0] }, g, d, tk, os⟩) l2 ys := Heap.IsTuple.push q2 _
    wp_walk using wpAny_pyIter_tuple L1, wpAny_pyIter_tuple L2
    exact ⟨_, rfl, h⟩
theorem call_zipT {l1 l2 : Addr} {xs ys : Array Value} {Q : Value → Shared → Prop} (q1 : s.heap.IsTuple l1 xs) (q2 : s.heap.IsTuple l2 ys)
    (h : ∀ g, ZipT g (s.heap.objs.size + 4) (s.heap.objs.size + 2) (s.heap.objs.size + 3) s.heap.objs.size (s.heap.objs.size + 1) l1 l2 0 → (∀ c o, s.heap.get? c = some o → g.get? c = some o) → Q (.ref (s.heap.objs.size + 4)) { s with heap := g }) :
    wpAny (model prog w) A (call (.type "zip") [.ref l1, .ref l2]) Q E s := by
  refine callType_new F.called_zip (by decide) (F.typeCall_zip_2 _ _) (F.newCall_zip_2 _ _) (fun obj => F.args_object_init_3 obj _ _) F.entry_zip_new (meets_zipT l1 l2 xs ys) ⟨q1, q2, ?_⟩
  have z1 : (ztH1 s.heap l1).objs.size = s.heap.objs.size + 1 := Heap.size_push ..
  have z2 : (ztH2 s.heap l1 l2).objs.size = s.heap.objs.size + 2 := by rw [Heap.size_push, z1]
  have z3 : (ztH3 s.heap l1 l2).objs.size = s.heap.objs.size + 3 := by rw [Heap.size_push, z2]
  have z4 : (ztH4 s.heap l1 l2).objs.size = s.heap.objs.size + 4 := by rw [Heap.size_push, z3]
  have g5 : (ztH5 s.heap l1 l2).get? (ztH4 s.heap l1 l2).objs.size = some _ := Heap.get?_push_size _ rfl
  have g4 : (ztH5 s.heap l1 l2).get? (ztH3 s.heap l1 l2).objs.size = some _ := Heap.get?_push_of_some _ (Heap.get?_push_size _ rfl)
  have g3 : (ztH5 s.heap l1 l2).get? (ztH2 s.heap l1 l2).objs.size = some _ := Heap.get?_push_of_some _ (Heap.get?_push_of_some _ (Heap.get?_push_size _ rfl))
  have g2 : (ztH5 s.heap l1 l2).get? (ztH1 s.heap l1).objs.size = some _ := Heap.get?_push_of_some _ (Heap.get?_push_of_some _ (Heap.get?_push_of_some _ (Heap.get?_push_size _ rfl)))
  have g1 : (ztH5 s.heap l1 l2).get? s.heap.objs.size = some _ := Heap.get?_push_of_some _ (Heap.get?_push_of_some _ (Heap.get?_push_of_some _ (Heap.get?_push_of_some _ (Heap.get?_push_size _ rfl))))
  show _ ∧ _
  rw [z2, z3, z4] at g5
  rw [z1, z2] at g3
  rw [z3] at g4
  rw [z1] at g2
  rw [z4]
  exact ⟨⟨_, g5, rfl⟩, h _ ⟨g5, g3, ⟨_, _, g4⟩, ⟨_, g1, rfl, rfl⟩, ⟨_, g2, rfl, rfl⟩⟩ fun c o q => Heap.get?_push_of_some _ (Heap.get?_push_of_some _ (Heap.get?_push_of_some _ (Heap.get?_push_of_some _ (Heap.get?_push_of_some _ q))))⟩
end
end L2
end
section
set_option Elab.async false
set_option linter.all false
set_option maxRecDepth 100000
set_option maxHeartbeats 4000000
namespace L2
open PySem PySem.Spec PyProof.Rows
def Itz (K : PySem.W.Frag) (a b : Addr) : It :=
  ⟨fun i H => ∃ xs ys x y, SqT K H a xs ∧ SqT K H b ys ∧ xs[i]? = some x ∧ ys[i]? = some y,
   fun i H v H' => ∃ p x y, H p = none ∧ v = .ref p ∧ H' = upd H p (.tup [x, y]) ∧ (∀ xs, SqT K H a xs → xs[i]? = some x) ∧ ∀ ys, SqT K H b ys → ys[i]? = some y,
   fun i H => ∃ xs, SqT K H a xs ∧ xs.length ≤ i⟩
theorem iter_at {h h' : Heap} {j t : Addr} {k : Nat} (q : h.IsTupleIter j t k) (e : ∀ o, h.get? j = some o → h'.get? j = some o) : h'.IsTupleIter j t k := by
  obtain ⟨o, q, r⟩ := q
  exact ⟨o, e o q, r⟩
theorem turn_zip {P : Program} {w : World} {K : PySem.W.Frag} {es : List Expr} {k : Nat} {pos : Pos} {z ti to i1 i2 a b : Addr} (D : ZipApart z ti to i1 i2 a b) : Turn P w K (.Tuple es k pos) (Itz K a b) [z, ti, to, i1, i2] z (fun i h => ZipT h z ti to i1 i2 a b i) where
  mem := by simp
  obj := fun i h st c hc => by
    obtain ⟨hz, hTI, ⟨x, y, hTO⟩, h1, h2⟩ := st
    simp only [List.mem_cons, List.not_mem_nil, or_false] at hc
    rcases hc with rfl | rfl | rfl | rfl | rfl
    · exact ⟨_, hz, fun v q => by cases q⟩
    · exact ⟨_, hTI, fun v q => by cases q⟩
    · exact ⟨_, hTO, fun v q => by cases q⟩
    · obtain ⟨o, e, c, d⟩ := h1; exact ⟨o, e, fun v q => by rw [d] at q; cases q⟩
    · obtain ⟨o, e, c, d⟩ := h2; exact ⟨o, e, fun v q => by rw [d] at q; cases q⟩
  keep := fun i h h' st kk => by
    obtain ⟨hz, hTI, ⟨x, y, hTO⟩, h1, h2⟩ := st
    exact ⟨kk z (by simp) _ hz, kk ti (by simp) _ hTI, ⟨x, y, kk to (by simp) _ hTO⟩, iter_at h1 fun o e => kk i1 (by simp) o e, iter_at h2 fun o e => kk i2 (by simp) o e⟩
  item := by
    intro X hP hw hK hc i pins s σ H E I hf st hg
    subst hP hw hK
    obtain ⟨xs, ys, x, y, q1, q2, e1, e2⟩ := hg
    obtain ⟨us, r1, p1, _⟩ := I.tuple q1
    obtain ⟨ws, r2, p2, _⟩ := I.tuple q2
    obtain ⟨u, hu, ru⟩ := r1.get e1
    obtain ⟨v, hv, rv⟩ := r2.get e2
    have d := st
    refine pyNext_zipT_item (xs := us.toArray) (ys := ws.toArray) D st p1 p2 (x := u) (y := v) (by simpa using hu) (by simpa using hv) fun g a1 a2 a3 a4 a5 kk => ⟨_, rfl, ?_⟩
    refine wpAny_letOwnedTupleGo_zip a1 fun g' z' sb => ?_
    have zl : z < s.heap.objs.size := Heap.lt_size d.z
    have nz : s.heap.objs.size ≠ z := Nat.ne_of_gt zl
    have up : ∀ c o, c ∉ [z, to, i1, i2] → s.heap.get? c = some o → g'.get? c = some o := fun c o hc' e => by
      simp only [List.mem_cons, List.not_mem_nil, or_false, not_or] at hc'
      exact sb.extBut _ _ hc'.1 (kk c o hc'.1 hc'.2.1 hc'.2.2.1 hc'.2.2.2 e)
    have sub : ∀ c ∈ [z, to, i1, i2], c ∈ [z, ti, to, i1, i2] := fun c hc' => by
      simp only [List.mem_cons, List.not_mem_nil, or_false] at hc' ⊢
      rcases hc' with q | q | q | q
      · exact .inl q
      · exact .inr (.inr (.inl q))
      · exact .inr (.inr (.inr (.inl q)))
      · exact .inr (.inr (.inr (.inr q)))
    have I1 : Inv X pins σ H { s with heap := g' } := I.turns (t' := s.toks) up fun c hc' => hf c (sub c hc')
    have t' : IsPair g' s.heap.objs.size u v := sb.extBut _ _ nz a5
    have I2 := I1.track (a := s.heap.objs.size) (o := .tup [x, y]) (I.fpOk (Nat.le_refl _) I.fresh) ⟨by show 2 ≤ sizeLine; decide, [u, v], .cons ru (.cons rv .nil), ⟨_, t', rfl, _, rfl⟩⟩
    refine ⟨.ref s.heap.objs.size, _, I2, rfl, ⟨_, x, y, I.fresh, rfl, rfl, fun xs' q => by rw [I.tuple_inj q q1]; exact e1, fun ys' q => by rw [I.tuple_inj q q2]; exact e2⟩, ?_, fun c hc' => ?_⟩
    · obtain ⟨a', b', a2⟩ := a2
      refine ⟨z', ?_, ⟨a', b', sb.extBut _ _ D.TOz a2⟩, a3.extBut sb.extBut D.i1z, a4.extBut sb.extBut D.i2z⟩
      exact sb.extBut _ _ D.TIz (kk _ _ D.TIz D.TITO D.TIi1 D.TIi2 d.ti)
    · have ne : c ≠ s.heap.objs.size := by
        have ex : ∃ o, s.heap.get? c = some o := by
          obtain ⟨hz, hTI, ⟨x', y', hTO⟩, h1, h2⟩ := d
          simp only [List.mem_cons, List.not_mem_nil, or_false] at hc'
          rcases hc' with rfl | rfl | rfl | rfl | rfl
          · exact ⟨_, hz⟩
          · exact ⟨_, hTI⟩
          · exact ⟨_, hTO⟩
          · obtain ⟨o, e, _⟩ := h1; exact ⟨o, e⟩
          · obtain ⟨o, e, _⟩ := h2; exact ⟨o, e⟩
        obtain ⟨o, e⟩ := ex
        exact Nat.ne_of_lt (Heap.lt_size e)
      rw [upd_ne ne]
      exact (hf c hc').1
  done := by
    intro X hP hw hK hc i pins s σ H E I hf st hg
    subst hP hw hK
    obtain ⟨xs, q1, hl⟩ := hg
    obtain ⟨us, r1, p1, _⟩ := I.tuple q1
    have e := r1.length
    have sub : ∀ c ∈ [z, to, i1, i2], c ∈ [z, ti, to, i1, i2] := fun c hc' => by
      simp only [List.mem_cons, List.not_mem_nil, or_false] at hc' ⊢
      rcases hc' with q | q | q | q
      · exact .inl q
      · exact .inr (.inr (.inl q))
      · exact .inr (.inr (.inr (.inl q)))
      · exact .inr (.inr (.inr (.inr q)))
    refine pyNext_zipT_end (xs := us.toArray) (I.ok.hd hc) D st p1 (by simp; omega) fun g kk => ⟨rfl, I.turns (t' := s.toks) (ch := [z, to, i1, i2]) (fun c o hc' e => ?_) fun c hc' => hf c (sub c hc')⟩
    simp only [List.mem_cons, List.not_mem_nil, or_false, not_or] at hc'
    exact kk c o hc'.1 hc'.2.1 hc'.2.2.1 hc'.2.2.2 e
  self := fun _ _ _ _ _ st h => wpAny_pyIter_zip st.z h

def iZip (K : PySem.W.Frag) (ta : TA) : TI := fun σ H R => ta σ H fun vs H1 => ∃ a b xs ys, vs = [.ref a, .ref b] ∧ SqT K H1 a xs ∧ SqT K H1 b ys ∧ R (Itz K a b) H1
theorem pi_zip {X : Cx} {a b : Expr} {ta : TA} {p pos tp : Pos} {es : List Expr} {k : Nat} (hg : Gl X "zip") (hm : X.mg "zip" = none) (hv : bootBuiltins "zip" = some (.type "zip")) (ha : PA X [a, b] ta)
    (hs : starEach [a, b] X.env = [(false, eval a X.env), (false, eval b X.env)] := by rfl) (hs2 : starEach [b] X.env = [(false, eval b X.env)] := by rfl) : PI X (.Tuple es k tp) (.Call (.Name "zip" p) [a, b] [] pos) (iZip X.K ta) := by
  intro pins s σ H R I h
  refine Call_ (ld_blt I hg hm hv (PyProof.Rows.callWith_type1 (thn (ha pos pins s σ H _ I h) fun us s1 h1 => ?_) (by rw [hs, hs2]) (by rw [hs2]; rfl)))
  obtain ⟨vs, H1, I1, r1, q1⟩ := h1
  obtain ⟨c, d, xs, ys, rfl, q, q', hR⟩ := q1
  obtain ⟨u, v, rfl, ru, rv⟩ := r1.two
  cases ru
  cases rv
  obtain ⟨is, r, p1, _⟩ := I1.tuple q
  obtain ⟨js, r', p2, _⟩ := I1.tuple q'
  have lt : ∀ {x : Addr} {its : List Value}, IsTup s1.heap x its.toArray → x < s1.heap.objs.size := fun z => by
    obtain ⟨o, e, _⟩ := z
    exact Heap.lt_size e
  refine call_zipT (xs := is.toArray) (ys := js.toArray) p1 p2 fun g Z kk => wpAny_pyIter_zip Z.z ?_
  refine ⟨s1.heap.objs.size + 4, [s1.heap.objs.size + 4, s1.heap.objs.size + 2, s1.heap.objs.size + 3, s1.heap.objs.size, s1.heap.objs.size + 1], _, _, H1, rfl, I1.kept (t' := s1.toks) kk, turn_zip (zipApart_new (lt p1) (lt p2)), Z, fun x hx => ?_, hR⟩
  have hl : s1.heap.objs.size ≤ x := by
    simp only [List.mem_cons, List.not_mem_nil, or_false] at hx
    rcases hx with rfl | rfl | rfl | rfl | rfl <;> omega
  exact I1.fpOk hl (I1.hok.fresh hl)
end L2
end
section
set_option Elab.async false
set_option linter.all false
set_option maxRecDepth 100000
set_option maxHeartbeats 4000000
namespace L2
open PySem PySem.Spec PyProof.Rows
section
variable {X : Cx}
/-! ### isinstance -/
theorem kit_of {pins : List (Addr × Obj)} {σ : St} {H : Hp} {s : Shared} {x : V} {u t : Value} (I : Inv X pins σ H s) (rx : RelV x u) (ty : TyOf X.K H x t) : ∃ Hh : Heap → Prop, PySem.W.KitX X.K u t Hh ∧ Hh s.heap ∧ u ≠ .builtin "__main__.__loader__#opaque" := by
  cases ty with
  | non => cases (show u = Value.none from rx); exact ⟨_, PySem.W.kitx_none, True.intro, fun z => nomatch z⟩
  | bl y => cases (show u = Value.bool y from rx); exact ⟨_, PySem.W.kitx_bool, True.intro, fun z => nomatch z⟩
  | int i => obtain ⟨t, q⟩ := (show ∃ t, u = Value.int i t from rx); cases q; exact ⟨_, PySem.W.kitx_int, True.intro, fun z => nomatch z⟩
  | str y => obtain ⟨t, q⟩ := (show ∃ t, u = Value.str y t from rx); cases q; exact ⟨_, PySem.W.kitx_str, True.intro, fun z => nomatch z⟩
  | flt y => obtain ⟨t, q⟩ := (show ∃ t, u = Value.float y t from rx); cases q; exact ⟨_, PySem.W.kitx_float, True.intro, fun z => nomatch z⟩
  | @lst a xs ea =>
    cases (show u = Value.ref a from rx)
    obtain ⟨_, _, n, _, h1⟩ := (show ObjOk X.prog X.w H s.heap a (.lst xs) from I.hok a _ ea)
    exact ⟨_, PySem.W.kitx_list, ⟨_, h1, rfl⟩, fun z => nomatch z⟩
  | @frz a ob xs ea =>
    cases (show u = Value.ref a from rx)
    obtain ⟨_, _, _, n, _, h1⟩ := (show ObjOk X.prog X.w H s.heap a (.frz ob (.lst xs)) from I.hok a _ ea)
    exact ⟨_, PySem.W.kitx_list, ⟨_, h1, rfl⟩, fun z => nomatch z⟩
  | @tup a xs ea =>
    cases (show u = Value.ref a from rx)
    obtain ⟨_, _, _, p⟩ := (show ObjOk X.prog X.w H s.heap a (.tup xs) from I.hok a _ ea)
    obtain ⟨o, h1, h2, _⟩ := p
    exact ⟨_, PySem.W.kitx_tuple, ⟨o, h1, h2⟩, fun z => nomatch z⟩
  | @dK a kvs ea =>
    cases (show u = Value.ref a from rx)
    obtain ⟨_, _, vs, _, p⟩ := (show ObjOk X.prog X.w H s.heap a (.dK kvs) from I.hok a _ ea)
    obtain ⟨o, es, ep, h1, h2, _⟩ := p
    exact ⟨_, PySem.W.kitx_dict, ⟨o, h1, h2.1⟩, fun z => nomatch z⟩
  | @dT a kvs ea =>
    cases (show u = Value.ref a from rx)
    obtain ⟨_, _, xs, _, o, es, ep, h1, h2, _⟩ := (show ObjOk X.prog X.w H s.heap a (.dT kvs) from I.hok a _ ea)
    exact ⟨_, PySem.W.kitx_dict, ⟨o, h1, h2.1⟩, fun z => nomatch z⟩
  | @ins a C dx fs ea cl ha hn htk hm =>
    cases (show u = Value.ref a from rx)
    obtain ⟨mA, O, _⟩ := ins_get I.hok ea
    obtain ⟨od, J, _⟩ := O.look
    exact ⟨_, PySem.W.kitx_own (cl.get _) cl.hd ha hn htk hm, J, fun z => nomatch z⟩
/-- a value's type, the module's tuples too -/
def TyV (K : PySem.W.Frag) (H : Hp) (x : V) (t : Value) : Prop := TyOf K H x t ∨ (t = .type "tuple" ∧ ∃ a o, x = .ref a ∧ K.lookup a = some o ∧ o.cls = .type "tuple")
theorem kit_ofV {pins : List (Addr × Obj)} {σ : St} {H : Hp} {s : Shared} {x : V} {u t : Value} (I : Inv X pins σ H s) (rx : RelV x u) (ty : TyV X.K H x t) : ∃ Hh : Heap → Prop, PySem.W.KitX X.K u t Hh ∧ Hh s.heap ∧ u ≠ .builtin "__main__.__loader__#opaque" := by
  rcases ty with ty | ⟨rfl, a, o, rfl, hk, hc⟩
  · exact kit_of I rx ty
  · cases (show u = Value.ref a from rx)
    exact ⟨_, PySem.W.kitx_tuple, ⟨o, I.kIn a o hk, hc⟩, fun z => nomatch z⟩
def rIsi (K : PySem.W.Frag) : List V → Hp → VK → Prop := fun xs H Q => ∃ x t b, TyV K H x t ∧ ((∃ c, xs = [x, .ty c] ∧ PySem.W.kitOne K t (.type c) = some b) ∨ ∃ p c d, xs = [x, .ref p] ∧ SqT K H p [.ty c, .ty d] ∧ PySem.W.kitAny K t [.type c, .type d] = some b) ∧ Q (.bl b) H
theorem call_isiV : CallR X (.builtin "isinstance") (rIsi X.K) := by
  intro pins s σ H xs us Q I r h
  obtain ⟨x, t, b, ty, h, q⟩ := h
  have fin : ∀ tk, EP X pins σ Q (.bool b) { s with toks := tk } := fun tk => ⟨.bl b, H, I.tok tk, rfl, q⟩
  rcases h with ⟨c, rfl, e⟩ | ⟨p, c, d, rfl, hp, e⟩
  · obtain ⟨u, u2, rfl, r1, r2⟩ := vals2 r
    cases (show u2 = Value.type c from r2)
    obtain ⟨Hh, Z, hh, hne⟩ := kit_ofV I r1 ty
    exact PySem.W.kia_one Z I.kIn hh e hne fin
  · obtain ⟨u, u2, rfl, r1, r2⟩ := vals2 r
    cases (show u2 = Value.ref p from r2)
    obtain ⟨Hh, Z, hh, hne⟩ := kit_ofV I r1 ty
    obtain ⟨its, rv, pt, _⟩ := I.tuple hp
    obtain ⟨u, w', rfl, ru, rw'⟩ := rv.two
    cases (show u = Value.type c from ru)
    cases (show w' = Value.type d from rw')
    obtain ⟨⟨cls, dd, data, sl⟩, ho, hc, n, hd⟩ := pt
    simp only at hc hd
    subst hc hd
    exact PySem.W.kia_tup Z I.kIn hh ho e hne fin

/-! ### t + u of two tuples, whatever they hold -/
def rCatU (K : PySem.W.Frag) : R2 := fun x y H Q => ∃ a b xs ys, x = .ref a ∧ y = .ref b ∧ SqT K H a xs ∧ SqT K H b ys ∧ xs.length + ys.length ≤ sizeLine ∧
  (xs = [] → Q (.ref b) H) ∧ (xs ≠ [] → ys = [] → Q (.ref a) H) ∧ (xs ≠ [] → ys ≠ [] → ∀ p, H p = none → Q (.ref p) (upd H p (.tup (xs ++ ys))))
theorem op_catU : OpR X (binaryOp .Add) (rCatU X.K) := by
  intro pins s σ H x y v u Q I rx ry h
  obtain ⟨a, b, xs, ys, rfl, rfl, ha, hb, hz, q0, q1, q2⟩ := h
  by_cases hx : xs = []
  · subst hx
    cases rx
    cases ry
    obtain ⟨its, r1, p1, _⟩ := I.tuple ha
    obtain ⟨its2, r2, p2, _⟩ := I.tuple hb
    obtain ⟨⟨cls, dd, data, sl⟩, ho, hc, n, hd⟩ := p1
    obtain ⟨⟨cls2, dd2, data2, sl2⟩, ho2, hc2, n2, hd2⟩ := p2
    simp only at hc hd hc2 hd2
    subst hc hd hc2 hd2
    exact concat_meets ⟨_, ho, rfl⟩ ⟨_, ho2, rfl⟩ noFill_tuple_add seq_tuple_add PySem.F.slot_tuple_add PySem.F.entry_tuple_add (PySem.F.args_tuple_add_2 _ _)
      (tuple_addW0 a b its.toArray its2.toArray n n2 dd dd2 sl sl2 (by rw [r1.nil_iff.mpr rfl]; rfl)) ⟨ho, ho2, ⟨.ref b, H, I, rfl, q0 rfl⟩⟩
  · exact op_catT pins s σ H _ _ v u Q I rx ry ⟨a, b, xs, ys, rfl, rfl, ha, hb, hx, hz, fun e => q1 hx e, fun e => q2 hx e⟩

/-! ### xs[::-1]: some of the items (in what order is not asked) -/
theorem Vals.pick {xs : List V} {us : List Value} (r : Vals xs us) : ∀ ix : List Nat, Vals (ix.filterMap fun (i : Nat) => xs[i]?) (ix.filterMap fun (i : Nat) => us[i]?)
  | [] => .nil
  | i :: ix => by
    cases e : xs[i]? with
    | none => simp only [List.filterMap_cons, e, r.none_of e]; exact Vals.pick r ix
    | some x =>
      obtain ⟨u, hu, ru⟩ := r.get e
      simp only [List.filterMap_cons, e, hu]
      exact .cons ru (Vals.pick r ix)
theorem mem_pick {α : Type} {xs : List α} {ix : List Nat} {y : α} (h : y ∈ ix.filterMap fun (i : Nat) => xs[i]?) : y ∈ xs := by
  obtain ⟨i, _, e⟩ := List.mem_filterMap.mp h
  exact List.mem_of_getElem? e
theorem places_rev (n : Nat) : Builtin.Slice.sliceAdjust none none (-1) (n : Int) = ((n : Int) - 1, -1) ∧ Builtin.Slice.slicePlaces ((n : Int) - 1) (-1) (-1) ≤ n := by
  refine ⟨rfl, ?_⟩
  unfold Builtin.Slice.slicePlaces
  rw [if_neg (by decide), show (-(-1) : Int) = 1 from rfl, Int.ediv_one]
  split <;> omega
section
variable {prog : Program} {w : World} {A : Around} {E : Value → Shared → Prop} {s : Shared}
/-- t[::-1] -/
theorem getItem_tuple_rev {t sl : Addr} {its : List Value} {tk : Tok} {Q : Value → Shared → Prop} (ht : IsTup s.heap t its.toArray) (hs : s.heap.IsSliceOf sl .none .none (.int (-1) tk))
    (h : ∀ ix : List Nat, ix.length ≤ its.length → Q (.ref s.heap.objs.size) { s with heap := s.heap.push { cls := .type "tuple", data := .seq (ix.filterMap fun (i : Nat) => its[i]?).toArray } }) (hsz : its.length ≤ sizeLine) :
    wpAny (model prog w) A (getItem (.ref t) (.ref sl)) Q E s := by
  obtain ⟨os, hos, hcs, hds⟩ := id hs
  have hTs : s.TypeIs (.ref sl) "slice" := ⟨os, hos, hcs⟩
  unfold getItem
  try with_reducible refine wpAny_holding ?_
  first | refine wpAny_bind (wpAny_pure ?_) | skip
  refine wpAny_bind (wpAny_sequenceKey ht.typeIs (by decide) ?_)
  refine wpAny_bind (wpAny_callSpecial?_slot (name := Str.ofString "__getitem__") ht.typeIs PyProof.Rows.slot_tuple_getitem (wpAny_call_entry PyProof.Rows.slot_tuple_getitem ht.typeIs entry_tuple_getitem ?_ (args_tuple_getitem _ _)))
  show wpAny (model prog w) _ (Builtin.Tuple.tupleItemsOf (.ref t) >>= _) _ _ s
  refine wpAny_bind (tupleItemsOf_ ht ?_)
  refine wpAny_bind (wpAny_typeOf hTs ?_)
  rw [if_pos (by decide)]
  refine wpAny_bind ?_
  unfold Builtin.Slice.sliceApplied Builtin.Slice.sliceFields
  refine wpAny_bind (wpAny_bind (wpAny_field hos hds (x := .none) rfl (wpAny_bind (wpAny_field hos hds (x := .none) rfl (wpAny_bind (wpAny_field hos hds (x := .int (-1) tk) rfl (wpAny_pure ?_)))))))
  refine wpAny_bind (slicePart_int ?_)
  show wpAny (model prog w) _ (if ((-1 : Int) == 0) = true then _ else _) _ _ s
  rw [if_neg (by decide)]
  refine wpAny_bind (slicePart_none (wpAny_bind (slicePart_none (wpAny_bind (wpAny_pure ?_)))))
  have e1 : its.toArray.size = its.length := List.size_toArray
  show wpAny (model prog w) _ (match Builtin.Slice.sliceAdjust none none (-1) (its.toArray.size : Int) with | (lo, hi) => pure (lo, (-1 : Int), Builtin.Slice.slicePlaces lo hi (-1))) _ _ s
  obtain ⟨a1, a2⟩ := places_rev its.length
  rw [e1, a1]
  refine wpAny_pure ?_
  have hno : ¬ ((((its.length : Int) - 1) == 0 && (-1 : Int) == 1 && Builtin.Slice.slicePlaces ((its.length : Int) - 1) (-1) (-1) == its.length) = true) := by
    intro q
    rw [Bool.and_eq_true, Bool.and_eq_true] at q
    exact absurd q.1.2 (by decide)
  generalize hm : Builtin.Slice.slicePlaces ((its.length : Int) - 1) (-1) (-1) = m at a2 hno ⊢
  dsimp only
  rw [if_neg hno]
  have e2 : ((List.range m).filterMap fun (k : Nat) => its.toArray[((its.length : Int) - 1 + (k : Int) * -1).toNat]?) = (((List.range m).map fun (k : Nat) => ((its.length : Int) - 1 + (k : Int) * -1).toNat).filterMap fun (i : Nat) => its[i]?) := by
    rw [List.filterMap_map]
    congr 1
    funext k
    simp
  rw [e2]
  have h' := h ((List.range m).map fun (k : Nat) => ((its.length : Int) - 1 + (k : Int) * -1).toNat) (by simpa using a2)
  have htake : sizeOk (.seq ((((List.range m).map fun (k : Nat) => ((its.length : Int) - 1 + (k : Int) * -1).toNat).filterMap fun (i : Nat) => its[i]?).toArray)) := by
    show ((((List.range m).map fun (k : Nat) => ((its.length : Int) - 1 + (k : Int) * -1).toNat).filterMap fun (i : Nat) => its[i]?).toArray).size ≤ sizeLine
    rw [List.size_toArray]
    refine Nat.le_trans (List.length_filterMap_le _ _) ?_
    simp
    omega
  first
    | exact wpAny_bind (m := Builtin.Tuple.tupleExact _) (wpAny_newObj_type (wpAny_pure ⟨_, rfl, wpAny_pure h'⟩) htake)
    | exact wpAny_bind (m := Builtin.Tuple.tupleExact _) (wpAny_newObj_type (wpAny_bind (wpAny_pure (wpAny_pure ⟨_, rfl, wpAny_pure h'⟩))) htake)
    | exact wpAny_bind (wpAny_bind (m := Builtin.Tuple.tupleExact _) (wpAny_newObj_type (wpAny_pure (wpAny_pure ⟨_, rfl, wpAny_pure h'⟩)) htake))
    | exact wpAny_bind (wpAny_bind (m := Builtin.Tuple.tupleExact _) (wpAny_newObj_type (wpAny_pure ⟨_, rfl, wpAny_pure h'⟩) htake))
end
/-- x[::-1] of a list or a tuple -/
def tRev (K : PySem.W.Frag) (te : TE) : TE := fun σ H Q => te σ H fun x H1 => ∃ a xs, x = .ref a ∧
  ((SqL K H1 a xs ∧ ∀ ix : List Nat, (ix.filterMap fun (i : Nat) => xs[i]?).length ≤ xs.length → ∀ p, H1 p = none → Q (.ref p) (upd H1 p (.lst (ix.filterMap fun (i : Nat) => xs[i]?)))) ∨
   (SqT K H1 a xs ∧ ∀ ix : List Nat, (ix.filterMap fun (i : Nat) => xs[i]?).length ≤ xs.length → ∀ p, H1 p = none → Q (.ref p) (upd H1 p (.tup (ix.filterMap fun (i : Nat) => xs[i]?)))))
theorem pe_rev {e : Expr} {te : TE} {p1 p2 p3 pos : Pos} {j : Nat} (he : PE X e te) : PE X (.Subscript e (.Slice none none (some (.UnaryOp .USub (.Constant (.int 1) j p1) p2)) p3) pos) (tRev X.K te) := by
  intro pins s σ H Q I h
  refine Subscript_ (thn (he pins s σ H _ I h) fun v s1 h1 => ?_)
  obtain ⟨x, H1, I1, r1, q1⟩ := h1
  refine wpAny_Slice ?_
  rw [evalPart_none, evalPart_some]
  refine wpAny_pure (wpAny_pure ?_)
  refine thn (pe_un (pos := p2) un_neg (pe_int (X := X) (i := 1) (j := j) (pos := p1)) pins s1 σ H1 (fun v H2 => v = .int (-1) ∧ H2 = H1) I1 ⟨1, rfl, rfl, rfl⟩) fun vs s2 h2 => ?_
  obtain ⟨y, H2, I2, r2, rfl, rfl⟩ := h2
  obtain ⟨tk, rfl⟩ := r2
  obtain ⟨a, xs, rfl, q⟩ := q1
  cases r1
  have I4 : Inv X pins σ H2 { s2 with heap := s2.heap.push { cls := .type "slice", data := .fields #[.none, .none, .int (-1) tk] } } := I2.kept (t' := s2.toks) fun b ob q => Heap.get?_push_of_some _ q
  have hs : (s2.heap.push { cls := .type "slice", data := .fields #[.none, .none, .int (-1) tk] }).IsSliceOf s2.heap.objs.size .none .none (.int (-1) tk) := Heap.IsSliceOf.new ..
  show wpAny (model X.prog X.w) X.A (subscriptTail e (.Slice none none (some (.UnaryOp .USub (.Constant (.int 1) j p1) p2)) p3) (.ref a) (.ref s2.heap.objs.size)) (EP X pins σ Q) X.xe { s2 with heap := s2.heap.push { cls := .type "slice", data := .fields #[.none, .none, .int (-1) tk] } }
  rcases q with ⟨hx, q⟩ | ⟨hx, q⟩
  · obtain ⟨its, r, ht, hz⟩ := I4.list hx
    have hl := r.length
    refine tail_any (ops := [.ref a, .ref s2.heap.objs.size]) ht.isList.typeIs slot_list_getitem.lookup ?_ (by with_unfolding_all rfl)
    refine wpAny_getItem_list_slice ht.isList hs .none .none (.int (-1) tk) (by decide) ?_ (by rw [List.size_toArray]; omega)
    have hsz := slicePick_size_le its.toArray none none (some (-1))
    have e : slicePick its.toArray none none (some (-1)) = (((sliceRange (sliceBounds none none (some (-1)) its.toArray.size).1 (sliceBounds none none (some (-1)) its.toArray.size).2.1 (sliceBounds none none (some (-1)) its.toArray.size).2.2)).filterMap fun (i : Nat) => its[i]?).toArray := by
      unfold slicePick
      congr 2
      funext i
      simp
    rw [e] at hsz ⊢
    generalize sliceRange (sliceBounds none none (some (-1)) its.toArray.size).1 (sliceBounds none none (some (-1)) its.toArray.size).2.1 (sliceBounds none none (some (-1)) its.toArray.size).2.2 = ix at hsz ⊢
    have rp := r.pick ix
    have hl2 := rp.length
    refine ⟨.ref _, _, I4.laid (t' := s2.toks) (o := .lst (ix.filterMap fun (i : Nat) => xs[i]?)) (fun b ob q => Heap.get?_push_of_some _ q) (Nat.le_refl _) ?_, rfl, q ix (by rw [List.size_toArray, List.size_toArray] at hsz; omega) _ (I4.hok.fresh (Nat.le_refl _))⟩
    refine ⟨?_, _, 0, rp, Heap.get?_push_size _ rfl⟩
    rw [List.size_toArray, List.size_toArray] at hsz
    omega
  · obtain ⟨its, r, ht, hz⟩ := I4.tuple hx
    have hl := r.length
    refine tail_any (ops := [.ref a, .ref s2.heap.objs.size]) ht.typeIs PyProof.Rows.slot_tuple_getitem.lookup ?_ (by with_unfolding_all rfl)
    refine getItem_tuple_rev ht hs (fun ix hix => ?_) (by omega)
    have rp := r.pick ix
    have hl2 := rp.length
    refine ⟨.ref _, _, I4.laid (t' := s2.toks) (o := .tup (ix.filterMap fun (i : Nat) => xs[i]?)) (fun b ob q => Heap.get?_push_of_some _ q) (Nat.le_refl _) ?_, rfl, q ix (by have := List.length_filterMap_le (fun (i : Nat) => xs[i]?) ix; omega) _ (I4.hok.fresh (Nat.le_refl _))⟩
    refine ⟨?_, _, rp, IsTup.new _ _⟩
    have := List.length_filterMap_le (fun (i : Nat) => xs[i]?) ix
    omega
end
end L2
end
section
set_option Elab.async false
set_option linter.all false
set_option maxRecDepth 100000
set_option maxHeartbeats 4000000
namespace L2
open PySem PySem.Spec PyProof.Rows
section
variable {X : Cx}
/-! ### xs == [], xs != [] -/
def rEqN (K : PySem.W.Frag) (neg : Bool) : R2 := fun x y H Q => ∃ a b xs, x = .ref a ∧ y = .ref b ∧ SqL K H a xs ∧ SqL K H b [] ∧ Q (.bl (Bool.xor neg xs.isEmpty)) H
theorem op_eqN (hu : X.A.units < cLine) : OpR X (compareOp .Eq) (rEqN X.K false) := by
  intro pins s σ H x y v u Q I rx ry h
  obtain ⟨a, b, xs, rfl, rfl, ha, hb, q⟩ := h
  cases rx
  cases ry
  obtain ⟨its, r1, p1, _⟩ := I.list ha
  obtain ⟨its2, r2, p2, _⟩ := I.list hb
  have e2 : its2 = [] := r2.nil_iff.mpr rfl
  subst e2
  by_cases hx : xs = []
  · subst hx
    have e1 : its = [] := r1.nil_iff.mpr rfl
    subst e1
    exact SeqAt.eq_listAt (e := fun _ => true) p1.isList p2.isList rfl hu (fun j h1 _ => absurd h1 (by simp)) ⟨.bl true, H, I, rfl, q⟩
  · have e1 : its ≠ [] := fun z => hx (r1.nil_iff.mp z)
    have e : xs.isEmpty = false := by cases xs with
      | nil => exact absurd rfl hx
      | cons => rfl
    refine SeqAt.eq_list_lengthsAt p1.isList p2.isList ?_ hu ⟨.bl false, H, I, rfl, by rw [e] at q; exact q⟩
    cases its with
    | nil => exact absurd rfl e1
    | cons => simp
theorem op_neN (hu : X.A.units < cLine) : OpR X (compareOp .NotEq) (rEqN X.K true) := by
  intro pins s σ H x y v u Q I rx ry h
  obtain ⟨a, b, xs, rfl, rfl, ha, hb, q⟩ := h
  cases rx
  cases ry
  obtain ⟨its, r1, p1, _⟩ := I.list ha
  obtain ⟨its2, r2, p2, _⟩ := I.list hb
  have e2 : its2 = [] := r2.nil_iff.mpr rfl
  subst e2
  by_cases hx : xs = []
  · subst hx
    have e1 : its = [] := r1.nil_iff.mpr rfl
    subst e1
    exact SeqAt.RcNeAt.lists (e := fun _ => true) p1.isList p2.isList rfl hu (fun j h1 _ => absurd h1 (by simp)) X.prog X.w _ _ ⟨.bl false, H, I, rfl, q⟩
  · have e1 : its ≠ [] := fun z => hx (r1.nil_iff.mp z)
    have e : xs.isEmpty = false := by cases xs with
      | nil => exact absurd rfl hx
      | cons => rfl
    refine SeqAt.RcNeAt.lists_lengths p1.isList p2.isList ?_ hu X.prog X.w _ _ ⟨.bl true, H, I, rfl, by rw [e] at q; exact q⟩
    cases its with
    | nil => exact absurd rfl e1
    | cons => simp

/-! ### D.get(e), D a dict of the module -/
def KD (P : Program) (w : World) (K : PySem.W.Frag) (a : Addr) (kvs : List (Key × V)) : Prop := (a == sysModules) = false ∧ ∃ vs, KV kvs vs ∧ ∀ h : Heap, K.In h → h.DictOf (mixKind P w) a vs
def tKGet (kvs : List (Key × V)) (ty : TE) : TE := fun σ H Q => ty σ H fun y H1 => ∃ k, y = kV k ∧ Q ((valV kvs k).getD .non) H1
theorem pe_kget {x : Str} {a : Addr} {kvs : List (Key × V)} {e : Expr} {ty : TE} {p apos cpos : Pos} (hg : Gl X x) (hm : X.mg x = some (.ref a)) (kd : KD X.prog X.w X.K a kvs) (he : PE X e ty) (m : M1 X (.Name x p) "get" apos e cpos)
    (hd : (x == ("__debug__" : Str)) = false := by decide) : PE X (.Call (.Attribute (.Name x p) "get" apos) [e] [] cpos) (tKGet kvs ty) := by
  intro pins s σ H Q I h
  obtain ⟨hsm, vs, rel, hdd⟩ := kd
  refine wpAny_Call_method m.base m.few m.line PySem.F.plainAttrs_dict PySem.F.slot_dict_get PySem.F.type_dict_get (ld_glob I hg hm ?_ hd)
  have dd := hdd s.heap I.kIn
  refine ⟨dd.typeIs, fun b q => ?_, ?_⟩
  · cases q
    obtain ⟨ob, _, _, h1, h2, _⟩ := dd
    exact ⟨ob, h1, h2.2.1⟩
  rw [m.trees]
  refine Calls.callWith_builtin rfl (Calls.evalArgs_plain (Calls.spliced_cons (thn (he pins s σ H _ I h) fun iv s2 h2 => Calls.spliced_nil ?_)))
  obtain ⟨y, H2, I2, ry, k, rfl, q2⟩ := h2
  have dd2 := hdd s2.heap I2.kIn
  refine call_meetsIn PySem.F.slot_dict_get dd2.typeIs PySem.F.entry_dict_get (PySem.F.args_dict_get_2 _ _) (meets_dict_get (mixKind X.prog X.w) a (kV_is ry) hsm) ⟨_, dd2.mapOf, ?_⟩
  exact ⟨(valV kvs k).getD .non, H2, I2.tok _, RelO.getD (d := V.non) (rel.val k) rfl, q2⟩
end
end L2
end
section
set_option Elab.async false
set_option linter.all false
set_option maxRecDepth 100000
set_option maxHeartbeats 4000000
namespace L2
open PySem PySem.Spec PyProof.Rows
theorem places_rev0 (n : Nat) : ∃ lo hi : Int, Builtin.Slice.sliceAdjust none (some 0) (-1) (n : Int) = (lo, hi) ∧ Builtin.Slice.slicePlaces lo hi (-1) ≤ n := by
  refine ⟨(n : Int) - 1, min 0 ((n : Int) - 1), rfl, ?_⟩
  unfold Builtin.Slice.slicePlaces
  rw [if_neg (by decide), show (-(-1) : Int) = 1 from rfl, Int.ediv_one]
  split <;> omega
section
variable {prog : Program} {w : World} {A : Around} {E : Value → Shared → Prop} {s : Shared}
/-- t[:0:-1] -/
theorem getItem_tuple_rev0 {t sl : Addr} {its : List Value} {tk tk0 : Tok} {Q : Value → Shared → Prop} (ht : IsTup s.heap t its.toArray) (hs : s.heap.IsSliceOf sl .none (.int 0 tk0) (.int (-1) tk))
    (h : ∀ ix : List Nat, ix.length ≤ its.length → Q (.ref s.heap.objs.size) { s with heap := s.heap.push { cls := .type "tuple", data := .seq (ix.filterMap fun (i : Nat) => its[i]?).toArray } }) (hsz : its.length ≤ sizeLine) :
    wpAny (model prog w) A (getItem (.ref t) (.ref sl)) Q E s := by
  obtain ⟨os, hos, hcs, hds⟩ := id hs
  have hTs : s.TypeIs (.ref sl) "slice" := ⟨os, hos, hcs⟩
  unfold getItem
  try with_reducible refine wpAny_holding ?_
  first | refine wpAny_bind (wpAny_pure ?_) | skip
  refine wpAny_bind (wpAny_sequenceKey ht.typeIs (by decide) ?_)
  refine wpAny_bind (wpAny_callSpecial?_slot (name := Str.ofString "__getitem__") ht.typeIs PyProof.Rows.slot_tuple_getitem (wpAny_call_entry PyProof.Rows.slot_tuple_getitem ht.typeIs entry_tuple_getitem ?_ (args_tuple_getitem _ _)))
  show wpAny (model prog w) _ (Builtin.Tuple.tupleItemsOf (.ref t) >>= _) _ _ s
  refine wpAny_bind (tupleItemsOf_ ht ?_)
  refine wpAny_bind (wpAny_typeOf hTs ?_)
  rw [if_pos (by decide)]
  refine wpAny_bind ?_
  unfold Builtin.Slice.sliceApplied Builtin.Slice.sliceFields
  refine wpAny_bind (wpAny_bind (wpAny_field hos hds (x := .none) rfl (wpAny_bind (wpAny_field hos hds (x := .int 0 tk0) rfl (wpAny_bind (wpAny_field hos hds (x := .int (-1) tk) rfl (wpAny_pure ?_)))))))
  refine wpAny_bind (slicePart_int ?_)
  show wpAny (model prog w) _ (if ((-1 : Int) == 0) = true then _ else _) _ _ s
  rw [if_neg (by decide)]
  refine wpAny_bind (slicePart_none (wpAny_bind (slicePart_int (wpAny_bind (wpAny_pure ?_)))))
  have e1 : its.toArray.size = its.length := List.size_toArray
  show wpAny (model prog w) _ (match Builtin.Slice.sliceAdjust none (some 0) (-1) (its.toArray.size : Int) with | (lo, hi) => pure (lo, (-1 : Int), Builtin.Slice.slicePlaces lo hi (-1))) _ _ s
  obtain ⟨lo, hi, a1, a2⟩ := places_rev0 its.length
  rw [e1, a1]
  refine wpAny_pure ?_
  have hno : ¬ ((lo == 0 && (-1 : Int) == 1 && Builtin.Slice.slicePlaces lo hi (-1) == its.length) = true) := by
    intro q
    rw [Bool.and_eq_true, Bool.and_eq_true] at q
    exact absurd q.1.2 (by decide)
  generalize hm : Builtin.Slice.slicePlaces lo hi (-1) = m at a2 hno ⊢
  dsimp only
  rw [if_neg hno]
  have e2 : ((List.range m).filterMap fun (k : Nat) => its.toArray[(lo + (k : Int) * -1).toNat]?) = (((List.range m).map fun (k : Nat) => (lo + (k : Int) * -1).toNat).filterMap fun (i : Nat) => its[i]?) := by
    rw [List.filterMap_map]
    congr 1
    funext k
    simp
  rw [e2]
  have h' := h ((List.range m).map fun (k : Nat) => (lo + (k : Int) * -1).toNat) (by simpa using a2)
  have htake : sizeOk (.seq ((((List.range m).map fun (k : Nat) => (lo + (k : Int) * -1).toNat).filterMap fun (i : Nat) => its[i]?).toArray)) := by
    show ((((List.range m).map fun (k : Nat) => (lo + (k : Int) * -1).toNat).filterMap fun (i : Nat) => its[i]?).toArray).size ≤ sizeLine
    rw [List.size_toArray]
    refine Nat.le_trans (List.length_filterMap_le _ _) ?_
    simp
    omega
  first
    | exact wpAny_bind (m := Builtin.Tuple.tupleExact _) (wpAny_newObj_type (wpAny_pure ⟨_, rfl, wpAny_pure h'⟩) htake)
    | exact wpAny_bind (m := Builtin.Tuple.tupleExact _) (wpAny_newObj_type (wpAny_bind (wpAny_pure (wpAny_pure ⟨_, rfl, wpAny_pure h'⟩))) htake)
    | exact wpAny_bind (wpAny_bind (m := Builtin.Tuple.tupleExact _) (wpAny_newObj_type (wpAny_pure (wpAny_pure ⟨_, rfl, wpAny_pure h'⟩)) htake))
    | exact wpAny_bind (wpAny_bind (m := Builtin.Tuple.tupleExact _) (wpAny_newObj_type (wpAny_pure ⟨_, rfl, wpAny_pure h'⟩) htake))
end
def tRev0 (K : PySem.W.Frag) (te : TE) : TE := fun σ H Q => te σ H fun x H1 => ∃ a xs, x = .ref a ∧
   (SqT K H1 a xs ∧ ∀ ix : List Nat, (ix.filterMap fun (i : Nat) => xs[i]?).length ≤ xs.length → ∀ p, H1 p = none → Q (.ref p) (upd H1 p (.tup (ix.filterMap fun (i : Nat) => xs[i]?))))
section
variable {X : Cx}
theorem pe_rev0 {e : Expr} {te : TE} {p0 p1 p2 p3 pos : Pos} {j j0 : Nat} (he : PE X e te) : PE X (.Subscript e (.Slice none (some (.Constant (.int 0) j0 p0)) (some (.UnaryOp .USub (.Constant (.int 1) j p1) p2)) p3) pos) (tRev0 X.K te) := by
  intro pins s σ H Q I h
  refine Subscript_ (thn (he pins s σ H _ I h) fun v s1 h1 => ?_)
  obtain ⟨x, H1, I1, r1, q1⟩ := h1
  refine wpAny_Slice ?_
  rw [evalPart_none, evalPart_some, evalPart_some]
  refine wpAny_pure ?_
  refine thn (pe_int (X := X) (i := 0) (j := j0) (pos := p0) pins s1 σ H1 (fun v H2 => v = .int 0 ∧ H2 = H1) I1 ⟨rfl, rfl⟩) fun vs0 s10 h20 => ?_
  obtain ⟨y0, H10, I10, r20, rfl, rfl⟩ := h20
  obtain ⟨tk0, rfl⟩ := r20
  refine thn (pe_un (pos := p2) un_neg (pe_int (X := X) (i := 1) (j := j) (pos := p1)) pins s10 σ H10 (fun v H2 => v = .int (-1) ∧ H2 = H10) I10 ⟨1, rfl, rfl, rfl⟩) fun vs s2 h2 => ?_
  obtain ⟨y, H2, I2, r2, rfl, rfl⟩ := h2
  obtain ⟨tk, rfl⟩ := r2
  obtain ⟨a, xs, rfl, hx, q⟩ := q1
  cases r1
  have I4 : Inv X pins σ H2 { s2 with heap := s2.heap.push { cls := .type "slice", data := .fields #[.none, .int 0 tk0, .int (-1) tk] } } := I2.kept (t' := s2.toks) fun b ob q => Heap.get?_push_of_some _ q
  have hs : (s2.heap.push { cls := .type "slice", data := .fields #[.none, .int 0 tk0, .int (-1) tk] }).IsSliceOf s2.heap.objs.size .none (.int 0 tk0) (.int (-1) tk) := Heap.IsSliceOf.new ..
  show wpAny (model X.prog X.w) X.A (subscriptTail e (.Slice none (some (.Constant (.int 0) j0 p0)) (some (.UnaryOp .USub (.Constant (.int 1) j p1) p2)) p3) (.ref a) (.ref s2.heap.objs.size)) (EP X pins σ Q) X.xe { s2 with heap := s2.heap.push { cls := .type "slice", data := .fields #[.none, .int 0 tk0, .int (-1) tk] } }
  obtain ⟨its, r, ht, hz⟩ := I4.tuple hx
  have hl := r.length
  refine tail_any (ops := [.ref a, .ref s2.heap.objs.size]) ht.typeIs PyProof.Rows.slot_tuple_getitem.lookup ?_ (by with_unfolding_all rfl)
  refine getItem_tuple_rev0 ht hs (fun ix hix => ?_) (by omega)
  have rp := r.pick ix
  have hl2 := rp.length
  refine ⟨.ref _, _, I4.laid (t' := s2.toks) (o := .tup (ix.filterMap fun (i : Nat) => xs[i]?)) (fun b ob q => Heap.get?_push_of_some _ q) (Nat.le_refl _) ?_, rfl, q ix (by have := List.length_filterMap_le (fun (i : Nat) => xs[i]?) ix; omega) _ (I4.hok.fresh (Nat.le_refl _))⟩
  refine ⟨?_, _, rp, IsTup.new _ _⟩
  have := List.length_filterMap_le (fun (i : Nat) => xs[i]?) ix
  omega
end
end L2
end
section
set_option Elab.async false
set_option linter.all false
set_option maxRecDepth 100000
set_option maxHeartbeats 4000000
namespace PySem
open Sem (wp)
section
variable {prog : Program} {w : World} {A : Around} {E : Value → Shared → Prop} {h : Heap} {g : Array GenState} {d : Drawn} {t : Nat} {os : OsState} {a : Addr} {o : Obj}
theorem lk_list_keys : typeLookup (.type "list") "keys" = pure none := am_miss_of_fast (by decide +kernel)
theorem lk_list_ga : typeLookup (.type "list") "__getattr__" = pure none := am_miss_of_fast (by decide +kernel)
theorem lk_list_special_get : True := trivial
theorem keys_entry_list {tk : Tok} {its : Array Value} {n : Nat} {sl : Array (Option Value)} {Q : Fin → Shared → Prop} (hx : h.get? a = some ⟨.type "list", none, .seq its n, sl⟩) (hA : A.handled = none)
    (hq : ∀ h' tk e, Heap.NewAttrErr h h' e (.ref a) "keys" → E (.ref e) ⟨h', g, d, tk, os⟩) :
    wpAny (model prog w) A (Builtin.«object.__getattribute__» ⟨[.ref a, .str "keys" tk], []⟩) Q E ⟨h, g, d, t, os⟩ := by
  have hT : (⟨h, g, d, t, os⟩ : Shared).TypeIs (.ref a) "list" := ⟨_, hx, rfl⟩
  have f4 := lk_list_keys
  unfold Builtin.«object.__getattribute__»
  repeat (any_goals (first | assumption | wp_step))
  exact wpAny_raiseAttrError hA hq (attrMsg_fits (by decide +kernel) (by decide +kernel))
theorem keys_call_list {tk : Tok} {its : Array Value} {n : Nat} {sl : Array (Option Value)} {R : Result → Shared → Prop} (hx : h.get? a = some ⟨.type "list", none, .seq its n, sl⟩) (hA : A.handled = none)
    (hq : ∀ h' tk e, Heap.NewAttrErr h h' e (.ref a) "keys" → R (.error (.ref e)) ⟨h', g, d, tk, os⟩) :
    codeAny (model prog w) A (.call (.builtin "list.__getattribute__") ⟨[.ref a, .str "keys" tk], []⟩) R ⟨h, g, d, t, os⟩ :=
  codeAny_call_builtin F.slot_list_getattribute.plain F.entry_list_ga (F.slot_list_getattribute.check _ _ _ _ _ _ _ _ (show (⟨h, g, d, t, os⟩ : Shared).TypeIs (.ref a) "list" from ⟨_, hx, rfl⟩) (F.args_list_getattribute_2 _ _) (keys_entry_list hx hA hq))
theorem keys_attr_list {its : Array Value} {n : Nat} {sl : Array (Option Value)} {Q : Option Value → Shared → Prop} (hx : h.get? a = some ⟨.type "list", none, .seq its n, sl⟩) (hA : A.handled = none)
    (hq : ∀ h' tk e, Heap.NewAttrErr h h' e (.ref a) "keys" → Q none ⟨h', g, d, tk, os⟩) : wpAny (model prog w) A (getAttr? (.ref a) "keys") Q E ⟨h, g, d, t, os⟩ := by
  have hT : (⟨h, g, d, t, os⟩ : Shared).TypeIs (.ref a) "list" := ⟨_, hx, rfl⟩
  have f1 := sub_AttributeError
  have f2 := F.slot_list_getattribute.lookup
  have f3 := F.slot_list_getattribute.bind (.ref a)
  have f5 := lk_list_ga
  unfold getAttr? getAttrBy? getAttrBy
  repeat (any_goals (first | assumption | wp_step))
  refine keys_call_list hx hA fun h' tk' e hx' => ?_
  obtain ⟨t', u', he⟩ := hx'.there
  show wpAny _ _ (getattributeRaised _ _ _ _ _ _ _) _ _ _
  unfold getattributeRaised
  repeat (any_goals (first | assumption | wp_step))
  exact hq _ _ _ hx'
theorem entry_update_loop : entryFor table "dict.update.loop" = some Builtin.«dict.update.loop» := entryFor_of_tree (by kernel_rfl)
theorem plain_update_loop : plainId "dict.update.loop" = true := by decide +kernel
end
/-- the pairs that stand in the list from its i-th item on -/
inductive PairsAt {prog : Program} {w : World} {K : Type} [DecidableEq K] (knd : KeyKind prog w K) (h : Heap) : List Value → List (K × Value) → Prop
  | nil : PairsAt knd h [] []
  | cons {p : Addr} {k : K} {key v : Value} {vs : List Value} {kvs : List (K × Value)} : h.IsTuple p #[key, v] → knd.is k key = true → PairsAt knd h vs kvs → PairsAt knd h (.ref p :: vs) ((k, v) :: kvs)
section
variable {prog : Program} {w : World} {K : Type} [DecidableEq K] {knd : KeyKind prog w K} {A : Around} {E : Value → Shared → Prop} {s : Shared}
theorem update_loop {it l d : Addr} {items : Array Value} (hA : A.handled = none) (hdit : it ≠ d) (hdl : l ≠ d) (hitl : it ≠ l) : ∀ (rest : List Value) (more : List (K × Value)) (i : Nat) (kvs : List (K × Value)) (s : Shared) (tk : Tok) (R : Result → Shared → Prop),
    items.toList.drop i = rest → s.heap.IsListIter it l i → s.heap.IsList l items → s.heap.DictOf knd d kvs → PairsAt knd s.heap rest more → kvs.length + rest.length ≤ sizeLine →
    (∀ h' tk', h'.DictOf knd d (merged kvs more) → (∀ b o, b ≠ d → b ≠ it → s.heap.get? b = some o → h'.get? b = some o) → R (.ok (.ret .none)) { s with heap := h', toks := tk' }) →
    codeAny (model prog w) A (.builtin "dict.update.loop" ⟨[.ref d, .ref it, .int i tk, .none], []⟩) R s := by
  intro rest
  induction rest with
  | nil =>
    intro more i kvs s tk R hr hit hl hd hp hz hq
    cases hp
    refine codeAny_builtin entry_update_loop ?_
    unfold Builtin.«dict.update.loop»
    refine wpAny_bind (wpAny_pyNext_list_end hA hit hl ?_ fun h' he => ?_)
    · have : items.toList.length ≤ i := by simpa using hr
      simp at this
      simpa using this
    · show wpAny _ _ (Builtin.Dict.addKeywords d [] >>= fun _ => ret .none) _ _ _
      refine wpAny_bind (wpAny_pure (wpAny_pure ?_))
      obtain ⟨o, es, ep, ho, r⟩ := hd
      exact hq h' s.toks ⟨o, es, ep, he d o (Ne.symm hdit) ho, r⟩ fun b o _ hb e => he b o hb e
  | cons v rest ih =>
    intro more i kvs s tk R hr hit hl hd hp hz hq
    cases hp with
    | @cons p k key v' _ more' htp hkey hp' =>
    have hx : items[i]? = some (.ref p) := by
      have : (items.toList.drop i)[0]? = some (.ref p) := by rw [hr]; rfl
      simpa using this
    have hr' : items.toList.drop (i + 1) = rest := by
      have := congrArg List.tail hr
      simpa using this
    refine codeAny_builtin entry_update_loop ?_
    unfold Builtin.«dict.update.loop»
    refine wpAny_bind (wpAny_pyNext_list_item hit hl hx fun h1 hit1 sb1 => ?_)
    have pd : p ≠ d := fun z => by
      obtain ⟨o1, e1, c1, _⟩ := htp
      obtain ⟨o2, _, _, e2, c2, _⟩ := hd
      rw [z, e2] at e1
      cases e1
      rw [c2.1] at c1
      injection c1 with c1
      exact absurd c1 (by decide)
    have pit : p ≠ it := fun z => by
      obtain ⟨o1, e1, c1, _⟩ := htp
      obtain ⟨o2, e2, c2, _⟩ := hit
      rw [z, e2] at e1
      cases e1
      rw [c2] at c1
      injection c1 with c1
      exact absurd c1 (by decide)
    have hd1 : h1.DictOf knd d kvs := by
      obtain ⟨o, es, ep, ho, r⟩ := hd
      exact ⟨o, es, ep, (sb1.2 d (Ne.symm hdit)).trans ho, r⟩
    obtain ⟨op, hop, cop, np, dop⟩ := htp
    have hop1 : h1.get? p = some op := (sb1.2 p pit).trans hop
    show wpAny _ _ (holding [Value.ref p] _ >>= fun _ => again _) _ _ _
    refine wpAny_bind (wpAny_holding ?_)
    refine wpAny_bind (wpAny_tryCatch ?_)
    unfold Builtin.Dict.pairItems
    refine wpAny_bind (wpAny_typeOf (T := "tuple") ⟨op, hop1, cop⟩ ?_)
    rw [if_pos (by decide)]
    refine wpAny_bind (wpAny_seqItems hop1 dop (wpAny_pure ?_))
    show wpAny _ _ (holding [key, v'] (dictSet d key v')) _ _ _
    refine wpAny_holding (wpAny_dictSet_pairs hkey hd1 (fun h2 hd2 sb2 => ?_) (by simp only [List.length_cons] at hz; omega))
    refine wpAny_pure ⟨Code.quiet_builtin _ (by decide +kernel), ?_⟩
    have keep2 : ∀ b o, b ≠ d → b ≠ it → s.heap.get? b = some o → h2.get? b = some o := fun b o hb hbi e => (sb2.2 b hb).trans ((sb1.2 b hbi).trans e)
    have hit2 : h2.IsListIter it l (i + 1) := by
      obtain ⟨o, e, r⟩ := hit1
      exact ⟨o, (sb2.2 it hdit).trans e, r⟩
    have hl2 : h2.IsList l items := by
      obtain ⟨o, e, r⟩ := hl
      exact ⟨o, keep2 l o hdl (Ne.symm hitl) e, r⟩
    have hp2 : PairsAt knd h2 rest more' := by
      clear hr hq hz ih hr'
      induction hp' with
      | nil => exact .nil
      | @cons q k2 key2 v2 vs2 kvs2 htq hk2 _ ih2 =>
        refine .cons ?_ hk2 ih2
        obtain ⟨oq, eq, cq, rq⟩ := htq
        refine ⟨oq, keep2 q oq (fun z => ?_) (fun z => ?_) eq, cq, rq⟩
        · obtain ⟨o2, _, _, e2, c2, _⟩ := hd
          rw [z, e2] at eq
          cases eq
          rw [c2.1] at cq
          injection cq with cq
          exact absurd cq (by decide)
        · obtain ⟨o2, e2, c2, _⟩ := hit
          rw [z, e2] at eq
          cases eq
          rw [c2] at cq
          injection cq with cq
          exact absurd cq (by decide)
    have ei : rawInt ((i : Int) + 1) = .int ((i + 1 : Nat) : Int) 0 := rfl
    rw [ei]
    refine ih more' (i + 1) (stored kvs k v') _ 0 R hr' hit2 hl2 hd2 hp2 ?_ fun h' tk' hd' kp => ?_
    · have : (stored kvs k v').length ≤ kvs.length + 1 := by
        unfold stored
        split <;> simp
      simp only [List.length_cons] at hz
      omega
    · exact hq h' tk' hd' fun b o hb hbi e => kp b o hb hbi (keep2 b o hb hbi e)
end
end PySem
end
section
set_option Elab.async false
set_option linter.all false
set_option maxRecDepth 100000
set_option maxHeartbeats 4000000
namespace PySem
section
variable {prog : Program} {w : World} {K : Type} [DecidableEq K] {knd : KeyKind prog w K} {A : Around} {E : Value → Shared → Prop} {s : Shared}
theorem PairsAt.keep {h h' : Heap} {vs : List Value} {more : List (K × Value)} (hp : PairsAt knd h vs more) (k : ∀ b o, h.get? b = some o → h'.get? b = some o) : PairsAt knd h' vs more := by
  induction hp with
  | nil => exact .nil
  | cons ht hk _ ih =>
    obtain ⟨o, e, r⟩ := ht
    exact .cons ⟨o, k _ _ e, r⟩ hk ih
theorem call_dict_pairs {l : Addr} {its : Array Value} {n : Nat} {sl : Array (Option Value)} {more : List (K × Value)} {Q : Value → Shared → Prop} (hA : A.handled = none) (hl : s.heap.get? l = some ⟨.type "list", none, .seq its n, sl⟩) (hp : PairsAt knd s.heap its.toList more) (hsz : its.size ≤ sizeLine)
    (h : ∀ h' tk, (∀ b o, s.heap.get? b = some o → h'.get? b = some o) → h'.DictOf knd s.heap.objs.size (merged [] more) → Q (.ref s.heap.objs.size) { s with heap := h', toks := tk }) :
    wpAny (model prog w) A (call (.type "dict") [.ref l]) Q E s := by
  refine callType_codes (Q₁ := fun obj s₁ => obj = .ref s.heap.objs.size ∧ s₁ = { s with heap := s.heap.push { cls := .type "dict", data := .dict #[] } }) F.kt_called_dict (F.kt_typeCall_dict_1 _) F.entry_dict_init (kt_code_dict_new _ ⟨rfl, rfl⟩) ?_
  rintro obj s₁ ⟨rfl, rfl⟩
  have hnew : (s.heap.push { cls := .type "dict", data := .dict #[] }).DictOf knd s.heap.objs.size [] := Heap.DictOf.new s.heap
  have hl0 : (s.heap.push { cls := .type "dict", data := .dict #[] }).get? l = some ⟨.type "list", none, .seq its n, sl⟩ := Heap.get?_push_of_some _ hl
  refine ⟨hnew.typeIs, F.args_dict_init_2 _ _, ?_⟩
  unfold Builtin.«dict.__init__»
  refine wpAny_bind ?_
  unfold Builtin.Dict.selfAndRest
  refine wpAny_bind (wpAny_notOrdered_dict hnew.typeIs ?_)
  show wpAny _ _ (pure (s.heap.objs.size, [Value.ref l])) _ _ _
  refine wpAny_pure ?_
  show wpAny _ _ (Builtin.Dict.updateFrom "dict.__init__" s.heap.objs.size (.ref l) [] .none) _ _ _
  unfold Builtin.Dict.updateFrom
  refine wpAny_bind (wpAny_typeOf (T := "list") ⟨_, hl0, rfl⟩ ?_)
  rw [if_pos (by decide)]
  refine wpAny_bind (keys_attr_list hl0 hA fun h1 tk1 e1 ne1 => ?_)
  rw [if_pos (by rfl)]
  refine wpAny_bind (wpAny_rule ?_)
  have k1 : ∀ b o, (s.heap.push { cls := .type "dict", data := .dict #[] }).get? b = some o → h1.get? b = some o := ne1.keeps
  have hl1 := k1 l _ hl0
  refine wpAny_bind (wpAny_pyIter_list (items := its) ⟨_, hl1, rfl, _, rfl⟩ ?_)
  have dlt : s.heap.objs.size < h1.objs.size := by
    obtain ⟨o, _, _, ho, _⟩ := hnew
    exact Heap.lt_size (k1 _ _ ho)
  have llt : l < s.heap.objs.size := Heap.lt_size hl
  refine wpAny_pure ⟨Code.quiet_builtin _ (by decide +kernel), ?_⟩
  have k2 : ∀ b o, h1.get? b = some o → (h1.push { cls := .type "list_iterator", data := .fields #[.ref l, .int 0 0] }).get? b = some o := fun b o e => Heap.get?_push_of_some _ e
  refine update_loop (knd := knd) (A := A.in1) (it := h1.objs.size) (l := l) (items := its) hA (Nat.ne_of_gt dlt) (Nat.ne_of_lt llt) (Nat.ne_of_gt (Nat.lt_trans llt dlt)) its.toList more 0 [] _ 0 _ rfl ?_ ?_ ?_ ?_ (by simpa using hsz) fun h' tk' hd' kp => ?_
  · exact ⟨_, Heap.get?_push_size _ rfl, rfl, rfl⟩
  · exact ⟨_, k2 _ _ hl1, rfl, n, rfl⟩
  · obtain ⟨o, es, ep, ho, r⟩ := hnew
    exact ⟨o, es, ep, k2 _ _ (k1 _ _ ho), r⟩
  · exact hp.keep fun b o e => k2 b o (k1 b o (Heap.get?_push_of_some _ e))
  · refine ⟨rfl, h h' tk' (fun b o e => ?_) hd'⟩
    have bl := Heap.lt_size e
    exact kp b o (Nat.ne_of_lt bl) (Nat.ne_of_lt (Nat.lt_trans bl dlt)) (k2 b o (k1 b o (Heap.get?_push_of_some _ e)))
end
end PySem
namespace L2
open PySem PySem.Spec PyProof.Rows
section
variable {X : Cx}
/-- the pairs of a list -/
inductive PrsV (K : PySem.W.Frag) (H : Hp) : List V → List (Key × V) → Prop where
  | nil : PrsV K H [] []
  | cons {p : Addr} {k : Key} {v : V} {vs : List V} {kvs : List (Key × V)} : SqT K H p [kV k, v] → PrsV K H vs kvs → PrsV K H (.ref p :: vs) ((k, v) :: kvs)
theorem PrsV.at {pins : List (Addr × Obj)} {σ : St} {H : Hp} {s : Shared} (I : Inv X pins σ H s) {vs : List V} {kvs : List (Key × V)} (h : PrsV X.K H vs kvs) : ∀ {us : List Value}, Vals vs us → ∃ more, PairsAt (mixKind X.prog X.w) s.heap us more ∧ KV kvs more := by
  induction h with
  | nil => intro us r; cases r; exact ⟨[], .nil, .nil⟩
  | @cons p k v vs kvs ht _ ih =>
    intro us r
    cases r with
    | @cons _ u _ us' ru rr =>
      obtain ⟨more, h1, h2⟩ := ih rr
      cases ru
      obtain ⟨its, r', pt, _⟩ := I.tuple ht
      obtain ⟨a, b, rfl, ra, rb⟩ := vals2 r'
      exact ⟨(k, b) :: more, .cons pt (kV_is ra) h1, .cons ⟨rfl, rb⟩ h2⟩
theorem call_dict_of (hc : X.calm = true) : CallR X (.type "dict") (fun xs H Q => (∃ a ps kvs, xs = [.ref a] ∧ SqL X.K H a ps ∧ PrsV X.K H ps kvs ∧ ∀ p, H p = none → Q (.ref p) (upd H p (.dK (mergeK [] kvs)))) ∨
    ∃ a kvs, xs = [.ref a] ∧ Rd H a (.dK kvs) ∧ ∀ p, H p = none → Q (.ref p) (upd H p (.dK kvs))) := by
  intro pins s σ H xs us Q I r h
  rcases h with ⟨a, ps, kvs, rfl, hs, hp, q⟩ | ⟨a, kvs, rfl, hd, q⟩
  · obtain ⟨u, rfl, rx⟩ := vals1 r
    cases rx
    obtain ⟨its, r', pl, hz⟩ := I.list hs
    have hlen := r'.length
    obtain ⟨more, pa, kv⟩ := hp.at I r'
    obtain ⟨o, n, ho, c1, c2, c3⟩ := pl
    obtain ⟨oc, od, odt, osl⟩ := o
    cases c1; cases c2; cases c3
    refine call_dict_pairs (I.ok.hd hc) ho (by simpa using pa) (by simp; omega) fun h' tk kp dd => ?_
    have hn : ∀ {ps : List V} {kvs : List (Key × V)}, PrsV X.K H ps kvs → ps.length = kvs.length := fun h => by
      induction h with
      | nil => rfl
      | cons _ _ ih => simp only [List.length_cons, ih]
    have hl2 := hn hp
    refine ⟨.ref s.heap.objs.size, _, I.laid (t' := tk) kp (Nat.le_refl _) (dk_new ?_ ?_ (kv.merge .nil) dd), rfl, q _ (I.hok.fresh (Nat.le_refl _))⟩
    · have := length_mergeK kvs []
      rw [List.length_nil] at this
      omega
    · exact beq_eq_false_iff_ne.mpr (Ne.symm (Nat.ne_of_lt I.big))
  · obtain ⟨u, rfl, rx⟩ := vals1 r
    cases rx
    obtain ⟨z, hs, vs, kv, dd⟩ := dk_rd I.hok hd
    refine kt_call_dict hs dd (by rw [← kv.length]; exact z) fun h' dd' sb => ?_
    refine ⟨.ref s.heap.objs.size, _, I.laid (t' := s.toks) (fun b o e => ?_) (Nat.le_refl _) (dk_new z ?_ kv dd'), rfl, q _ (I.hok.fresh (Nat.le_refl _))⟩
    · exact (sb.2 b (Nat.ne_of_lt (Heap.lt_size e))).trans (Heap.get?_push_of_some _ e)
    · exact beq_eq_false_iff_ne.mpr (Ne.symm (Nat.ne_of_lt I.big))
theorem kv_at {kvs : List (Key × V)} {vs : List (Key × Value)} (r : KV kvs vs) : ∀ {i : Nat} {k : Key} {x : Value}, vs[i]? = some (k, x) → ∃ y, kvs[i]? = some (k, y) := by
  unfold KV at r
  induction r with
  | nil => intro i k x e; simp at e
  | @cons p q ps qs h t ih =>
    intro i k x e
    cases i with
    | zero =>
      simp at e
      subst e
      obtain ⟨p1, p2⟩ := p
      exact ⟨p2, by have := h.1; simp at this; simp [this]⟩
    | succ i => simpa using ih (i := i) (by simpa using e)
/-- list(d): its keys -/
theorem call_list_keys (hc : X.calm = true) : CallR X (.type "list") (fun xs H Q => ∃ a kvs, xs = [.ref a] ∧ Rd H a (.dK kvs) ∧ ∀ p, H p = none → Q (.ref p) (upd H p (.lst (kvs.map fun kv => kV kv.1)))) := by
  intro pins s σ H xs us Q I r h
  obtain ⟨a, kvs, rfl, hd, q⟩ := h
  obtain ⟨u, rfl, rx⟩ := vals1 r
  cases rx
  obtain ⟨z, hs, vs, kv, dd⟩ := dk_rd I.hok hd
  obtain ⟨o, es, ep, ho, hx, hdt, hk, hpr, hnd⟩ := dd
  refine PySem.W.kdl_call (PySem.W.kdl_dict (knd := mixKind X.prog X.w) (kvs := vs) (ep := ep) hs) (I.ok.hd hc) ⟨o, es, ho, hx, hdt, hk, hpr, hnd⟩ (by rw [← kv.length]; exact z) fun h' tk acc c' kp e hi => ?_
  have hv : Vals (kvs.map fun kv => kV kv.1) acc.toList := by
    have : ∀ (ws : List Value) (kvs : List (Key × V)), ws.length = kvs.length → (∀ (i : Nat) v, ws[i]? = some v → ∃ k x, kvs[i]? = some (k, x) ∧ keyIs k v = true) → Vals (kvs.map fun kv => kV kv.1) ws := by
      intro ws
      induction ws with
      | nil =>
        intro kvs hl _
        cases kvs with
        | nil => exact .nil
        | cons => simp at hl
      | cons v ws ih =>
        intro kvs hl hv
        cases kvs with
        | nil => simp at hl
        | cons p kvs =>
          obtain ⟨k, x, e1, e2⟩ := hv 0 v rfl
          cases e1
          refine .cons ?_ (ih kvs (by simpa using hl) fun i v e => ?_)
          · rcases keyIs_shape e2 with ⟨i, t, rfl, rfl⟩ | ⟨x, t, rfl, rfl⟩
            · exact ⟨t, rfl⟩
            · exact ⟨t, rfl⟩
          · exact hv (i + 1) v (by simpa using e)
    refine this _ _ ?_ fun i v e => ?_
    · rw [Array.length_toList, hi.1, kv.length]
    · obtain ⟨k, x, e1, e2⟩ := hi.2 i v (by simpa using e)
      obtain ⟨y, hy⟩ := kv_at kv e1
      exact ⟨k, y, hy, e2⟩
  refine ⟨.ref s.heap.objs.size, _, I.laid (t' := tk) kp (Nat.le_refl _) (show ObjOk X.prog X.w _ h' _ (.lst (kvs.map fun kv => kV kv.1)) from ⟨by rw [List.length_map]; exact z, acc.toList, c', hv, by simpa using e⟩), rfl, q _ (I.hok.fresh (Nat.le_refl _))⟩
end
end L2
end
section
set_option Elab.async false
set_option linter.all false
set_option maxRecDepth 100000
set_option maxHeartbeats 4000000
namespace PySem
/-- the two are the same data: == says so -/
def EqP (prog : Program) (w : World) (A : Around) (s : Shared) (y x : Value) : Prop := ∀ (E : Value → Shared → Prop) (Q : Bool → Shared → Prop), Q true s → wpAny (model prog w) A (eqBool y x) Q E s
def RcP (prog : Program) (w : World) (A : Around) (s : Shared) (y x : Value) : Prop := ∀ (E : Value → Shared → Prop) (Q : Value → Shared → Prop), Q (.bool true) s → wpAny (model prog w) A (richCompare .Eq y x) Q E s
section
variable {prog : Program} {w : World} {A : Around} {s : Shared}
theorem EqP.same (v : Value) : EqP prog w A s v v := fun E Q q => SeqAt.EqAt.same v prog w E Q q
theorem EqP.refs {l b : Addr} (h : RcP prog w A s (.ref l) (.ref b)) : EqP prog w A s (.ref l) (.ref b) := fun E Q q => by
  by_cases e : l = b
  · subst e
    exact EqP.same _ E Q q
  · unfold eqBool
    refine wpAny_holding ?_
    refine wpAny_ite_split (fun z => absurd (by have z := eq_of_beq z; injection z) e) (fun _ => ?_)
    exact wpAny_bind (h E _ (wpAny_truthy_bool q))
theorem eqP_loop {l b : Addr} {xs ys : Array Value} {n1 n2 : Nat} {d1 d2 : Option Addr} {s1 s2 : Array (Option Value)} (hs : xs.size = ys.size) : ∀ (k i : Nat), xs.size - i = k → MeetsIn prog w (Builtin.«list.__eq__.loop» ⟨[.ref l, .ref b, rawInt i, rawInt 2], []⟩)
    (fun A R s => s.heap.get? l = some ⟨.type "list", d1, .seq xs n1, s1⟩ ∧ s.heap.get? b = some ⟨.type "list", d2, .seq ys n2, s2⟩ ∧ (∀ (j : Nat) (a1 : j < xs.size) (a2 : j < ys.size), EqP prog w A.in1 s xs[j] ys[j]) ∧ R (.ok (.ret (.bool true))) s) := by
  intro k
  induction k with
  | zero =>
    intro i hk A R s h
    obtain ⟨hp, g, d, tk, os⟩ := s
    obtain ⟨g1, g2, he, h⟩ := h
    wp_walk using AutoSeq1.wpAny_loadPart' g1, AutoSeq1.wpAny_loadPart' g2
    have z1 : xs[((i : Nat) : Int).toNat]? = none := by simp; omega
    have z2 : ys[((i : Nat) : Int).toNat]? = none := by simp; omega
    rw [z1, z2]
    wp_walk using AutoSeq1.wpAny_loadPart' g1, AutoSeq1.wpAny_loadPart' g2
    show R (.ok (.ret (.bool (xs.size == ys.size)))) _
    rw [hs]
    simpa using h
  | succ k ih =>
    intro i hk A R s h
    obtain ⟨hp, g, d, tk, os⟩ := s
    obtain ⟨g1, g2, he, h⟩ := h
    wp_walk using AutoSeq1.wpAny_loadPart' g1, AutoSeq1.wpAny_loadPart' g2
    have l1 : i < xs.size := by omega
    have l2 : i < ys.size := by omega
    have z1 : xs[((i : Nat) : Int).toNat]? = some xs[i] := by simp [l1]
    have z2 : ys[((i : Nat) : Int).toNat]? = some ys[i] := by simp [l2]
    have hc : ((i : Int) + 1) = ((i + 1 : Nat) : Int) := by omega
    rw [z1, z2]
    refine wpAny_bind (he i l1 l2 _ _ ?_)
    wp_walk
    rw [hc]
    refine ⟨plainId_quiet MeetsSeq3.plain_eq_loop _, codeAny_builtin MeetsSeq3.entry_eq_loop ?_⟩
    rw [Around.under_plainId MeetsSeq3.plain_eq_loop _]
    exact ih (i + 1) (by omega) A R _ ⟨g1, g2, he, h⟩
theorem RcP.lists {l b : Addr} {xs ys : Array Value} (h1 : s.heap.IsList l xs) (h2 : s.heap.IsList b ys) (hs : xs.size = ys.size) (hu : A.units < cLine) (he : ∀ (j : Nat) (a1 : j < xs.size) (a2 : j < ys.size), EqP prog w A.in1 s xs[j] ys[j]) : RcP prog w A s (.ref l) (.ref b) := fun E Q q => by
  obtain ⟨⟨c1, d1, dt1, s1⟩, e1, e2, n1, e3⟩ := id h1
  obtain ⟨⟨c2, d2, dt2, s2⟩, f1, f2, n2, f3⟩ := id h2
  simp only at e2 e3 f2 f3
  subst e2 e3 f2 f3
  have M : MeetsIn prog w (Builtin.«list.__eq__» ⟨[.ref l, .ref b], []⟩) (fun A R s => s.heap.get? l = some ⟨.type "list", d1, .seq xs n1, s1⟩ ∧ s.heap.get? b = some ⟨.type "list", d2, .seq ys n2, s2⟩ ∧ (∀ (j : Nat) (a1 : j < xs.size) (a2 : j < ys.size), EqP prog w A.in1 s xs[j] ys[j]) ∧ R (.ok (.ret (.bool true))) s) := by
    intro A R s h
    obtain ⟨hp, g, d, tk, os⟩ := s
    obtain ⟨g1, g2, he, h⟩ := h
    have f := AutoSeq1.sub_list_list
    have ne : ¬ (xs.size != ys.size) = true := by simp [hs]
    wp_walk using AutoSeq1.wpAny_loadPart' g1, AutoSeq1.wpAny_loadPart' g2
    refine ⟨plainId_quiet MeetsSeq3.plain_eq_loop _, codeAny_builtin MeetsSeq3.entry_eq_loop ?_⟩
    rw [Around.under_plainId MeetsSeq3.plain_eq_loop _]
    exact eqP_loop hs _ 0 rfl A R _ ⟨g1, g2, he, h⟩
  exact wpAny_richCompare_same_room (op := .Eq) ⟨_, e1, rfl⟩ ⟨_, f1, rfl⟩ F.slot_list_eq (call_meetsIn F.slot_list_eq ⟨_, e1, rfl⟩ F.entry_list_eq (F.args_list_eq_2 _ _) M ⟨e1, f1, he, (fun z => nomatch z), q⟩) hu
end
end PySem
end
section
set_option Elab.async false
set_option linter.all false
set_option maxRecDepth 100000
set_option maxHeartbeats 4000000
namespace L2
open PySem PySem.Spec PyProof.Rows
/-- the same data, no dicts, at most n deep -/
inductive SameD (K : PySem.W.Frag) (H : Hp) : Nat → V → V → Prop where
  | non {n : Nat} : SameD K H n .non .non
  | bl {n : Nat} (b : Bool) : SameD K H n (.bl b) (.bl b)
  | int {n : Nat} (i : Int) : SameD K H n (.int i) (.int i)
  | str {n : Nat} (x : Str) : SameD K H n (.str x) (.str x)
  | lst {n : Nat} {a b : Addr} {xs ys : List V} : SqL K H a xs → SqL K H b ys → xs.length = ys.length → (∀ (i : Nat) x y, xs[i]? = some x → ys[i]? = some y → SameD K H n x y) → SameD K H (n + 1) (.ref a) (.ref b)
  | tup {n : Nat} {a b : Addr} {xs ys : List V} : SqT K H a xs → SqT K H b ys → xs.length = ys.length → (∀ (i : Nat) x y, xs[i]? = some x → ys[i]? = some y → SameD K H n x y) → SameD K H (n + 1) (.ref a) (.ref b)
/-- the same data, with dicts in lists -/
inductive SameP (K : PySem.W.Frag) (H : Hp) : Nat → V → V → Prop where
  | d {n : Nat} {x y : V} : SameD K H n x y → SameP K H n x y
  | lst {n : Nat} {a b : Addr} {xs ys : List V} : SqL K H a xs → SqL K H b ys → xs.length = ys.length → (∀ (i : Nat) x y, xs[i]? = some x → ys[i]? = some y → SameP K H n x y) → SameP K H (n + 1) (.ref a) (.ref b)
  | dct {n : Nat} {a b : Addr} {kxs kys : List (Key × V)} : Rd H a (.dK kxs) → Rd H b (.dK kys) → kxs.length = kys.length → (∀ (i : Nat) x y, kxs[i]? = some x → kys[i]? = some y → x.1 = y.1 ∧ SameD K H n x.2 y.2) → SameP K H (n + 1) (.ref a) (.ref b)
section
variable {X : Cx} {pins : List (Addr × Obj)} {σ : St} {H : Hp} {s : Shared}
theorem vals_at {xs : List V} {us : List Value} (r : Vals xs us) {i : Nat} {u : Value} (e : us[i]? = some u) : ∃ x, xs[i]? = some x ∧ RelV x u := by
  have hi := (List.getElem?_eq_some_iff.mp e).1
  have hl := r.length
  have ex : xs[i]? = some (xs[i]'(by omega)) := List.getElem?_eq_getElem (by omega)
  obtain ⟨u', h1, h2⟩ := r.get ex
  rw [e] at h1
  cases h1
  exact ⟨_, ex, h2⟩
theorem SameD.eqAt (I : Inv X pins σ H s) : ∀ {n : Nat} {x y : V}, SameD X.K H n x y → ∀ (A : Around) (u w' : Value), A.units + n < cLine → RelV x u → RelV y w' → SeqAt.EqAt A s u w' true := by
  intro n x y h
  induction h with
  | non => intro A u w' _ r1 r2; cases r1; cases r2; exact SeqAt.EqAt.same _
  | bl b => intro A u w' _ r1 r2; cases r1; cases r2; exact SeqAt.EqAt.same _
  | int i =>
    intro A u w' _ r1 r2
    obtain ⟨t, rfl⟩ := r1
    obtain ⟨t', rfl⟩ := r2
    have q := SeqAt.EqAt.int_int (A := A) (s := s) i t i t'
    rw [beq_self_eq_true] at q
    exact q
  | str z =>
    intro A u w' _ r1 r2
    obtain ⟨t, rfl⟩ := r1
    obtain ⟨t', rfl⟩ := r2
    have q := SeqAt.EqAt.str_str (A := A) (s := s) z t z t'
    rw [beq_self_eq_true] at q
    exact q
  | @lst n a b xs ys hx hy hl _ ih =>
    intro A u w' hu r1 r2
    cases r1
    cases r2
    by_cases e : a = b
    · subst e; exact SeqAt.EqAt.same _
    obtain ⟨its, r, p1, z1⟩ := I.list hx
    obtain ⟨jts, r', p2, z2⟩ := I.list hy
    have l1 := r.length
    have l2 := r'.length
    have q := SeqAt.RcAt.lists (A := A) (e := fun _ => true) p1.isList p2.isList (by simp; omega) (by omega) fun j h1 h2 => by
      have e1 : its[j]? = some its.toArray[j] := by simp at h1; simp [h1]
      have e2 : jts[j]? = some jts.toArray[j] := by simp at h2; simp [h2]
      obtain ⟨x, ex, rx⟩ := vals_at r e1
      obtain ⟨y, ey, ry⟩ := vals_at r' e2
      exact ih j x y ex ey A.in1 _ _ (by show A.units + 1 + n < cLine; omega) rx ry
    rw [show ((List.range its.toArray.size).all fun _ => true) = true by simp] at q
    exact SeqAt.EqAt.of_refs e q
  | @tup n a b xs ys hx hy hl _ ih =>
    intro A u w' hu r1 r2
    cases r1
    cases r2
    by_cases e : a = b
    · subst e; exact SeqAt.EqAt.same _
    obtain ⟨its, r, p1, z1⟩ := I.tuple hx
    obtain ⟨jts, r', p2, z2⟩ := I.tuple hy
    have l1 := r.length
    have l2 := r'.length
    have q := SeqAt.RcAt.tuples (A := A) (e := fun _ => true) (show s.heap.IsTuple a its.toArray from p1) (show s.heap.IsTuple b jts.toArray from p2) (by omega) fun j h1 h2 => by
      have e1 : its[j]? = some its.toArray[j] := by simp at h1; simp [h1]
      have e2 : jts[j]? = some jts.toArray[j] := by simp at h2; simp [h2]
      obtain ⟨x, ex, rx⟩ := vals_at r e1
      obtain ⟨y, ey, ry⟩ := vals_at r' e2
      exact ih j x y ex ey A.in1 _ _ (by show A.units + 1 + n < cLine; omega) rx ry
    rw [show (((List.range (min its.toArray.size jts.toArray.size)).all fun _ => true) && its.toArray.size == jts.toArray.size) = true by simp; omega] at q
    exact SeqAt.EqAt.of_refs e q
theorem kv_same {kxs kys : List (Key × V)} {vs ws : List (Key × Value)} (r : KV kxs vs) (r' : KV kys ws) (i : Nat) {k : Key} {v : Value} (e : vs[i]? = some (k, v)) : ∃ x, kxs[i]? = some (k, x) ∧ RelV x v := by
  unfold KV at r
  clear r'
  induction r generalizing i with
  | nil => simp at e
  | @cons p q ps qs h t ih =>
    cases i with
    | zero =>
      simp at e
      subst e
      obtain ⟨p1, p2⟩ := p
      exact ⟨p2, by have := h.1; simp at this; simp [this], h.2⟩
    | succ i => simpa using ih (i := i) (by simpa using e)
theorem hits_same {A : Around} {ka kb : List (Key × Value)} (nd : (kb.map (·.1)).Nodup) (hl : ka.length = kb.length) (h : ∀ (i : Nat) k v k' v', ka[i]? = some (k, v) → kb[i]? = some (k', v') → k = k' ∧ SeqAt.EqAt A s v v' true) : PySem.W.KeqHits A s kb ka true := by
  have key : ∀ (i : Nat) k v, kb[i]? = some (k, v) → valueAt kb k = some v := fun i k v e => by
    clear h hl
    induction kb generalizing i with
    | nil => simp at e
    | cons p r ih =>
      unfold valueAt
      rw [List.find?_cons]
      cases i with
      | zero => simp at e; subst e; simp
      | succ i =>
        have e' : r[i]? = some (k, v) := by simpa using e
        have ne : ¬ p.1 = k := fun z => by
          rw [List.map_cons, List.nodup_cons] at nd
          exact nd.1 (by rw [z]; exact List.mem_map.mpr ⟨_, List.mem_of_getElem? e', rfl⟩)
        rw [decide_eq_false ne]
        rw [List.map_cons, List.nodup_cons] at nd
        exact ih nd.2 i e'
  have go : ∀ (n : Nat), n ≤ ka.length → PySem.W.KeqHits A s kb (ka.drop (ka.length - n)) true := by
    intro n
    induction n with
    | zero => intro _; rw [Nat.sub_zero, List.drop_length]; exact .nil
    | succ n ih =>
      intro hn
      have hi : ka.length - (n + 1) < ka.length := by omega
      rw [List.drop_eq_getElem_cons hi]
      have e1 : ka[ka.length - (n + 1)]? = some ka[ka.length - (n + 1)] := List.getElem?_eq_getElem hi
      have e2 : kb[ka.length - (n + 1)]? = some (kb[ka.length - (n + 1)]'(by omega)) := List.getElem?_eq_getElem (by omega)
      generalize ka[ka.length - (n + 1)] = p at e1
      generalize kb[ka.length - (n + 1)]'(by omega) = q at e2
      obtain ⟨k, v⟩ := p
      obtain ⟨k', v'⟩ := q
      obtain ⟨rfl, he⟩ := h _ k v k' v' e1 e2
      have r := ih (by omega)
      rw [show ka.length - (n + 1) + 1 = ka.length - n by omega]
      exact .hit (b := true) (key _ _ _ e2) he r
  have := go ka.length (Nat.le_refl _)
  rw [Nat.sub_self, List.drop_zero] at this
  exact this
theorem SameP.eqP (I : Inv X pins σ H s) : ∀ {n : Nat} {x y : V}, SameP X.K H n x y → ∀ (A : Around) (u w' : Value), A.units + n < cLine → RelV x u → RelV y w' → EqP X.prog X.w A s u w' ∧ (∀ a b, u = .ref a → w' = .ref b → RcP X.prog X.w A s (.ref a) (.ref b) ∨ ∃ n, SameD X.K H n x y ∧ A.units + n < cLine) := by
  intro n x y h
  induction h with
  | d h => intro A u w' hu r1 r2; exact ⟨fun E Q q => h.eqAt I A u w' hu r1 r2 X.prog X.w E Q q, fun _ _ _ _ => .inr ⟨_, h, hu⟩⟩
  | @lst n a b xs ys hx hy hl _ ih =>
    intro A u w' hu r1 r2
    cases r1
    cases r2
    obtain ⟨its, r, p1, z1⟩ := I.list hx
    obtain ⟨jts, r', p2, z2⟩ := I.list hy
    have l1 := r.length
    have l2 := r'.length
    have rc : RcP X.prog X.w A s (.ref a) (.ref b) := RcP.lists p1.isList p2.isList (by simp; omega) (by omega) fun j h1 h2 => by
      have e1 : its[j]? = some its.toArray[j] := by simp at h1; simp [h1]
      have e2 : jts[j]? = some jts.toArray[j] := by simp at h2; simp [h2]
      obtain ⟨x, ex, rx⟩ := vals_at r e1
      obtain ⟨y, ey, ry⟩ := vals_at r' e2
      exact (ih j x y ex ey A.in1 _ _ (by show A.units + 1 + n < cLine; omega) rx ry).1
    exact ⟨EqP.refs rc, fun a' b' e1 e2 => by cases e1; cases e2; exact .inl rc⟩
  | @dct n a b kxs kys hx hy hl hs =>
    intro A u w' hu r1 r2
    cases r1
    cases r2
    obtain ⟨z1, m1, vs, kv1, d1⟩ := dk_rd I.hok hx
    obtain ⟨z2, m2, ws, kv2, d2⟩ := dk_rd I.hok hy
    have l1 := kv1.length
    have l2 := kv2.length
    have nd : (ws.map (·.1)).Nodup := by
      obtain ⟨_, _, _, _, _, _, _, _, nd⟩ := d2
      exact nd
    have rc : RcP X.prog X.w A s (.ref a) (.ref b) := fun E Q q => by
      refine PySem.W.keq_eq m1 m2 d1 d2 (by omega) (fun _ => hits_same nd (by omega) fun i k v k' v' e1 e2 => ?_) ?_ (r := true)
      · obtain ⟨x, ex, rx⟩ := kv_same kv1 kv1 i e1
        obtain ⟨y, ey, ry⟩ := kv_same kv2 kv2 i e2
        obtain ⟨h1, h2⟩ := hs i _ _ ex ey
        exact ⟨h1, h2.eqAt I A.in1 v v' (by show A.units + 1 + n < cLine; omega) rx ry⟩
      · rw [show (vs.length == ws.length && true) = true by simp; omega]
        exact q
    exact ⟨EqP.refs rc, fun a' b' e1 e2 => by cases e1; cases e2; exact .inl rc⟩
end
end L2
end
section
set_option Elab.async false
set_option linter.all false
set_option maxRecDepth 100000
set_option maxHeartbeats 4000000
namespace L2
open PySem PySem.Spec PyProof.Rows
section
variable {X : Cx}
/-! ### ==, != of pairs of texts, or of None and None -/
def rPr (K : PySem.W.Frag) (neg : Bool) : R2 := fun x y H Q => (x = .non ∧ y = .non ∧ Q (.bl (Bool.xor neg true)) H) ∨
  ∃ a b p q r t, x = .ref a ∧ y = .ref b ∧ SqT K H a [.str p, .str q] ∧ SqT K H b [.str r, .str t] ∧ Q (.bl (Bool.xor neg (p == r && q == t))) H
theorem two_strs {p q : Str} {its : List Value} (r : Vals [.str p, .str q] its) : ∃ t t', its = [.str p t, .str q t'] := by
  cases r with
  | cons h1 r1 =>
    cases r1 with
    | cons h2 r2 =>
      cases r2
      obtain ⟨t, rfl⟩ := h1
      obtain ⟨t', rfl⟩ := h2
      exact ⟨t, t', rfl⟩
theorem op_eqP (hu : X.A.units + 64 < cLine) : OpR X (compareOp .Eq) (rPr X.K false) := by
  intro pins s σ H x y v u Q I rx ry h
  rcases h with ⟨rfl, rfl, q⟩ | ⟨a, b, p, q, r, t, rfl, rfl, ha, hb, hq⟩
  · cases rx
    cases ry
    exact SeqAt.RcAt.none_none X.prog X.w _ _ ⟨.bl true, H, I, rfl, q⟩
  · cases rx
    cases ry
    obtain ⟨its, r1, p1, _⟩ := I.tuple ha
    obtain ⟨jts, r2, p2, _⟩ := I.tuple hb
    obtain ⟨t1, t2, rfl⟩ := two_strs r1
    obtain ⟨t3, t4, rfl⟩ := two_strs r2
    have z := SeqAt.RcAt.tuples (A := X.A) (s := s) (l := a) (b := b) (items := #[.str p t1, .str q t2]) (items2 := #[.str r t3, .str t t4]) (e := fun j => if j = 0 then p == r else q == t) p1 p2 (by omega) fun j h1 h2 => by
      match j, h1, h2 with
      | 0, _, _ => exact SeqAt.EqAt.str_str p t1 r t3
      | 1, _, _ => exact SeqAt.EqAt.str_str q t2 t t4
      | n + 2, h1, _ => simp at h1; omega
    refine z X.prog X.w _ _ ⟨.bl _, H, I, rfl, ?_⟩
    have e : ((List.range (min (#[Value.str p t1, Value.str q t2]).size (#[Value.str r t3, Value.str t t4]).size)).all (fun j => if j = 0 then p == r else q == t) && (#[Value.str p t1, Value.str q t2]).size == (#[Value.str r t3, Value.str t t4]).size) = (p == r && q == t) := by
      simp [List.range, List.range.loop]
    rw [e]
    rw [Bool.false_xor] at hq
    exact hq
theorem op_neP (hu : X.A.units + 64 < cLine) : OpR X (compareOp .NotEq) (rPr X.K true) := by
  intro pins s σ H x y v u Q I rx ry h
  rcases h with ⟨rfl, rfl, q⟩ | ⟨a, b, p, q, r, t, rfl, rfl, ha, hb, hq⟩
  · cases rx
    cases ry
    exact SeqAt.RcNeAt.none_none X.prog X.w _ _ ⟨.bl false, H, I, rfl, q⟩
  · cases rx
    cases ry
    obtain ⟨its, r1, p1, _⟩ := I.tuple ha
    obtain ⟨jts, r2, p2, _⟩ := I.tuple hb
    obtain ⟨t1, t2, rfl⟩ := two_strs r1
    obtain ⟨t3, t4, rfl⟩ := two_strs r2
    have z := SeqAt.RcNeAt.tuples (A := X.A) (s := s) (l := a) (b := b) (items := #[.str p t1, .str q t2]) (items2 := #[.str r t3, .str t t4]) (e := fun j => if j = 0 then p == r else q == t) p1 p2 (by omega) fun j h1 h2 => by
      match j, h1, h2 with
      | 0, _, _ => exact SeqAt.EqAt.str_str p t1 r t3
      | 1, _, _ => exact SeqAt.EqAt.str_str q t2 t t4
      | n + 2, h1, _ => simp at h1; omega
    refine z X.prog X.w _ _ ⟨.bl _, H, I, rfl, ?_⟩
    have e : ((List.range (min (#[Value.str p t1, Value.str q t2]).size (#[Value.str r t3, Value.str t t4]).size)).all (fun j => if j = 0 then p == r else q == t) && (#[Value.str p t1, Value.str q t2]).size == (#[Value.str r t3, Value.str t t4]).size) = (p == r && q == t) := by
      simp [List.range, List.range.loop]
    rw [e]
    rw [Bool.true_xor] at hq
    exact hq
/-! ### y in d -/
theorem op_din (hu : X.A.units + 1 < cLine) : OpR X (compareOp .In) (fun y x H Q => ∃ a o, x = .ref a ∧ DGet H a y o ∧ Q (.bl o.isSome) H) := by
  intro pins s σ H y x v u Q I ry rx h
  obtain ⟨a, o, rfl, g, q⟩ := h
  cases rx
  exact d_in hu I g ry fun s3 I3 => ⟨.bl o.isSome, H, I3, rfl, q⟩
theorem op_dnotin (hu : X.A.units + 1 < cLine) : OpR X (compareOp .NotIn) (fun y x H Q => ∃ a o, x = .ref a ∧ DGet H a y o ∧ Q (.bl (!o.isSome)) H) := by
  intro pins s σ H y x v u Q I ry rx h
  obtain ⟨a, o, rfl, g, q⟩ := h
  cases rx
  exact d_notIn hu I g ry fun s3 I3 => ⟨.bl (!o.isSome), H, I3, rfl, q⟩
end
end L2
end
section
set_option Elab.async false
set_option linter.all false
set_option maxRecDepth 100000
set_option maxHeartbeats 4000000
/-! THE TREE LAYER: what a program's values are, without addresses: trees of things that never change again, and cells for the few things that do. -/
namespace TL
open PySem PySem.Spec PyProof.Rows L2

inductive T where
  | non | bl (b : Bool) | int (i : Int) | str (x : Str) | ty (n : String)
  | tup (ts : List T) | lst (ts : List T) | fls (ts : List T) | dct (kts : List (Key × T)) | ref (a : Addr)
inductive Cell where
  | lst (ts : List T) | dct (kts : List (Key × T))
abbrev TH := Addr → Option Cell
def updT (S : TH) (a : Addr) (c : Cell) : TH := fun b => if b = a then some c else S b
def delT (S : TH) (a : Addr) : TH := fun b => if b = a then none else S b
theorem updT_same {S : TH} {a : Addr} {c : Cell} : updT S a c a = some c := by unfold updT; rw [if_pos rfl]
theorem updT_ne {S : TH} {a b : Addr} {c : Cell} (h : b ≠ a) : updT S a c b = S b := by unfold updT; rw [if_neg h]
theorem delT_same {S : TH} {a : Addr} : delT S a a = none := by unfold delT; rw [if_pos rfl]
theorem delT_ne {S : TH} {a b : Addr} (h : b ≠ a) : delT S a b = S b := by unfold delT; rw [if_neg h]

/-! ### what is frozen: an object without a cell, or one of the module's own -/
def KL (K : PySem.W.Frag) (a : Addr) (vs : List V) : Prop := ∃ (o : Obj) (its : Array Value) (n : Nat), K.lookup a = some o ∧ o.cls = .type "list" ∧ o.dict = none ∧ o.data = .seq its n ∧ its.size ≤ sizeLine ∧ Vals vs its.toList
def KTu (K : PySem.W.Frag) (a : Addr) (vs : List V) : Prop := ∃ (o : Obj) (its : Array Value) (n : Nat), K.lookup a = some o ∧ o.cls = .type "tuple" ∧ o.data = .seq its n ∧ its.size ≤ sizeLine ∧ Vals vs its.toList
def FL (S : TH) (H : Hp) (a : Addr) (vs : List V) : Prop := S a = none ∧ H a = some (.lst vs)
/-- the script, or a list of the module's: only read -/
def FX (K : PySem.W.Frag) (S : TH) (H : Hp) (a : Addr) (vs : List V) : Prop := (S a = none ∧ ∃ o, H a = some (.frz o (.lst vs))) ∨ KL K a vs
def FT (K : PySem.W.Frag) (S : TH) (H : Hp) (a : Addr) (vs : List V) : Prop := (S a = none ∧ H a = some (.tup vs)) ∨ KTu K a vs
section
variable {K : PySem.W.Frag} {S S' : TH} {H H' : Hp} {a : Addr} {vs : List V}
theorem FL.sq (h : FL S H a vs) : SqL K H a vs := .inl (.inl h.2)
theorem FX.sq (h : FX K S H a vs) : SqL K H a vs := h.elim (fun z => .inl (.inr z.2)) .inr
theorem FT.sq (h : FT K S H a vs) : SqT K H a vs := h.elim (fun z => .inl (.inl z.2)) .inr
end

/-- V stands for the tree -/
inductive Rep (K : PySem.W.Frag) (S : TH) (H : Hp) : V → T → Prop where
  | non : Rep K S H .non .non
  | bl (b : Bool) : Rep K S H (.bl b) (.bl b)
  | int (i : Int) : Rep K S H (.int i) (.int i)
  | str (x : Str) : Rep K S H (.str x) (.str x)
  | ty (n : String) : Rep K S H (.ty n) (.ty n)
  | ref (a : Addr) : Rep K S H (.ref a) (.ref a)
  | tup {a : Addr} {vs : List V} {ts : List T} : FT K S H a vs → vs.length = ts.length → (∀ (i : Nat) v t, vs[i]? = some v → ts[i]? = some t → Rep K S H v t) → Rep K S H (.ref a) (.tup ts)
  | lst {a : Addr} {vs : List V} {ts : List T} : FL S H a vs → vs.length = ts.length → (∀ (i : Nat) v t, vs[i]? = some v → ts[i]? = some t → Rep K S H v t) → Rep K S H (.ref a) (.lst ts)
  | fls {a : Addr} {vs : List V} {ts : List T} : FX K S H a vs → vs.length = ts.length → (∀ (i : Nat) v t, vs[i]? = some v → ts[i]? = some t → Rep K S H v t) → Rep K S H (.ref a) (.fls ts)
  | dct {a : Addr} {kvs : List (Key × V)} {kts : List (Key × T)} : (S a = none ∧ H a = some (.dK kvs)) → kvs.length = kts.length → (∀ (i : Nat) v t, kvs[i]? = some v → kts[i]? = some t → v.1 = t.1) → (∀ (i : Nat) v t, kvs[i]? = some v → kts[i]? = some t → Rep K S H v.2 t.2) → Rep K S H (.ref a) (.dct kts)

def Reps (K : PySem.W.Frag) (S : TH) (H : Hp) (vs : List V) (ts : List T) : Prop := vs.length = ts.length ∧ ∀ (i : Nat) v t, vs[i]? = some v → ts[i]? = some t → Rep K S H v t
def RepK (K : PySem.W.Frag) (S : TH) (H : Hp) (kvs : List (Key × V)) (kts : List (Key × T)) : Prop := kvs.length = kts.length ∧ ∀ (i : Nat) v t, kvs[i]? = some v → kts[i]? = some t → v.1 = t.1 ∧ Rep K S H v.2 t.2
/-- frozen things stay -/
def Le (S : TH) (H : Hp) (S' : TH) (H' : Hp) : Prop := ∀ b o, S b = none → H b = some o → S' b = none ∧ H' b = some o
def CellOk (K : PySem.W.Frag) (S : TH) (H : Hp) (a : Addr) : Cell → Prop
  | .lst ts => ∃ vs, H a = some (.lst vs) ∧ Reps K S H vs ts
  | .dct kts => ∃ kvs, H a = some (.dK kvs) ∧ RepK K S H kvs kts
def Good (K : PySem.W.Frag) (S : TH) (H : Hp) : Prop := ∀ a c, S a = some c → CellOk K S H a c

section
variable {K : PySem.W.Frag} {S S' S'' : TH} {H H' H'' : Hp} {a : Addr} {v : V} {t : T} {vs ws : List V} {ts us : List T}
theorem Le.refl : Le S H S H := fun _ _ n e => ⟨n, e⟩
theorem Le.trans (x : Le S H S' H') (y : Le S' H' S'' H'') : Le S H S'' H'' := fun b o n e => let ⟨n', e'⟩ := x b o n e; y b o n' e'
theorem FL.mono (le : Le S H S' H') (h : FL S H a vs) : FL S' H' a vs := le _ _ h.1 h.2
theorem FX.mono (le : Le S H S' H') (h : FX K S H a vs) : FX K S' H' a vs := h.elim (fun ⟨n, o, e⟩ => .inl ⟨(le _ _ n e).1, o, (le _ _ n e).2⟩) .inr
theorem FT.mono (le : Le S H S' H') (h : FT K S H a vs) : FT K S' H' a vs := h.elim (fun z => .inl (le _ _ z.1 z.2)) .inr
theorem Rep.mono (le : Le S H S' H') (h : Rep K S H v t) : Rep K S' H' v t := by
  induction h with
  | non => exact .non
  | bl b => exact .bl b
  | int i => exact .int i
  | str x => exact .str x
  | ty n => exact .ty n
  | ref a => exact .ref a
  | tup f l _ ih => exact .tup (f.mono le) l ih
  | lst f l _ ih => exact .lst (f.mono le) l ih
  | fls f l _ ih => exact .fls (f.mono le) l ih
  | dct f l r _ ih => exact .dct (le _ _ f.1 f.2) l r ih
theorem Reps.mono (le : Le S H S' H') (h : Reps K S H vs ts) : Reps K S' H' vs ts := ⟨h.1, fun i v t e1 e2 => (h.2 i v t e1 e2).mono le⟩
theorem RepK.mono {kvs : List (Key × V)} {kts : List (Key × T)} (le : Le S H S' H') (h : RepK K S H kvs kts) : RepK K S' H' kvs kts := ⟨h.1, fun i v t e1 e2 => ⟨(h.2 i v t e1 e2).1, (h.2 i v t e1 e2).2.mono le⟩⟩
theorem Reps.nil : Reps K S H [] [] := ⟨rfl, fun _ _ _ e => by simp at e⟩
theorem Reps.cons (h : Rep K S H v t) (r : Reps K S H vs ts) : Reps K S H (v :: vs) (t :: ts) := by
  refine ⟨by simp only [List.length_cons, r.1], fun i v' t' e1 e2 => ?_⟩
  cases i with
  | zero => simp at e1 e2; subst e1; subst e2; exact h
  | succ i => exact r.2 i v' t' (by simpa using e1) (by simpa using e2)
theorem Reps.head (h : Reps K S H (v :: vs) (t :: ts)) : Rep K S H v t := h.2 0 v t rfl rfl
theorem Reps.tail (h : Reps K S H (v :: vs) (t :: ts)) : Reps K S H vs ts := ⟨by simpa using h.1, fun i v' t' e1 e2 => h.2 (i + 1) v' t' (by simpa using e1) (by simpa using e2)⟩
theorem Reps.append : ∀ {vs : List V} {ts : List T}, Reps K S H vs ts → Reps K S H ws us → Reps K S H (vs ++ ws) (ts ++ us)
  | [], [], _, r => r
  | v :: vs, t :: ts, h, r => Reps.cons h.head (Reps.append h.tail r)
  | [], _ :: _, h, _ => by have := h.1; simp at this
  | _ :: _, [], h, _ => by have := h.1; simp at this
theorem Reps.get {i : Nat} (h : Reps K S H vs ts) (e : ts[i]? = some t) : ∃ v, vs[i]? = some v ∧ Rep K S H v t := by
  have hi : i < ts.length := (List.getElem?_eq_some_iff.mp e).1
  have hi' : i < vs.length := by rw [h.1]; exact hi
  exact ⟨vs[i], List.getElem?_eq_getElem hi', h.2 i _ t (List.getElem?_eq_getElem hi') e⟩
theorem Reps.get' {i : Nat} (h : Reps K S H vs ts) (e : vs[i]? = some v) : ∃ t, ts[i]? = some t ∧ Rep K S H v t := by
  have hi : i < vs.length := (List.getElem?_eq_some_iff.mp e).1
  have hi' : i < ts.length := by rw [← h.1]; exact hi
  exact ⟨ts[i], List.getElem?_eq_getElem hi', h.2 i v _ e (List.getElem?_eq_getElem hi')⟩
theorem Reps.drop (h : Reps K S H vs ts) (n : Nat) : Reps K S H (vs.drop n) (ts.drop n) :=
  ⟨by simp only [List.length_drop, h.1], fun i v t e1 e2 => h.2 (n + i) v t (by simpa using e1) (by simpa using e2)⟩
theorem Reps.take (h : Reps K S H vs ts) (n : Nat) : Reps K S H (vs.take n) (ts.take n) := by
  refine ⟨by simp only [List.length_take, h.1], fun i v t e1 e2 => ?_⟩
  by_cases hi : i < n
  · rw [List.getElem?_take_of_lt hi] at e1 e2; exact h.2 i v t e1 e2
  · rw [List.getElem?_take_eq_none (by omega)] at e1; cases e1
theorem Reps.set {i : Nat} (h : Reps K S H vs ts) (r : Rep K S H v t) : Reps K S H (vs.set i v) (ts.set i t) := by
  refine ⟨by simp only [List.length_set, h.1], fun j v' t' e1 e2 => ?_⟩
  by_cases hj : i = j
  · subst hj
    rw [List.getElem?_set] at e1 e2
    simp only [if_true] at e1 e2
    split at e1
    · split at e2
      · cases e1; cases e2; exact r
      · cases e2
    · cases e1
  · rw [List.getElem?_set_ne hj] at e1 e2; exact h.2 j v' t' e1 e2
theorem Rep.tupI {a : Addr} (f : FT K S H a vs) (r : Reps K S H vs ts) : Rep K S H (.ref a) (.tup ts) := .tup f r.1 r.2
theorem Rep.lstI {a : Addr} (f : FL S H a vs) (r : Reps K S H vs ts) : Rep K S H (.ref a) (.lst ts) := .lst f r.1 r.2
theorem Rep.tupE (h : Rep K S H v (.tup ts)) : ∃ a vs, v = .ref a ∧ FT K S H a vs ∧ Reps K S H vs ts := by
  cases h with
  | tup f l r => exact ⟨_, _, rfl, f, l, r⟩
theorem Rep.lstE (h : Rep K S H v (.lst ts)) : ∃ a vs, v = .ref a ∧ FL S H a vs ∧ Reps K S H vs ts := by
  cases h with
  | lst f l r => exact ⟨_, _, rfl, f, l, r⟩
theorem Rep.flsE (h : Rep K S H v (.fls ts)) : ∃ a vs, v = .ref a ∧ FX K S H a vs ∧ Reps K S H vs ts := by
  cases h with
  | fls f l r => exact ⟨_, _, rfl, f, l, r⟩
theorem Rep.dctE {kts : List (Key × T)} (h : Rep K S H v (.dct kts)) : ∃ a kvs, v = .ref a ∧ S a = none ∧ H a = some (.dK kvs) ∧ RepK K S H kvs kts := by
  cases h with
  | dct f l r1 r2 => exact ⟨_, _, rfl, f.1, f.2, l, fun i v t e1 e2 => ⟨r1 i v t e1 e2, r2 i v t e1 e2⟩⟩

/-- a new frozen object -/
theorem Le.new {p : Addr} {o : HO} (g : Good K S H) (hp : H p = none) : Le S H S (upd H p o) := fun b u n e => ⟨n, by rw [upd_ne (ne_of_none e hp)]; exact e⟩
theorem Good.free (g : Good K S H) {p : Addr} (hp : H p = none) : S p = none := by
  cases e : S p with
  | none => rfl
  | some c =>
    have := g p c e
    cases c with
    | lst ts => obtain ⟨vs, q, _⟩ := this; rw [hp] at q; cases q
    | dct ts => obtain ⟨vs, q, _⟩ := this; rw [hp] at q; cases q
theorem CellOk.mono {c : Cell} (le : Le S H S' H') (x : CellOk K S H a c) (e : H' a = H a) : CellOk K S' H' a c := by
  cases c with
  | lst ts => obtain ⟨vs, q, r⟩ := x; exact ⟨vs, by rw [e]; exact q, r.mono le⟩
  | dct ts => obtain ⟨vs, q, r⟩ := x; exact ⟨vs, by rw [e]; exact q, r.mono le⟩
theorem Good.new {p : Addr} {o : HO} (g : Good K S H) (hp : H p = none) : Good K S (upd H p o) := fun a c e => by
  have ne : a ≠ p := fun z => by rw [z, g.free hp] at e; cases e
  exact (g a c e).mono (Le.new g hp) (upd_ne ne)
/-- a new cell -/
theorem Le.newC {p : Addr} {o : HO} {c : Cell} (hp : H p = none) : Le S H (updT S p c) (upd H p o) := fun b u n e => by
  have ne := ne_of_none e hp
  exact ⟨by rw [updT_ne ne]; exact n, by rw [upd_ne ne]; exact e⟩
theorem Good.newL {p : Addr} {vs : List V} {ts : List T} (g : Good K S H) (hp : H p = none) (r : Reps K S H vs ts) : Good K (updT S p (.lst ts)) (upd H p (.lst vs)) := fun a c e => by
  have le : Le S H (updT S p (.lst ts)) (upd H p (.lst vs)) := Le.newC hp
  by_cases ha : a = p
  · subst ha
    rw [updT_same] at e
    cases e
    exact ⟨vs, upd_same, r.mono le⟩
  · rw [updT_ne ha] at e
    exact (g a c e).mono le (upd_ne ha)
/-- a cell is written -/
theorem Le.write {p : Addr} {o : HO} {c c' : Cell} (e : S p = some c') : Le S H (updT S p c) (upd H p o) := fun b u n q => by
  have ne : b ≠ p := fun z => by rw [z, e] at n; cases n
  exact ⟨by rw [updT_ne ne]; exact n, by rw [upd_ne ne]; exact q⟩
theorem Good.writeL {p : Addr} {vs : List V} {ts : List T} {c : Cell} (g : Good K S H) (hp : S p = some c) (r : Reps K S H vs ts) : Good K (updT S p (.lst ts)) (upd H p (.lst vs)) := fun a c' e => by
  have le : Le S H (updT S p (.lst ts)) (upd H p (.lst vs)) := Le.write hp
  by_cases ha : a = p
  · subst ha
    rw [updT_same] at e
    cases e
    exact ⟨vs, upd_same, r.mono le⟩
  · rw [updT_ne ha] at e
    exact (g a c' e).mono le (upd_ne ha)
/-- a cell is frozen -/
theorem Le.del {p : Addr} : Le S H (delT S p) H := fun b u n q => by
  by_cases hb : b = p
  · subst hb; exact ⟨delT_same, q⟩
  · exact ⟨by rw [delT_ne hb]; exact n, q⟩
theorem Good.del {p : Addr} (g : Good K S H) : Good K (delT S p) H := fun a c e => by
  by_cases ha : a = p
  · subst ha; rw [delT_same] at e; cases e
  · rw [delT_ne ha] at e
    exact (g a c e).mono Le.del rfl
end

/-! ### the names' trees -/
abbrev Ev := List (Option T)
abbrev UX := T → TH → Prop
abbrev UTE := Ev → TH → UX → Prop
abbrev UTT := Ev → TH → (Bool → TH → Prop) → Prop
abbrev UTA := Ev → TH → (List T → TH → Prop) → Prop
structure UEnds where
  nx : Ev → TH → Prop
  rt : UX
  bk : Ev → TH → Prop := fun _ _ => False
  ct : Ev → TH → Prop := fun _ _ => False
abbrev UTS := UEnds → Ev → TH → Prop
def REnv (K : PySem.W.Frag) (S : TH) (H : Hp) (σ : L2.St) (env : Ev) : Prop := env.length = σ.length ∧ ∀ (i : Nat) t, env[i]? = some (some t) → ∃ v, σ[i]? = some (some v) ∧ Rep K S H v t
def Fin (K : PySem.W.Frag) (S : TH) (H : Hp) (P : UX) (Q : VK) : Prop := ∀ v r S' H', Le S H S' H' → Good K S' H' → Rep K S' H' v r → P r S' → Q v H'
def lf (K : PySem.W.Frag) (t : UTE) : TE := fun σ H Q => ∃ S env P, Good K S H ∧ REnv K S H σ env ∧ t env S P ∧ Fin K S H P Q
def lfT (K : PySem.W.Frag) (t : UTT) : TT := fun σ H Q => ∃ S env P, Good K S H ∧ REnv K S H σ env ∧ t env S P ∧ ∀ b S' H', Le S H S' H' → Good K S' H' → P b S' → Q b H'
def lfA (K : PySem.W.Frag) (t : UTA) : TA := fun σ H Q => ∃ S env P, Good K S H ∧ REnv K S H σ env ∧ t env S P ∧ ∀ vs rs S' H', Le S H S' H' → Good K S' H' → Reps K S' H' vs rs → P rs S' → Q vs H'
structure FinS (K : PySem.W.Frag) (S : TH) (H : Hp) (E : UEnds) (D : Ends) : Prop where
  nx : ∀ σ' env' S' H', Le S H S' H' → Good K S' H' → REnv K S' H' σ' env' → E.nx env' S' → D.nx σ' H'
  rt : ∀ v r S' H', Le S H S' H' → Good K S' H' → Rep K S' H' v r → E.rt r S' → D.rt v H'
  bk : ∀ σ' env' S' H', Le S H S' H' → Good K S' H' → REnv K S' H' σ' env' → E.bk env' S' → D.bk σ' H'
  ct : ∀ σ' env' S' H', Le S H S' H' → Good K S' H' → REnv K S' H' σ' env' → E.ct env' S' → D.ct σ' H'
def lfS (K : PySem.W.Frag) (t : UTS) : TS := fun D σ H => ∃ S env E, Good K S H ∧ REnv K S H σ env ∧ t E env S ∧ FinS K S H E D
def UE (X : Cx) (e : Expr) (t : UTE) : Prop := PE X e (lf X.K t)
def UT (X : Cx) (e : Expr) (t : UTT) : Prop := PT X e (lfT X.K t)
def UA (X : Cx) (es : List Expr) (t : UTA) : Prop := PA X es (lfA X.K t)
def US (X : Cx) (st : Stmt) (t : UTS) : Prop := PS X st (lfS X.K t)
def USs (X : Cx) (st : List Stmt) (t : UTS) : Prop := PSs X st (lfS X.K t)

section
variable {K : PySem.W.Frag} {S S' S'' : TH} {H H' H'' : Hp} {σ : L2.St} {env : Ev} {P : UX} {Q Q' : VK}
theorem REnv.mono (h : REnv K S H σ env) (le : Le S H S' H') : REnv K S' H' σ env := ⟨h.1, fun i t e => let ⟨v, e', r⟩ := h.2 i t e; ⟨v, e', r.mono le⟩⟩
theorem REnv.set {i : Nat} {v : V} {t : T} (h : REnv K S H σ env) (r : Rep K S H v t) : REnv K S H (σ.set i (some v)) (env.set i (some t)) := by
  refine ⟨by simp only [List.length_set, h.1], fun j t' e => ?_⟩
  rw [List.getElem?_set] at e
  by_cases hj : i = j
  · subst hj
    simp only [if_true] at e
    split at e
    · cases e
      rename_i hl
      exact ⟨v, by rw [List.getElem?_set]; simp; rw [← h.1]; exact hl, r⟩
    · cases e
  · rw [if_neg hj] at e
    obtain ⟨v', e', r'⟩ := h.2 j t' e
    exact ⟨v', by rw [List.getElem?_set_ne hj]; exact e', r'⟩
theorem Fin.le (f : Fin K S H P Q) (le : Le S H S' H') : Fin K S' H' P Q := fun v r S2 H2 l g rp hp => f v r S2 H2 (le.trans l) g rp hp
theorem FinS.le {E : UEnds} {D : Ends} (f : FinS K S H E D) (le : Le S H S' H') : FinS K S' H' E D :=
  ⟨fun a b c d l => f.nx a b c d (le.trans l), fun a b c d l => f.rt a b c d (le.trans l), fun a b c d l => f.bk a b c d (le.trans l), fun a b c d l => f.ct a b c d (le.trans l)⟩
theorem lf_mono {t : UTE} (m : ∀ v H', Q v H' → Q' v H') (h : lf K t σ H Q) : lf K t σ H Q' := by
  obtain ⟨S, env, P, g, re, ht, fin⟩ := h
  exact ⟨S, env, P, g, re, ht, fun v r S' H' l g' rp hp => m v H' (fin v r S' H' l g' rp hp)⟩
/-- behind a first expression -/
structure Mid (K : PySem.W.Frag) (σ : L2.St) (H : Hp) (S : TH) (env : Ev) : Prop where
  g : Good K S H
  re : REnv K S H σ env
theorem lf_bind {t : UTE} {S : TH} {env : Ev} {k : T → TH → Prop} (m : Mid K σ H S env) (h : t env S k)
    (q : ∀ v r S1 H1, Le S H S1 H1 → Mid K σ H1 S1 env → Rep K S1 H1 v r → k r S1 → Q v H1) : lf K t σ H Q :=
  ⟨S, env, k, m.g, m.re, h, fun v r S1 H1 le g1 rp hk => q v r S1 H1 le ⟨g1, m.re.mono le⟩ rp hk⟩
theorem lfA_bind {t : UTA} {S : TH} {env : Ev} {k : List T → TH → Prop} {Q : List V → Hp → Prop} (m : Mid K σ H S env) (h : t env S k)
    (q : ∀ v r S1 H1, Le S H S1 H1 → Mid K σ H1 S1 env → Reps K S1 H1 v r → k r S1 → Q v H1) : lfA K t σ H Q :=
  ⟨S, env, k, m.g, m.re, h, fun v r S1 H1 le g1 rp hk => q v r S1 H1 le ⟨g1, m.re.mono le⟩ rp hk⟩
theorem lfT_bind {t : UTT} {S : TH} {env : Ev} {k : Bool → TH → Prop} {Q : Bool → Hp → Prop} (m : Mid K σ H S env) (h : t env S k)
    (q : ∀ b S1 H1, Le S H S1 H1 → Mid K σ H1 S1 env → k b S1 → Q b H1) : lfT K t σ H Q :=
  ⟨S, env, k, m.g, m.re, h, fun b S1 H1 le g1 hk => q b S1 H1 le ⟨g1, m.re.mono le⟩ hk⟩
end
theorem PE.imp {X : Cx} {e : Expr} {t t' : TE} (h : PE X e t) (i : ∀ σ H Q, t' σ H Q → t σ H Q) : PE X e t' := fun pins s σ H Q I q => h pins s σ H Q I (i σ H Q q)
theorem PT.imp {X : Cx} {e : Expr} {t t' : TT} (h : PT X e t) (i : ∀ σ H Q, t' σ H Q → t σ H Q) : PT X e t' := fun pins s σ H Q I q => h pins s σ H Q I (i σ H Q q)
theorem PA.imp {X : Cx} {e : List Expr} {t t' : TA} (h : PA X e t) (i : ∀ σ H Q, t' σ H Q → t σ H Q) : PA X e t' := fun pos pins s σ H Q I q => h pos pins s σ H Q I (i σ H Q q)
theorem PS.imp {X : Cx} {e : Stmt} {t t' : TS} (h : PS X e t) (i : ∀ D σ H, t' D σ H → t D σ H) : PS X e t' := fun pins s σ H D I q => h pins s σ H D I (i D σ H q)
theorem PSs.imp {X : Cx} {e : List Stmt} {t t' : TS} (h : PSs X e t) (i : ∀ D σ H, t' D σ H → t D σ H) : PSs X e t' := fun pins s σ H D I q => h pins s σ H D I (i D σ H q)
end TL
end
section
set_option Elab.async false
set_option linter.all false
set_option maxRecDepth 100000
set_option maxHeartbeats 4000000
namespace TL
open PySem PySem.Spec PyProof.Rows L2
section
variable {X : Cx} {a b c e : Expr} {es : List Expr} {ta tb tc te : UTE} {pos : Pos}

/-! ### names, constants -/
def uVar (i : Nat) : UTE := fun env S P => match env[i]? with
  | some (some t) => P t S
  | _ => False
def uC (t : T) : UTE := fun _ S P => P t S
theorem uv (i : Nat) {x : Str} {pos : Pos} (hN : X.N[i]? = some x := by rfl) (hv : Vis X.env.scope x := by first | exact Or.inl rfl | exact Or.inr (Or.inl rfl) | exact Or.inr (Or.inr rfl)) (hd : (x == ("__debug__" : Str)) = false := by decide)
    (hcd : (x == ("__classdict__" : Str)) = false := by decide) : UE X (.Name x pos) (uVar i) := PE.imp (pe_var hN hv hd hcd) fun σ H Q ⟨S, env, P, g, re, h, fin⟩ => by
  unfold uVar at h
  split at h
  · rename_i t e
    obtain ⟨v, ev, r⟩ := re.2 i t e
    exact ⟨v, ev, fin v t S H .refl g r h⟩
  · exact h.elim
theorem ue_c {v : V} {t : T} (h : PE X e (tC v)) (r : ∀ S H, Rep X.K S H v t) : UE X e (uC t) := PE.imp h fun σ H Q ⟨S, env, P, g, re, h, fin⟩ => fin v t S H .refl g (r S H) h
theorem ue_int {i : Int} {j} : UE X (.Constant (.int i) j pos) (uC (.int i)) := ue_c pe_int fun _ _ => .int i
theorem ue_bl {i : Bool} {j} : UE X (.Constant (.bool i) j pos) (uC (.bl i)) := ue_c pe_bl fun _ _ => .bl i
theorem ue_non {j} : UE X (.Constant .none j pos) (uC .non) := ue_c pe_non fun _ _ => .non
theorem ue_str {x : Str} {j} : UE X (.Constant (.str x) j pos) (uC (.str x)) := ue_c pe_str fun _ _ => .str x
theorem ue_bty {x : Str} {n : String} (hg : Gl X x) (hm : X.mg x = none) (hv : bootBuiltins x = some (.type n)) (hn : x ≠ "__name__" := by decide) (hd : (x == ("__debug__" : Str)) = false := by decide) : UE X (.Name x pos) (uC (.ty n)) :=
  ue_c (pe_bltn (v := .ty n) hg hm hv rfl hn hd) fun _ _ => .ty n
theorem ue_gint {x : Str} {i : Int} (hg : Gl X x) (hm : ∃ t, X.mg x = some (.int i t)) (hd : (x == ("__debug__" : Str)) = false := by decide) : UE X (.Name x pos) (uC (.int i)) := by
  obtain ⟨t, hm⟩ := hm
  exact ue_c (pe_glob (v := .int i) hg hm ⟨t, rfl⟩ hd) fun _ _ => .int i

/-! ### two operands -/
def uBin (o : T → T → TH → UX → Prop) (ta tb : UTE) : UTE := fun env S P => ta env S fun x S1 => tb env S1 fun y S2 => o x y S2 P
def LOp (K : PySem.W.Frag) (r : R2) (o : T → T → TH → UX → Prop) : Prop := ∀ S H v w x y P Q, Good K S H → Rep K S H v x → Rep K S H w y → o x y S P → Fin K S H P Q → r v w H Q
theorem u_bin {r : R2} {o : T → T → TH → UX → Prop} {σ : L2.St} {H : Hp} {Q : VK} {K : PySem.W.Frag} (l : LOp K r o) (h : lf K (uBin o ta tb) σ H Q) : lf K ta σ H fun v H1 => lf K tb σ H1 fun w H2 => r v w H2 Q := by
  obtain ⟨S, env, P, g, re, h, fin⟩ := h
  exact lf_bind ⟨g, re⟩ h fun v x S1 H1 le1 m1 rx h1 => lf_bind m1 h1 fun w y S2 H2 le2 m2 ry h2 => l S2 H2 v w x y P Q m2.g (rx.mono le2) ry h2 (fin.le (le1.trans le2))
theorem ue_bin {op : Operator} {r : R2} {o : T → T → TH → UX → Prop} (ho : OpR X (binaryOp op) r) (l : LOp X.K r o) (ha : UE X a ta) (hb : UE X b tb) : UE X (.BinOp a op b pos) (uBin o ta tb) := PE.imp (pe_op ho ha hb) fun _ _ _ h => u_bin l h
theorem ue_cmp {op : CmpOp} {r : R2} {o : T → T → TH → UX → Prop} (ho : OpR X (compareOp op) r) (l : LOp X.K r o) (ha : UE X a ta) (hb : UE X b tb) (hm : behindInMarks op b = false) : UE X (.Compare a [op] [b] pos) (uBin o ta tb) :=
  PE.imp (pe_cmpR ho ha hb hm) fun _ _ _ h => u_bin l h
def uTest (t : UTE) : UTT := fun env S P => t env S fun x S1 => match x with
  | .bl k => P k S1
  | _ => False
theorem u_test {t : UTE} {σ : L2.St} {H : Hp} {Q : Bool → Hp → Prop} {K : PySem.W.Frag} (h : lfT K (uTest t) σ H Q) : lf K t σ H fun x H1 => ∃ k, x = .bl k ∧ Q k H1 := by
  obtain ⟨S, env, P, g, re, h, fin⟩ := h
  refine lf_bind ⟨g, re⟩ h fun v x S1 H1 le1 m1 rx h1 => ?_
  cases x with
  | bl k => cases rx; exact ⟨k, rfl, fin k S1 H1 le1 m1.g h1⟩
  | _ => exact h1.elim
theorem u_test2 {r : R2} {o : T → T → TH → UX → Prop} {σ : L2.St} {H : Hp} {Q : Bool → Hp → Prop} {K : PySem.W.Frag} (l : LOp K r o) (h : lfT K (uTest (uBin o ta tb)) σ H Q) : tTest (tOp r (lf K ta) (lf K tb)) σ H Q := u_bin l (u_test h)
theorem ut_cmp {op : CmpOp} {r : R2} {o : T → T → TH → UX → Prop} (ho : OpR X (compareOp op) r) (l : LOp X.K r o) (ha : UE X a ta) (hb : UE X b tb) (hm : behindInMarks op b = false) : UT X (.Compare a [op] [b] pos) (uTest (uBin o ta tb)) :=
  PT.imp (pt_cmpR ho ha hb hm) fun _ _ _ h => u_test2 l h
theorem ut_val {t : UTE} (h : UE X e t) (he : ∀ whole, isTrue e X.env whole = (do let v ← whole; standAt e.pos; holding [v] (truthy v)) := by intro _; rfl) : UT X e (uTest t) := PT.imp (pt_val h he) fun _ _ _ h => u_test h

/-! ### ints -/
def oII (g : Int → Int → T) : T → T → TH → UX → Prop := fun x y S P => match x, y with
  | .int i, .int j => P (g i j) S
  | _, _ => False
def oIC (C : Int → Int → Prop) (g : Int → Int → T) : T → T → TH → UX → Prop := fun x y S P => match x, y with
  | .int i, .int j => C i j ∧ P (g i j) S
  | _, _ => False
theorem lop_II {K : PySem.W.Frag} {g : Int → Int → V} {g' : Int → Int → T} (h : ∀ i j S H, Rep K S H (g i j) (g' i j)) : LOp K (rI0 g) (oII g') := fun S H v w x y P Q gd rx ry ho fin => by
  cases x with
  | int i =>
    cases y with
    | int j => cases rx; cases ry; exact ⟨i, j, rfl, rfl, fin _ _ S H .refl gd (h i j S H) ho⟩
    | _ => exact ho.elim
  | _ => exact ho.elim
theorem lop_IC {K : PySem.W.Frag} {C : Int → Int → Prop} {g : Int → Int → V} {g' : Int → Int → T} (h : ∀ i j S H, Rep K S H (g i j) (g' i j)) : LOp K (rI C g) (oIC C g') := fun S H v w x y P Q gd rx ry ho fin => by
  cases x with
  | int i =>
    cases y with
    | int j => cases rx; cases ry; exact ⟨i, j, rfl, rfl, ho.1, fin _ _ S H .refl gd (h i j S H) ho.2⟩
    | _ => exact ho.elim
  | _ => exact ho.elim
abbrev oAdd := oII fun i j => .int (i + j)
abbrev oSub := oII fun i j => .int (i - j)
abbrev oMul := oIC CMul fun i j => .int (i * j)
abbrev oDiv := oIC CDiv fun i j => .int (i / j)
abbrev oMod := oIC (fun _ j => 0 < j) fun i j => .int (i % j)
abbrev oPow := oIC CPow fun i j => .int (i ^ j.toNat)
theorem ue_add (ha : UE X a ta) (hb : UE X b tb) : UE X (.BinOp a .Add b pos) (uBin oAdd ta tb) := ue_bin op_add (lop_II fun _ _ _ _ => .int _) ha hb
theorem ue_sub (ha : UE X a ta) (hb : UE X b tb) : UE X (.BinOp a .Sub b pos) (uBin oSub ta tb) := ue_bin op_sub (lop_II fun _ _ _ _ => .int _) ha hb
theorem ue_mul (ha : UE X a ta) (hb : UE X b tb) : UE X (.BinOp a .Mult b pos) (uBin oMul ta tb) := ue_bin op_mul (lop_IC fun _ _ _ _ => .int _) ha hb
theorem ue_div (ha : UE X a ta) (hb : UE X b tb) : UE X (.BinOp a .FloorDiv b pos) (uBin oDiv ta tb) := ue_bin op_fdiv (lop_IC fun _ _ _ _ => .int _) ha hb
theorem ue_mod (ha : UE X a ta) (hb : UE X b tb) : UE X (.BinOp a .Mod b pos) (uBin oMod ta tb) := ue_bin op_mod (lop_IC fun _ _ _ _ => .int _) ha hb
theorem ue_pow (ha : UE X a ta) (hb : UE X b tb) : UE X (.BinOp a .Pow b pos) (uBin oPow ta tb) := ue_bin op_pow (lop_IC fun _ _ _ _ => .int _) ha hb
abbrev oLt := oII fun i j => .bl (decide (i < j))
abbrev oLe := oII fun i j => .bl (decide (i ≤ j))
abbrev oGt := oII fun i j => .bl (decide (j < i))
abbrev oGe := oII fun i j => .bl (decide (j ≤ i))
theorem lLt {K : PySem.W.Frag} : LOp K (rI0 fun i j => .bl (decide (i < j))) oLt := lop_II fun _ _ _ _ => .bl _
theorem lLe {K : PySem.W.Frag} : LOp K (rI0 fun i j => .bl (decide (i ≤ j))) oLe := lop_II fun _ _ _ _ => .bl _
theorem lGt {K : PySem.W.Frag} : LOp K (rI0 fun i j => .bl (decide (j < i))) oGt := lop_II fun _ _ _ _ => .bl _
theorem lGe {K : PySem.W.Frag} : LOp K (rI0 fun i j => .bl (decide (j ≤ i))) oGe := lop_II fun _ _ _ _ => .bl _
/-- == of two scalars of a kind -/
def oEq (neg : Bool) : T → T → TH → UX → Prop := fun x y S P => match x, y with
  | .int i, .int j => P (.bl (Bool.xor neg (decide (i = j)))) S
  | .str i, .str j => P (.bl (Bool.xor neg (decide (i = j)))) S
  | .bl i, .bl j => P (.bl (Bool.xor neg (decide (i = j)))) S
  | _, _ => False
theorem dV_int {i j : Int} : decide (V.int i = V.int j) = decide (i = j) := by rw [dec_int]; exact Bool.beq_eq_decide_eq i j
theorem dV_str {i j : Str} : decide (V.str i = V.str j) = decide (i = j) := by
  by_cases h : i = j
  · subst h; simp
  · rw [decide_eq_false h, decide_eq_false]; intro z; exact h (V.str.inj z)
theorem dV_bl {i j : Bool} : decide (V.bl i = V.bl j) = decide (i = j) := by
  by_cases h : i = j
  · subst h; simp
  · rw [decide_eq_false h, decide_eq_false]; intro z; exact h (V.bl.inj z)
theorem lEq {K : PySem.W.Frag} : LOp K rEq (oEq false) := fun S H v w x y P Q gd rx ry ho fin => by
  cases x with
  | int i =>
    cases y with
    | int j => cases rx; cases ry; refine ⟨rfl, ?_⟩; rw [dV_int]; exact fin _ _ S H .refl gd (.bl _) (by simpa [oEq] using ho)
    | _ => exact ho.elim
  | str i =>
    cases y with
    | str j => cases rx; cases ry; refine ⟨rfl, ?_⟩; rw [dV_str]; exact fin _ _ S H .refl gd (.bl _) (by simpa [oEq] using ho)
    | _ => exact ho.elim
  | bl i =>
    cases y with
    | bl j => cases rx; cases ry; refine ⟨rfl, ?_⟩; rw [dV_bl]; exact fin _ _ S H .refl gd (.bl _) (by simpa [oEq] using ho)
    | _ => exact ho.elim
  | _ => exact ho.elim
theorem lNe {K : PySem.W.Frag} : LOp K rNe (oEq true) := fun S H v w x y P Q gd rx ry ho fin => by
  cases x with
  | int i =>
    cases y with
    | int j => cases rx; cases ry; refine ⟨rfl, ?_⟩; rw [dV_int]; exact fin _ _ S H .refl gd (.bl _) (by simpa [oEq] using ho)
    | _ => exact ho.elim
  | str i =>
    cases y with
    | str j => cases rx; cases ry; refine ⟨rfl, ?_⟩; rw [dV_str]; exact fin _ _ S H .refl gd (.bl _) (by simpa [oEq] using ho)
    | _ => exact ho.elim
  | bl i =>
    cases y with
    | bl j => cases rx; cases ry; refine ⟨rfl, ?_⟩; rw [dV_bl]; exact fin _ _ S H .refl gd (.bl _) (by simpa [oEq] using ho)
    | _ => exact ho.elim
  | _ => exact ho.elim

/-! ### one operand -/
def uUn (o : T → TH → UX → Prop) (ta : UTE) : UTE := fun env S P => ta env S fun x S1 => o x S1 P
def oNeg : T → TH → UX → Prop := fun x S P => match x with
  | .int i => P (.int (-i)) S
  | _ => False
theorem ue_neg (ha : UE X a ta) : UE X (.UnaryOp .USub a pos) (uUn oNeg ta) := PE.imp (pe_un un_neg ha) fun σ H Q ⟨S, env, P, g, re, h, fin⟩ => by
  refine lf_bind ⟨g, re⟩ h fun v x S1 H1 le1 m1 rx h1 => ?_
  cases x with
  | int i => cases rx; exact ⟨i, rfl, fin _ _ S1 H1 le1 m1.g (.int _) h1⟩
  | _ => exact h1.elim

/-! ### and, or, not, if -/
def uAnd (t u : UTT) : UTT := fun env S P => t env S fun k S1 => (k = true → u env S1 P) ∧ (k = false → P false S1)
def uOr (t u : UTT) : UTT := fun env S P => t env S fun k S1 => (k = true → P true S1) ∧ (k = false → u env S1 P)
def uNot (t : UTT) : UTT := fun env S P => t env S fun k S1 => P (!k) S1
def UW (X : Cx) (e : Expr) (t : UTT) : Prop := PW X e (lfT X.K t)
theorem UW.ut {t : UTT} (h : UW X e t) : UT X e t := h.pt
variable {tA tB : UTT} {rest : List Expr}
theorem uw_and1 (ha : UT X a tA) : UW X (.BoolOp .And [a] pos) tA := pw_and1 ha
theorem uw_or1 (ha : UT X a tA) : UW X (.BoolOp .Or [a] pos) tA := pw_or1 ha
theorem uw_and (ha : UT X a tA) (hb : UW X (.BoolOp .And (b :: rest) pos) tB) : UW X (.BoolOp .And (a :: b :: rest) pos) (uAnd tA tB) := fun wh pins s σ H Q I h => by
  refine pw_and ha hb wh pins s σ H Q I ?_
  obtain ⟨S, env, P, g, re, h, fin⟩ := h
  refine lfT_bind ⟨g, re⟩ h fun k S1 H1 le1 m1 hk => ?_
  cases k with
  | true => rw [if_pos rfl]; exact ⟨S1, env, P, m1.g, m1.re, hk.1 rfl, fun b S' H' le => fin b S' H' (le1.trans le)⟩
  | false => rw [if_neg Bool.false_ne_true]; exact fin false S1 H1 le1 m1.g (hk.2 rfl)
theorem uw_or (ha : UT X a tA) (hb : UW X (.BoolOp .Or (b :: rest) pos) tB) : UW X (.BoolOp .Or (a :: b :: rest) pos) (uOr tA tB) := fun wh pins s σ H Q I h => by
  refine pw_or ha hb wh pins s σ H Q I ?_
  obtain ⟨S, env, P, g, re, h, fin⟩ := h
  refine lfT_bind ⟨g, re⟩ h fun k S1 H1 le1 m1 hk => ?_
  cases k with
  | true => rw [if_pos rfl]; exact fin true S1 H1 le1 m1.g (hk.1 rfl)
  | false => rw [if_neg Bool.false_ne_true]; exact ⟨S1, env, P, m1.g, m1.re, hk.2 rfl, fun b S' H' le => fin b S' H' (le1.trans le)⟩
theorem ut_not (ha : UT X a tA) : UT X (.UnaryOp .Not a pos) (uNot tA) := PT.imp (pt_not ha) fun σ H Q ⟨S, env, P, g, re, h, fin⟩ =>
  lfT_bind ⟨g, re⟩ h fun k S1 H1 le1 m1 hk => fin (!k) S1 H1 le1 m1.g hk
/-- values of and, or: bools on the left -/
def uAndV (ta tb : UTE) : UTE := fun env S P => ta env S fun x S1 => match x with
  | .bl k => (k = true → tb env S1 P) ∧ (k = false → P (.bl false) S1)
  | _ => False
def uOrV (ta tb : UTE) : UTE := fun env S P => ta env S fun x S1 => match x with
  | .bl k => (k = true → P (.bl true) S1) ∧ (k = false → tb env S1 P)
  | _ => False
def uNotV (ta : UTE) : UTE := fun env S P => ta env S fun x S1 => match x with
  | .bl k => P (.bl (!k)) S1
  | _ => False
theorem ue_one {op} (ha : UE X a ta) : UE X (.BoolOp op [a] pos) ta := pe_one ha
theorem ue_and (ha : UE X a ta) (hb : UE X (.BoolOp .And (b :: rest) pos) tb) : UE X (.BoolOp .And (a :: b :: rest) pos) (uAndV ta tb) := PE.imp (pe_and ha hb) fun σ H Q ⟨S, env, P, g, re, h, fin⟩ => by
  refine lf_bind ⟨g, re⟩ h fun v x S1 H1 le1 m1 rx hk => ?_
  cases x with
  | bl k =>
    cases rx
    refine ⟨k, rfl, ?_⟩
    cases k with
    | true => rw [if_pos rfl]; exact ⟨S1, env, P, m1.g, m1.re, hk.1 rfl, fin.le le1⟩
    | false => rw [if_neg Bool.false_ne_true]; exact fin _ _ S1 H1 le1 m1.g (.bl _) (hk.2 rfl)
  | _ => exact hk.elim
theorem ue_or (ha : UE X a ta) (hb : UE X (.BoolOp .Or (b :: rest) pos) tb) : UE X (.BoolOp .Or (a :: b :: rest) pos) (uOrV ta tb) := PE.imp (pe_or ha hb) fun σ H Q ⟨S, env, P, g, re, h, fin⟩ => by
  refine lf_bind ⟨g, re⟩ h fun v x S1 H1 le1 m1 rx hk => ?_
  cases x with
  | bl k =>
    cases rx
    refine ⟨k, rfl, ?_⟩
    cases k with
    | true => rw [if_pos rfl]; exact fin _ _ S1 H1 le1 m1.g (.bl _) (hk.1 rfl)
    | false => rw [if_neg Bool.false_ne_true]; exact ⟨S1, env, P, m1.g, m1.re, hk.2 rfl, fin.le le1⟩
  | _ => exact hk.elim
theorem ue_not (ha : UE X a ta) : UE X (.UnaryOp .Not a pos) (uNotV ta) := PE.imp (pe_not ha) fun σ H Q ⟨S, env, P, g, re, h, fin⟩ => by
  refine lf_bind ⟨g, re⟩ h fun v x S1 H1 le1 m1 rx hk => ?_
  cases x with
  | bl k => cases rx; exact ⟨k, rfl, fin _ _ S1 H1 le1 m1.g (.bl _) hk⟩
  | _ => exact hk.elim
def uIfE (t : UTT) (ta tb : UTE) : UTE := fun env S P => t env S fun k S1 => (k = true → ta env S1 P) ∧ (k = false → tb env S1 P)
theorem ue_ifExp (hc : UT X c tA) (ha : UE X a ta) (hb : UE X b tb) : UE X (.IfExp c a b pos) (uIfE tA ta tb) := PE.imp (pe_ifExp hc ha hb) fun σ H Q ⟨S, env, P, g, re, h, fin⟩ => by
  refine lfT_bind ⟨g, re⟩ h fun k S1 H1 le1 m1 hk => ?_
  cases k with
  | true => rw [if_pos rfl]; exact ⟨S1, env, P, m1.g, m1.re, hk.1 rfl, fin.le le1⟩
  | false => rw [if_neg Bool.false_ne_true]; exact ⟨S1, env, P, m1.g, m1.re, hk.2 rfl, fin.le le1⟩

/-! ### arguments, displays -/
def uNil : UTA := fun _ S P => P [] S
def uCons (ta : UTE) (tr : UTA) : UTA := fun env S P => ta env S fun x S1 => tr env S1 fun xs S2 => P (x :: xs) S2
variable {tr : UTA}
theorem ua_nil : UA X [] uNil := PA.imp pa_nil fun σ H Q ⟨S, env, P, g, re, h, fin⟩ => fin [] [] S H .refl g .nil h
theorem ua_cons (ha : UE X e te) (hr : UA X es tr) (hs : starEach (e :: es) X.env = (false, eval e X.env) :: starEach es X.env := by rfl) : UA X (e :: es) (uCons te tr) := PA.imp (pa_cons ha hr hs) fun σ H Q ⟨S, env, P, g, re, h, fin⟩ =>
  lf_bind ⟨g, re⟩ h fun v x S1 H1 le1 m1 rx h1 => lfA_bind m1 h1 fun vs xs S2 H2 le2 m2 rxs h2 => fin (v :: vs) (x :: xs) S2 H2 (le1.trans le2) m2.g (.cons (rx.mono le2) rxs) h2
def uTup (t : UTA) : UTE := fun env S P => t env S fun ts S1 => ts.length ≤ sizeLine ∧ P (.tup ts) S1
def uLst (t : UTA) : UTE := fun env S P => t env S fun ts S1 => ts.length ≤ sizeLine ∧ P (.lst ts) S1
/-- a list that will change -/
def uLstC (t : UTA) : UTE := fun env S P => t env S fun ts S1 => ts.length ≤ sizeLine ∧ ∀ p, S1 p = none → P (.ref p) (updT S1 p (.lst ts))
section
variable {K : PySem.W.Frag} {S S1 : TH} {H H1 : Hp} {P : UX} {Q : VK} {vs : List V} {ts : List T}
theorem fin_tup {p : Addr} (fin : Fin K S H P Q) (g : Good K S H) (hp : H p = none) (r : Reps K S H vs ts) (h : P (.tup ts) S) : Q (.ref p) (upd H p (.tup vs)) :=
  fin _ _ S _ (Le.new g hp) (g.new hp) (.tupI (.inl ⟨g.free hp, upd_same⟩) (r.mono (Le.new g hp))) h
theorem fin_lst {p : Addr} (fin : Fin K S H P Q) (g : Good K S H) (hp : H p = none) (r : Reps K S H vs ts) (h : P (.lst ts) S) : Q (.ref p) (upd H p (.lst vs)) :=
  fin _ _ S _ (Le.new g hp) (g.new hp) (.lstI ⟨g.free hp, upd_same⟩ (r.mono (Le.new g hp))) h
end
theorem ue_tup {x1} (h : UA X es tr) : UE X (.Tuple es x1 pos) (uTup tr) := PE.imp (pe_tup h) fun σ H Q ⟨S, env, P, g, re, h, fin⟩ =>
  lfA_bind ⟨g, re⟩ h fun vs xs S1 H1 le1 m1 rx h1 => ⟨by rw [rx.1]; exact h1.1, fun p hp => fin_tup (fin.le le1) m1.g hp rx h1.2⟩
theorem ue_lst (h : UA X es tr) : UE X (.List es pos) (uLst tr) := PE.imp (pe_lst h) fun σ H Q ⟨S, env, P, g, re, h, fin⟩ =>
  lfA_bind ⟨g, re⟩ h fun vs xs S1 H1 le1 m1 rx h1 => ⟨by rw [rx.1]; exact h1.1, fun p hp => fin_lst (fin.le le1) m1.g hp rx h1.2⟩
theorem ue_lstC (h : UA X es tr) : UE X (.List es pos) (uLstC tr) := PE.imp (pe_lst h) fun σ H Q ⟨S, env, P, g, re, h, fin⟩ =>
  lfA_bind ⟨g, re⟩ h fun vs xs S1 H1 le1 m1 rx h1 => ⟨by rw [rx.1]; exact h1.1, fun p hp => fin _ _ _ _ (le1.trans (Le.newC hp)) (m1.g.newL hp rx) (.ref p) (h1.2 p (m1.g.free hp))⟩

/-! ### calls -/
def spU (K : PySem.W.Frag) (t : List T → TH → UX → Prop) : Sp := fun vs H Q _ => ∃ S ts P, Good K S H ∧ Reps K S H vs ts ∧ t ts S P ∧ Fin K S H P Q
def uCall (t : List T → TH → UX → Prop) (ta : UTA) : UTE := fun env S P => ta env S fun ts S1 => t ts S1 P
theorem ue_call {k : Nat} {f : Addr} {fd : FuncData} {ps : List Str} {t : List T → TH → UX → Prop} {x : Str} {p : Pos} (F : FnOk X.prog X.w X.K X.mg X.base CX0 k f fd ps (spU X.K t)) (hr : Room k X.A) (hg : Gl X x) (hm : X.mg x = some (.ref f))
    (hk : PySem.W.keepIn X.K (.ref f) = true) (hb : Binds X.K fd ps []) (ha : UA X (e :: es) tr) (hdb : (x == ("__debug__" : Str)) = false := by decide) (he : starEach (e :: es) X.env = (false, eval e X.env) :: starEach es X.env := by rfl)
    (hpl : (backTo pos (starEach es X.env)).any (·.1) = false := by rfl) : UE X (.Call (.Name x p) (e :: es) [] pos) (uCall t tr) :=
  PE.imp (pe_call F hr hg hm hk hb .nil pass0 ha hdb he hpl) fun σ H Q ⟨S, env, P, g, re, h, fin⟩ => lfA_bind ⟨g, re⟩ h fun vs xs S1 H1 le1 m1 rx h1 => by
    rw [List.append_nil]
    exact ⟨S1, xs, P, m1.g, rx, h1, fin.le le1⟩
def LCall (K : PySem.W.Frag) (r : List V → Hp → VK → Prop) (o : List T → TH → UX → Prop) : Prop := ∀ S H vs ts P Q, Good K S H → Reps K S H vs ts → o ts S P → Fin K S H P Q → r vs H Q
theorem ue_callB {x : Str} {id : String} {p : Pos} {r : List V → Hp → VK → Prop} {o : List T → TH → UX → Prop} (hc : CallR X (.builtin id) r) (l : LCall X.K r o) (hg : Gl X x) (hm : X.mg x = none) (hv : bootBuiltins x = some (.builtin id)) (ha : UA X (e :: es) tr)
    (hn : x ≠ "__name__" := by decide) (hdb : (x == ("__debug__" : Str)) = false := by decide) (he : starEach (e :: es) X.env = (false, eval e X.env) :: starEach es X.env := by rfl) (hpl : (backTo pos (starEach es X.env)).any (·.1) = false := by rfl) :
    UE X (.Call (.Name x p) (e :: es) [] pos) (uCall o tr) := PE.imp (pe_callB hc hg hm hv ha hn hdb he hpl) fun σ H Q ⟨S, env, P, g, re, h, fin⟩ =>
  lfA_bind ⟨g, re⟩ h fun vs xs S1 H1 le1 m1 rx h1 => l S1 H1 vs xs P Q m1.g rx h1 (fin.le le1)
theorem ue_callTy {x : Str} {n : String} {p : Pos} {r : List V → Hp → VK → Prop} {o : List T → TH → UX → Prop} (hc : CallR X (.type n) r) (l : LCall X.K r o) (hg : Gl X x) (hm : X.mg x = none) (hv : bootBuiltins x = some (.type n)) (ha : UA X (e :: es) tr)
    (hn : x ≠ "__name__" := by decide) (hdb : (x == ("__debug__" : Str)) = false := by decide) (he : starEach (e :: es) X.env = (false, eval e X.env) :: starEach es X.env := by rfl) (hpl : (backTo pos (starEach es X.env)).any (·.1) = false := by rfl) :
    UE X (.Call (.Name x p) (e :: es) [] pos) (uCall o tr) := PE.imp (pe_callTy hc hg hm hv ha hn hdb he hpl) fun σ H Q ⟨S, env, P, g, re, h, fin⟩ =>
  lfA_bind ⟨g, re⟩ h fun vs xs S1 H1 le1 m1 rx h1 => l S1 H1 vs xs P Q m1.g rx h1 (fin.le le1)

/-! ### statements -/
variable {st : Stmt} {sts : List Stmt} {t u : UTS}
def uNext : UTS := fun E env S => E.nx env S
def uSeq (t u : UTS) : UTS := fun E env S => t { E with nx := u E } env S
theorem uss_nil : USs X [] uNext := PSs.imp pss_nil fun D σ H ⟨S, env, E, g, re, h, fin⟩ => fin.nx σ env S H .refl g re h
theorem uss_cons (h1 : US X st t) (h2 : USs X sts u) : USs X (st :: sts) (uSeq t u) := PSs.imp (pss_cons h1 h2) fun D σ H ⟨S, env, E, g, re, h, fin⟩ =>
  ⟨S, env, _, g, re, h, ⟨fun σ' env' S' H' le g' re' hn => ⟨S', env', E, g', re', hn, fin.le le⟩, fin.rt, fin.bk, fin.ct⟩⟩
theorem uss_one (h1 : US X st t) : USs X [st] t := PSs.imp (pss_one h1) fun _ _ _ h => h
theorem us_pass : US X (.Pass pos) uNext := PS.imp ps_pass fun D σ H ⟨S, env, E, g, re, h, fin⟩ => fin.nx σ env S H .refl g re h
def uDrop (te : UTE) : UTS := fun E env S => te env S fun _ S1 => E.nx env S1
theorem us_expr (he : UE X e te) (hs : swapsWith e none pos.line X.env = pure false := by rfl) : US X (.Expr e pos) (uDrop te) := PS.imp (ps_expr he hs) fun D σ H ⟨S, env, E, g, re, h, fin⟩ =>
  lf_bind ⟨g, re⟩ h fun v x S1 H1 le1 m1 rx h1 => fin.nx σ env S1 H1 le1 m1.g m1.re h1
def uRet (te : UTE) : UTS := fun E env S => te env S E.rt
theorem us_ret (he : UE X e te) : US X (.Return (some e) pos) (uRet te) := PS.imp (ps_ret he) fun D σ H ⟨S, env, E, g, re, h, fin⟩ =>
  lf_bind ⟨g, re⟩ h fun v x S1 H1 le1 m1 rx h1 => fin.rt v x S1 H1 le1 m1.g rx h1
def uIf (k : UTT) (t u : UTS) : UTS := fun E env S => k env S fun b S1 => (b = true → t E env S1) ∧ (b = false → u E env S1)
theorem us_if {aa bb : List Stmt} (hc : UT X c tA) (ha : USs X aa t) (hb : USs X bb u) : US X (.If c aa bb pos) (uIf tA t u) := PS.imp (ps_if hc ha hb) fun D σ H ⟨S, env, E, g, re, h, fin⟩ =>
  lfT_bind ⟨g, re⟩ h fun k S1 H1 le1 m1 hk => by
    cases k with
    | true => rw [if_pos rfl]; exact ⟨S1, env, E, m1.g, m1.re, hk.1 rfl, fin.le le1⟩
    | false => rw [if_neg Bool.false_ne_true]; exact ⟨S1, env, E, m1.g, m1.re, hk.2 rfl, fin.le le1⟩
def uSet (i : Nat) (te : UTE) : UTS := fun E env S => te env S fun x S1 => E.nx (env.set i (some x)) S1
theorem us_set (i : Nat) {x : Str} {pos' : Pos} (hN : X.N.Nodup) (he : UE X e te) (hi : X.N[i]? = some x := by rfl) (hx : Loc X.env.scope x := by first | exact Or.inl rfl | exact Or.inr rfl) (hs : swapsWith e (some (.Name x pos')) pos.line X.env = pure false := by rfl)
    (hf : X.fn x = true ∨ X.env.scope.names.lookup x = some .local := by first | exact .inl rfl | exact .inr rfl) : US X (.Assign [.Name x pos'] e pos) (uSet i te) := PS.imp (ps_set hN hi hx he hs hf) fun D σ H ⟨S, env, E, g, re, h, fin⟩ =>
  lf_bind ⟨g, re⟩ h fun v y S1 H1 le1 m1 ry h1 => fin.nx _ _ S1 H1 le1 m1.g (m1.re.set ry) h1
/-- xs[i] = e of a cell -/
def uSetIx (te to ti : UTE) : UTS := fun E env S => te env S fun x S1 => to env S1 fun o S2 => ti env S2 fun i S3 => match o, i with
  | .ref p, .int k => ∃ ts j, S3 p = some (.lst ts) ∧ ixN ts.length k = some j ∧ E.nx env (updT S3 p (.lst (ts.set j x)))
  | _, _ => False
theorem us_setIx {o i : Expr} {to ti : UTE} {pos' : Pos} (he : UE X e te) (ho : UE X o to) (hi : UE X i ti)
    (ha : ∀ v, assign (.Subscript o i pos') X.env v = (do
      let ov ← holding [v] (eval o X.env)
      let iv ← holding [v, ov] (eval i X.env)
      standAt pos'
      holding [v, ov, iv] (setItem ov iv v)
      release [v, ov, iv] []) := by intro _; rfl) (hs : swapsWithSole [.Subscript o i pos'] e pos.line X.env = pure false := by rfl) (hw : swappedStores [.Subscript o i pos'] e X.env = pure none := by rfl)
    (h1 : (assignEach [.Subscript o i pos'] X.env).map (·.2) = [assign (.Subscript o i pos') X.env] := by rfl) : US X (.Assign [.Subscript o i pos'] e pos) (uSetIx te to ti) :=
  PS.imp (ps_asg he (pg_sub ho hi set_list ha) hs hw h1) fun D σ H ⟨S, env, E, g, re, h, fin⟩ =>
  lf_bind ⟨g, re⟩ h fun v x S1 H1 le1 m1 rx h1 => lf_bind m1 h1 fun ov o S2 H2 le2 m2 ro h2 => lf_bind m2 h2 fun iv i S3 H3 le3 m3 ri h3 => by
    cases o with
    | ref p =>
      cases i with
      | int k =>
        obtain ⟨ts, j, e1, e2, e3⟩ := h3
        obtain ⟨vs, q, rv⟩ := m3.g p _ e1
        cases ro
        cases ri
        have rx3 := rx.mono (le2.trans le3)
        refine ⟨p, vs, k, j, rfl, rfl, q, by rw [rv.1]; exact e2, ?_⟩
        exact fin.nx σ env _ _ (le1.trans (le2.trans (le3.trans (Le.write e1)))) (m3.g.writeL e1 (rv.set rx3)) (m3.re.mono (Le.write e1)) e3
      | _ => exact h3.elim
    | _ => exact h3.elim
end
end TL
end
section
set_option Elab.async false
set_option linter.all false
set_option maxRecDepth 100000
set_option maxHeartbeats 4000000
namespace TL
open PySem PySem.Spec PyProof.Rows L2

/-! ### what is walked -/
structure Ylds (K : PySem.W.Frag) (J : It) (ts : List T) (S1 : TH) (H1 : Hp) : Prop where
  go : ∀ (i : Nat) S2 H2, Le S1 H1 S2 H2 → Good K S2 H2 → i < ts.length → J.go i H2
  stop : ∀ S2 H2, Le S1 H1 S2 H2 → Good K S2 H2 → J.stop ts.length H2
  yld : ∀ (i : Nat) S2 H2 x H3, Le S1 H1 S2 H2 → Good K S2 H2 → i < ts.length → J.yld i H2 x H3 → Le S2 H2 S2 H3 ∧ Good K S2 H3 ∧ ∃ t, ts[i]? = some t ∧ Rep K S2 H3 x t
def lfI (K : PySem.W.Frag) (t : UTA) : TI := fun σ H R => ∃ S env P, Good K S H ∧ REnv K S H σ env ∧ t env S P ∧ ∀ ts J S1 H1, Le S H S1 H1 → Good K S1 H1 → P ts S1 → Ylds K J ts S1 H1 → R J H1
def UI (X : Cx) (tg iter : Expr) (t : UTA) : Prop := PI X tg iter (lfI X.K t)
abbrev UTG := T → Ev → TH → (Ev → TH → Prop) → Prop
def lfG (K : PySem.W.Frag) (g : UTG) : TG := fun v σ H Q => ∃ S env x P, Good K S H ∧ REnv K S H σ env ∧ Rep K S H v x ∧ g x env S P ∧ ∀ σ' env' S' H', Le S H S' H' → Good K S' H' → REnv K S' H' σ' env' → P env' S' → Q σ' H'
def UG (X : Cx) (tg : Expr) (g : UTG) : Prop := PG X tg (lfG X.K g)
theorem PI.imp {X : Cx} {tg e : Expr} {t t' : TI} (h : PI X tg e t) (i : ∀ σ H R, t' σ H R → t σ H R) : PI X tg e t' := fun pins s σ H R I q => h pins s σ H R I (i σ H R q)
theorem PG.imp {X : Cx} {tg : Expr} {t t' : TG} (h : PG X tg t) (i : ∀ v σ H Q, t' v σ H Q → t v σ H Q) : PG X tg t' := fun pins s σ H v u Q I r q => h pins s σ H v u Q I r (i v σ H Q q)

section
variable {K : PySem.W.Frag} {S : TH} {H : Hp} {a : Addr} {vs : List V} {ts : List T}
theorem ylds_list (f : ∀ S2 H2, Le S H S2 H2 → SqL K H2 a vs) (r : Reps K S H vs ts) : Ylds K (Itl K a) ts S H where
  go := fun i S2 H2 le g hi => ⟨vs, vs[i]'(by rw [r.1]; exact hi), (f S2 H2 le), List.getElem?_eq_getElem _⟩
  stop := fun S2 H2 le g => ⟨vs, f S2 H2 le, by rw [r.1]; exact Nat.le_refl _⟩
  yld := fun i S2 H2 x H3 le g hi y => by
    obtain ⟨rfl, y⟩ := y
    obtain ⟨t, et, rt⟩ := r.get' (y vs (f _ _ le))
    exact ⟨.refl, g, t, et, rt.mono le⟩
theorem ylds_tup (f : FT K S H a vs) (r : Reps K S H vs ts) : Ylds K (Itt K a) ts S H where
  go := fun i S2 H2 le g hi => ⟨vs, vs[i]'(by rw [r.1]; exact hi), (f.mono le).sq, List.getElem?_eq_getElem _⟩
  stop := fun S2 H2 le g => ⟨vs, (f.mono le).sq, by rw [r.1]; exact Nat.le_refl _⟩
  yld := fun i S2 H2 x H3 le g hi y => by
    obtain ⟨rfl, y⟩ := y
    obtain ⟨t, et, rt⟩ := r.get' (y vs (f.mono le).sq)
    exact ⟨.refl, g, t, et, rt.mono le⟩
def rngT (n : Nat) : List T := (List.range n).map fun (k : Nat) => T.int (k : Int)
theorem rngT_length (n : Nat) : (rngT n).length = n := by simp [rngT]
theorem rngT_get {n i : Nat} (h : i < n) : (rngT n)[i]? = some (.int i) := by simp [rngT, h]
theorem ylds_rng {n : Nat} : Ylds K (Itr 0 n) (rngT n) S H where
  go := fun i S2 H2 le g hi => by rw [rngT_length] at hi; exact hi
  stop := fun S2 H2 le g => by rw [rngT_length]; exact Nat.le_refl n
  yld := fun i S2 H2 x H3 le g hi y => by
    obtain ⟨rfl, rfl⟩ := y
    rw [rngT_length] at hi
    refine ⟨.refl, g, .int i, rngT_get hi, ?_⟩
    rw [Int.zero_add]
    exact .int _
end

section
variable {X : Cx} {a b c e tg iter : Expr} {es : List Expr} {ta tb te : UTE} {tr : UTA} {pos : Pos}
/-- a list or a tuple as it comes -/
def iSeq (K : PySem.W.Frag) (tl : TE) : TI := fun σ H R => tl σ H fun x H1 => ∃ a, x = .ref a ∧ (((∃ xs, SqL K H1 a xs) ∧ R (Itl K a) H1) ∨ ((∃ xs, SqT K H1 a xs) ∧ R (Itt K a) H1))
theorem pi_seq {tl : TE} (hl : PE X iter tl) : PI X tg iter (iSeq X.K tl) := by
  intro pins s σ H R I h
  refine thn (hl pins s σ H _ I h) fun v s1 hv => ?_
  obtain ⟨x, H1, I1, r1, q1⟩ := hv
  obtain ⟨l, e, q⟩ := q1
  subst e
  cases r1
  rcases q with ⟨⟨xs, hq⟩, q⟩ | ⟨⟨xs, hq⟩, q⟩
  · obtain ⟨its, rv, p, hz⟩ := I1.list hq
    exact wpAny_pyIter_list p.isList ⟨s1.heap.objs.size, [s1.heap.objs.size], _, _, H1, rfl, I1.kept (t' := s1.toks) (fun b o e => Heap.get?_push_of_some _ e), turn_list l _, ⟨_, Heap.get?_push_size _ rfl, rfl, rfl⟩,
      (fun b hb => by rw [List.mem_singleton.mp hb]; exact I1.fpOk (Nat.le_refl _) (I1.hok.fresh (Nat.le_refl _))), q⟩
  · obtain ⟨its, rv, p, hz⟩ := I1.tuple hq
    exact wpAny_pyIter_tuple (show s1.heap.IsTuple l its.toArray from p) ⟨s1.heap.objs.size, [s1.heap.objs.size], _, _, H1, rfl, I1.kept (t' := s1.toks) (fun b o e => Heap.get?_push_of_some _ e), turn_tuple l _, ⟨_, Heap.get?_push_size _ rfl, rfl, rfl⟩,
      (fun b hb => by rw [List.mem_singleton.mp hb]; exact I1.fpOk (Nat.le_refl _) (I1.hok.fresh (Nat.le_refl _))), q⟩
def uSeqOf (t : UTE) : UTA := fun env S P => t env S fun x S1 => match x with
  | .lst ts => P ts S1
  | .fls ts => P ts S1
  | .tup ts => P ts S1
  | _ => False
theorem ui_seq (h : UE X iter te) : UI X tg iter (uSeqOf te) := PI.imp (pi_seq h) fun σ H R ⟨S, env, P, g, re, h, fin⟩ => lf_bind ⟨g, re⟩ h fun v x S1 H1 le1 m1 rx h1 => by
  cases x with
  | lst ts =>
    obtain ⟨l, vs, rfl, f, r⟩ := rx.lstE
    exact ⟨l, rfl, .inl ⟨⟨vs, f.sq⟩, fin ts _ S1 H1 le1 m1.g h1 (ylds_list (fun _ _ le => (f.mono le).sq) r)⟩⟩
  | fls ts =>
    obtain ⟨l, vs, rfl, f, r⟩ := rx.flsE
    exact ⟨l, rfl, .inl ⟨⟨vs, f.sq⟩, fin ts _ S1 H1 le1 m1.g h1 (ylds_list (fun _ _ le => (f.mono le).sq) r)⟩⟩
  | tup ts =>
    obtain ⟨l, vs, rfl, f, r⟩ := rx.tupE
    exact ⟨l, rfl, .inr ⟨⟨vs, f.sq⟩, fin ts _ S1 H1 le1 m1.g h1 (ylds_tup f r)⟩⟩
  | _ => exact h1.elim
def uRng1 (t : UTA) : UTA := fun env S P => t env S fun ts S1 => match ts with
  | [.int j] => -(2 ^ 62) ≤ j ∧ j < 2 ^ 62 ∧ P (rngT j.toNat) S1
  | _ => False
theorem ui_range1 {p : Pos} (hg : Gl X "range") (hm : X.mg "range" = none) (ha : UA X [a] tr) (hs : starEach [a] X.env = [(false, eval a X.env)] := by rfl) : UI X tg (.Call (.Name "range" p) [a] [] pos) (uRng1 tr) :=
  PI.imp (pi_range1 hg hm ha hs) fun σ H R ⟨S, env, P, g, re, h, fin⟩ => lfA_bind ⟨g, re⟩ h fun vs xs S1 H1 le1 m1 rx h1 => by
    match xs, vs, rx, h1 with
    | [.int j], [v], rx, h1 =>
      have r0 := rx.head
      cases r0
      exact ⟨j, rfl, h1.1, h1.2.1, fin _ _ S1 H1 le1 m1.g h1.2.2 ylds_rng⟩
    | [.int j], [], rx, _ => exact absurd rx.1 (by simp)
    | [.int j], _ :: _ :: _, rx, _ => exact absurd rx.1 (by simp)
def gNm (i : Nat) : UTG := fun x env S P => P (env.set i (some x)) S
theorem ug_name (i : Nat) {x : Str} (hN : X.N.Nodup) (hi : X.N[i]? = some x := by rfl) (hx : Loc X.env.scope x := by first | exact Or.inl rfl | exact Or.inr rfl) (hf : X.fn x = true ∨ X.env.scope.names.lookup x = some .local := by first | exact .inl rfl | exact .inr rfl) :
    UG X (.Name x pos) (gNm i) := PG.imp (pg_name hN hi hx hf) fun v σ H Q ⟨S, env, x, P, g, re, rx, h, fin⟩ => fin _ _ S H .refl g (re.set rx) h
/-- two names at a pair -/
def gPr (i j : Nat) : UTG := fun x env S P => match x with
  | .tup [x, y] => P ((env.set i (some x)).set j (some y)) S
  | _ => False
theorem ug_pair (i j : Nat) {x y : Str} {p1 p2 : Pos} {k : Nat} (hc : X.calm = true) (hN : X.N.Nodup) (hi : X.N[i]? = some x := by rfl) (hx : Loc X.env.scope x := by first | exact Or.inl rfl | exact Or.inr rfl) (hf : X.fn x = true ∨ X.env.scope.names.lookup x = some .local := by first | exact .inl rfl | exact .inr rfl)
    (hj : X.N[j]? = some y := by rfl) (hy : Loc X.env.scope y := by first | exact Or.inl rfl | exact Or.inr rfl) (hfy : X.fn y = true ∨ X.env.scope.names.lookup y = some .local := by first | exact .inl rfl | exact .inr rfl) :
    UG X (.Tuple [.Name x p1, .Name y p2] k pos) (gPr i j) :=
  PG.imp (pg_tup (n := 2) hc (pgs_cons (pg_name hN hi hx hf) (pgs_cons (pg_name hN hj hy hfy) pgs_nil))) fun v σ H Q ⟨S, env, x, P, g, re, rx, h, fin⟩ => by
    cases x with
    | tup ts =>
      match ts, h with
      | [x, y], h =>
        obtain ⟨l, vs, rfl, f, r⟩ := rx.tupE
        match vs, f, r with
        | [v, w], f, r => exact ⟨l, [v, w], rfl, f.sq, rfl, v, [w], rfl, w, [], rfl, rfl, fin _ _ S H .refl g ((re.set r.head).set r.tail.head) h⟩
        | [], _, r => exact absurd r.1 (by simp)
        | [_], _, r => exact absurd r.1 (by simp)
        | _ :: _ :: _ :: _, _, r => exact absurd r.1 (by simp)
    | _ => exact h.elim

/-! ### for -/
variable {t : UTS} {body : List Stmt} {ti : UTA} {gg : UTG}
def uFor (ti : UTA) (gg : UTG) (tb : UTS) : UTS := fun E env S => ti env S fun ts S1 => ∃ Iv : Nat → Ev → TH → Prop, Iv 0 env S1 ∧
  (∀ k x env S, ts[k]? = some x → Iv k env S → gg x env S fun env' S' => tb { E with nx := Iv (k + 1), ct := Iv (k + 1), bk := E.nx } env' S') ∧ ∀ env S, Iv ts.length env S → E.nx env S
theorem us_for (hp : PassesOwn (model X.prog X.w) X.A X.env X.xe) (hc : X.calm = true) (hi : UI X tg iter ti) (hg : UG X tg gg) (hb : USs X body t) (hs : ∀ x, foldedSetIterable iter X.env x = pure x := by intro _; rfl) :
    US X (.For tg iter body [] pos) (uFor ti gg t) := PS.imp (ps_for hp hc hi hg hb hs) fun D σ H h => by
  obtain ⟨S, env, E, g, re, h, fin⟩ := h
  refine ⟨S, env, _, g, re, h, fun ts J S1 H1 le1 g1 hq yl => ?_⟩
  obtain ⟨Iv, i0, step, done⟩ := hq
  refine ⟨fun i m σ' H' => m = ts.length - i ∧ i ≤ ts.length ∧ ∃ S' env', Le S1 H1 S' H' ∧ Good X.K S' H' ∧ REnv X.K S' H' σ' env' ∧ Iv i env' S', ⟨ts.length, rfl, Nat.zero_le _, S1, env, .refl, g1, re.mono le1, i0⟩, ?_⟩
  rintro i m σ' H' ⟨rfl, hi, S', env', le', g', re', iv⟩
  by_cases hlt : i < ts.length
  · refine .inr ⟨yl.go i S' H' le' g' hlt, fun σ2 H2 => ∃ S2 env2, Le S1 H1 S2 H2 ∧ Good X.K S2 H2 ∧ REnv X.K S2 H2 σ2 env2 ∧ Iv (i + 1) env2 S2, fun σ2 H2 z => ?_, fun x H2 y => ?_⟩
    · exact ⟨ts.length - (i + 1), by omega, rfl, hlt, z⟩
    · obtain ⟨le2, g2, tt, et, rt⟩ := yl.yld i S' H' x H2 le' g' hlt y
      refine ⟨S', env', tt, _, g2, re'.mono le2, rt, step i tt env' S' et iv, fun σ3 env3 S3 H3 le3 g3 re3 hb3 => ?_⟩
      have l03 : Le S H S3 H3 := le1.trans (le'.trans (le2.trans le3))
      have l13 : Le S1 H1 S3 H3 := le'.trans (le2.trans le3)
      refine ⟨S3, env3, _, g3, re3, hb3, ⟨fun σ4 env4 S4 H4 le4 g4 re4 q => ⟨S4, env4, l13.trans le4, g4, re4, q⟩, fun v r S4 H4 le4 g4 rp q => fin.rt v r S4 H4 (l03.trans le4) g4 rp q, fun σ4 env4 S4 H4 le4 g4 re4 q => fin.nx σ4 env4 S4 H4 (l03.trans le4) g4 re4 q, fun σ4 env4 S4 H4 le4 g4 re4 q => ⟨S4, env4, l13.trans le4, g4, re4, q⟩⟩⟩
  · have ei : i = ts.length := by omega
    subst ei
    exact .inl ⟨yl.stop S' H' le' g', fin.nx σ' env' S' H' (le1.trans le') g' re' (done env' S' iv)⟩
def uWhile (k : UTT) (tb : UTS) : UTS := fun E env S => ∃ Iv : Nat → Ev → TH → Prop, (∃ m, Iv m env S) ∧ ∀ m env S, Iv m env S → k env S fun b S1 =>
  (b = true → tb { E with nx := fun env' S' => ∃ m', m' < m ∧ Iv m' env' S', ct := fun env' S' => ∃ m', m' < m ∧ Iv m' env' S', bk := E.nx } env S1) ∧ (b = false → E.nx env S1)
theorem us_while {tA : UTT} (hp : PassesOwn (model X.prog X.w) X.A X.env X.xe) (hc : UT X c tA) (hb : USs X body t) : US X (.While c body [] pos) (uWhile tA t) := PS.imp (ps_while hp hc hb) fun D σ H h => by
  obtain ⟨S, env, E, g, re, ⟨Iv, ⟨m0, i0⟩, step⟩, fin⟩ := h
  refine ⟨fun m σ' H' => ∃ S' env', Le S H S' H' ∧ Good X.K S' H' ∧ REnv X.K S' H' σ' env' ∧ Iv m env' S', ⟨m0, S, env, .refl, g, re, i0⟩, ?_⟩
  rintro m σ' H' ⟨S', env', le', g', re', iv⟩
  refine lfT_bind ⟨g', re'⟩ (step m env' S' iv) fun k S1 H1 le1 m1 hk => ?_
  cases k with
  | false => rw [if_neg Bool.false_ne_true]; exact fin.nx σ' env' S1 H1 (le'.trans le1) m1.g m1.re (hk.2 rfl)
  | true =>
    rw [if_pos rfl]
    refine ⟨fun σ2 H2 => ∃ m', m' < m ∧ ∃ S2 env2, Le S H S2 H2 ∧ Good X.K S2 H2 ∧ REnv X.K S2 H2 σ2 env2 ∧ Iv m' env2 S2, fun σ2 H2 z => z, S1, env', _, m1.g, m1.re, hk.1 rfl, ?_⟩
    have l01 : Le S H S1 H1 := le'.trans le1
    exact ⟨fun σ4 env4 S4 H4 le4 g4 re4 ⟨m', hm, q⟩ => ⟨m', hm, S4, env4, l01.trans le4, g4, re4, q⟩, fun v r S4 H4 le4 g4 rp q => fin.rt v r S4 H4 (l01.trans le4) g4 rp q, fun σ4 env4 S4 H4 le4 g4 re4 q => fin.nx σ4 env4 S4 H4 (l01.trans le4) g4 re4 q, fun σ4 env4 S4 H4 le4 g4 re4 ⟨m', hm, q⟩ => ⟨m', hm, S4, env4, l01.trans le4, g4, re4, q⟩⟩

/-! ### a list comprehension -/
def evOf (pick : List (Option Nat)) (env : Ev) : Ev := pick.map fun o => match o with
  | none => none
  | some j => match env[j]? with
    | some (some v) => some v
    | _ => none
/-- the names within by their slots without; Iv: what is told after k turns -/
def uComp (pick : List (Option Nat)) (ti : UTA) (gg : UTG) (tc : UTT) (te : UTE) : UTE := fun env S P => ti env S fun ts S1 => ts.length ≤ sizeLine ∧ ∃ Iv : Nat → List T → TH → Prop, Iv 0 [] S1 ∧
  (∀ k x acc S, ts[k]? = some x → Iv k acc S → gg x (evOf pick env) S fun env' S' => tc env' S' fun b S2 => (b = true → te env' S2 fun r S3 => Iv (k + 1) (acc ++ [r]) S3) ∧ (b = false → Iv (k + 1) acc S2)) ∧
  ∀ acc S, Iv ts.length acc S → P (.lst acc) S
end

theorem REnv.pick {K : PySem.W.Frag} {S : TH} {H : Hp} {σ : L2.St} {env : Ev} (h : REnv K S H σ env) (pick : List (Option Nat)) : REnv K S H (slotsOf pick σ) (evOf pick env) := by
  refine ⟨by simp [slotsOf, evOf], fun i t e => ?_⟩
  unfold evOf at e
  unfold slotsOf
  rw [List.getElem?_map] at e ⊢
  cases ep : pick[i]? with
  | none => rw [ep] at e; cases e
  | some o =>
    rw [ep] at e
    cases o with
    | none => cases e
    | some j =>
      cases ev : env[j]? with
      | none => simp only [ev, Option.map_some, Option.some.injEq] at e; cases e
      | some ov =>
        cases ov with
        | none => simp only [ev, Option.map_some, Option.some.injEq] at e; cases e
        | some t' =>
          simp only [ev, Option.map_some, Option.some.injEq] at e
          subst e
          obtain ⟨v, e', r⟩ := h.2 j _ ev
          exact ⟨v, by simp only [Option.map_some, e'], r⟩
theorem keep_set {pick : List (Option Nat)} {σ : L2.St} {i : Nat} {v : V} (h : pick[i]? = some none) : Keep (slotsOf pick σ) ((slotsOf pick σ).set i (some v)) := by
  refine ⟨by simp, fun j w e => ?_⟩
  by_cases hj : i = j
  · subst hj
    unfold slotsOf at e
    rw [List.getElem?_map, h] at e
    cases e
  · rw [List.getElem?_set_ne hj]; exact e
theorem keep_set2 {pick : List (Option Nat)} {σ : L2.St} {i j : Nat} {v w : V} (h : pick[i]? = some none) (h' : pick[j]? = some none) : Keep (slotsOf pick σ) (((slotsOf pick σ).set i (some v)).set j (some w)) := by
  obtain ⟨a1, a2⟩ := keep_set (σ := σ) (v := v) h
  refine ⟨by simp, fun k x e => ?_⟩
  by_cases hj : j = k
  · subst hj
    unfold slotsOf at e
    rw [List.getElem?_map, h'] at e
    cases e
  · rw [List.getElem?_set_ne hj]; exact a2 k x e

section
variable {X : Cx} {elt iter : Expr} {ti : UTA} {tc : UTT} {te : UTE} {pos : Pos} {scope : Scope} {ifs : List Expr} {N : List Str} {pick : List (Option Nat)}
/-- the turns of a comprehension: from trees to values; set is what the target does to the slots -/
theorem comp_read {K : PySem.W.Frag} {g : TG} {gg : UTG} {σ : L2.St} {H : Hp} {Q : VK}
    (hg : ∀ x tt S1 H1 env (k : Ev → TH → Prop) (R : L2.St → Hp → Prop), Good K S1 H1 → REnv K S1 H1 (slotsOf pick σ) (evOf pick env) → Rep K S1 H1 x tt → gg tt (evOf pick env) S1 k →
      (∀ σ2 env2, REnv K S1 H1 σ2 env2 → k env2 S1 → R σ2 H1) → g x (slotsOf pick σ) H1 fun σ2 H2 => Keep (slotsOf pick σ) σ2 ∧ R σ2 H2)
    (h : lf K (uComp pick ti gg tc te) σ H Q) : tComp pick (lfI K ti) g (lfT K tc) (lf K te) σ H Q := by
  obtain ⟨S, env, P, gd, re, h, fin⟩ := h
  refine ⟨S, env, _, gd, re, h, fun ts J S1 H1 le1 g1 hq yl => ?_⟩
  obtain ⟨hz, Iv, i0, step, done⟩ := hq
  refine ⟨fun k m acc H' => m = ts.length - k ∧ k ≤ ts.length ∧ acc.length ≤ k ∧ ∃ S' racc, Le S1 H1 S' H' ∧ Good K S' H' ∧ Reps K S' H' acc racc ∧ Iv k racc S', ⟨ts.length, rfl, Nat.zero_le _, Nat.le_refl _, S1, [], .refl, g1, .nil, i0⟩, ?_⟩
  rintro k m acc H' ⟨rfl, hk, ha, S', racc, le', g', ra, iv⟩
  by_cases hlt : k < ts.length
  · refine .inr ⟨yl.go k S' H' le' g' hlt, by omega, fun acc' H2 => acc'.length ≤ k + 1 ∧ ∃ S2 racc', Le S1 H1 S2 H2 ∧ Good K S2 H2 ∧ Reps K S2 H2 acc' racc' ∧ Iv (k + 1) racc' S2, fun acc' H2 z => ⟨ts.length - (k + 1), by omega, rfl, hlt, z.1, z.2⟩, fun x H2 y => ?_⟩
    obtain ⟨le2, g2, tt, et, rt⟩ := yl.yld k S' H' x H2 le' g' hlt y
    have l02 : Le S H S' H2 := le1.trans (le'.trans le2)
    refine hg x tt S' H2 env _ _ g2 ((re.mono l02).pick pick) rt (step k tt racc S' et iv) fun σ2 env2 re2 h2 => ?_
    refine lfT_bind ⟨g2, re2⟩ h2 fun b S3 H3 le3 m3 hb => ?_
    have l13 : Le S1 H1 S3 H3 := le'.trans (le2.trans le3)
    have r3 := ra.mono (le2.trans le3)
    cases b with
    | false => rw [if_neg Bool.false_ne_true]; exact ⟨by omega, S3, racc, l13, m3.g, r3, hb.2 rfl⟩
    | true =>
      rw [if_pos rfl]
      refine lf_bind m3 (hb.1 rfl) fun w r S4 H4 le4 m4 rw4 h4 => ?_
      exact ⟨by rw [List.length_append, List.length_singleton]; omega, S4, racc ++ [r], l13.trans le4, m4.g, (r3.mono le4).append (.cons rw4 .nil), h4⟩
  · have ek : k = ts.length := by omega
    subst ek
    exact .inl ⟨yl.stop S' H' le' g', by omega, fun p hp => fin_lst (fin.le (le1.trans le')) g' hp ra (done racc S' iv)⟩
theorem ue_comp1 (i : Nat) (N : List Str) (pick : List (Option Nat)) {x : Str} {px : Pos} (hc : X.calm = true) (hi : UI X (.Name x px) iter ti) (ht : ∀ C s H fp pins, PTs (cxComp X N scope C s H fp pins) ifs (lfT X.K tc)) (he : ∀ C s H fp pins, UE (cxComp X N scope C s H fp pins) elt te)
    (hs : scopeOk X.env.scope.names scope.names = true := by rfl) (hp : pickOk X.N scope.names N pick = true := by rfl) (hk : scope.kind = .function := by rfl) (hN : N.Nodup := by decide +kernel)
    (hiN : N[i]? = some x := by rfl) (hpi : pick[i]? = some none := by rfl) (hloc : scope.names.lookup x = some .local := by rfl) (hfs : ∀ x, foldedSetIterable iter X.env x = pure x := by intro _; rfl) :
    UE X (.ListComp elt [⟨.Name x px, iter, ifs, 0⟩] scope pos) (uComp pick ti (gNm i) tc te) :=
  PE.imp (pe_comp hc hs hp hk hi (fun C s H fp pins => pg_name (i := i) hN hiN (.inl (lookup_relabel_local hloc)) (.inr (lookup_relabel_local hloc))) ht (te := lf X.K te) he hfs) fun σ H Q h =>
    comp_read (fun y tt S1 H1 env k R gd re rt hg hR => ⟨keep_set hpi, hR _ _ (re.set rt) hg⟩) h
theorem ue_comp2 (i j : Nat) (N : List Str) (pick : List (Option Nat)) {x y : Str} {p1 p2 p3 : Pos} {kk : Nat} (hc : X.calm = true) (hi : UI X (.Tuple [.Name x p1, .Name y p2] kk p3) iter ti) (ht : ∀ C s H fp pins, PTs (cxComp X N scope C s H fp pins) ifs (lfT X.K tc))
    (he : ∀ C s H fp pins, UE (cxComp X N scope C s H fp pins) elt te)
    (hs : scopeOk X.env.scope.names scope.names = true := by rfl) (hp : pickOk X.N scope.names N pick = true := by rfl) (hk : scope.kind = .function := by rfl) (hN : N.Nodup := by decide +kernel)
    (hiN : N[i]? = some x := by rfl) (hpi : pick[i]? = some none := by rfl) (hloc : scope.names.lookup x = some .local := by rfl) (hjN : N[j]? = some y := by rfl) (hpj : pick[j]? = some none := by rfl) (hloc' : scope.names.lookup y = some .local := by rfl)
    (hfs : ∀ x, foldedSetIterable iter X.env x = pure x := by intro _; rfl) :
    UE X (.ListComp elt [⟨.Tuple [.Name x p1, .Name y p2] kk p3, iter, ifs, 0⟩] scope pos) (uComp pick ti (gPr i j) tc te) :=
  PE.imp (pe_comp (g := gTup X.K 2 (gCons (gName i) (gCons (gName j) gNil))) hc hs hp hk hi (fun C s H fp pins => pg_tup (X := cxComp X N scope C s H fp pins) (n := 2) hc (pgs_cons (pg_name (X := cxComp X N scope C s H fp pins) (i := i) hN hiN (.inl (lookup_relabel_local hloc)) (.inr (lookup_relabel_local hloc))) (pgs_cons (pg_name (X := cxComp X N scope C s H fp pins) (i := j) hN hjN (.inl (lookup_relabel_local hloc')) (.inr (lookup_relabel_local hloc'))) pgs_nil))) ht (te := lf X.K te) he hfs) fun σ H Q h =>
    comp_read (fun v tt S1 H1 env k R gd re rt hg hR => by
      cases tt with
      | tup ts =>
        match ts, hg with
        | [a, b], hg =>
          obtain ⟨l, vs, rfl, f, r⟩ := rt.tupE
          match vs, f, r with
          | [v, w], f, r => exact ⟨l, [v, w], rfl, f.sq, rfl, v, [w], rfl, w, [], rfl, rfl, keep_set2 hpi hpj, hR _ _ ((re.set r.head).set r.tail.head) hg⟩
          | [], _, r => exact absurd r.1 (by simp)
          | [_], _, r => exact absurd r.1 (by simp)
          | _ :: _ :: _ :: _, _, r => exact absurd r.1 (by simp)
      | _ => exact hg.elim) h
def uYes : UTT := fun _ S P => P true S
theorem uts_nil : PTs X [] (lfT X.K uYes) := fun pins s σ H Q I h => pts_nil pins s σ H Q I (by
  obtain ⟨S, env, P, g, re, h, fin⟩ := h
  exact fin true S H .refl g h)
theorem uts_one {c : Expr} (h : UT X c tc) : PTs X [c] (lfT X.K tc) := pts_one h
end

/-! ### a def keeps its promise -/
def startT (N : List Str) (ts : List T) : Ev := ts.map some ++ List.replicate (N.length - ts.length) none
section
variable {P : Program} {w : World} {K : PySem.W.Frag} {mg : Str → Option Value} {base : Heap}
theorem renv_start {S : TH} {H : Hp} {N : List Str} {vs : List V} {ts : List T} (r : Reps K S H vs ts) : REnv K S H (L2.start N vs) (startT N ts) := by
  refine ⟨by simp [L2.start, startT, r.1], fun i t e => ?_⟩
  unfold startT at e
  unfold L2.start
  by_cases hi : i < ts.length
  · rw [List.getElem?_append_left (by simpa using hi), List.getElem?_map] at e
    cases et : ts[i]? with
    | none => rw [et] at e; cases e
    | some t' =>
      rw [et] at e
      cases e
      obtain ⟨v, ev, rv⟩ := r.get et
      refine ⟨v, ?_, rv⟩
      rw [List.getElem?_append_left (by simp [r.1]; exact hi), List.getElem?_map, ev]
      rfl
  · rw [List.getElem?_append_right (by simpa using hi), List.getElem?_replicate] at e
    split at e <;> cases e
theorem def_u {x qual : Str} {st : Stmt} {f : Addr} {fd : FuncData} {N ps : List Str} {k : Nat} {t : List T → TH → UX → Prop} (F : Fun K x qual st f fd) (Sc : FnScope N ps (defScope st)) (hl : ∀ ts S Pp, t ts S Pp → ts.length = ps.length)
    (hb : ∀ (cdv : Value) (A : Around) (outer : List Env) (s : Shared) (H : Hp) (E : XK), Room k (A.deeper (envOfC qual (defScope st) s.heap.objs.size f cdv)) →
      ∃ tb, USs (cxOf CX0 P w K mg base N qual (defScope st) f cdv A outer s H E).nox (defBody st) tb ∧ ∀ ts S Pp, t ts S Pp → tb { nx := fun _ S' => Pp .non S', rt := Pp } (startT N ts) S) :
    FnOk P w K mg base CX0 (k + 1) f fd ps (spU K t) := by
  refine F.ok Sc (fun vs H Q E h => ?_) (fun cdv A outer s H vs Q E hr h => ?_)
  · obtain ⟨S, ts, Pp, _, r, h, _⟩ := h
    rw [r.1]
    exact hl ts S Pp h
  · obtain ⟨S, ts, Pp, g, r, h, fin⟩ := h
    obtain ⟨tb, hu, hq⟩ := hb cdv A outer s H E hr
    refine ⟨_, hu, S, startT N ts, _, g, renv_start r, hq ts S Pp h, ⟨fun σ' env' S' H' le g' re' q => fin .non .non S' H' le g' .non q, fun v r' S' H' le g' rp q => fin v r' S' H' le g' rp q, fun _ _ _ _ _ _ _ z => z.elim, fun _ _ _ _ _ _ _ z => z.elim⟩⟩
/-- a promise of a def, at every number of calls it needs -/
theorem none_u {f : Addr} {fd : FuncData} {ps : List Str} {k : Nat} {t : List T → TH → UX → Prop} (h : ∀ ts S Pp, ¬ t ts S Pp) : FnOk P w K mg base CX0 k f fd ps (spU K t) := by
  have no : ∀ vs H Q E, ¬ spU K t vs H Q E := fun vs H Q E z => by
    obtain ⟨S, ts, Pp, _, _, z, _⟩ := z
    exact h ts S Pp z
  exact ⟨fun vs H Q E z => absurd z (no vs H Q E), fun A outer s H args us vs Q E _ _ _ _ z => absurd z (no vs H Q E)⟩
end
end TL
end
section
set_option Elab.async false
set_option linter.all false
set_option maxRecDepth 100000
set_option maxHeartbeats 4000000
namespace L2
open PySem PySem.Spec PyProof.Rows
section
variable {X : Cx}
/-- isinstance(x, c), c a built-in type -/
theorem call_isi : CallR X (.builtin "isinstance") (fun xs H Q => ∃ x c t b, xs = [x, .ty c] ∧ TyOf X.K H x t ∧ PySem.W.kitOne X.K t (.type c) = some b ∧ Q (.bl b) H) := by
  intro pins s σ H xs us Q I r h
  obtain ⟨x, c, t, b, rfl, ty, e, q⟩ := h
  obtain ⟨u, u2, rfl, r1, r2⟩ := vals2 r
  cases (show u2 = Value.type c from r2)
  exact isinst_ok I r1 ty e fun tk => ⟨.bl b, H, I.tok tk, rfl, q⟩
end
end L2
namespace TL
open PySem PySem.Spec PyProof.Rows L2
section
variable {K : PySem.W.Frag} {S : TH} {H : Hp} {vs : List V} {ts : List T} {t : T} {i : Int}
theorem Reps.at (h : Reps K S H vs ts) (e : atI ts i = some t) : ∃ v, atI vs i = some v ∧ Rep K S H v t := by
  unfold atI at e ⊢
  rw [h.1]
  cases q : ixN ts.length i with
  | none => rw [q] at e; cases e
  | some j =>
    rw [q] at e
    exact h.get e
/-- an item by its place -/
def oIx : T → T → TH → UX → Prop := fun x y S P => match x, y with
  | .lst ts, .int i => ∃ t, atI ts i = some t ∧ P t S
  | .fls ts, .int i => ∃ t, atI ts i = some t ∧ P t S
  | .tup ts, .int i => ∃ t, atI ts i = some t ∧ P t S
  | .str z, .int i => z.length ≤ sizeLine ∧ ∃ c, atI z.cps.toList i = some c ∧ P (.str ⟨#[c]⟩) S
  | .ref p, .int i => ∃ ts, S p = some (.lst ts) ∧ ∃ t, atI ts i = some t ∧ P t S
  | _, _ => False
theorem lIx : LOp K (rIx K) oIx := fun S H v w x y P Q g rx ry ho fin => by
  have go : ∀ {ts : List T} {vs : List V} {i : Int} {a : Addr}, Reps K S H vs ts → (∃ t, atI ts i = some t ∧ P t S) → ∃ v t, atI vs i = some v ∧ Rep K S H v t ∧ P t S := fun {ts vs i a} r h => by
    obtain ⟨t, e, h⟩ := h
    obtain ⟨v, ev, rv⟩ := r.at e
    exact ⟨v, t, ev, rv, h⟩
  cases y with
  | int i =>
    cases ry
    cases x with
    | lst ts =>
      obtain ⟨a, vs, rfl, f, r⟩ := rx.lstE
      obtain ⟨u, t, e, ru, hp⟩ := go (a := a) r ho
      exact .inl ⟨a, vs, i, u, rfl, rfl, f.sq, e, fin u t S H .refl g ru hp⟩
    | fls ts =>
      obtain ⟨a, vs, rfl, f, r⟩ := rx.flsE
      obtain ⟨u, t, e, ru, hp⟩ := go (a := a) r ho
      exact .inl ⟨a, vs, i, u, rfl, rfl, f.sq, e, fin u t S H .refl g ru hp⟩
    | tup ts =>
      obtain ⟨a, vs, rfl, f, r⟩ := rx.tupE
      obtain ⟨u, t, e, ru, hp⟩ := go (a := a) r ho
      exact .inr (.inl ⟨a, vs, i, u, rfl, rfl, f.sq, e, fin u t S H .refl g ru hp⟩)
    | str z =>
      cases rx
      obtain ⟨hz, c, e, ho⟩ := ho
      exact .inr (.inr ⟨z, i, c, rfl, rfl, hz, e, fin _ _ S H .refl g (.str _) ho⟩)
    | ref p =>
      cases rx
      obtain ⟨ts, e, ho⟩ := ho
      obtain ⟨vs, q, r⟩ := g p _ e
      obtain ⟨u, t, e', ru, hp⟩ := go (a := p) r ho
      exact .inl ⟨p, vs, i, u, rfl, rfl, SqL.of q, e', fin u t S H .refl g ru hp⟩
    | _ => exact ho.elim
  | _ => cases x <;> exact ho.elim
end
section
variable {X : Cx} {a b c e : Expr} {es : List Expr} {ta tb te : UTE} {tr : UTA} {pos : Pos}
theorem ue_ix (ha : UE X a ta) (hb : UE X b tb) (hs : PlainIx b := by intro _ _; rfl) : UE X (.Subscript a b pos) (uBin oIx ta tb) := PE.imp (pe_ix ix_seq ha hb hs) fun _ _ _ h => u_bin lIx h

/-! ### dicts -/
def keyT : T → Option Key
  | .int i => some (.inl i)
  | .str x => some (.inr x)
  | _ => none
def valT (kts : List (Key × T)) (k : Key) : Option T := (kts.find? fun kv => decide (kv.1 = k)).map (·.2)
theorem keyT_V {K : PySem.W.Frag} {S : TH} {H : Hp} {v : V} {t : T} {k : Key} (r : Rep K S H v t) (e : keyT t = some k) : v = kV k := by
  cases t with
  | int i => cases r; cases e; rfl
  | str x => cases r; cases e; rfl
  | _ => cases e
theorem RepK.val {K : PySem.W.Frag} {S : TH} {H : Hp} {k : Key} : ∀ {kvs : List (Key × V)} {kts : List (Key × T)}, RepK K S H kvs kts → (∀ t, valT kts k = some t → ∃ v, valV kvs k = some v ∧ Rep K S H v t) ∧ (valT kts k = none → valV kvs k = none)
  | [], [], _ => ⟨fun t e => (by simp [valT] at e), fun _ => rfl⟩
  | [], _ :: _, h => by have := h.1; simp at this
  | _ :: _, [], h => by have := h.1; simp at this
  | v :: kvs, t :: kts, h => by
    have h0 := h.2 0 v t rfl rfl
    have ht : RepK K S H kvs kts := ⟨by simpa using h.1, fun i v' t' e1 e2 => h.2 (i + 1) v' t' (by simpa using e1) (by simpa using e2)⟩
    have ih := RepK.val (k := k) ht
    by_cases e : t.1 = k
    · have e' : v.1 = k := h0.1.trans e
      have q1 : valT (t :: kts) k = some t.2 := by simp [valT, List.find?_cons, e]
      have q2 : valV (v :: kvs) k = some v.2 := by simp [valV, List.find?_cons, e']
      rw [q1, q2]
      exact ⟨fun t' z => by cases z; exact ⟨_, rfl, h0.2⟩, fun z => by cases z⟩
    · have e' : ¬ v.1 = k := fun z => e (h0.1.symm.trans z)
      have q1 : valT (t :: kts) k = valT kts k := by simp [valT, List.find?_cons, e]
      have q2 : valV (v :: kvs) k = valV kvs k := by simp [valV, List.find?_cons, e']
      rw [q1, q2]
      exact ih
def oDx : T → T → TH → UX → Prop := fun x y S P => match x with
  | .dct kts => ∃ k t, keyT y = some k ∧ valT kts k = some t ∧ P t S
  | .ref p => ∃ kts, S p = some (.dct kts) ∧ ∃ k t, keyT y = some k ∧ valT kts k = some t ∧ P t S
  | _ => False
theorem lDx {K : PySem.W.Frag} : LOp K (fun x y H Q => ∃ a v, x = .ref a ∧ DGet H a y (some v) ∧ Q v H) oDx := fun S H v w x y P Q g rx ry ho fin => by
  have go : ∀ {kts : List (Key × T)} {kvs : List (Key × V)} {a : Addr}, H a = some (.dK kvs) → RepK K S H kvs kts → (∃ k t, keyT y = some k ∧ valT kts k = some t ∧ P t S) → ∃ b u, V.ref a = .ref b ∧ DGet H b w (some u) ∧ Q u H := fun {kts kvs a} hH r h => by
    obtain ⟨k, t, e, e2, h⟩ := h
    obtain ⟨u, eu, ru⟩ := (r.val (k := k)).1 t e2
    refine ⟨a, u, rfl, ?_, fin u t S H .refl g ru h⟩
    rw [keyT_V ry e, ← eu]
    exact DGet.k hH
  cases x with
  | dct kts =>
    obtain ⟨a, kvs, rfl, n, hH, r⟩ := rx.dctE
    exact go hH r ho
  | ref p =>
    cases rx
    obtain ⟨kts, e, ho⟩ := ho
    obtain ⟨kvs, q, r⟩ := g p _ e
    exact go q r ho
  | _ => exact ho.elim
theorem ue_dx (hu : X.A.units + 1 < cLine) (ha : UE X a ta) (hb : UE X b tb) (hs : NoSl b := by intro _ _; rfl) : UE X (.Subscript a b pos) (uBin oDx ta tb) := PE.imp (pe_dget hu ha hb hs) fun _ _ _ h => u_bin lDx h

/-! ### slices -/
def cutA {α : Type} (xs : List α) (lo hi : Option Int) : List α := (xs.drop (HT.sIx xs.length 0 lo)).take (HT.sIx xs.length xs.length hi - HT.sIx xs.length 0 lo)
theorem Reps.cut {K : PySem.W.Frag} {S : TH} {H : Hp} {vs : List V} {ts : List T} (h : Reps K S H vs ts) (lo hi : Option Int) : Reps K S H (cutV vs lo hi) (cutA ts lo hi) := by
  unfold cutV cutA
  rw [h.1]
  exact (h.drop _).take _
abbrev UTO := Ev → TH → (Option Int → TH → Prop) → Prop
def lfO (K : PySem.W.Frag) (t : UTO) : TO := fun σ H Q => ∃ S env P, Good K S H ∧ REnv K S H σ env ∧ t env S P ∧ ∀ o S' H', Le S H S' H' → Good K S' H' → P o S' → Q o H'
def UO (X : Cx) (e : Option Expr) (t : UTO) : Prop := PO X e (lfO X.K t)
theorem PO.imp {X : Cx} {e : Option Expr} {t t' : TO} (h : PO X e t) (i : ∀ σ H Q, t' σ H Q → t σ H Q) : PO X e t' := fun pins s σ H Q I q => h pins s σ H Q I (i σ H Q q)
def uoN : UTO := fun _ S P => P none S
def uoS (t : UTE) : UTO := fun env S P => t env S fun x S1 => match x with
  | .int i => P (some i) S1
  | _ => False
theorem uo_none : UO X none uoN := PO.imp po_none fun σ H Q ⟨S, env, P, g, re, h, fin⟩ => fin none S H .refl g h
theorem uo_some (h : UE X e te) : UO X (some e) (uoS te) := PO.imp (po_some h) fun σ H Q ⟨S, env, P, g, re, h, fin⟩ => lf_bind ⟨g, re⟩ h fun v x S1 H1 le1 m1 rx h1 => by
  cases x with
  | int i => cases rx; exact ⟨i, rfl, fin _ S1 H1 le1 m1.g h1⟩
  | _ => exact h1.elim
def oSl (x : T) (lo hi : Option Int) (S : TH) (P : UX) : Prop := match x with
  | .lst ts => P (.lst (cutA ts lo hi)) S
  | .tup ts => ¬ (HT.sIx ts.length 0 lo = 0 ∧ HT.sIx ts.length ts.length hi = ts.length) ∧ P (.tup (cutA ts lo hi)) S
  | _ => False
def uSl (te : UTE) (tl th : UTO) : UTE := fun env S P => te env S fun x S1 => tl env S1 fun l S2 => th env S2 fun u S3 => oSl x l u S3 P
theorem ue_slice {lo hi : Option Expr} {tl th : UTO} {p2 : Pos} (he : UE X e te) (hl : UO X lo tl) (hh : UO X hi th) : UE X (.Subscript e (.Slice lo hi none p2) pos) (uSl te tl th) :=
  PE.imp (pe_slice (sl_list.or sl_tup) he hl hh) fun σ H Q ⟨S, env, P, g, re, h, fin⟩ => lf_bind ⟨g, re⟩ h fun v x S1 H1 le1 m1 rx h1 =>
    ⟨S1, env, _, m1.g, m1.re, h1, fun l S2 H2 le2 g2 h2 => ⟨S2, env, _, g2, m1.re.mono le2, h2, fun u S3 H3 le3 g3 h3 => by
      have rx3 := rx.mono (le2.trans le3)
      have f3 := fin.le (le1.trans (le2.trans le3))
      cases x with
      | lst ts =>
        obtain ⟨a, vs, rfl, f, r⟩ := rx3.lstE
        exact .inl ⟨a, vs, rfl, f.sq, fun p hp => fin_lst f3 g3 hp (r.cut l u) h3⟩
      | tup ts =>
        obtain ⟨a, vs, rfl, f, r⟩ := rx3.tupE
        refine .inr ⟨a, vs, rfl, f.sq, ?_, fun p hp => fin_tup f3 g3 hp (r.cut l u) h3.2⟩
        rw [r.1]
        exact h3.1
      | _ => exact h3.elim⟩⟩

/-! ### len, list, int, isinstance -/
def oLen (xs : List T) (S : TH) (P : UX) : Prop := match xs with
  | [.lst ts] => P (.int ts.length) S
  | [.fls ts] => P (.int ts.length) S
  | [.tup ts] => P (.int ts.length) S
  | [.str z] => z.length ≤ sizeLine ∧ P (.int z.length) S
  | [.ref p] => ∃ ts, S p = some (.lst ts) ∧ P (.int ts.length) S
  | _ => False
theorem Reps.one {K : PySem.W.Frag} {S : TH} {H : Hp} {vs : List V} {t : T} (h : Reps K S H vs [t]) : ∃ v, vs = [v] ∧ Rep K S H v t := by
  match vs, h with
  | [v], h => exact ⟨v, rfl, h.head⟩
  | [], h => exact absurd h.1 (by simp)
  | _ :: _ :: _, h => exact absurd h.1 (by simp)
theorem Reps.two {K : PySem.W.Frag} {S : TH} {H : Hp} {vs : List V} {t u : T} (h : Reps K S H vs [t, u]) : ∃ v w, vs = [v, w] ∧ Rep K S H v t ∧ Rep K S H w u := by
  match vs, h with
  | [v, w], h => exact ⟨v, w, rfl, h.head, h.tail.head⟩
  | [], h => exact absurd h.1 (by simp)
  | [_], h => exact absurd h.1 (by simp)
  | _ :: _ :: _ :: _, h => exact absurd h.1 (by simp)
theorem lLen {K : PySem.W.Frag} : LCall K (fun xs H Q => (∃ p ys, xs = [.ref p] ∧ (SqL K H p ys ∨ SqT K H p ys) ∧ Q (.int ys.length) H) ∨ (∃ z, xs = [.str z] ∧ z.length ≤ sizeLine ∧ Q (.int z.length) H)) oLen := fun S H vs xs P Q g r ho fin => by
  match xs, r, ho with
  | [x], r, ho =>
    obtain ⟨v, rfl, rx⟩ := r.one
    cases x with
    | lst ts =>
      obtain ⟨a, us, rfl, f, r⟩ := rx.lstE
      refine .inl ⟨a, us, rfl, .inl f.sq, ?_⟩
      rw [r.1]
      exact fin _ _ S H .refl g (.int _) ho
    | fls ts =>
      obtain ⟨a, us, rfl, f, r⟩ := rx.flsE
      refine .inl ⟨a, us, rfl, .inl f.sq, ?_⟩
      rw [r.1]
      exact fin _ _ S H .refl g (.int _) ho
    | tup ts =>
      obtain ⟨a, us, rfl, f, r⟩ := rx.tupE
      refine .inl ⟨a, us, rfl, .inr f.sq, ?_⟩
      rw [r.1]
      exact fin _ _ S H .refl g (.int _) ho
    | str z => cases rx; exact .inr ⟨z, rfl, ho.1, fin _ _ S H .refl g (.int _) ho.2⟩
    | ref p =>
      cases rx
      obtain ⟨ts, e, ho⟩ := ho
      obtain ⟨us, q, r⟩ := g p _ e
      refine .inl ⟨p, us, rfl, .inl (SqL.of q), ?_⟩
      rw [r.1]
      exact fin _ _ S H .refl g (.int _) ho
    | _ => exact ho.elim
  | [], _, ho => exact ho.elim
  | _ :: _ :: _, _, ho => exact (by revert ho; simp [oLen])
theorem ue_len {p : Pos} (hg : Gl X "len") (hm : X.mg "len" = none) (ha : UA X [e] tr) (he : starEach [e] X.env = (false, eval e X.env) :: starEach [] X.env := by rfl) : UE X (.Call (.Name "len" p) [e] [] pos) (uCall oLen tr) := ue_callB (call_len_seq.or call_len_str) lLen hg hm PySem.boot_len ha (he := he)
def oList (xs : List T) (S : TH) (P : UX) : Prop := match xs with
  | [.lst ts] => P (.lst ts) S
  | [.tup ts] => P (.lst ts) S
  | _ => False
theorem lList {K : PySem.W.Frag} : LCall K (fun xs H Q => ∃ p ys, xs = [.ref p] ∧ (SqL K H p ys ∨ SqT K H p ys) ∧ ∀ l, H l = none → Q (.ref l) (upd H l (.lst ys))) oList := fun S H vs xs P Q g r ho fin => by
  match xs, r, ho with
  | [x], r, ho =>
    obtain ⟨v, rfl, rx⟩ := r.one
    cases x with
    | lst ts =>
      obtain ⟨a, us, rfl, f, r⟩ := rx.lstE
      exact ⟨a, us, rfl, .inl f.sq, fun p hp => fin_lst fin g hp r ho⟩
    | tup ts =>
      obtain ⟨a, us, rfl, f, r⟩ := rx.tupE
      exact ⟨a, us, rfl, .inr f.sq, fun p hp => fin_lst fin g hp r ho⟩
    | _ => exact ho.elim
  | [], _, ho => exact ho.elim
  | _ :: _ :: _, _, ho => exact (by revert ho; simp [oList])
def oInt (xs : List T) (S : TH) (P : UX) : Prop := match xs with
  | [.int i] => P (.int i) S
  | [.bl k] => P (.int (if k then 1 else 0)) S
  | _ => False
theorem lInt {K : PySem.W.Frag} : LCall K (fun xs H Q => (∃ i, xs = [.int i] ∧ Q (.int i) H) ∨ ∃ k, xs = [.bl k] ∧ Q (.int (if k then 1 else 0)) H) oInt := fun S H vs xs P Q g r ho fin => by
  match xs, r, ho with
  | [x], r, ho =>
    obtain ⟨v, rfl, rx⟩ := r.one
    cases x with
    | int i => cases rx; exact .inl ⟨i, rfl, fin _ _ S H .refl g (.int _) ho⟩
    | bl k => cases rx; exact .inr ⟨k, rfl, fin _ _ S H .refl g (.int _) ho⟩
    | _ => exact ho.elim
  | [], _, ho => exact ho.elim
  | _ :: _ :: _, _, ho => exact (by revert ho; simp [oInt])

/-! ### list + list, tuple + tuple, str + str, in -/
def oCat : T → T → TH → UX → Prop := fun x y S P => match x, y with
  | .lst xs, .lst ys => xs.length + ys.length ≤ sizeLine ∧ P (.lst (xs ++ ys)) S
  | _, _ => False
theorem lCat {K : PySem.W.Frag} : LOp K rCat oCat := fun S H v w x y P Q g rx ry ho fin => by
  cases x with
  | lst xs =>
    cases y with
    | lst ys =>
      obtain ⟨a, vs, rfl, f, r⟩ := rx.lstE
      obtain ⟨b, us, rfl, f', r'⟩ := ry.lstE
      exact ⟨a, b, vs, us, rfl, rfl, f.2, f'.2, by rw [r.1, r'.1]; exact ho.1, fun p hp => fin_lst fin g hp (r.append r') ho.2⟩
    | _ => exact ho.elim
  | _ => exact ho.elim
theorem ue_cat (ha : UE X a ta) (hb : UE X b tb) : UE X (.BinOp a .Add b pos) (uBin oCat ta tb) := ue_bin op_cat lCat ha hb
def oCatS : T → T → TH → UX → Prop := fun x y S P => match x, y with
  | .str i, .str j => i.length + j.length ≤ sizeLine ∧ P (.str (i ++ j)) S
  | _, _ => False
theorem ue_catS (ha : UE X a ta) (hb : UE X b tb) : UE X (.BinOp a .Add b pos) (uBin oCatS ta tb) := ue_bin op_add_str (fun S H v w x y P Q g rx ry ho fin => by
  cases x with
  | str i =>
    cases y with
    | str j => cases rx; cases ry; exact ⟨i, j, rfl, rfl, ho.1, fin _ _ S H .refl g (.str _) ho.2⟩
    | _ => exact ho.elim
  | _ => exact ho.elim) ha hb

/-- texts among texts -/
def strsT : List T → Option (List Str)
  | [] => some []
  | .str x :: r => (strsT r).map (x :: ·)
  | _ => none
theorem strsT_rep {K : PySem.W.Frag} {S : TH} {H : Hp} : ∀ {vs : List V} {ts : List T} {zs : List Str}, Reps K S H vs ts → strsT ts = some zs → vs = zs.map V.str
  | [], [], zs, _, e => by cases e; rfl
  | [], _ :: _, _, h, _ => by have := h.1; simp at this
  | _ :: _, [], _, h, _ => by have := h.1; simp at this
  | v :: vs, t :: ts, zs, h, e => by
    cases t with
    | str x =>
      have r0 := h.head
      cases r0
      simp only [strsT] at e
      cases q : strsT ts with
      | none => rw [q] at e; cases e
      | some ys =>
        rw [q] at e
        cases e
        rw [strsT_rep h.tail q]
        rfl
    | _ => cases e
theorem flat_strs (zs : List Str) : (zs.map V.str).all flatV = true := by
  induction zs with
  | nil => rfl
  | cons z r ih => rw [List.map_cons, List.all_cons, ih]; rfl
theorem inV_strs (x : Str) (zs : List Str) : inV (.str x) (zs.map V.str) = decide (x ∈ zs) := by
  unfold inV
  rw [List.any_map]
  induction zs with
  | nil => rfl
  | cons z r ih =>
    rw [List.any_cons, ih]
    show (eqV (V.str z) (V.str x) || decide (x ∈ r)) = decide (x ∈ z :: r)
    have q : eqV (V.str z) (V.str x) = decide (z = x) := by
      show (z == x) = _
      exact Bool.beq_eq_decide_eq z x
    rw [q, Bool.eq_iff_iff]
    simp only [Bool.or_eq_true, decide_eq_true_eq, List.mem_cons]
    constructor
    · rintro (h | h)
      · exact .inl h.symm
      · exact .inr h
    · rintro (h | h)
      · exact .inl h.symm
      · exact .inr h
def oIn (neg : Bool) : T → T → TH → UX → Prop := fun x y S P => match x, y with
  | .str x, .lst ts => (∃ zs, strsT ts = some zs ∧ P (.bl (if neg then !decide (x ∈ zs) else decide (x ∈ zs))) S)
  | .str x, .tup ts => (∃ zs, strsT ts = some zs ∧ P (.bl (if neg then !decide (x ∈ zs) else decide (x ∈ zs))) S)
  | .str x, .ref p => ∃ ts, S p = some (.lst ts) ∧ ∃ zs, strsT ts = some zs ∧ P (.bl (if neg then !decide (x ∈ zs) else decide (x ∈ zs))) S
  | _, _ => False
theorem lIn {K : PySem.W.Frag} {neg : Bool} : LOp K (rIn K neg) (oIn neg) := fun S H v w x y P Q g rx ry ho fin => by
  cases x with
  | str x =>
    cases rx
    have go : ∀ {ts : List T} {vs : List V} {p : Addr}, Reps K S H vs ts → (SqL K H p vs ∨ SqT K H p vs) → (∃ zs, strsT ts = some zs ∧ P (.bl (if neg then !decide (x ∈ zs) else decide (x ∈ zs))) S) → rIn K neg (.str x) (.ref p) H Q := fun {ts vs p} r sq h => by
      obtain ⟨zs, e, h⟩ := h
      have ev := strsT_rep r e
      subst ev
      refine ⟨p, _, rfl, sq, rfl, flat_strs zs, ?_⟩
      rw [inV_strs]
      exact fin _ _ S H .refl g (.bl _) h
    cases y with
    | lst ts =>
      obtain ⟨a, vs, rfl, f, r⟩ := ry.lstE
      exact go r (.inl f.sq) ho
    | tup ts =>
      obtain ⟨a, vs, rfl, f, r⟩ := ry.tupE
      exact go r (.inr f.sq) ho
    | ref p =>
      cases ry
      obtain ⟨ts, e, ho⟩ := ho
      obtain ⟨vs, q, r⟩ := g p _ e
      exact go r (.inl (SqL.of q)) ho
    | _ => exact ho.elim
  | _ => exact ho.elim

/-! ### isinstance -/
def tyT : T → Option String
  | .non => some "NoneType" | .bl _ => some "bool" | .int _ => some "int" | .str _ => some "str" | .tup _ => some "tuple" | .lst _ => some "list" | .dct _ => some "dict"
  | _ => none
def isT (n c : String) : Bool := n == c || (n == "bool" && c == "int")
/-- append to a cell -/
def uApp (to : UTE) (te : UTE) : UTE := fun env S P => to env S fun x S1 => match x with
  | .ref p => (∃ ts0, S1 p = some (.lst ts0)) ∧ te env S1 fun y S2 => ∃ ts, S2 p = some (.lst ts) ∧ ts.length < sizeLine ∧ P .non (updT S2 p (.lst (ts ++ [y])))
  | _ => False
end
end TL
end
section
set_option Elab.async false
set_option linter.all false
set_option maxRecDepth 100000
set_option maxHeartbeats 4000000
namespace TL
open PySem PySem.Spec PyProof.Rows L2
/-! ### what is walked: texts too; zip -/
def signsT (z : Str) : List T := z.cps.toList.map fun (c : Nat) => T.str ⟨#[c]⟩
section
variable {K : PySem.W.Frag} {S : TH} {H : Hp}
theorem ylds_str {z : Str} : Ylds K (Its z) (signsT z) S H where
  go := fun i S2 H2 le g hi => by
    have : (signsT z).length = z.cps.size := by simp [signsT]
    rw [this] at hi; exact hi
  stop := fun S2 H2 le g => by
    show (signsT z).length = z.cps.size
    simp [signsT]
  yld := fun i S2 H2 x H3 le g hi y => by
    obtain ⟨rfl, c, hc, rfl⟩ := y
    refine ⟨.refl, g, .str ⟨#[c]⟩, ?_, .str _⟩
    have hc' : z.cps.toList[i]? = some c := by simpa using hc
    simp [signsT, List.getElem?_map, hc']
def zipT (xs ys : List T) : List T := List.zipWith (fun x y => T.tup [x, y]) xs ys
theorem ylds_zip {a b : Addr} {vs ws : List V} {xs ys : List T} (f : FT K S H a vs) (r : Reps K S H vs xs) (f' : FT K S H b ws) (r' : Reps K S H ws ys) (hl : xs.length = ys.length) : Ylds K (Itz K a b) (zipT xs ys) S H := by
  have hz : (zipT xs ys).length = xs.length := by simp [zipT]; omega
  refine ⟨fun i S2 H2 le g hi => ?_, fun S2 H2 le g => ?_, fun i S2 H2 x H3 le g hi y => ?_⟩
  · rw [hz] at hi
    have h1 : i < vs.length := by rw [r.1]; exact hi
    have h2 : i < ws.length := by rw [r'.1]; omega
    exact ⟨vs, ws, vs[i], ws[i], (f.mono le).sq, (f'.mono le).sq, List.getElem?_eq_getElem h1, List.getElem?_eq_getElem h2⟩
  · rw [hz]
    exact ⟨vs, (f.mono le).sq, by rw [r.1]; exact Nat.le_refl _⟩
  · obtain ⟨p, v, w, hp, rfl, rfl, e1, e2⟩ := y
    obtain ⟨t, et, rt⟩ := r.get' (e1 vs (f.mono le).sq)
    obtain ⟨u, eu, ru⟩ := r'.get' (e2 ws (f'.mono le).sq)
    have ln : Le S2 H2 S2 (upd H2 p (.tup [v, w])) := Le.new g hp
    refine ⟨ln, g.new hp, .tup [t, u], ?_, .tupI (.inl ⟨g.free hp, upd_same⟩) (.cons (rt.mono (le.trans ln)) (.cons (ru.mono (le.trans ln)) .nil))⟩
    simp [zipT, List.getElem?_zipWith, et, eu]
end
section
variable {X : Cx} {a b c e tg iter : Expr} {es : List Expr} {ta tb tc te : UTE} {tr : UTA} {pos : Pos}
def uAnyOf (t : UTE) : UTA := fun env S P => t env S fun x S1 => match x with
  | .lst ts => P ts S1
  | .fls ts => P ts S1
  | .tup ts => P ts S1
  | .str z => P (signsT z) S1
  | _ => False
theorem ui_any (h : UE X iter te) : UI X tg iter (uAnyOf te) := PI.imp (pi_any h) fun σ H R ⟨S, env, P, g, re, h, fin⟩ => lf_bind ⟨g, re⟩ h fun v x S1 H1 le1 m1 rx h1 => by
  cases x with
  | lst ts =>
    obtain ⟨l, vs, rfl, f, r⟩ := rx.lstE
    exact .inl ⟨l, rfl, .inl ⟨⟨vs, f.sq⟩, fin ts _ S1 H1 le1 m1.g h1 (ylds_list (fun _ _ le => (f.mono le).sq) r)⟩⟩
  | fls ts =>
    obtain ⟨l, vs, rfl, f, r⟩ := rx.flsE
    exact .inl ⟨l, rfl, .inl ⟨⟨vs, f.sq⟩, fin ts _ S1 H1 le1 m1.g h1 (ylds_list (fun _ _ le => (f.mono le).sq) r)⟩⟩
  | tup ts =>
    obtain ⟨l, vs, rfl, f, r⟩ := rx.tupE
    exact .inl ⟨l, rfl, .inr ⟨⟨vs, f.sq⟩, fin ts _ S1 H1 le1 m1.g h1 (ylds_tup f r)⟩⟩
  | str z => cases rx; exact .inr ⟨z, rfl, fin _ _ S1 H1 le1 m1.g h1 ylds_str⟩
  | _ => exact h1.elim
def uZip (t : UTA) : UTA := fun env S P => t env S fun ts S1 => match ts with
  | [.tup xs, .tup ys] => xs.length = ys.length ∧ P (zipT xs ys) S1
  | _ => False
theorem ui_zip {k : Nat} {p tp : Pos} (hg : Gl X "zip") (hm : X.mg "zip" = none) (ha : UA X [a, b] tr) (hs : starEach [a, b] X.env = [(false, eval a X.env), (false, eval b X.env)] := by rfl) (hs2 : starEach [b] X.env = [(false, eval b X.env)] := by rfl) :
    UI X (.Tuple es k tp) (.Call (.Name "zip" p) [a, b] [] pos) (uZip tr) := PI.imp (pi_zip hg hm boot_zip ha hs hs2) fun σ H R ⟨S, env, P, g, re, h, fin⟩ => lfA_bind ⟨g, re⟩ h fun vs xs S1 H1 le1 m1 rx h1 => by
  match xs, rx, h1 with
  | [.tup xs, .tup ys], rx, h1 =>
    obtain ⟨v, w, rfl, r1, r2⟩ := rx.two
    obtain ⟨l, us, rfl, f, r⟩ := r1.tupE
    obtain ⟨l', us', rfl, f', r'⟩ := r2.tupE
    exact ⟨l, l', us, us', rfl, f.sq, f'.sq, fin _ _ S1 H1 le1 m1.g h1.2 (ylds_zip f r f' r' h1.1)⟩

/-! ### chains -/
def uChain (o o' : T → T → TH → UX → Prop) (ta tb tc : UTE) : UTE := fun env S P => ta env S fun x S1 => tb env S1 fun y S2 => o x y S2 fun z S3 => match z with
  | .bl k => (k = true → tc env S3 fun w S4 => o' y w S4 P) ∧ (k = false → P (.bl false) S3)
  | _ => False

/-! ### all, isinstance, None -/
def blsT : List T → Option (List Bool)
  | [] => some []
  | .bl b :: r => (blsT r).map (b :: ·)
  | _ => none
theorem blsT_rep {K : PySem.W.Frag} {S : TH} {H : Hp} : ∀ {vs : List V} {ts : List T} {zs : List Bool}, Reps K S H vs ts → blsT ts = some zs → vs = zs.map V.bl
  | [], [], zs, _, e => by cases e; rfl
  | [], _ :: _, _, h, _ => by have := h.1; simp at this
  | _ :: _, [], _, h, _ => by have := h.1; simp at this
  | v :: vs, t :: ts, zs, h, e => by
    cases t with
    | bl x =>
      have r0 := h.head
      cases r0
      simp only [blsT] at e
      cases q : blsT ts with
      | none => rw [q] at e; cases e
      | some ys =>
        rw [q] at e
        cases e
        rw [blsT_rep h.tail q]
        rfl
    | _ => cases e
theorem blsT_map (bs : List Bool) : blsT (bs.map T.bl) = some bs := by
  induction bs with
  | nil => rfl
  | cons b r ih => simp only [List.map_cons, blsT, ih, Option.map_some]
def oAll (xs : List T) (S : TH) (P : UX) : Prop := match xs with
  | [.lst ts] => (match blsT ts with | some bs => P (.bl (bs.all id)) S | none => False)
  | _ => False
theorem ue_all {p : Pos} (hc : X.calm = true) (hg : Gl X "all") (hm : X.mg "all" = none) (ha : UA X [e] tr) (he : starEach [e] X.env = (false, eval e X.env) :: starEach [] X.env := by rfl) : UE X (.Call (.Name "all" p) [e] [] pos) (uCall oAll tr) :=
  ue_callB (call_all hc) (fun S H vs xs P Q g r ho fin => by
    match xs, r, ho with
    | [.lst ts], r, ho =>
      obtain ⟨v, rfl, rx⟩ := r.one
      obtain ⟨l, us, rfl, f, r⟩ := rx.lstE
      simp only [oAll] at ho
      cases q : blsT ts with
      | none => rw [q] at ho; exact ho.elim
      | some bs =>
        rw [q] at ho
        have ev := blsT_rep r q
        subst ev
        exact ⟨l, bs, rfl, f.sq, fin _ _ S H .refl g (.bl _) ho⟩) hg hm boot_all ha (he := he)
def okC (c : String) : Bool := c == "int" || c == "str" || c == "bool" || c == "tuple" || c == "list"
theorem kit_one {K : PySem.W.Frag} {t : T} {n c : String} (h : tyT t = some n) (hc : okC c = true) : PySem.W.kitOne K (.type n) (.type c) = some (isT n c) := by
  simp only [okC, Bool.or_eq_true, beq_iff_eq] at hc
  cases t <;> simp only [tyT, Option.some.injEq, reduceCtorEq] at h <;> subst h <;> rcases hc with (((rfl | rfl) | rfl) | rfl) | rfl <;> rfl
theorem tyV_of {K : PySem.W.Frag} {S : TH} {H : Hp} {v : V} {t : T} {n : String} (r : Rep K S H v t) (h : tyT t = some n) : TyV K H v (.type n) := by
  cases t with
  | non => cases r; cases h; exact .inl .non
  | bl b => cases r; cases h; exact .inl (.bl b)
  | int i => cases r; cases h; exact .inl (.int i)
  | str x => cases r; cases h; exact .inl (.str x)
  | tup ts =>
    cases h
    obtain ⟨a, vs, rfl, f, _⟩ := r.tupE
    rcases f with f | f
    · exact .inl (.tup f.2)
    · obtain ⟨o, its, n, hk, hc, _⟩ := f
      exact .inr ⟨rfl, a, o, rfl, hk, hc⟩
  | lst ts =>
    cases h
    obtain ⟨a, vs, rfl, f, _⟩ := r.lstE
    exact .inl (.lst f.2)
  | dct ts =>
    cases h
    obtain ⟨a, vs, rfl, n, hH, _⟩ := r.dctE
    exact .inl (.dK hH)
  | _ => cases h
def oIsi (xs : List T) (S : TH) (P : UX) : Prop := match xs with
  | [x, .ty c] => (match tyT x with | some n => okC c = true ∧ P (.bl (isT n c)) S | none => False)
  | [x, .tup [.ty c, .ty d]] => (match tyT x with | some n => okC c = true ∧ okC d = true ∧ P (.bl (isT n c || isT n d)) S | none => False)
  | _ => False
theorem lIsi {K : PySem.W.Frag} : LCall K (rIsi K) oIsi := fun S H vs xs P Q g r ho fin => by
  match xs, r, ho with
  | [x, .ty c], r, ho =>
    obtain ⟨v, w, rfl, r1, r2⟩ := r.two
    cases r2
    simp only [oIsi] at ho
    cases q : tyT x with
    | none => rw [q] at ho; exact ho.elim
    | some n =>
      rw [q] at ho
      exact ⟨v, _, _, tyV_of r1 q, .inl ⟨c, rfl, kit_one q ho.1⟩, fin _ _ S H .refl g (.bl _) ho.2⟩
  | [x, .tup [.ty c, .ty d]], r, ho =>
    obtain ⟨v, w, rfl, r1, r2⟩ := r.two
    obtain ⟨p, us, rfl, f, r⟩ := r2.tupE
    obtain ⟨u1, u2, rfl, r3, r4⟩ := r.two
    cases r3
    cases r4
    simp only [oIsi] at ho
    cases q : tyT x with
    | none => rw [q] at ho; exact ho.elim
    | some n =>
      rw [q] at ho
      refine ⟨v, _, _, tyV_of r1 q, .inr ⟨p, c, d, rfl, f.sq, ?_⟩, fin _ _ S H .refl g (.bl _) ho.2.2⟩
      have k1 := kit_one (K := K) q ho.1
      have k2 := kit_one (K := K) q ho.2.1
      simp only [PySem.W.kitAny, k1, k2]
      cases isT n c <;> cases isT n d <;> rfl
  | [], _, ho => exact ho.elim
  | [x], _, ho => exact (by revert ho; simp [oIsi])
  | x :: y :: z :: r, _, ho => exact (by revert ho; simp [oIsi])
def oIsN : T → T → TH → UX → Prop := fun x y S P => match y with
  | .non => (match x with | .non => P (.bl true) S | _ => P (.bl false) S)
  | _ => False
theorem lIsN {K : PySem.W.Frag} : LOp K (fun x y H Q => y = .non ∧ Q (.bl (decide (x = .non))) H) oIsN := fun S H v w x y P Q g rx ry ho fin => by
  cases y with
  | non =>
    cases ry
    refine ⟨rfl, ?_⟩
    cases x with
    | non => cases rx; exact fin _ _ S H .refl g (.bl _) ho
    | _ => cases rx <;> exact fin _ _ S H .refl g (.bl _) ho
  | _ => exact ho.elim

/-! ### +, whatever stands there -/
def oPlus : T → T → TH → UX → Prop := fun x y S P => match x, y with
  | .int i, .int j => P (.int (i + j)) S
  | .str i, .str j => i.length + j.length ≤ sizeLine ∧ P (.str (i ++ j)) S
  | .lst xs, .lst ys => xs.length + ys.length ≤ sizeLine ∧ P (.lst (xs ++ ys)) S
  | .tup xs, .tup ys => xs.length + ys.length ≤ sizeLine ∧ P (.tup (xs ++ ys)) S
  | _, _ => False
theorem ue_plus (ha : UE X a ta) (hb : UE X b tb) : UE X (.BinOp a .Add b pos) (uBin oPlus ta tb) := ue_bin (op_add.or (op_add_str.or (op_cat.or op_catU))) (fun S H v w x y P Q g rx ry ho fin => by
  cases x with
  | int i =>
    cases y with
    | int j => cases rx; cases ry; exact .inl ⟨i, j, rfl, rfl, fin _ _ S H .refl g (.int _) ho⟩
    | _ => exact ho.elim
  | str i =>
    cases y with
    | str j => cases rx; cases ry; exact .inr (.inl ⟨i, j, rfl, rfl, ho.1, fin _ _ S H .refl g (.str _) ho.2⟩)
    | _ => exact ho.elim
  | lst xs =>
    cases y with
    | lst ys =>
      obtain ⟨a, vs, rfl, f, r⟩ := rx.lstE
      obtain ⟨b, us, rfl, f', r'⟩ := ry.lstE
      exact .inr (.inr (.inl ⟨a, b, vs, us, rfl, rfl, f.2, f'.2, by rw [r.1, r'.1]; exact ho.1, fun p hp => fin_lst fin g hp (r.append r') ho.2⟩))
    | _ => exact ho.elim
  | tup xs =>
    cases y with
    | tup ys =>
      obtain ⟨a, vs, rfl, f, r⟩ := rx.tupE
      obtain ⟨b, us, rfl, f', r'⟩ := ry.tupE
      refine .inr (.inr (.inr ⟨a, b, vs, us, rfl, rfl, f.sq, f'.sq, by rw [r.1, r'.1]; exact ho.1, fun e => ?_, fun _ e => ?_, fun _ _ p hp => fin_tup fin g hp (r.append r') ho.2⟩))
      · subst e
        have e0 : xs = [] := List.length_eq_zero_iff.mp (by rw [← r.1]; rfl)
        subst e0
        exact fin _ _ S H .refl g ry ho.2
      · subst e
        have e0 : ys = [] := List.length_eq_zero_iff.mp (by rw [← r'.1]; rfl)
        subst e0
        have h2 := ho.2
        rw [List.append_nil] at h2
        exact fin _ _ S H .refl g rx h2
    | _ => exact ho.elim
  | _ => exact ho.elim) ha hb

/-! ### slices of texts too; xs[::-1] -/
def oSl3 (x : T) (lo hi : Option Int) (S : TH) (P : UX) : Prop := match x with
  | .lst ts => P (.lst (cutA ts lo hi)) S
  | .tup ts => ¬ (HT.sIx ts.length 0 lo = 0 ∧ HT.sIx ts.length ts.length hi = ts.length) ∧ P (.tup (cutA ts lo hi)) S
  | .str z => z.length ≤ sizeLine ∧ P (.str (Txt.slice z lo hi)) S
  | .ref p => ∃ ts, S p = some (.lst ts) ∧ P (.lst (cutA ts lo hi)) S
  | _ => False
def uSl3 (te : UTE) (tl th : UTO) : UTE := fun env S P => te env S fun x S1 => tl env S1 fun l S2 => th env S2 fun u S3 => oSl3 x l u S3 P
theorem ue_sl {lo hi : Option Expr} {tl th : UTO} {p2 : Pos} (he : UE X e te) (hl : UO X lo tl) (hh : UO X hi th) : UE X (.Subscript e (.Slice lo hi none p2) pos) (uSl3 te tl th) :=
  PE.imp (pe_slice (sl_list.or (sl_tup.or sl_str)) he hl hh) fun σ H Q ⟨S, env, P, g, re, h, fin⟩ => lf_bind ⟨g, re⟩ h fun v x S1 H1 le1 m1 rx h1 =>
    ⟨S1, env, _, m1.g, m1.re, h1, fun l S2 H2 le2 g2 h2 => ⟨S2, env, _, g2, m1.re.mono le2, h2, fun u S3 H3 le3 g3 h3 => by
      have rx3 := rx.mono (le2.trans le3)
      have f3 := fin.le (le1.trans (le2.trans le3))
      cases x with
      | lst ts =>
        obtain ⟨a, vs, rfl, f, r⟩ := rx3.lstE
        exact .inl ⟨a, vs, rfl, f.sq, fun p hp => fin_lst f3 g3 hp (r.cut l u) h3⟩
      | tup ts =>
        obtain ⟨a, vs, rfl, f, r⟩ := rx3.tupE
        refine .inr (.inl ⟨a, vs, rfl, f.sq, ?_, fun p hp => fin_tup f3 g3 hp (r.cut l u) h3.2⟩)
        rw [r.1]
        exact h3.1
      | str z => cases rx3; exact .inr (.inr ⟨z, rfl, h3.1, f3 _ _ S3 H3 .refl g3 (.str _) h3.2⟩)
      | ref p =>
        cases rx3
        obtain ⟨ts, e3, h3⟩ := h3
        obtain ⟨vs, q, r⟩ := g3 p _ e3
        exact .inl ⟨p, vs, rfl, SqL.of q, fun b hb => fin_lst f3 g3 hb (r.cut l u) h3⟩
      | _ => exact h3.elim⟩⟩
theorem Reps.pick {K : PySem.W.Frag} {S : TH} {H : Hp} {vs : List V} {ts : List T} (r : Reps K S H vs ts) : ∀ ix : List Nat, Reps K S H (ix.filterMap fun (i : Nat) => vs[i]?) (ix.filterMap fun (i : Nat) => ts[i]?)
  | [] => .nil
  | i :: ix => by
    cases e : vs[i]? with
    | none =>
      have e' : ts[i]? = none := by
        rw [List.getElem?_eq_none_iff] at e ⊢
        rw [← r.1]; exact e
      simp only [List.filterMap_cons, e, e']
      exact Reps.pick r ix
    | some v =>
      obtain ⟨t, ht, rt⟩ := r.get' e
      simp only [List.filterMap_cons, e, ht]
      exact .cons rt (Reps.pick r ix)
/-- some of the items: which and in what order is not said -/
def uRev (te : UTE) : UTE := fun env S P => te env S fun x S1 => match x with
  | .lst ts => ∀ ix : List Nat, (ix.filterMap fun (i : Nat) => ts[i]?).length ≤ ts.length → P (.lst (ix.filterMap fun (i : Nat) => ts[i]?)) S1
  | .tup ts => ∀ ix : List Nat, (ix.filterMap fun (i : Nat) => ts[i]?).length ≤ ts.length → P (.tup (ix.filterMap fun (i : Nat) => ts[i]?)) S1
  | _ => False
theorem ue_rev {p1 p2 p3 : Pos} {j : Nat} (he : UE X e te) : UE X (.Subscript e (.Slice none none (some (.UnaryOp .USub (.Constant (.int 1) j p1) p2)) p3) pos) (uRev te) := PE.imp (pe_rev he) fun σ H Q ⟨S, env, P, g, re, h, fin⟩ =>
  lf_bind ⟨g, re⟩ h fun v x S1 H1 le1 m1 rx h1 => by
    cases x with
    | lst ts =>
      obtain ⟨a, vs, rfl, f, r⟩ := rx.lstE
      exact ⟨a, vs, rfl, .inl ⟨f.sq, fun ix hl p hp => fin_lst (fin.le le1) m1.g hp (r.pick ix) (h1 ix (by have := (r.pick ix).1; have := r.1; omega))⟩⟩
    | tup ts =>
      obtain ⟨a, vs, rfl, f, r⟩ := rx.tupE
      exact ⟨a, vs, rfl, .inr ⟨f.sq, fun ix hl p hp => fin_tup (fin.le le1) m1.g hp (r.pick ix) (h1 ix (by have := (r.pick ix).1; have := r.1; omega))⟩⟩
    | _ => exact h1.elim

/-! ### ==, != : scalars, and a list beside [] -/
def oEq2 (neg : Bool) : T → T → TH → UX → Prop := fun x y S P => match x, y with
  | .int i, .int j => P (.bl (Bool.xor neg (decide (i = j)))) S
  | .str i, .str j => P (.bl (Bool.xor neg (decide (i = j)))) S
  | .bl i, .bl j => P (.bl (Bool.xor neg (decide (i = j)))) S
  | .lst xs, .lst [] => P (.bl (Bool.xor neg xs.isEmpty)) S
  | _, _ => False
theorem lEq2 {K : PySem.W.Frag} {neg : Bool} {r : R2} (l : LOp K r (oEq neg)) : LOp K (fun x y H Q => r x y H Q ∨ rEqN K neg x y H Q) (oEq2 neg) := fun S H v w x y P Q g rx ry ho fin => by
  cases x with
  | int i => cases y with
    | int j => exact .inl (l S H v w _ _ P Q g rx ry ho fin)
    | _ => exact ho.elim
  | str i => cases y with
    | str j => exact .inl (l S H v w _ _ P Q g rx ry ho fin)
    | _ => exact ho.elim
  | bl i => cases y with
    | bl j => exact .inl (l S H v w _ _ P Q g rx ry ho fin)
    | _ => exact ho.elim
  | lst xs =>
    cases y with
    | lst ys =>
      cases ys with
      | nil =>
        obtain ⟨a, vs, rfl, f, r⟩ := rx.lstE
        obtain ⟨b, us, rfl, f', r'⟩ := ry.lstE
        have e0 : us = [] := List.length_eq_zero_iff.mp (by rw [r'.1]; rfl)
        subst e0
        refine .inr ⟨a, b, vs, rfl, rfl, f.sq, f'.sq, ?_⟩
        have e1 : vs.isEmpty = xs.isEmpty := by
          have := r.1
          cases vs <;> cases xs <;> simp at this ⊢
        rw [e1]
        exact fin _ _ S H .refl g (.bl _) ho
      | cons => exact ho.elim
    | _ => exact ho.elim
  | _ => exact ho.elim

end
end TL
end
section
set_option Elab.async false
set_option linter.all false
set_option maxRecDepth 100000
set_option maxHeartbeats 4000000
namespace TL
open PySem PySem.Spec PyProof.Rows L2
section
variable {X : Cx} {a b c e o : Expr} {es : List Expr} {ta tb tc te to : UTE} {tr : UTA} {pos apos cpos : Pos}
/-! ### chains -/
theorem u_chain {K : PySem.W.Frag} {r r' : R2} {q q' : T → T → TH → UX → Prop} {σ : L2.St} {H : Hp} {Q : VK} (l : LOp K r q) (l' : LOp K r' q') (h : lf K (uChain q q' ta tb tc) σ H Q) : tChain r r' (lf K ta) (lf K tb) (lf K tc) σ H Q := by
  obtain ⟨S, env, P, g, re, h, fin⟩ := h
  refine lf_bind ⟨g, re⟩ h fun v x S1 H1 le1 m1 rx h1 => lf_bind m1 h1 fun w y S2 H2 le2 m2 ry h2 => ?_
  refine l S2 H2 v w x y _ _ m2.g (rx.mono le2) ry h2 fun u z S3 H3 le3 g3 rz h3 => ?_
  cases z with
  | bl k =>
    cases rz
    refine ⟨k, rfl, ?_⟩
    have m3 : Mid K σ H3 S3 env := ⟨g3, m2.re.mono le3⟩
    cases k with
    | true =>
      rw [if_pos rfl]
      exact lf_bind m3 (h3.1 rfl) fun w' z' S4 H4 le4 m4 rz' h4 => l' S4 H4 w w' y z' P Q m4.g (ry.mono (le3.trans le4)) rz' h4 (fin.le (le1.trans (le2.trans (le3.trans le4))))
    | false => rw [if_neg Bool.false_ne_true]; exact fin _ _ S3 H3 (le1.trans (le2.trans le3)) g3 (.bl _) (h3.2 rfl)
  | _ => exact h3.elim
theorem ue_chain {op op' : CmpOp} {r r' : R2} {q q' : T → T → TH → UX → Prop} (ho : OpR X (compareOp op) r) (l : LOp X.K r q) (ho' : OpR X (compareOp op') r') (l' : LOp X.K r' q') (ha : UE X a ta) (hb : UE X b tb) (hc : UE X c tc)
    (hm : lastMarks [op, op'] [b, c] = false := by with_unfolding_all rfl) : UE X (.Compare a [op, op'] [b, c] pos) (uChain q q' ta tb tc) := PE.imp (pe_chain ho ho' ha hb hc hm) fun _ _ _ h => u_chain l l' h
theorem ut_chain {op op' : CmpOp} {r r' : R2} {q q' : T → T → TH → UX → Prop} (ho : OpR X (compareOp op) r) (l : LOp X.K r q) (ho' : OpR X (compareOp op') r') (l' : LOp X.K r' q') (ha : UE X a ta) (hb : UE X b tb) (hc : UE X c tc)
    (hm : lastMarks [op, op'] [b, c] = false := by with_unfolding_all rfl) : UT X (.Compare a [op, op'] [b, c] pos) (uTest (uChain q q' ta tb tc)) := PT.imp (pt_chain ho ho' ha hb hc hm) fun _ _ _ h => u_chain l l' (u_test h)
/-- <= of ints, of texts -/
def oLe2 : T → T → TH → UX → Prop := fun x y S P => match x, y with
  | .int i, .int j => P (.bl (decide (i ≤ j))) S
  | .str i, .str j => P (.bl (!decide (j.cps.toList < i.cps.toList))) S
  | _, _ => False
theorem lLe2 {K : PySem.W.Frag} : LOp K (fun x y H Q => rI0 (fun i j => .bl (decide (i ≤ j))) x y H Q ∨ ∃ i j, x = .str i ∧ y = .str j ∧ Q (.bl (!decide (j.cps.toList < i.cps.toList))) H) oLe2 := fun S H v w x y P Q g rx ry ho fin => by
  cases x with
  | int i => cases y with
    | int j => cases rx; cases ry; exact .inl ⟨i, j, rfl, rfl, fin _ _ S H .refl g (.bl _) ho⟩
    | _ => exact ho.elim
  | str i => cases y with
    | str j => cases rx; cases ry; exact .inr ⟨i, j, rfl, rfl, fin _ _ S H .refl g (.bl _) ho⟩
    | _ => exact ho.elim
  | _ => exact ho.elim

/-! ### a dict of the module -/
def uKGet (kts : List (Key × T)) (te : UTE) : UTE := fun env S P => te env S fun y S1 => match keyT y with
  | some k => P ((valT kts k).getD .non) S1
  | none => False
theorem ue_kget {x : Str} {d : Addr} {kvs : List (Key × V)} {kts : List (Key × T)} {p : Pos} (hg : Gl X x) (hm : X.mg x = some (.ref d)) (kd : KD X.prog X.w X.K d kvs) (rk : ∀ S H, RepK X.K S H kvs kts) (he : UE X e te) (m : M1 X (.Name x p) "get" apos e cpos)
    (hd : (x == ("__debug__" : Str)) = false := by decide) : UE X (.Call (.Attribute (.Name x p) "get" apos) [e] [] cpos) (uKGet kts te) := PE.imp (pe_kget hg hm kd he m hd) fun σ H Q ⟨S, env, P, g, re, h, fin⟩ =>
  lf_bind ⟨g, re⟩ h fun v y S1 H1 le1 m1 ry h1 => by
    cases q : keyT y with
    | none => rw [q] at h1; exact h1.elim
    | some k =>
      rw [q] at h1
      dsimp only at h1
      refine ⟨k, keyT_V ry q, ?_⟩
      have rv := (rk S1 H1).val (k := k)
      cases q2 : valT kts k with
      | none =>
        rw [q2] at h1
        rw [rv.2 q2]
        exact fin _ _ S1 H1 le1 m1.g .non h1
      | some t =>
        rw [q2] at h1
        obtain ⟨u, eu, ru⟩ := rv.1 t q2
        rw [eu]
        exact fin _ _ S1 H1 le1 m1.g ru h1

/-! ### methods of texts and lists -/
def uFind (to : UTE) (tr : UTA) : UTE := fun env S P => to env S fun x S1 => match x with
  | .str a => tr env S1 fun ys S2 => match ys with
    | [.str b] => P (.int (Txt.find a b)) S2
    | _ => False
  | _ => False
theorem ue_find (ho : UE X o to) (ha : UA X [e] tr) (hbase : attributeBase o "find" X.env (eval o X.env) = eval o X.env := by rfl)
    (hfew : ((backTo cpos (starEach [e] X.env)).all (fun x => !x.1) && (backToKw cpos (keywordEach [] X.env)).all (fun x => x.1.isSome) && decide (([e] : List Expr).length + ([] : List Keyword).length + (if ([] : List Keyword).isEmpty then 0 else 1) < 30)) = true := by rfl)
    (hline : (apos.endLine == cpos.line) = true := by rfl) (hs : starEach [e] X.env = (false, eval e X.env) :: starEach [] X.env := by rfl) (hplain : (backTo cpos (starEach [] X.env)).any (·.1) = false := by rfl) :
    UE X (.Call (.Attribute o "find" apos) [e] [] cpos) (uFind to tr) :=
  PE.imp (pe_bm PySem.F.plainAttrs_str PySem.F.slot_str_find PySem.F.type_str_find mt_find ho ha hbase hfew hline hs hplain) fun σ H Q ⟨S, env, P, g, re, h, fin⟩ =>
    lf_bind ⟨g, re⟩ h fun v x S1 H1 le1 m1 rx h1 => by
      cases x with
      | str a =>
        cases rx
        refine ⟨rfl, lfA_bind m1 h1 fun vs rs S2 H2 le2 m2 rr h2 => ?_⟩
        match rs, rr, h2 with
        | [.str b], rr, h2 =>
          obtain ⟨w, rfl, rw'⟩ := rr.one
          cases rw'
          exact ⟨a, b, rfl, rfl, fin _ _ S2 H2 (le1.trans le2) m2.g (.int _) h2⟩
      | _ => exact h1.elim
def uUpper (to : UTE) : UTE := fun env S P => to env S fun x S1 => match x with
  | .str a => Builtin.Str.tooLong (Txt.upper a).length = false ∧ P (.str (Txt.upper a)) S1
  | _ => False
theorem ue_upper (ho : UE X o to) (hbase : attributeBase o "upper" X.env (eval o X.env) = eval o X.env := by rfl) (hline : (apos.endLine == cpos.line) = true := by rfl) : UE X (.Call (.Attribute o "upper" apos) [] [] cpos) (uUpper to) :=
  PE.imp (pe_bm0 PySem.F.plainAttrs_str PySem.F.slot_str_upper PySem.F.type_str_upper mt_upper ho hbase hline) fun σ H Q ⟨S, env, P, g, re, h, fin⟩ =>
    lf_bind ⟨g, re⟩ h fun v x S1 H1 le1 m1 rx h1 => by
      cases x with
      | str a => cases rx; exact ⟨rfl, a, rfl, rfl, h1.1, fin _ _ S1 H1 le1 m1.g (.str _) h1.2⟩
      | _ => exact h1.elim
/-- xs.append(e) of a cell -/
def uAppend (to : UTE) (tr : UTA) : UTE := fun env S P => to env S fun x S1 => match x with
  | .ref p => (∃ ts0, S1 p = some (.lst ts0)) ∧ tr env S1 fun ys S2 => match ys with
    | [y] => ∃ ts, S2 p = some (.lst ts) ∧ ts.length < sizeLine ∧ P .non (updT S2 p (.lst (ts ++ [y])))
    | _ => False
  | _ => False
theorem ue_append (ho : UE X o to) (ha : UA X [e] tr) (hbase : attributeBase o "append" X.env (eval o X.env) = eval o X.env := by rfl)
    (hfew : ((backTo cpos (starEach [e] X.env)).all (fun x => !x.1) && (backToKw cpos (keywordEach [] X.env)).all (fun x => x.1.isSome) && decide (([e] : List Expr).length + ([] : List Keyword).length + (if ([] : List Keyword).isEmpty then 0 else 1) < 30)) = true := by rfl)
    (hline : (apos.endLine == cpos.line) = true := by rfl) (hs : starEach [e] X.env = (false, eval e X.env) :: starEach [] X.env := by rfl) (hplain : (backTo cpos (starEach [] X.env)).any (·.1) = false := by rfl) :
    UE X (.Call (.Attribute o "append" apos) [e] [] cpos) (uAppend to tr) :=
  PE.imp (pe_bm PySem.F.plainAttrs_list PySem.F.slot_list_append PySem.F.type_list_append mt_append ho ha hbase hfew hline hs hplain) fun σ H Q ⟨S, env, P, g, re, h, fin⟩ =>
    lf_bind ⟨g, re⟩ h fun v x S1 H1 le1 m1 rx h1 => by
      cases x with
      | ref p =>
        cases rx
        obtain ⟨⟨ts0, e0⟩, h1⟩ := h1
        obtain ⟨vs0, q0, _⟩ := m1.g p _ e0
        refine ⟨.inl ⟨rfl, _, SqL.of q0⟩, lfA_bind m1 h1 fun vs rs S2 H2 le2 m2 rr h2 => ?_⟩
        match rs, rr, h2 with
        | [y], rr, h2 =>
          obtain ⟨w, rfl, rw'⟩ := rr.one
          obtain ⟨ts, e2, hl, hp⟩ := h2
          obtain ⟨us, q2, r2⟩ := m2.g p _ e2
          refine ⟨p, us, w, rfl, rfl, q2, by rw [r2.1]; exact hl, ?_⟩
          exact fin _ _ _ _ (le1.trans (le2.trans (Le.write e2))) (m2.g.writeL e2 (r2.append (.cons rw' .nil))) .non hp
      | _ => exact h1.elim
/-- a cell that will not change again -/
def uFrz (to : UTE) : UTE := fun env S P => to env S fun x S1 => match x with
  | .ref p => ∃ ts, S1 p = some (.lst ts) ∧ P (.lst ts) (delT S1 p)
  | _ => False
theorem ue_frz (ho : UE X o to) : UE X o (uFrz to) := PE.imp ho fun σ H Q ⟨S, env, P, g, re, h, fin⟩ => lf_bind ⟨g, re⟩ h fun v x S1 H1 le1 m1 rx h1 => by
  cases x with
  | ref p =>
    cases rx
    obtain ⟨ts, e, hp⟩ := h1
    obtain ⟨us, q, r⟩ := m1.g p _ e
    exact fin _ _ (delT S1 p) H1 (le1.trans Le.del) m1.g.del (.lstI ⟨delT_same, q⟩ (r.mono Le.del)) hp
  | _ => exact h1.elim
def oStr (xs : List T) (S : TH) (P : UX) : Prop := match xs with
  | [.int i] => i.natAbs.log2 < 1920 ∧ P (.str (toString i)) S
  | _ => False
theorem lStr {K : PySem.W.Frag} : LCall K (fun xs H Q => ∃ i, xs = [.int i] ∧ i.natAbs.log2 < 1920 ∧ Q (.str (toString i)) H) oStr := fun S H vs xs P Q g r ho fin => by
  match xs, r, ho with
  | [.int i], r, ho =>
    obtain ⟨v, rfl, rx⟩ := r.one
    cases rx
    exact ⟨i, rfl, ho.1, fin _ _ S H .refl g (.str _) ho.2⟩
/-! ### short words -/
theorem ue_eq (hu : X.A.units < cLine) (ha : UE X a ta) (hb : UE X b tb) : UE X (.Compare a [.Eq] [b] pos) (uBin (oEq2 false) ta tb) := ue_cmp (op_eq.or (op_eqN hu)) (lEq2 lEq) ha hb (nomark _)
theorem ue_ne (hu : X.A.units < cLine) (ha : UE X a ta) (hb : UE X b tb) : UE X (.Compare a [.NotEq] [b] pos) (uBin (oEq2 true) ta tb) := ue_cmp (op_ne.or (op_neN hu)) (lEq2 lNe) ha hb (nomark _)
theorem ut_eq (hu : X.A.units < cLine) (ha : UE X a ta) (hb : UE X b tb) : UT X (.Compare a [.Eq] [b] pos) (uTest (uBin (oEq2 false) ta tb)) := ut_cmp (op_eq.or (op_eqN hu)) (lEq2 lEq) ha hb (nomark _)
theorem ut_ne (hu : X.A.units < cLine) (ha : UE X a ta) (hb : UE X b tb) : UT X (.Compare a [.NotEq] [b] pos) (uTest (uBin (oEq2 true) ta tb)) := ut_cmp (op_ne.or (op_neN hu)) (lEq2 lNe) ha hb (nomark _)
theorem ut_lt (ha : UE X a ta) (hb : UE X b tb) : UT X (.Compare a [.Lt] [b] pos) (uTest (uBin oLt ta tb)) := ut_cmp op_lt lLt ha hb (nomark _)
theorem ue_lt (ha : UE X a ta) (hb : UE X b tb) : UE X (.Compare a [.Lt] [b] pos) (uBin oLt ta tb) := ue_cmp op_lt lLt ha hb (nomark _)
theorem ut_gt (ha : UE X a ta) (hb : UE X b tb) : UT X (.Compare a [.Gt] [b] pos) (uTest (uBin oGt ta tb)) := ut_cmp op_gt lGt ha hb (nomark _)
theorem ue_gt (ha : UE X a ta) (hb : UE X b tb) : UE X (.Compare a [.Gt] [b] pos) (uBin oGt ta tb) := ue_cmp op_gt lGt ha hb (nomark _)
theorem ut_isN (ha : UE X a ta) (hb : UE X b tb) : UT X (.Compare a [.Is] [b] pos) (uTest (uBin oIsN ta tb)) := ut_cmp op_isN lIsN ha hb (nomark _)
theorem ue_in (ha : UE X a ta) (hb : UE X b tb) (hm : behindInMarks .In b = false := by with_unfolding_all rfl) : UE X (.Compare a [.In] [b] pos) (uBin (oIn false) ta tb) := ue_cmp op_in_seq lIn ha hb hm
theorem ut_in (ha : UE X a ta) (hb : UE X b tb) (hm : behindInMarks .In b = false := by with_unfolding_all rfl) : UT X (.Compare a [.In] [b] pos) (uTest (uBin (oIn false) ta tb)) := ut_cmp op_in_seq lIn ha hb hm
theorem ut_notIn (ha : UE X a ta) (hb : UE X b tb) (hm : behindInMarks .NotIn b = false := by with_unfolding_all rfl) : UT X (.Compare a [.NotIn] [b] pos) (uTest (uBin (oIn true) ta tb)) := ut_cmp op_notIn_seq lIn ha hb hm
theorem ue_leChain (ha : UE X a ta) (hb : UE X b tb) (hc : UE X c tc) (hm : lastMarks [.LtE, .LtE] [b, c] = false := by with_unfolding_all rfl) : UE X (.Compare a [.LtE, .LtE] [b, c] pos) (uChain oLe2 oLe2 ta tb tc) := ue_chain (op_le.or op_le_str) lLe2 (op_le.or op_le_str) lLe2 ha hb hc hm
theorem ut_leChain (ha : UE X a ta) (hb : UE X b tb) (hc : UE X c tc) (hm : lastMarks [.LtE, .LtE] [b, c] = false := by with_unfolding_all rfl) : UT X (.Compare a [.LtE, .LtE] [b, c] pos) (uTest (uChain oLe2 oLe2 ta tb tc)) := ut_chain (op_le.or op_le_str) lLe2 (op_le.or op_le_str) lLe2 ha hb hc hm
variable {p : Pos}
theorem ue_isi (hg : Gl X "isinstance") (hm : X.mg "isinstance" = none) (ha : UA X [a, b] tr) (he : starEach [a, b] X.env = (false, eval a X.env) :: starEach [b] X.env := by rfl) (hpl : (backTo pos (starEach [b] X.env)).any (·.1) = false := by rfl) :
    UE X (.Call (.Name "isinstance" p) [a, b] [] pos) (uCall oIsi tr) := ue_callB call_isiV lIsi hg hm boot_isinstance ha (he := he) (hpl := hpl)
theorem ue_list (hg : Gl X "list") (hm : X.mg "list" = none) (ha : UA X [a] tr) (he : starEach [a] X.env = (false, eval a X.env) :: starEach [] X.env := by rfl) : UE X (.Call (.Name "list" p) [a] [] pos) (uCall oList tr) := ue_callTy call_list_of lList hg hm boot_list ha (he := he)
theorem ue_intC (hg : Gl X "int") (hm : X.mg "int" = none) (ha : UA X [a] tr) (he : starEach [a] X.env = (false, eval a X.env) :: starEach [] X.env := by rfl) : UE X (.Call (.Name "int" p) [a] [] pos) (uCall oInt tr) := ue_callTy call_int1 lInt hg hm boot_int ha (he := he)
theorem ue_strC (hg : Gl X "str") (hm : X.mg "str" = none) (ha : UA X [a] tr) (he : starEach [a] X.env = (false, eval a X.env) :: starEach [] X.env := by rfl) : UE X (.Call (.Name "str" p) [a] [] pos) (uCall oStr tr) := ue_callTy call_str_int lStr hg hm boot_str ha (he := he)
end
end TL
end
section
set_option Elab.async false
set_option linter.all false
set_option maxRecDepth 100000
set_option maxHeartbeats 4000000
namespace TL
open PySem PySem.Spec PyProof.Rows L2
/-- the text's def x keeps the promise t, with k calls' room -/
def Has (P : Program) (w : World) (K : PySem.W.Frag) (mg : Str → Option Value) (base : Heap) (k : Nat) (x : Str) (ps : List Str) (t : List T → TH → UX → Prop) : Prop :=
  ∃ f fd, FnOk P w K mg base CX0 k f fd ps (spU K t) ∧ Binds K fd ps [] ∧ PySem.W.keepIn K (.ref f) = true ∧ mg x = some (.ref f)
/-- the text's def x, as it stands -/
def Stands (K : PySem.W.Frag) (mg : Str → Option Value) (x : Str) (ps : List Str) (st : Stmt) : Prop := ∃ f fd, Fun K x x st f fd ∧ Binds K fd ps [] ∧ mg x = some (.ref f)
theorem Has.mono {P : Program} {w : World} {K : PySem.W.Frag} {mg : Str → Option Value} {base : Heap} {j k : Nat} {x : Str} {ps : List Str} {t : List T → TH → UX → Prop} (h : Has P w K mg base j x ps t) (hk : j ≤ k) : Has P w K mg base k x ps t := by
  obtain ⟨f, fd, h1, h2⟩ := h
  exact ⟨f, fd, h1.mono hk, h2⟩
theorem Has.imp {P : Program} {w : World} {K : PySem.W.Frag} {mg : Str → Option Value} {base : Heap} {k : Nat} {x : Str} {ps : List Str} {t t' : List T → TH → UX → Prop} (h : Has P w K mg base k x ps t) (i : ∀ ts S Pp, t' ts S Pp → t ts S Pp) : Has P w K mg base k x ps t' := by
  obtain ⟨f, fd, h1, h2⟩ := h
  exact ⟨f, fd, h1.imp fun vs H Q E ⟨S, ts, Pp, g, r, q, fin⟩ => ⟨S, ts, Pp, g, r, i ts S Pp q, fin⟩, h2⟩
theorem has_of {P : Program} {w : World} {K : PySem.W.Frag} {mg : Str → Option Value} {base : Heap} {k : Nat} {x : Str} {N ps : List Str} {st : Stmt} {t : List T → TH → UX → Prop} (d : Stands K mg x ps st) (Sc : FnScope N ps (defScope st)) (hl : ∀ ts S Pp, t ts S Pp → ts.length = ps.length)
    (hb : ∀ (cdv : Value) (f : Addr) (A : Around) (outer : List Env) (s : Shared) (H : Hp) (E : XK), Room k (A.deeper (envOfC x (defScope st) s.heap.objs.size f cdv)) →
      ∃ tb, USs (cxOf CX0 P w K mg base N x (defScope st) f cdv A outer s H E).nox (defBody st) tb ∧ ∀ ts S Pp, t ts S Pp → tb { nx := fun _ S' => Pp .non S', rt := Pp } (startT N ts) S) : Has P w K mg base (k + 1) x ps t := by
  obtain ⟨f, fd, F, b, hm⟩ := d
  exact ⟨f, fd, def_u F Sc hl fun cdv A outer s H E hr => hb cdv f A outer s H E hr, b, F.kp, hm⟩
theorem has_none {P : Program} {w : World} {K : PySem.W.Frag} {mg : Str → Option Value} {base : Heap} {k : Nat} {x : Str} {ps : List Str} {st : Stmt} {t : List T → TH → UX → Prop} (d : Stands K mg x ps st) (h : ∀ ts S Pp, ¬ t ts S Pp) : Has P w K mg base k x ps t := by
  obtain ⟨f, fd, F, b, hm⟩ := d
  exact ⟨f, fd, none_u h, b, F.kp, hm⟩
/-- a dict of the module -/
def KDt (P : Program) (w : World) (K : PySem.W.Frag) (mg : Str → Option Value) (x : Str) (kts : List (Key × T)) : Prop := ∃ d kvs, mg x = some (.ref d) ∧ KD P w K d kvs ∧ ∀ S H, RepK K S H kvs kts
section
variable {X : Cx} {e : Expr} {es : List Expr} {te : UTE} {tr : UTA} {pos p apos cpos : Pos} {x : Str}
theorem ue_calln {k : Nat} {ps : List Str} {t : List T → TH → UX → Prop} (h : Has X.prog X.w X.K X.mg X.base k x ps t) (hr : Room k X.A) (hg : Gl X x) (ha : UA X (e :: es) tr) (hdb : (x == ("__debug__" : Str)) = false := by decide) (he : starEach (e :: es) X.env = (false, eval e X.env) :: starEach es X.env := by rfl)
    (hpl : (backTo pos (starEach es X.env)).any (·.1) = false := by rfl) : UE X (.Call (.Name x p) (e :: es) [] pos) (uCall t tr) := by
  obtain ⟨f, fd, F, b, kp, hm⟩ := h
  exact ue_call F hr hg hm kp b ha hdb he hpl
theorem ue_kgetn {kts : List (Key × T)} (hg : Gl X x) (h : KDt X.prog X.w X.K X.mg x kts) (he : UE X e te) (m : M1 X (.Name x p) "get" apos e cpos) (hd : (x == ("__debug__" : Str)) = false := by decide) : UE X (.Call (.Attribute (.Name x p) "get" apos) [e] [] cpos) (uKGet kts te) := by
  obtain ⟨d, kvs, hm, kd, rk⟩ := h
  exact ue_kget hg hm kd rk he m hd
end
theorem hu0_of {A : Around} {k : Nat} (hr : Room k A) : A.units < cLine := hr.units0
/-- a plain thing -/
inductive Pl : T → Prop where
  | non : Pl .non
  | bl (b : Bool) : Pl (.bl b)
  | int (i : Int) : Pl (.int i)
  | str {x : Str} : x.length ≤ sizeLine → Pl (.str x)
  | tup {ts : List T} : (∀ t ∈ ts, Pl t) → Pl (.tup ts)
  | lst {ts : List T} : (∀ t ∈ ts, Pl t) → Pl (.lst ts)
theorem Pl.ty {t : T} (h : Pl t) : ∃ n, tyT t = some n := by cases h <;> exact ⟨_, rfl⟩
end TL
end
section
set_option Elab.async false
set_option linter.all false
set_option maxRecDepth 100000
set_option maxHeartbeats 4000000
namespace TL
open PySem PySem.Spec PyProof.Rows L2
/-- a comprehension whose turns change nothing: f tells the item, none where it is left out -/
theorem comp_pure {ts : List T} {S : TH} {gg : UTG} {tc : UTT} {te : UTE} {ev : Ev} {P : UX} (f : T → Option T) (hl : ts.length ≤ sizeLine)
    (turn : ∀ x ∈ ts, ∀ (A : UX) (B : TH → Prop), (∀ r, f x = some r → A r S) → (f x = none → B S) → gg x ev S fun env' S' => tc env' S' fun b S2 => (b = true → te env' S2 A) ∧ (b = false → B S2))
    (h : P (.lst (ts.filterMap f)) S) : ts.length ≤ sizeLine ∧ ∃ Iv : Nat → List T → TH → Prop, Iv 0 [] S ∧
      (∀ k x acc S, ts[k]? = some x → Iv k acc S → gg x ev S fun env' S' => tc env' S' fun b S2 => (b = true → te env' S2 fun r S3 => Iv (k + 1) (acc ++ [r]) S3) ∧ (b = false → Iv (k + 1) acc S2)) ∧
      ∀ acc S, Iv ts.length acc S → P (.lst acc) S := by
  refine ⟨hl, fun k acc S' => acc = (ts.take k).filterMap f ∧ S' = S, ⟨by simp, rfl⟩, fun k x acc S' e iv => ?_, fun acc S' iv => ?_⟩
  · obtain ⟨rfl, rfl⟩ := iv
    have hk : k < ts.length := (List.getElem?_eq_some_iff.mp e).1
    have et : ts.take (k + 1) = ts.take k ++ [x] := by rw [List.take_add_one, e]; rfl
    refine turn x (List.mem_of_getElem? e) _ _ (fun r er => ⟨?_, rfl⟩) (fun en => ⟨?_, rfl⟩)
    · rw [et, List.filterMap_append]; simp [er]
    · rw [et, List.filterMap_append]; simp [en]
  · obtain ⟨rfl, rfl⟩ := iv
    rw [List.take_length]
    exact h
theorem comp_u {pick : List (Option Nat)} {ti : UTA} {env : Ev} {ts : List T} {S : TH} {gg : UTG} {tc : UTT} {te : UTE} {P : UX} (f : T → Option T) (hti : ∀ k : List T → TH → Prop, k ts S → ti env S k) (hl : ts.length ≤ sizeLine)
    (turn : ∀ x ∈ ts, ∀ (A : UX) (B : TH → Prop), (∀ r, f x = some r → A r S) → (f x = none → B S) → gg x (evOf pick env) S fun env' S' => tc env' S' fun b S2 => (b = true → te env' S2 A) ∧ (b = false → B S2))
    (h : P (.lst (ts.filterMap f)) S) : uComp pick ti gg tc te env S P := hti _ (comp_pure f hl turn h)
theorem strsT_map (zs : List Str) : strsT (zs.map T.str) = some zs := by
  induction zs with
  | nil => rfl
  | cons z r ih => simp only [List.map_cons, strsT, ih, Option.map_some]
theorem signsT_length (z : Str) : (signsT z).length = z.length := by simp [signsT, Str.length]
end TL
end
section
set_option Elab.async false
set_option linter.all false
set_option maxRecDepth 100000
set_option maxHeartbeats 4000000
namespace TL
open PySem PySem.Spec PyProof.Rows L2
/-! ### many written items at once -/
inductive Cs : List Expr → List T → Prop where
  | nil : Cs [] []
  | s {x : Str} {j : Nat} {p : Pos} {es : List Expr} {ts : List T} : Cs es ts → Cs (.Constant (.str x) j p :: es) (.str x :: ts)
  | i {x : Int} {j : Nat} {p : Pos} {es : List Expr} {ts : List T} : Cs es ts → Cs (.Constant (.int x) j p :: es) (.int x :: ts)
  | b {x : Bool} {j : Nat} {p : Pos} {es : List Expr} {ts : List T} : Cs es ts → Cs (.Constant (.bool x) j p :: es) (.bl x :: ts)
  | n {j : Nat} {p : Pos} {es : List Expr} {ts : List T} : Cs es ts → Cs (.Constant .none j p :: es) (.non :: ts)
def uConsts (ts : List T) : UTA := fun _ S P => P ts S
theorem ua_consts {X : Cx} {es : List Expr} {ts : List T} (h : Cs es ts) : UA X es (uConsts ts) := by
  induction h with
  | nil => exact ua_nil
  | s _ ih => exact ua_cons ue_str ih rfl
  | i _ ih => exact ua_cons ue_int ih rfl
  | b _ ih => exact ua_cons ue_bl ih rfl
  | n _ ih => exact ua_cons ue_non ih rfl
end TL
end
section
set_option Elab.async false
set_option linter.all false
set_option maxRecDepth 100000
set_option maxHeartbeats 4000000
namespace TL
open PySem PySem.Spec PyProof.Rows L2
theorem or_pure {t u : UTT} {b1 b2 : Bool} {env : Ev} {S : TH} {P : Bool → TH → Prop} (ht : ∀ P : Bool → TH → Prop, P b1 S → t env S P) (hu : ∀ P : Bool → TH → Prop, P b2 S → u env S P) (h : P (b1 || b2) S) : uOr t u env S P :=
  ht _ ⟨fun e => by rw [e, Bool.true_or] at h; exact h, fun e => hu _ (by rw [e, Bool.false_or] at h; exact h)⟩
theorem and_pure {t u : UTT} {b1 b2 : Bool} {env : Ev} {S : TH} {P : Bool → TH → Prop} (ht : ∀ P : Bool → TH → Prop, P b1 S → t env S P) (hu : b1 = true → ∀ P : Bool → TH → Prop, P b2 S → u env S P) (h : P (b1 && b2) S) : uAnd t u env S P :=
  ht _ ⟨fun e => hu e _ (by rw [e, Bool.true_and] at h; exact h), fun e => by rw [e, Bool.false_and] at h; exact h⟩
/-- a test that may turn a cell: R holds behind it, whatever it says -/
theorem and_inv {t u : UTT} {b1 : Bool} {env : Ev} {S : TH} {P : Bool → TH → Prop} {R : TH → Prop} (ht : ∀ P : Bool → TH → Prop, P b1 S → t env S P) (h0 : R S)
    (hu : b1 = true → ∀ P : Bool → TH → Prop, (∀ b S', R S' → P b S') → u env S P) (h : ∀ b S', R S' → (b = true → b1 = true) → P b S') : uAnd t u env S P :=
  ht _ ⟨fun e => hu e _ fun b S' r => h b S' r fun _ => e, fun e => h false S h0 fun z => by cases z⟩
theorem or_inv {t u : UTT} {b1 : Bool} {env : Ev} {S : TH} {P : Bool → TH → Prop} {R : TH → Prop} (ht : ∀ P : Bool → TH → Prop, P b1 S → t env S P) (h0 : R S)
    (hu : b1 = false → ∀ P : Bool → TH → Prop, (∀ b S', R S' → P b S') → u env S P) (h : ∀ b S', R S' → (b = false → b1 = false) → P b S') : uOr t u env S P :=
  ht _ ⟨fun e => h true S h0 (fun z => by cases z), fun e => hu e _ fun b S' r => h b S' r fun _ => e⟩
theorem at_mem {α : Type} {xs : List α} {i : Int} (h0 : 0 ≤ i) (h1 : i < xs.length) : ∃ x ∈ xs, atI xs i = some x := by
  have hl : i.toNat < xs.length := by omega
  refine ⟨xs[i.toNat], List.getElem_mem hl, ?_⟩
  have q : atI xs ((i.toNat : Nat) : Int) = some xs[i.toNat] := atI_nat (List.getElem?_eq_getElem hl)
  rw [Int.toNat_of_nonneg h0] at q
  exact q
end TL
end
section
set_option Elab.async false
set_option linter.all false
set_option maxRecDepth 100000
set_option maxHeartbeats 4000000
/-! the top: what the module's names stand for -/
namespace TL
open PySem PySem.Spec PyProof.Rows L2
def toV : Value → V
  | .bool b => .bl b
  | .int i _ => .int i
  | .str x _ => .str x
  | .ref a => .ref a
  | _ => .non
inductive KR (K : PySem.W.Frag) : Value → T → Prop where
  | non : KR K .none .non
  | bl (b : Bool) : KR K (.bool b) (.bl b)
  | int (i : Int) (t : Tok) : KR K (.int i t) (.int i)
  | str (x : Str) (t : Tok) : KR K (.str x t) (.str x)
  | tup {a : Addr} {o : Obj} {its : Array Value} {n : Nat} {ts : List T} : K.lookup a = some o → o.cls = .type "tuple" → o.data = .seq its n → its.size ≤ sizeLine → its.toList.length = ts.length →
      (∀ (i : Nat) u t, its.toList[i]? = some u → ts[i]? = some t → KR K u t) → KR K (.ref a) (.tup ts)
section
variable {K : PySem.W.Frag}
def KRs (K : PySem.W.Frag) (us : List Value) (ts : List T) : Prop := us.length = ts.length ∧ ∀ (i : Nat) u t, us[i]? = some u → ts[i]? = some t → KR K u t
theorem KRs.nil : KRs K [] [] := ⟨rfl, fun _ _ _ e => by simp at e⟩
theorem KRs.cons {u : Value} {t : T} {us : List Value} {ts : List T} (h : KR K u t) (r : KRs K us ts) : KRs K (u :: us) (t :: ts) := by
  refine ⟨by simp only [List.length_cons, r.1], fun i u' t' e1 e2 => ?_⟩
  cases i with
  | zero => simp at e1 e2; subst e1; subst e2; exact h
  | succ i => exact r.2 i u' t' (by simpa using e1) (by simpa using e2)
theorem KR.tupI {a : Addr} {oc : Option Addr} {its : List Value} {n : Nat} {sl : Array (Option Value)} {ts : List T} (l : K.lookup a = some ⟨.type "tuple", oc, .seq its.toArray n, sl⟩) (hz : its.length ≤ 1000) (r : KRs K its ts) : KR K (.ref a) (.tup ts) :=
  .tup l rfl rfl (by simpa using Nat.le_of_lt (small1000 hz)) (by simpa using r.1) fun i u t e1 e2 => r.2 i u t (by simpa using e1) e2
theorem KR.rel {u : Value} {t : T} (h : KR K u t) : RelV (toV u) u ∧ ∀ S H, Rep K S H (toV u) t := by
  induction h with
  | non => exact ⟨rfl, fun _ _ => .non⟩
  | bl b => exact ⟨rfl, fun _ _ => .bl b⟩
  | int i t => exact ⟨⟨t, rfl⟩, fun _ _ => .int i⟩
  | str x t => exact ⟨⟨t, rfl⟩, fun _ _ => .str x⟩
  | @tup a o its n ts lk hc hd hz hl _ ih =>
    refine ⟨rfl, fun S H => ?_⟩
    have hv : Vals (its.toList.map toV) its.toList := by
      have : ∀ (us : List Value), (∀ u ∈ us, RelV (toV u) u) → Vals (us.map toV) us := by
        intro us
        induction us with
        | nil => exact fun _ => .nil
        | cons u us ihu => exact fun q => .cons (q u List.mem_cons_self) (ihu fun z hz => q z (List.mem_cons_of_mem _ hz))
      refine this _ fun u hu => ?_
      obtain ⟨i, hi, rfl⟩ := List.mem_iff_getElem.mp hu
      exact (ih i its.toList[i] (ts[i]'(by omega)) (List.getElem?_eq_getElem hi) (List.getElem?_eq_getElem (by omega))).1
    refine .tup (.inr ⟨o, its, n, lk, hc, hd, hz, hv⟩) (by rw [List.length_map]; exact hl) fun i v t e1 e2 => ?_
    rw [List.getElem?_map] at e1
    cases hu : its.toList[i]? with
    | none => rw [hu] at e1; cases e1
    | some u =>
      rw [hu] at e1
      cases e1
      exact (ih i u t hu e2).2 S H
/-- a dict of the module by its entries -/
inductive Ents (w : World) (K : PySem.W.Frag) : List DictEntry → List (Key × T) → Prop where
  | nil : Ents w K [] []
  | cons {x : Str} {tk : Tok} {u : Value} {t : T} {es : List DictEntry} {kts : List (Key × T)} : KR K u t → Ents w K es kts → Ents w K (⟨PyData.keyHash w.params x, .str x tk, u⟩ :: es) ((.inr x, t) :: kts)
theorem Ents.out {P : Program} {w : World} {es : List DictEntry} {kts : List (Key × T)} (h : Ents w K es kts) : ∃ (kvs : List (Key × V)) (vs : List (Key × Value)), KV kvs vs ∧ (∀ S H, RepK K S H kvs kts) ∧ (∀ e ∈ es, ∃ k, (mixKind P w).is k e.key = true ∧ e.hash = (mixKind P w).hash k) ∧ Pairs (mixKind P w) es vs ∧ vs.map (·.1) = kts.map (·.1) := by
  induction h with
  | nil => exact ⟨[], [], .nil, fun _ _ => ⟨rfl, fun _ _ _ e => by simp at e⟩, (fun _ h => by cases h), .nil, rfl⟩
  | @cons x tk u t es kts kr _ ih =>
    obtain ⟨kvs, vs, h1, h2, h3, h4, h5⟩ := ih
    obtain ⟨r1, r2⟩ := kr.rel
    refine ⟨(.inr x, toV u) :: kvs, (.inr x, u) :: vs, .cons ⟨rfl, r1⟩ h1, fun S H => ?_, fun e he => ?_, .cons (mixKind_str P w x tk) rfl h4, by simp only [List.map_cons, h5]⟩
    · refine ⟨by simp only [List.length_cons, (h2 S H).1], fun i v t e1 e2 => ?_⟩
      cases i with
      | zero => simp at e1 e2; subst e1; subst e2; exact ⟨rfl, r2 S H⟩
      | succ i => exact (h2 S H).2 i v t (by simpa using e1) (by simpa using e2)
    · rcases List.mem_cons.mp he with rfl | q
      · exact ⟨.inr x, mixKind_str P w x tk, rfl⟩
      · exact h3 e q
theorem kd_mk {P : Program} {w : World} {h : Heap} {mg : Str → Option Value} {x : Str} {d : Addr} {es : List DictEntry} {ep : Nat} {kts : List (Key × T)} (X : K.In h) (G : h.Ns mainGlobals mg) (a : PySem.W.nsIn K mainGlobals x = some (some (.ref d)))
    (l : K.lookup d = some ⟨.type "dict", none, .dict es.toArray ep, #[]⟩) (hs : (d == sysModules) = false) (en : Ents w K es kts) (nd : (kts.map (·.1)).Nodup) : KDt P w K mg x kts := by
  obtain ⟨kvs, vs, h1, h2, h3, h4, h5⟩ := en.out (P := P)
  refine ⟨d, kvs, PySem.W.mg_of X G a, ⟨hs, vs, h1, fun h' k' => ⟨_, _, _, k' d _ l, ⟨rfl, rfl, rfl⟩, rfl, fun e he => h3 e (by simpa using he), by simpa using h4, by rw [h5]; exact nd⟩⟩, h2⟩
theorem stands_mk {h : Heap} {mg : Str → Option Value} {x : Str} {ps : List Str} {st : Stmt} {f : Addr} {oc : Value} {od an : Option Addr} {osl : Array (Option Value)} {kV doc pm cdv ct : Value} (X : K.In h) (G : h.Ns mainGlobals mg) (a : PySem.W.nsIn K mainGlobals x = some (some (.ref f)))
    (l : K.lookup f = some ⟨oc, od, .func (PySem.W.fnOf x x (defArgs st) (defBody st) (defScope st) .none kV doc pm an cdv ct), osl⟩) (c : PySem.W.codeIn K cdv x = true) (k : PySem.W.keepIn K (.ref f) = true)
    (b : ∀ (kV doc pm : Value) (an : Option Addr) (cdv ct : Value) (us : List Value), us.length = ps.length → bindArgs (PySem.W.fnOf x x (defArgs st) (defBody st) (defScope st) .none kV doc pm an cdv ct) ⟨us, []⟩ = pure (ps.zip us)) : Stands K mg x ps st :=
  ⟨f, _, fun_mk l c k, (fun_mk l c k).binds b, PySem.W.mg_of X G a⟩
theorem int_mk {h : Heap} {mg : Str → Option Value} {x : Str} {i : Int} {t : Tok} (X : K.In h) (G : h.Ns mainGlobals mg) (a : PySem.W.nsIn K mainGlobals x = some (some (.int i t))) : ∃ t, mg x = some (.int i t) := ⟨t, PySem.W.mg_of X G a⟩
/-- the script -/
theorem script_mk {H : Hp} {a : Addr} {ns : List Int} {t : List T → TH → UX → Prop} (hO : Only H) (hS : SqL K H a (ns.map V.int)) (h : t [.fls (ns.map T.int)] (fun _ => none) fun r _ => r = .bl true) : spU K t [.ref a] H (fun v _ => v = .bl true) fun _ _ _ => False := by
  refine ⟨fun _ => none, _, _, (fun _ _ e => by cases e), .cons (.fls (a := a) (vs := ns.map V.int) ?_ (by simp) fun i v t e1 e2 => ?_) .nil, h, fun v r S' H' _ _ rp q => ?_⟩
  · rcases hS with (q | ⟨o, q⟩) | q
    · rcases hO a with z | ⟨o, xs, z⟩
      · rw [z] at q; cases q
      · rw [z] at q; cases q
    · exact .inl ⟨rfl, o, q⟩
    · exact .inr q
  · rw [List.getElem?_map] at e1 e2
    cases hn : ns[i]? with
    | none => rw [hn] at e1; cases e1
    | some n => rw [hn] at e1 e2; cases e1; cases e2; exact .int n
  · have q : r = .bl true := q
    subst q
    cases rp
    rfl
end
end TL
end
section
set_option Elab.async false
set_option linter.all false
set_option maxRecDepth 100000
set_option maxHeartbeats 4000000
/-! dict displays, get with a default, tuple, max -/
namespace TL
open PySem PySem.Spec PyProof.Rows L2
def putT (kts : List (Key × T)) (k : Key) (t : T) : List (Key × T) :=
  if (kts.any fun kv => decide (kv.1 = k)) = true then kts.map (fun kv => if kv.1 = k then (kv.1, t) else kv) else kts ++ [(k, t)]
def mergeT (kts more : List (Key × T)) : List (Key × T) := more.foldl (fun acc kv => putT acc kv.1 kv.2) kts
def keysT : List (T × T) → Option (List (Key × T))
  | [] => some []
  | (x, y) :: r => match keyT x, keysT r with
    | some k, some kts => some ((k, y) :: kts)
    | _, _ => none
section
variable {K : PySem.W.Frag} {S S' : TH} {H H' : Hp}
theorem RepK.nil : RepK K S H [] [] := ⟨rfl, fun _ _ _ e => by simp at e⟩
theorem RepK.cons {p : Key × V} {q : Key × T} {kvs : List (Key × V)} {kts : List (Key × T)} (h1 : p.1 = q.1) (h2 : Rep K S H p.2 q.2) (r : RepK K S H kvs kts) : RepK K S H (p :: kvs) (q :: kts) := by
  refine ⟨by simp only [List.length_cons, r.1], fun i v t e1 e2 => ?_⟩
  cases i with
  | zero => simp at e1 e2; subst e1; subst e2; exact ⟨h1, h2⟩
  | succ i => exact r.2 i v t (by simpa using e1) (by simpa using e2)
theorem RepK.head {p : Key × V} {q : Key × T} {kvs : List (Key × V)} {kts : List (Key × T)} (h : RepK K S H (p :: kvs) (q :: kts)) : p.1 = q.1 ∧ Rep K S H p.2 q.2 := h.2 0 p q rfl rfl
theorem RepK.tail {p : Key × V} {q : Key × T} {kvs : List (Key × V)} {kts : List (Key × T)} (h : RepK K S H (p :: kvs) (q :: kts)) : RepK K S H kvs kts := ⟨by simpa using h.1, fun i v t e1 e2 => h.2 (i + 1) v t (by simpa using e1) (by simpa using e2)⟩
theorem RepK.append : ∀ {kvs : List (Key × V)} {kts : List (Key × T)} {lvs : List (Key × V)} {lts : List (Key × T)}, RepK K S H kvs kts → RepK K S H lvs lts → RepK K S H (kvs ++ lvs) (kts ++ lts)
  | [], [], _, _, _, r => r
  | [], _ :: _, _, _, h, _ => by have := h.1; simp at this
  | _ :: _, [], _, _, h, _ => by have := h.1; simp at this
  | p :: kvs, q :: kts, _, _, h, r => RepK.cons h.head.1 h.head.2 (RepK.append h.tail r)
theorem RepK.any {k : Key} : ∀ {kvs : List (Key × V)} {kts : List (Key × T)}, RepK K S H kvs kts → (kvs.any fun kv => decide (kv.1 = k)) = kts.any fun kv => decide (kv.1 = k)
  | [], [], _ => rfl
  | [], _ :: _, h => by have := h.1; simp at this
  | _ :: _, [], h => by have := h.1; simp at this
  | p :: kvs, q :: kts, h => by rw [List.any_cons, List.any_cons, RepK.any h.tail, h.head.1]
theorem RepK.repl {k : Key} {v : V} {t : T} (r : Rep K S H v t) : ∀ {kvs : List (Key × V)} {kts : List (Key × T)}, RepK K S H kvs kts → RepK K S H (kvs.map fun kv => if kv.1 = k then (kv.1, v) else kv) (kts.map fun kv => if kv.1 = k then (kv.1, t) else kv)
  | [], [], _ => RepK.nil
  | [], _ :: _, h => by have := h.1; simp at this
  | _ :: _, [], h => by have := h.1; simp at this
  | p :: kvs, q :: kts, h => by
    rw [List.map_cons, List.map_cons]
    have e := h.head.1
    by_cases c : q.1 = k
    · rw [if_pos c, if_pos (e.trans c)]
      exact .cons e r (RepK.repl r h.tail)
    · rw [if_neg c, if_neg (fun z => c (e.symm.trans z))]
      exact .cons e h.head.2 (RepK.repl r h.tail)
theorem RepK.put {k : Key} {v : V} {t : T} {kvs : List (Key × V)} {kts : List (Key × T)} (h : RepK K S H kvs kts) (r : Rep K S H v t) : RepK K S H (putK kvs k v) (putT kts k t) := by
  unfold putK putT
  rw [h.any]
  split
  · exact h.repl r
  · exact h.append (.cons rfl r .nil)
theorem RepK.merge : ∀ {mvs : List (Key × V)} {mts : List (Key × T)} {kvs : List (Key × V)} {kts : List (Key × T)}, RepK K S H mvs mts → RepK K S H kvs kts → RepK K S H (mergeK kvs mvs) (mergeT kts mts)
  | [], [], _, _, _, r => r
  | [], _ :: _, _, _, h, _ => by have := h.1; simp at this
  | _ :: _, [], _, _, h, _ => by have := h.1; simp at this
  | p :: mvs, q :: mts, kvs, kts, h, r => by
    show RepK K S H (mergeK (putK kvs p.1 p.2) mvs) (mergeT (putT kts q.1 q.2) mts)
    rw [h.head.1]
    exact RepK.merge h.tail (r.put h.head.2)
end
theorem putT_new {kts : List (Key × T)} {k : Key} {t : T} (h : k ∉ kts.map (·.1)) : putT kts k t = kts ++ [(k, t)] := by
  unfold putT
  rw [if_neg]
  intro z
  obtain ⟨p, hp, e⟩ := List.any_eq_true.mp z
  exact h (List.mem_map.mpr ⟨p, hp, of_decide_eq_true e⟩)
theorem mergeT_nodup : ∀ (more kts : List (Key × T)), ((kts ++ more).map (·.1)).Nodup → mergeT kts more = kts ++ more
  | [], kts, _ => by simp [mergeT]
  | p :: more, kts, h => by
    have hk : p.1 ∉ kts.map (·.1) := by
      rw [List.map_append, List.nodup_append] at h
      intro z
      exact h.2.2 _ z _ (List.mem_map.mpr ⟨p, List.mem_cons_self, rfl⟩) rfl
    show mergeT (putT kts p.1 p.2) more = _
    rw [putT_new hk, mergeT_nodup more (kts ++ [(p.1, p.2)]) (by simpa using h)]
    simp
theorem del_upd {S : TH} {p : Addr} {c : Cell} (h : S p = none) : delT (updT S p c) p = S := by
  funext b
  unfold delT updT
  by_cases e : b = p
  · rw [if_pos e, e, h]
  · rw [if_neg e, if_neg e]
def uPairs : List (UTE × UTE) → Ev → TH → (List (T × T) → TH → Prop) → Prop
  | [], _, S, P => P [] S
  | (tk, tv) :: r, env, S, P => tk env S fun x S1 => tv env S1 fun y S2 => uPairs r env S2 fun ps S3 => P ((x, y) :: ps) S3
inductive Ds (X : Cx) : List (Option Expr) → List Expr → List (UTE × UTE) → Prop where
  | nil : Ds X [] [] []
  | cons {k v : Expr} {tk tv : UTE} {ks : List (Option Expr)} {vs : List Expr} {trs : List (UTE × UTE)} : UE X k tk → UE X v tv → Ds X ks vs trs → Ds X (some k :: ks) (v :: vs) ((tk, tv) :: trs)
def uDisp (trs : List (UTE × UTE)) : UTE := fun env S P => ∀ p, S p = none → uPairs trs env (updT S p (.dct [])) fun ps S2 => S2 p = some (.dct []) ∧ ∃ kts, keysT ps = some kts ∧ P (.dct (mergeT [] kts)) (delT S2 p)
section
variable {X : Cx} {pos : Pos}
theorem ds_pps {ks : List (Option Expr)} {vs : List Expr} {trs : List (UTE × UTE)} (h : Ds X ks vs trs) : PPs X pos ks vs (trs.map fun t => (lf X.K t.1, lf X.K t.2)) ∧ ks.all (·.isSome) = true ∧ ks.length = vs.length ∧ trs.length = ks.length := by
  induction h with
  | nil => exact ⟨pps_nil, rfl, rfl, rfl⟩
  | cons hk hv _ ih => exact ⟨pps_cons hk hv ih.1, by rw [List.all_cons, ih.2.1]; rfl, by simp only [List.length_cons, ih.2.2.1], by simp only [List.length_cons, ih.2.2.2]⟩
theorem pairs_u {K : PySem.W.Frag} {σ : L2.St} {env : Ev} : ∀ (trs : List (UTE × UTE)) {S : TH} {H : Hp} {P : List (T × T) → TH → Prop} {Q : List (V × V) → Hp → Prop}, Good K S H → REnv K S H σ env → uPairs trs env S P →
    (∀ ps vs S' H', Le S H S' H' → Good K S' H' → ps.length = trs.length → vs.length = ps.length → (∀ (i : Nat) v p, vs[i]? = some v → ps[i]? = some p → Rep K S' H' v.1 p.1 ∧ Rep K S' H' v.2 p.2) → P ps S' → Q vs H') → tPairs (trs.map fun t => (lf K t.1, lf K t.2)) σ H Q
  | [], S, H, P, Q, g, re, h, fin => fin [] [] S H .refl g rfl rfl (fun _ _ _ e => by simp at e) h
  | (tk, tv) :: r, S, H, P, Q, g, re, h, fin => by
    show lf K tk σ H fun x H1 => lf K tv σ H1 fun y H2 => tPairs (r.map fun t => (lf K t.1, lf K t.2)) σ H2 fun ps H3 => Q ((x, y) :: ps) H3
    refine lf_bind ⟨g, re⟩ h fun v x S1 H1 le1 m1 rx h1 => lf_bind m1 h1 fun w y S2 H2 le2 m2 ry h2 => pairs_u r m2.g m2.re h2 fun ps vs S3 H3 le3 g3 hn hl rs h3 => ?_
    refine fin ((x, y) :: ps) ((v, w) :: vs) S3 H3 (le1.trans (le2.trans le3)) g3 (by simp only [List.length_cons, hn]) (by simp only [List.length_cons, hl]) (fun i v' p' e1 e2 => ?_) h3
    cases i with
    | zero => simp at e1 e2; subst e1; subst e2; exact ⟨rx.mono (le2.trans le3), ry.mono le3⟩
    | succ i => exact rs i v' p' (by simpa using e1) (by simpa using e2)
theorem keys_u {K : PySem.W.Frag} {S : TH} {H : Hp} : ∀ {ps : List (T × T)} {vs : List (V × V)} {kts : List (Key × T)}, vs.length = ps.length → (∀ (i : Nat) v p, vs[i]? = some v → ps[i]? = some p → Rep K S H v.1 p.1 ∧ Rep K S H v.2 p.2) → keysT ps = some kts →
    ∃ kvs : List (Key × V), vs = kvs.map (fun kv => (kV kv.1, kv.2)) ∧ kvs.length = ps.length ∧ RepK K S H kvs kts
  | [], [], kts, _, _, e => by cases e; exact ⟨[], rfl, rfl, .nil⟩
  | [], _ :: _, _, hl, _, _ => by simp at hl
  | _ :: _, [], _, hl, _, _ => by simp at hl
  | (x, y) :: ps, (v, w) :: vs, kts, hl, rs, e => by
    have r0 := rs 0 _ _ rfl rfl
    unfold keysT at e
    cases ek : keyT x with
    | none => rw [ek] at e; cases e
    | some k =>
      cases er : keysT ps with
      | none => rw [ek, er] at e; cases e
      | some kts' =>
        rw [ek, er] at e
        cases e
        obtain ⟨kvs, e1, e2, e3⟩ := keys_u (ps := ps) (vs := vs) (by simpa using hl) (fun i v p h1 h2 => rs (i + 1) v p (by simpa using h1) (by simpa using h2)) er
        exact ⟨(k, w) :: kvs, by rw [List.map_cons, e1]; show (v, w) :: _ = (kV k, w) :: _; rw [show v = kV k from keyT_V r0.1 ek], by simp only [List.length_cons, e2], .cons rfl r0.2 e3⟩
theorem ue_disp {ks : List (Option Expr)} {vs : List Expr} {trs : List (UTE × UTE)} (h : Ds X ks vs trs) (h0 : ks ≠ [] := by intro z; cases z) (h15 : ks.length ≤ 15 := by decide) : UE X (.Dict ks vs pos) (uDisp trs) := by
  obtain ⟨h1, h2, h3, hl⟩ := ds_pps (pos := pos) h
  refine PE.imp (pe_disp h1 h2 h3 h0 h15) fun σ H Q ⟨S, env, P, g, re, h, fin⟩ => fun p hp => ?_
  have sp := g.free hp
  have le0 : Le S H (updT S p (.dct [])) (upd H p (.dK [])) := Le.newC hp
  have g0 : Good X.K (updT S p (.dct [])) (upd H p (.dK [])) := fun a c e => by
    by_cases ha : a = p
    · subst ha
      rw [updT_same] at e
      cases e
      exact ⟨[], upd_same, RepK.nil⟩
    · rw [updT_ne ha] at e
      exact (g a c e).mono le0 (upd_ne ha)
  refine pairs_u trs g0 (re.mono le0) (h p sp) fun ps vs' S2 H2 le2 g2 hn hl2 rs ⟨c2, kts, ek, h2⟩ => ?_
  obtain ⟨kvs0, q0, r0⟩ := g2 p _ c2
  have r00 : kvs0 = [] := List.length_eq_zero_iff.mp (by rw [r0.1]; rfl)
  subst r00
  obtain ⟨kvs, e1, e2, e3⟩ := keys_u hl2 rs ek
  refine ⟨q0, kvs, e1, by omega, ?_⟩
  have le3 : Le S2 H2 (delT S2 p) (upd H2 p (.dK (mergeK [] kvs))) := fun b u n q => by
    have ne : b ≠ p := fun z => by rw [z, c2] at n; cases n
    exact ⟨by rw [delT_ne ne]; exact n, by rw [upd_ne ne]; exact q⟩
  have g3 : Good X.K (delT S2 p) (upd H2 p (.dK (mergeK [] kvs))) := fun a c e => by
    by_cases ha : a = p
    · subst ha; rw [delT_same] at e; cases e
    · rw [delT_ne ha] at e
      exact (g2 a c e).mono le3 (upd_ne ha)
  have r3 : RepK X.K (delT S2 p) (upd H2 p (.dK (mergeK [] kvs))) (mergeK [] kvs) (mergeT [] kts) := (e3.merge .nil).mono le3
  exact fin (.ref p) _ _ _ (le0.trans (le2.trans le3)) g3 (.dct ⟨delT_same, upd_same⟩ r3.1 (fun i v t a b => (r3.2 i v t a b).1) fun i v t a b => (r3.2 i v t a b).2) h2
/-- d.get(e, f) -/
def uDGet2 (to te tf : UTE) : UTE := fun env S P => to env S fun x S1 => match x with
  | .dct kts => te env S1 fun y S2 => tf env S2 fun z S3 => ∃ k, keyT y = some k ∧ P ((valT kts k).getD z) S3
  | _ => False
theorem ue_dget2 {o e f : Expr} {apos cpos : Pos} {to te tf : UTE} (hu : X.A.units + 1 < cLine) (ho : UE X o to) (he : UE X e te) (hf : UE X f tf) (m : M2 X o "get" apos e f cpos) : UE X (.Call (.Attribute o "get" apos) [e, f] [] cpos) (uDGet2 to te tf) :=
  PE.imp (pe_dget2 hu ho he hf m) fun σ H Q ⟨S, env, P, g, re, h, fin⟩ => lf_bind ⟨g, re⟩ h fun v x S1 H1 le1 m1 rx h1 => by
    cases x with
    | dct kts =>
      obtain ⟨a, kvs, rfl, n, hH, r⟩ := rx.dctE
      refine ⟨a, rfl, .inl ⟨kvs, .inl hH⟩, lf_bind m1 h1 fun w y S2 H2 le2 m2 ry h2 => lf_bind m2 h2 fun u z S3 H3 le3 m3 rz h3 => ?_⟩
      obtain ⟨k, ek, h3⟩ := h3
      have hd := (le2.trans le3) a _ n hH
      have r3 := r.mono (le2.trans le3)
      refine ⟨_, .inl ⟨kvs, k, .inl hd.2, keyT_V (ry.mono le3) ek, rfl⟩, ?_⟩
      cases hv : valT kts k with
      | none =>
        rw [hv] at h3
        rw [(r3.val (k := k)).2 hv]
        exact fin u z S3 H3 (le1.trans (le2.trans le3)) m3.g rz h3
      | some t =>
        rw [hv] at h3
        obtain ⟨v', ev, rv⟩ := (r3.val (k := k)).1 t hv
        rw [ev]
        exact fin v' t S3 H3 (le1.trans (le2.trans le3)) m3.g rv h3
    | _ => exact h1.elim
def oTuple (xs : List T) (S : TH) (P : UX) : Prop := match xs with
  | [.lst ts] => P (.tup ts) S
  | [.tup ts] => P (.tup ts) S
  | _ => False
theorem lTuple {K : PySem.W.Frag} : LCall K (fun xs H Q => ∃ p ys, xs = [.ref p] ∧ ((SqL K H p ys ∧ ∀ l, H l = none → Q (.ref l) (upd H l (.tup ys))) ∨ (SqT K H p ys ∧ Q (.ref p) H))) oTuple := fun S H vs xs P Q g r ho fin => by
  match xs, r, ho with
  | [.lst ts], r, ho =>
    obtain ⟨v, rfl⟩ : ∃ v, vs = [v] := List.length_eq_one_iff.mp r.1
    obtain ⟨a, ws, rfl, f, r'⟩ := r.head.lstE
    exact ⟨a, ws, rfl, .inl ⟨f.sq, fun l hl => fin_tup fin g hl r' ho⟩⟩
  | [.tup ts], r, ho =>
    obtain ⟨v, rfl⟩ : ∃ v, vs = [v] := List.length_eq_one_iff.mp r.1
    obtain ⟨a, ws, rfl, f, r'⟩ := r.head.tupE
    exact ⟨a, ws, rfl, .inr ⟨f.sq, fin _ _ S H .refl g (.tupI f r') ho⟩⟩
def oMax (xs : List T) (S : TH) (P : UX) : Prop := match xs with
  | [.int i, .int j] => P (.int (if j > i then j else i)) S
  | _ => False
theorem lMax {K : PySem.W.Frag} : LCall K (fun xs H Q => ∃ i j, xs = [.int i, .int j] ∧ Q (.int (if j > i then j else i)) H) oMax := fun S H vs xs P Q g r ho fin => by
  match xs, r, ho with
  | [.int i, .int j], r, ho =>
    match vs, r with
    | [v, w], r =>
      have r1 := r.head
      have r2 := r.tail.head
      cases r1
      cases r2
      exact ⟨i, j, rfl, fin _ _ S H .refl g (.int _) ho⟩
    | [], r => exact absurd r.1 (by simp)
    | [_], r => exact absurd r.1 (by simp)
    | _ :: _ :: _ :: _, r => exact absurd r.1 (by simp)
section
variable {a b : Expr} {tr : UTA} {p : Pos}
theorem ue_tupleC (hg : Gl X "tuple") (hm : X.mg "tuple" = none) (ha : UA X [a] tr) (he : starEach [a] X.env = (false, eval a X.env) :: starEach [] X.env := by rfl) : UE X (.Call (.Name "tuple" p) [a] [] pos) (uCall oTuple tr) := ue_callTy call_tuple_of lTuple hg hm boot_tuple ha (he := he)
theorem ue_max (hc : X.calm = true) (hg : Gl X "max") (hm : X.mg "max" = none) (ha : UA X [a, b] tr) (he : starEach [a, b] X.env = (false, eval a X.env) :: starEach [b] X.env := by rfl) (hpl : (backTo pos (starEach [b] X.env)).any (·.1) = false := by rfl) : UE X (.Call (.Name "max" p) [a, b] [] pos) (uCall oMax tr) :=
  ue_callB (call_max2 hc) lMax hg hm boot_max ha (he := he) (hpl := hpl)
end
end
end TL
end
section
set_option Elab.async false
set_option linter.all false
set_option maxRecDepth 100000
set_option maxHeartbeats 4000000
namespace TL
open PySem PySem.Spec PyProof.Rows L2
section
variable {X : Cx} {e : Expr} {pos : Pos} {te : UTE}
/-- t[:0:-1] of a tuple -/
def uRev0 (te : UTE) : UTE := fun env S P => te env S fun x S1 => match x with
  | .tup ts => ∀ ix : List Nat, (ix.filterMap fun (i : Nat) => ts[i]?).length ≤ ts.length → P (.tup (ix.filterMap fun (i : Nat) => ts[i]?)) S1
  | _ => False
theorem ue_rev0 {p0 p1 p2 p3 : Pos} {j j0 : Nat} (he : UE X e te) : UE X (.Subscript e (.Slice none (some (.Constant (.int 0) j0 p0)) (some (.UnaryOp .USub (.Constant (.int 1) j p1) p2)) p3) pos) (uRev0 te) := PE.imp (pe_rev0 he) fun σ H Q ⟨S, env, P, g, re, h, fin⟩ =>
  lf_bind ⟨g, re⟩ h fun v x S1 H1 le1 m1 rx h1 => by
    cases x with
    | tup ts =>
      obtain ⟨a, vs, rfl, f, r⟩ := rx.tupE
      exact ⟨a, vs, rfl, f.sq, fun ix hl p hp => fin_tup (fin.le le1) m1.g hp (r.pick ix) (h1 ix (by have := (r.pick ix).1; have := r.1; omega))⟩
    | _ => exact h1.elim
end
end TL
end
section
set_option Elab.async false
set_option linter.all false
set_option maxRecDepth 100000
set_option maxHeartbeats 4000000
namespace L2
open PySem PySem.Spec PyProof.Rows
section
variable {X : Cx} {pins : List (Addr × Obj)} {σ : St} {H : Hp} {s : Shared}
theorem SameP.rc (I : Inv X pins σ H s) {n : Nat} {a b : Addr} (h : SameP X.K H n (.ref a) (.ref b)) (A : Around) (hu : A.units + n < cLine) : RcP X.prog X.w A s (.ref a) (.ref b) := by
  have q := h.eqP I A (.ref a) (.ref b) hu rfl rfl
  rcases q.2 a b rfl rfl with r | ⟨m, h', hu'⟩
  · exact r
  · cases h' with
    | @lst m _ _ xs ys hx hy hl hs =>
      have h2 : SameP X.K H (m + 1) (.ref a) (.ref b) := .lst hx hy hl fun i x y e1 e2 => .d (hs i x y e1 e2)
      have q2 := h2.eqP I A (.ref a) (.ref b) hu' rfl rfl
      obtain ⟨its, r, p1, z1⟩ := I.list hx
      obtain ⟨jts, r', p2, z2⟩ := I.list hy
      have l1 := r.length
      have l2 := r'.length
      exact RcP.lists p1.isList p2.isList (by simp; omega) (by omega) fun j h1 h2 => by
        have e1 : its[j]? = some its.toArray[j] := by simp at h1; simp [h1]
        have e2 : jts[j]? = some jts.toArray[j] := by simp at h2; simp [h2]
        obtain ⟨x, ex, rx⟩ := vals_at r e1
        obtain ⟨y, ey, ry⟩ := vals_at r' e2
        exact fun E Q q => (hs j x y ex ey).eqAt I A.in1 _ _ (by show A.units + 1 + m < cLine; omega) rx ry X.prog X.w E Q q
    | @tup m _ _ xs ys hx hy hl hs =>
      obtain ⟨its, r, p1, z1⟩ := I.tuple hx
      obtain ⟨jts, r', p2, z2⟩ := I.tuple hy
      have l1 := r.length
      have l2 := r'.length
      have q := SeqAt.RcAt.tuples (A := A) (e := fun _ => true) (show s.heap.IsTuple a its.toArray from p1) (show s.heap.IsTuple b jts.toArray from p2) (by omega) fun j h1 h2 => by
        have e1 : its[j]? = some its.toArray[j] := by simp at h1; simp [h1]
        have e2 : jts[j]? = some jts.toArray[j] := by simp at h2; simp [h2]
        obtain ⟨x, ex, rx⟩ := vals_at r e1
        obtain ⟨y, ey, ry⟩ := vals_at r' e2
        exact (hs j x y ex ey).eqAt I A.in1 _ _ (by show A.units + 1 + m < cLine; omega) rx ry
      rw [show (((List.range (min its.toArray.size jts.toArray.size)).all fun _ => true) && its.toArray.size == jts.toArray.size) = true by simp; omega] at q
      exact fun E Q k => q X.prog X.w E Q k
end
theorem op_eqS {X : Cx} (hu : X.A.units + 64 < cLine) : OpR X (compareOp .Eq) (fun x y H Q => ∃ n a b, n ≤ 60 ∧ x = .ref a ∧ y = .ref b ∧ SameP X.K H n x y ∧ Q (.bl true) H) := by
  intro pins s σ H x y v u Q I rx ry h
  obtain ⟨n, a, b, hn, rfl, rfl, hs, q⟩ := h
  cases rx
  cases ry
  exact hs.rc I X.A (by omega) X.xe _ ⟨.bl true, H, I, rfl, q⟩
end L2
namespace TL
open PySem PySem.Spec PyProof.Rows L2
/-- data without dicts -/
inductive DatD : Nat → T → Prop where
  | non {n : Nat} : DatD n .non
  | bl {n : Nat} (b : Bool) : DatD n (.bl b)
  | int {n : Nat} (i : Int) : DatD n (.int i)
  | str {n : Nat} (x : Str) : DatD n (.str x)
  | lst {n : Nat} {ts : List T} : (∀ t ∈ ts, DatD n t) → DatD (n + 1) (.lst ts)
  | tup {n : Nat} {ts : List T} : (∀ t ∈ ts, DatD n t) → DatD (n + 1) (.tup ts)
inductive DatP : Nat → T → Prop where
  | d {n : Nat} {t : T} : DatD n t → DatP n t
  | lst {n : Nat} {ts : List T} : (∀ t ∈ ts, DatP n t) → DatP (n + 1) (.lst ts)
  | dct {n : Nat} {kts : List (Key × T)} : (∀ t ∈ kts, DatD n t.2) → DatP (n + 1) (.dct kts)
section
variable {K : PySem.W.Frag} {S : TH} {H : Hp}
theorem DatD.same {n : Nat} {t : T} (h : DatD n t) : ∀ {v w : V}, Rep K S H v t → Rep K S H w t → SameD K H n v w := by
  induction h with
  | non => intro v w r1 r2; cases r1; cases r2; exact .non
  | bl b => intro v w r1 r2; cases r1; cases r2; exact .bl b
  | int i => intro v w r1 r2; cases r1; cases r2; exact .int i
  | str x => intro v w r1 r2; cases r1; cases r2; exact .str x
  | @lst n ts _ ih =>
    intro v w r1 r2
    obtain ⟨a, vs, rfl, f, r⟩ := r1.lstE
    obtain ⟨b, ws, rfl, f', r'⟩ := r2.lstE
    refine .lst f.sq f'.sq (by rw [r.1, r'.1]) fun i x y e1 e2 => ?_
    obtain ⟨t, et, rt⟩ := r.get' e1
    exact ih t (List.mem_of_getElem? et) rt (r'.2 i y t e2 et)
  | @tup n ts _ ih =>
    intro v w r1 r2
    obtain ⟨a, vs, rfl, f, r⟩ := r1.tupE
    obtain ⟨b, ws, rfl, f', r'⟩ := r2.tupE
    refine .tup f.sq f'.sq (by rw [r.1, r'.1]) fun i x y e1 e2 => ?_
    obtain ⟨t, et, rt⟩ := r.get' e1
    exact ih t (List.mem_of_getElem? et) rt (r'.2 i y t e2 et)
theorem DatP.same {n : Nat} {t : T} (h : DatP n t) : ∀ {v w : V}, Rep K S H v t → Rep K S H w t → SameP K H n v w := by
  induction h with
  | d h => intro v w r1 r2; exact .d (h.same r1 r2)
  | @lst n ts _ ih =>
    intro v w r1 r2
    obtain ⟨a, vs, rfl, f, r⟩ := r1.lstE
    obtain ⟨b, ws, rfl, f', r'⟩ := r2.lstE
    refine .lst f.sq f'.sq (by rw [r.1, r'.1]) fun i x y e1 e2 => ?_
    obtain ⟨t, et, rt⟩ := r.get' e1
    exact ih t (List.mem_of_getElem? et) rt (r'.2 i y t e2 et)
  | @dct n kts hd =>
    intro v w r1 r2
    obtain ⟨a, kvs, rfl, _, hH, r⟩ := r1.dctE
    obtain ⟨b, kws, rfl, _, hH', r'⟩ := r2.dctE
    refine .dct (.inl hH) (.inl hH') (by rw [r.1, r'.1]) fun i x y e1 e2 => ?_
    have hi : i < kts.length := by rw [← r.1]; exact (List.getElem?_eq_some_iff.mp e1).1
    have et : kts[i]? = some kts[i] := List.getElem?_eq_getElem hi
    obtain ⟨k1, q1⟩ := r.2 i x _ e1 et
    obtain ⟨k2, q2⟩ := r'.2 i y _ e2 et
    exact ⟨k1.trans k2.symm, (hd _ (List.getElem_mem hi)).same q1 q2⟩
end
/-- == of the same data -/
def oEqS : T → T → TH → UX → Prop := fun x y S P => match x with
  | .lst _ => x = y ∧ (∃ n, n ≤ 60 ∧ DatP n x) ∧ P (.bl true) S
  | .tup _ => x = y ∧ (∃ n, n ≤ 60 ∧ DatP n x) ∧ P (.bl true) S
  | .dct _ => x = y ∧ (∃ n, n ≤ 60 ∧ DatP n x) ∧ P (.bl true) S
  | _ => False
theorem lEqS {K : PySem.W.Frag} : LOp K (fun x y H Q => ∃ n a b, n ≤ 60 ∧ x = .ref a ∧ y = .ref b ∧ SameP K H n x y ∧ Q (.bl true) H) oEqS := fun S H v w x y P Q g rx ry ho fin => by
  cases x with
  | lst ts =>
    obtain ⟨rfl, ⟨n, hn, hd⟩, h⟩ := ho
    have sm := hd.same rx ry
    obtain ⟨a, _, rfl, _, _⟩ := rx.lstE
    obtain ⟨b, _, rfl, _, _⟩ := ry.lstE
    exact ⟨n, a, b, hn, rfl, rfl, sm, fin _ _ S H .refl g (.bl _) h⟩
  | tup ts =>
    obtain ⟨rfl, ⟨n, hn, hd⟩, h⟩ := ho
    have sm := hd.same rx ry
    obtain ⟨a, _, rfl, _, _⟩ := rx.tupE
    obtain ⟨b, _, rfl, _, _⟩ := ry.tupE
    exact ⟨n, a, b, hn, rfl, rfl, sm, fin _ _ S H .refl g (.bl _) h⟩
  | dct kts =>
    obtain ⟨rfl, ⟨n, hn, hd⟩, h⟩ := ho
    have sm := hd.same rx ry
    obtain ⟨a, _, rfl, _, _⟩ := rx.dctE
    obtain ⟨b, _, rfl, _, _⟩ := ry.dctE
    exact ⟨n, a, b, hn, rfl, rfl, sm, fin _ _ S H .refl g (.bl _) h⟩
  | _ => exact ho.elim
/-- dict(..) -/
def pairsT : List T → Option (List (Key × T))
  | [] => some []
  | .tup [x, y] :: r => match keyT x, pairsT r with
    | some k, some kts => some ((k, y) :: kts)
    | _, _ => none
  | _ => none
def oDict (xs : List T) (S : TH) (P : UX) : Prop := match xs with
  | [.lst ts] => ∃ kts, pairsT ts = some kts ∧ P (.dct (mergeT [] kts)) S
  | [.dct kts] => P (.dct kts) S
  | _ => False
def keyTree : Key → T
  | .inl i => .int i
  | .inr x => .str x
def oListK (xs : List T) (S : TH) (P : UX) : Prop := match xs with
  | [.dct kts] => P (.lst (kts.map fun kt => keyTree kt.1)) S
  | _ => False
section
variable {K : PySem.W.Frag} {S : TH} {H : Hp}
theorem prs_u : ∀ {vs : List V} {ts : List T} {kts : List (Key × T)}, Reps K S H vs ts → pairsT ts = some kts → ∃ kvs, PrsV K H vs kvs ∧ RepK K S H kvs kts
  | [], [], kts, _, e => by cases e; exact ⟨[], .nil, .nil⟩
  | [], _ :: _, _, h, _ => by have := h.1; simp at this
  | _ :: _, [], _, h, _ => by have := h.1; simp at this
  | v :: vs, t :: ts, kts, h, e => by
    unfold pairsT at e
    split at e
    · rename_i he; cases he
    · rename_i x y r he
      cases he
      cases ek : keyT x with
      | none => rw [ek] at e; cases e
      | some k =>
        cases er : pairsT ts with
        | none => rw [ek, er] at e; cases e
        | some kts' =>
          rw [ek, er] at e
          cases e
          obtain ⟨kvs, h1, h2⟩ := prs_u h.tail er
          obtain ⟨a, ws, rfl, f, r'⟩ := h.head.tupE
          match ws, r' with
          | [w1, w2], r' =>
            have rx := r'.head
            have ry := r'.tail.head
            have ew := keyT_V rx ek
            subst ew
            exact ⟨(k, w2) :: kvs, .cons f.sq h1, .cons rfl ry h2⟩
          | [], r' => exact absurd r'.1 (by simp)
          | [_], r' => exact absurd r'.1 (by simp)
          | _ :: _ :: _ :: _, r' => exact absurd r'.1 (by simp)
    · cases e
theorem fin_dct {P : UX} {Q : VK} {p : Addr} {kvs : List (Key × V)} {kts : List (Key × T)} (fin : Fin K S H P Q) (g : Good K S H) (hp : H p = none) (r : RepK K S H kvs kts) (h : P (.dct kts) S) : Q (.ref p) (upd H p (.dK kvs)) := by
  have le : Le S H S (upd H p (.dK kvs)) := Le.new g hp
  have r3 := r.mono le
  exact fin _ _ _ _ le (g.new hp) (.dct ⟨g.free hp, upd_same⟩ r3.1 (fun i v t a b => (r3.2 i v t a b).1) fun i v t a b => (r3.2 i v t a b).2) h
theorem lDict : LCall K (fun xs H Q => (∃ a ps kvs, xs = [.ref a] ∧ SqL K H a ps ∧ PrsV K H ps kvs ∧ ∀ p, H p = none → Q (.ref p) (upd H p (.dK (mergeK [] kvs)))) ∨
    ∃ a kvs, xs = [.ref a] ∧ Rd H a (.dK kvs) ∧ ∀ p, H p = none → Q (.ref p) (upd H p (.dK kvs))) oDict := fun S H vs xs P Q g r ho fin => by
  match xs, r, ho with
  | [.lst ts], r, ho =>
    obtain ⟨v, rfl⟩ : ∃ v, vs = [v] := List.length_eq_one_iff.mp r.1
    obtain ⟨a, ws, rfl, f, r'⟩ := r.head.lstE
    obtain ⟨kts, ek, h⟩ := ho
    obtain ⟨kvs, h1, h2⟩ := prs_u r' ek
    exact .inl ⟨a, ws, kvs, rfl, f.sq, h1, fun p hp => fin_dct fin g hp (h2.merge .nil) h⟩
  | [.dct kts], r, ho =>
    obtain ⟨v, rfl⟩ : ∃ v, vs = [v] := List.length_eq_one_iff.mp r.1
    obtain ⟨a, kvs, rfl, _, hH, r'⟩ := r.head.dctE
    exact .inr ⟨a, kvs, rfl, .inl hH, fun p hp => fin_dct fin g hp r' ho⟩
theorem keys_rep : ∀ {kvs : List (Key × V)} {kts : List (Key × T)}, RepK K S H kvs kts → Reps K S H (kvs.map fun kv => kV kv.1) (kts.map fun kt => keyTree kt.1)
  | [], [], _ => .nil
  | [], _ :: _, h => by have := h.1; simp at this
  | _ :: _, [], h => by have := h.1; simp at this
  | p :: kvs, q :: kts, h => by
    rw [List.map_cons, List.map_cons]
    refine .cons ?_ (keys_rep h.tail)
    rw [h.head.1]
    cases q.1 with
    | inl i => exact .int i
    | inr x => exact .str x
theorem lListK : LCall K (fun xs H Q => ∃ a kvs, xs = [.ref a] ∧ Rd H a (.dK kvs) ∧ ∀ p, H p = none → Q (.ref p) (upd H p (.lst (kvs.map fun kv => kV kv.1)))) oListK := fun S H vs xs P Q g r ho fin => by
  match xs, r, ho with
  | [.dct kts], r, ho =>
    obtain ⟨v, rfl⟩ : ∃ v, vs = [v] := List.length_eq_one_iff.mp r.1
    obtain ⟨a, kvs, rfl, _, hH, r'⟩ := r.head.dctE
    exact ⟨a, kvs, rfl, .inl hH, fun p hp => fin_lst fin g hp (keys_rep r') ho⟩
end
section
variable {X : Cx} {a b : Expr} {ta tb : UTE} {tr : UTA} {p pos : Pos}
theorem ue_eqS (hu : X.A.units + 64 < cLine) (ha : UE X a ta) (hb : UE X b tb) : UE X (.Compare a [.Eq] [b] pos) (uBin oEqS ta tb) := ue_cmp (op_eqS hu) lEqS ha hb (nomark _)
theorem ut_eqS (hu : X.A.units + 64 < cLine) (ha : UE X a ta) (hb : UE X b tb) : UT X (.Compare a [.Eq] [b] pos) (uTest (uBin oEqS ta tb)) := ut_cmp (op_eqS hu) lEqS ha hb (nomark _)
theorem ue_dictC (hc : X.calm = true) (hg : Gl X "dict") (hm : X.mg "dict" = none) (ha : UA X [a] tr) (he : starEach [a] X.env = (false, eval a X.env) :: starEach [] X.env := by rfl) : UE X (.Call (.Name "dict" p) [a] [] pos) (uCall oDict tr) := ue_callTy (call_dict_of hc) lDict hg hm boot_dict ha (he := he)
theorem ue_listK (hc : X.calm = true) (hg : Gl X "list") (hm : X.mg "list" = none) (ha : UA X [a] tr) (he : starEach [a] X.env = (false, eval a X.env) :: starEach [] X.env := by rfl) : UE X (.Call (.Name "list" p) [a] [] pos) (uCall oListK tr) := ue_callTy (call_list_keys hc) lListK hg hm boot_list ha (he := he)
end
end TL
end
section
set_option Elab.async false
set_option linter.all false
set_option maxRecDepth 100000
set_option maxHeartbeats 4000000
namespace TL
open PySem PySem.Spec PyProof.Rows L2
section
variable {X : Cx} {elt iter : Expr} {ti : UTA} {tc : UTT} {te : UTE} {pos spos : Pos} {scope : Scope} {ifs : List Expr} {z : Str} {pz : Pos}
/-- name = [.. for x in ..] -/
theorem us_setComp1 (k : Nat) (hNd : X.N.Nodup) (i : Nat) (N : List Str) (pick : List (Option Nat)) {x : Str} {px : Pos} (hc : X.calm = true) (hi : UI X (.Name x px) iter ti) (ht : ∀ C s H fp pins, PTs (cxComp X N scope C s H fp pins) ifs (lfT X.K tc)) (he : ∀ C s H fp pins, UE (cxComp X N scope C s H fp pins) elt te)
    (hs : scopeOk X.env.scope.names scope.names = true := by rfl) (hp : pickOk X.N scope.names N pick = true := by rfl) (hk : scope.kind = .function := by rfl) (hN : N.Nodup := by decide +kernel)
    (hiN : N[i]? = some x := by rfl) (hpi : pick[i]? = some none := by rfl) (hloc : scope.names.lookup x = some .local := by rfl) (hfs : ∀ x, foldedSetIterable iter X.env x = pure x := by intro _; rfl)
    (hz : X.N[k]? = some z := by rfl) (hlz : Loc X.env.scope z := by first | exact Or.inl rfl | exact Or.inr rfl) (hsw : swapsWith (.ListComp elt [⟨.Name x px, iter, ifs, 0⟩] scope pos) (some (.Name z pz)) spos.line X.env = pure true := by rfl)
    (hf : X.fn z = true ∨ X.env.scope.names.lookup z = some .local := by first | exact .inl rfl | exact .inr rfl) :
    US X (.Assign [.Name z pz] (.ListComp elt [⟨.Name x px, iter, ifs, 0⟩] scope pos) spos) (uSet k (uComp pick ti (gNm i) tc te)) :=
  PS.imp (ps_setComp (i := k) hc hs hp hk hi (fun C s H fp pins => pg_name (i := i) hN hiN (.inl (lookup_relabel_local hloc)) (.inr (lookup_relabel_local hloc))) ht (te := lf X.K te) he hNd hz hlz hsw hf hfs) fun D σ H ⟨S, env, E, g, re, h, fin⟩ =>
    comp_read (fun y tt S1 H1 env k R gd re rt hg hR => ⟨keep_set hpi, hR _ _ (re.set rt) hg⟩) (lf_bind ⟨g, re⟩ h fun v y S1 H1 le1 m1 ry h1 => fin.nx _ _ S1 H1 le1 m1.g (m1.re.set ry) h1)
end
theorem comp_inv {pick : List (Option Nat)} {ti : UTA} {env : Ev} {S S1 : TH} {gg : UTG} {tc : UTT} {te : UTE} {P : UX} (ts : List T) (Iv : Nat → List T → TH → Prop) (hti : ∀ k : List T → TH → Prop, k ts S1 → ti env S k) (hl : ts.length ≤ sizeLine) (h0 : Iv 0 [] S1)
    (turn : ∀ k x acc S, ts[k]? = some x → Iv k acc S → gg x (evOf pick env) S fun env' S' => tc env' S' fun b S2 => (b = true → te env' S2 fun r S3 => Iv (k + 1) (acc ++ [r]) S3) ∧ (b = false → Iv (k + 1) acc S2))
    (done : ∀ acc S, Iv ts.length acc S → P (.lst acc) S) : uComp pick ti gg tc te env S P := hti _ ⟨hl, Iv, h0, turn, done⟩
theorem seq_join {t u : UTS} {E : UEnds} {env : Ev} {S : TH} (R : Ev → TH → Prop) (h : ∀ k : Ev → TH → Prop, (∀ env' S', R env' S' → k env' S') → t { E with nx := k } env S) (rest : ∀ env' S', R env' S' → u E env' S') : uSeq t u E env S := by
  unfold uSeq
  exact h _ rest
/-- the first test says enough; it goes on -/
theorem or_first {t u : UTT} {env : Ev} {S : TH} {P : Bool → TH → Prop} (ht : ∀ P : Bool → TH → Prop, P true S → t env S P) (h : P true S) : uOr t u env S P := ht _ ⟨fun _ => h, fun e => (by cases e)⟩
theorem or_skip {t u : UTT} {env : Ev} {S : TH} {P : Bool → TH → Prop} (ht : ∀ P : Bool → TH → Prop, P false S → t env S P) (h : u env S P) : uOr t u env S P := ht _ ⟨fun e => (by cases e), fun _ => h⟩
theorem and_first {t u : UTT} {env : Ev} {S : TH} {P : Bool → TH → Prop} (ht : ∀ P : Bool → TH → Prop, P false S → t env S P) (h : P false S) : uAnd t u env S P := ht _ ⟨fun e => (by cases e), fun _ => h⟩
theorem and_skip {t u : UTT} {env : Ev} {S : TH} {P : Bool → TH → Prop} (ht : ∀ P : Bool → TH → Prop, P true S → t env S P) (h : u env S P) : uAnd t u env S P := ht _ ⟨fun _ => h, fun e => (by cases e)⟩
/-! ### lists -/
theorem ix_all {L : List T} {i : Int} {Q : T → Prop} {P : UX} {S : TH} (h0 : 0 ≤ i) (h1 : i < L.length) (all : ∀ t ∈ L, Q t) (k : ∀ t, Q t → P t S) : ∃ t, atI L i = some t ∧ P t S := by
  obtain ⟨t, ht, et⟩ := at_mem h0 h1
  exact ⟨t, et, k t (all t ht)⟩
theorem al_nil {Q : T → Prop} : ∀ t ∈ ([] : List T), Q t := fun _ h => by cases h
theorem al_cons {Q : T → Prop} {a : T} {r : List T} (h : Q a) (hr : ∀ t ∈ r, Q t) : ∀ t ∈ a :: r, Q t := fun t ht => by
  rcases List.mem_cons.mp ht with rfl | q
  · exact h
  · exact hr t q
theorem al_app {Q : T → Prop} {a b : List T} (h : ∀ t ∈ a, Q t) (hr : ∀ t ∈ b, Q t) : ∀ t ∈ a ++ b, Q t := fun t ht => (List.mem_append.mp ht).elim (h t) (hr t)
theorem cut_map {α β : Type} (f : α → β) (zs : List α) (lo hi : Option Int) : cutA (zs.map f) lo hi = (cutA zs lo hi).map f := by
  unfold cutA
  rw [List.length_map, List.map_take, List.map_drop]
theorem cutN_len {α : Type} (a : List α) (lo hi : Option Int) : (cutA a lo hi).length ≤ a.length := by
  unfold cutA
  rw [List.length_take, List.length_drop]
  omega
theorem cutN_mem {α : Type} {a : List α} {lo hi : Option Int} {t : α} (ht : t ∈ cutA a lo hi) : t ∈ a := List.mem_of_mem_drop (List.mem_of_mem_take ht)
theorem cut_tail {α : Type} (a : α) (r : List α) : cutA (a :: r) (some 1) none = r := by
  simp [cutA, HT.sIx]
theorem ints3 {a b c : Int} {t : T} (h : t ∈ [T.int a, T.int b, T.int c]) : ∃ i, t = T.int i := (al_cons ⟨_, rfl⟩ (al_cons ⟨_, rfl⟩ (al_cons ⟨_, rfl⟩ al_nil)) : ∀ t ∈ [T.int a, T.int b, T.int c], ∃ i, t = T.int i) t h
/-! ### dicts of numbers by names -/
def NumD (kts : List (Key × T)) : Prop := ∀ p ∈ kts, ∃ (x : Str) (i : Int), p = (Sum.inr x, T.int i)
def keysS (kts : List (Key × T)) : List Str := kts.filterMap fun p => match p.1 with
  | .inr x => some x
  | _ => none
theorem NumD.keys : ∀ {kts : List (Key × T)}, NumD kts → (kts.map fun kt => keyTree kt.1) = (keysS kts).map T.str
  | [], _ => rfl
  | p :: r, h => by
    obtain ⟨x, i, rfl⟩ := h p List.mem_cons_self
    have ih := NumD.keys (kts := r) fun q hq => h q (List.mem_cons_of_mem _ hq)
    show keyTree (Sum.inr x) :: (r.map fun kt => keyTree kt.1) = T.str x :: (keysS r).map T.str
    rw [ih]
    rfl
theorem mem_keysS {kts : List (Key × T)} {x : Str} : x ∈ keysS kts ↔ ∃ p ∈ kts, p.1 = Sum.inr x := by
  unfold keysS
  rw [List.mem_filterMap]
  constructor
  · rintro ⟨p, hp, e⟩
    refine ⟨p, hp, ?_⟩
    cases q : p.1 with
    | inl i => rw [q] at e; cases e
    | inr y => rw [q] at e; cases e; rfl
  · rintro ⟨p, hp, e⟩
    exact ⟨p, hp, by rw [e]⟩
theorem keysS_len (kts : List (Key × T)) : (keysS kts).length ≤ kts.length := List.length_filterMap_le _ _
theorem NumD.val {kts : List (Key × T)} (h : NumD kts) {x : Str} (hx : x ∈ keysS kts) : ∃ i, valT kts (.inr x) = some (.int i) := by
  obtain ⟨p, hp, e⟩ := mem_keysS.mp hx
  unfold valT
  cases q : kts.find? fun kv => decide (kv.1 = Sum.inr x) with
  | none =>
    have := List.find?_eq_none.mp q p hp
    simp [e] at this
  | some r =>
    obtain ⟨y, i, rfl⟩ := h r (List.mem_of_find?_eq_some q)
    exact ⟨i, rfl⟩
theorem putT_mem {kts : List (Key × T)} {k : Key} {t : T} {p : Key × T} (h : p ∈ putT kts k t) : p ∈ kts ∨ p = (k, t) := by
  unfold putT at h
  split at h
  · obtain ⟨q, hq, rfl⟩ := List.mem_map.mp h
    split
    · rename_i e; exact .inr (by rw [e])
    · exact .inl hq
  · rcases List.mem_append.mp h with q | q
    · exact .inl q
    · exact .inr (List.mem_singleton.mp q)
theorem putT_len {kts : List (Key × T)} {k : Key} {t : T} : (putT kts k t).length ≤ kts.length + 1 := by
  unfold putT
  split
  · rw [List.length_map]; omega
  · rw [List.length_append]; simp
theorem mergeT_mem : ∀ {more kts : List (Key × T)} {p : Key × T}, p ∈ mergeT kts more → p ∈ kts ∨ p ∈ more
  | [], kts, p, h => .inl h
  | q :: r, kts, p, h => by
    have h : p ∈ mergeT (putT kts q.1 q.2) r := h
    rcases mergeT_mem h with z | z
    · rcases putT_mem z with z | z
      · exact .inl z
      · exact .inr (z ▸ List.mem_cons_self)
    · exact .inr (List.mem_cons_of_mem _ z)
theorem mergeT_len : ∀ {more kts : List (Key × T)}, (mergeT kts more).length ≤ kts.length + more.length
  | [], kts => by show kts.length ≤ _; simp
  | q :: r, kts => by
    have h1 : (mergeT (putT kts q.1 q.2) r).length ≤ (putT kts q.1 q.2).length + r.length := mergeT_len
    have h2 := putT_len (kts := kts) (k := q.1) (t := q.2)
    show (mergeT (putT kts q.1 q.2) r).length ≤ _
    rw [List.length_cons]
    omega
end TL
end
section
set_option Elab.async false
set_option linter.all false
set_option maxRecDepth 100000
set_option maxHeartbeats 4000000
namespace TL
open PySem PySem.Spec PyProof.Rows L2
/-! ### ==, != of pairs of texts, or of None and None -/
def oEqP (neg : Bool) : T → T → TH → UX → Prop := fun x y S P => match x, y with
  | .non, .non => P (.bl (Bool.xor neg true)) S
  | .tup [.str p, .str q], .tup [.str r, .str t] => P (.bl (Bool.xor neg (p == r && q == t))) S
  | _, _ => False
section
variable {K : PySem.W.Frag} {S S' : TH} {H H' : Hp}
theorem pair_strs {v : V} {p q : Str} (h : Rep K S H v (.tup [.str p, .str q])) : ∃ a, v = .ref a ∧ SqT K H a [.str p, .str q] := by
  obtain ⟨a, vs, rfl, f, r⟩ := h.tupE
  match vs, f, r with
  | [v1, v2], f, r =>
    have h1 := r.head
    have h2 := r.tail.head
    cases h1
    cases h2
    exact ⟨a, rfl, f.sq⟩
  | [], _, r => exact absurd r.1 (by simp)
  | [_], _, r => exact absurd r.1 (by simp)
  | _ :: _ :: _ :: _, _, r => exact absurd r.1 (by simp)
theorem lEqP {neg : Bool} : LOp K (rPr K neg) (oEqP neg) := fun S H v w x y P Q g rx ry ho fin => by
  unfold oEqP at ho
  split at ho
  · cases rx
    cases ry
    exact .inl ⟨rfl, rfl, fin _ _ S H .refl g (.bl _) ho⟩
  · obtain ⟨a, rfl, f⟩ := pair_strs rx
    obtain ⟨b, rfl, f'⟩ := pair_strs ry
    exact .inr ⟨a, b, _, _, _, _, rfl, rfl, f, f', fin _ _ S H .refl g (.bl _) ho⟩
  · exact ho.elim
/-! ### is not None -/
def oNotN : T → T → TH → UX → Prop := fun x y S P => match y with
  | .non => (match x with | .non => P (.bl false) S | _ => P (.bl true) S)
  | _ => False
theorem lNotN : LOp K (fun x y H Q => y = .non ∧ Q (.bl (!decide (x = .non))) H) oNotN := fun S H v w x y P Q g rx ry ho fin => by
  cases y with
  | non =>
    cases ry
    refine ⟨rfl, ?_⟩
    cases x with
    | non => cases rx; exact fin _ _ S H .refl g (.bl _) ho
    | _ =>
      have : v ≠ .non := fun z => by subst z; cases rx
      rw [decide_eq_false this]
      exact fin _ _ S H .refl g (.bl _) ho
  | _ => exact ho.elim
/-! ### y in d -/
def oDIn (neg : Bool) : T → T → TH → UX → Prop := fun y x S P => match x with
  | .dct kts => ∃ k, keyT y = some k ∧ P (.bl (Bool.xor neg (valT kts k).isSome)) S
  | .ref p => ∃ kts, S p = some (.dct kts) ∧ ∃ k, keyT y = some k ∧ P (.bl (Bool.xor neg (valT kts k).isSome)) S
  | _ => False
theorem din_go {kts : List (Key × T)} {kvs : List (Key × V)} {a : Addr} {y : T} {w : V} {neg : Bool} {P : UX} {Q : VK} (hH : H a = some (.dK kvs)) (r : RepK K S H kvs kts) (ry : Rep K S H w y) (g : Good K S H) (h : ∃ k, keyT y = some k ∧ P (.bl (Bool.xor neg (valT kts k).isSome)) S) (fin : Fin K S H P Q) :
    ∃ o : Option V, DGet H a w o ∧ Q (.bl (Bool.xor neg o.isSome)) H := by
  obtain ⟨k, e, h⟩ := h
  rw [keyT_V ry e]
  refine ⟨valV kvs k, DGet.k hH, ?_⟩
  have rv := r.val (k := k)
  cases q : valT kts k with
  | none =>
    rw [q] at h
    rw [rv.2 q]
    exact fin _ _ S H .refl g (.bl _) h
  | some t =>
    rw [q] at h
    obtain ⟨u, eu, _⟩ := rv.1 t q
    rw [eu]
    exact fin _ _ S H .refl g (.bl _) h
theorem lDIn : LOp K (fun y x H Q => ∃ a o, x = .ref a ∧ DGet H a y o ∧ Q (.bl o.isSome) H) (oDIn false) := fun S H v w y x P Q g ry rx ho fin => by
  cases x with
  | dct kts =>
    obtain ⟨a, kvs, rfl, _, hH, r⟩ := rx.dctE
    obtain ⟨o, h1, h2⟩ := din_go hH r ry g ho fin
    exact ⟨a, o, rfl, h1, by rw [Bool.false_xor] at h2; exact h2⟩
  | ref p =>
    cases rx
    obtain ⟨kts, e, ho⟩ := ho
    obtain ⟨kvs, hH, r⟩ := g p _ e
    obtain ⟨o, h1, h2⟩ := din_go hH r ry g ho fin
    exact ⟨p, o, rfl, h1, by rw [Bool.false_xor] at h2; exact h2⟩
  | _ => exact ho.elim
theorem lDNotIn : LOp K (fun y x H Q => ∃ a o, x = .ref a ∧ DGet H a y o ∧ Q (.bl (!o.isSome)) H) (oDIn true) := fun S H v w y x P Q g ry rx ho fin => by
  cases x with
  | dct kts =>
    obtain ⟨a, kvs, rfl, _, hH, r⟩ := rx.dctE
    obtain ⟨o, h1, h2⟩ := din_go hH r ry g ho fin
    exact ⟨a, o, rfl, h1, by rw [Bool.true_xor] at h2; exact h2⟩
  | ref p =>
    cases rx
    obtain ⟨kts, e, ho⟩ := ho
    obtain ⟨kvs, hH, r⟩ := g p _ e
    obtain ⟨o, h1, h2⟩ := din_go hH r ry g ho fin
    exact ⟨p, o, rfl, h1, by rw [Bool.true_xor] at h2; exact h2⟩
  | _ => exact ho.elim
/-! ### dict cells -/
theorem Good.newD {p : Addr} {kvs : List (Key × V)} {kts : List (Key × T)} (g : Good K S H) (hp : H p = none) (r : RepK K S H kvs kts) : Good K (updT S p (.dct kts)) (upd H p (.dK kvs)) := fun a c e => by
  have le : Le S H (updT S p (.dct kts)) (upd H p (.dK kvs)) := Le.newC hp
  by_cases ha : a = p
  · subst ha
    rw [updT_same] at e
    cases e
    exact ⟨kvs, upd_same, r.mono le⟩
  · rw [updT_ne ha] at e
    exact (g a c e).mono le (upd_ne ha)
theorem Good.writeD {p : Addr} {kvs : List (Key × V)} {kts : List (Key × T)} {c : Cell} (g : Good K S H) (hp : S p = some c) (r : RepK K S H kvs kts) : Good K (updT S p (.dct kts)) (upd H p (.dK kvs)) := fun a c' e => by
  have le : Le S H (updT S p (.dct kts)) (upd H p (.dK kvs)) := Le.write hp
  by_cases ha : a = p
  · subst ha
    rw [updT_same] at e
    cases e
    exact ⟨kvs, upd_same, r.mono le⟩
  · rw [updT_ne ha] at e
    exact (g a c' e).mono le (upd_ne ha)
/-- dict(d): a new one that will change -/
def oDictN (xs : List T) (S : TH) (P : UX) : Prop := match xs with
  | [.dct kts] => ∀ p, S p = none → P (.ref p) (updT S p (.dct kts))
  | [.ref q] => ∃ kts, S q = some (.dct kts) ∧ ∀ p, S p = none → P (.ref p) (updT S p (.dct kts))
  | _ => False
theorem lDictN : LCall K (fun xs H Q => (∃ a ps kvs, xs = [.ref a] ∧ SqL K H a ps ∧ PrsV K H ps kvs ∧ ∀ p, H p = none → Q (.ref p) (upd H p (.dK (mergeK [] kvs)))) ∨
    ∃ a kvs, xs = [.ref a] ∧ Rd H a (.dK kvs) ∧ ∀ p, H p = none → Q (.ref p) (upd H p (.dK kvs))) oDictN := fun S H vs xs P Q g r ho fin => by
  match xs, r, ho with
  | [.dct kts], r, ho =>
    obtain ⟨v, rfl⟩ : ∃ v, vs = [v] := List.length_eq_one_iff.mp r.1
    obtain ⟨a, kvs, rfl, _, hH, r'⟩ := r.head.dctE
    exact .inr ⟨a, kvs, rfl, .inl hH, fun p hp => fin _ _ _ _ (Le.newC hp) (g.newD hp r') (.ref p) (ho p (g.free hp))⟩
  | [.ref q], r, ho =>
    obtain ⟨v, rfl⟩ : ∃ v, vs = [v] := List.length_eq_one_iff.mp r.1
    have rq := r.head
    cases rq
    obtain ⟨kts, e, ho⟩ := ho
    obtain ⟨kvs, hH, r'⟩ := g q _ e
    exact .inr ⟨q, kvs, rfl, .inl hH, fun p hp => fin _ _ _ _ (Le.newC hp) (g.newD hp r') (.ref p) (ho p (g.free hp))⟩
/-! ### a cell within a tree that will not change again -/
def cellT : Cell → T
  | .lst ts => .lst ts
  | .dct kts => .dct kts
inductive Ml (p : Addr) (c : T) : T → T → Prop where
  | here : Ml p c (.ref p) c
  | keep (t : T) : Ml p c t t
  | lst {ts us : List T} : ts.length = us.length → (∀ (i : Nat) t u, ts[i]? = some t → us[i]? = some u → Ml p c t u) → Ml p c (.lst ts) (.lst us)
  | dct {ts us : List (Key × T)} : ts.length = us.length → (∀ (i : Nat) t u, ts[i]? = some t → us[i]? = some u → t.1 = u.1) → (∀ (i : Nat) t u, ts[i]? = some t → us[i]? = some u → Ml p c t.2 u.2) → Ml p c (.dct ts) (.dct us)
theorem Ml.rep {p : Addr} {c : Cell} (g : Good K S H) (e : S p = some c) {x x' : T} (m : Ml p (cellT c) x x') : ∀ {v : V}, Rep K S H v x → Rep K (delT S p) H v x' := by
  induction m with
  | here =>
    intro v r
    cases r
    have q := g p c e
    cases c with
    | lst ts => obtain ⟨vs, q, r⟩ := q; exact .lstI ⟨delT_same, q⟩ (r.mono Le.del)
    | dct kts =>
      obtain ⟨kvs, q, r⟩ := q
      have r3 := r.mono (Le.del (S := S) (H := H) (p := p))
      exact .dct ⟨delT_same, q⟩ r3.1 (fun i v t a b => (r3.2 i v t a b).1) fun i v t a b => (r3.2 i v t a b).2
  | keep t => intro v r; exact r.mono Le.del
  | @lst ts us hl _ ih =>
    intro v r
    obtain ⟨a, vs, rfl, f, r⟩ := r.lstE
    refine .lst (f.mono Le.del) (r.1.trans hl) fun i v u e1 e2 => ?_
    obtain ⟨t, et, rt⟩ := r.get' e1
    exact ih i t u et e2 rt
  | @dct ts us hl hk _ ih =>
    intro v r
    obtain ⟨a, kvs, rfl, h1, h2, r⟩ := r.dctE
    have q := Le.del (S := S) (H := H) (p := p) _ _ h1 h2
    have get : ∀ (i : Nat) v, kvs[i]? = some v → ∃ t, ts[i]? = some t ∧ v.1 = t.1 ∧ Rep K S H v.2 t.2 := fun i v e1 => by
      have hi : i < ts.length := by rw [← r.1]; exact (List.getElem?_eq_some_iff.mp e1).1
      exact ⟨ts[i], List.getElem?_eq_getElem hi, r.2 i v _ e1 (List.getElem?_eq_getElem hi)⟩
    refine .dct q (r.1.trans hl) (fun i v u e1 e2 => ?_) fun i v u e1 e2 => ?_
    · obtain ⟨t, et, k, _⟩ := get i v e1
      exact k.trans (hk i t u et e2)
    · obtain ⟨t, et, _, rt⟩ := get i v e1
      exact ih i t u et e2 rt
inductive Mls : TH → T → TH → T → Prop where
  | done {S : TH} {x : T} : Mls S x S x
  | step {S S' : TH} {x x1 x' : T} {p : Addr} {c : Cell} : S p = some c → Ml p (cellT c) x x1 → Mls (delT S p) x1 S' x' → Mls S x S' x'
theorem Mls.rep {x x' : T} (m : Mls S x S' x') : ∀ {v : V}, Good K S H → Rep K S H v x → Le S H S' H ∧ Good K S' H ∧ Rep K S' H v x' := by
  induction m with
  | done => intro v g r; exact ⟨.refl, g, r⟩
  | step e m _ ih =>
    intro v g r
    obtain ⟨h1, h2, h3⟩ := ih g.del (m.rep g e r)
    exact ⟨Le.del.trans h1, h2, h3⟩
end
section
variable {X : Cx} {a b e o : Expr} {ta tb te to ti : UTE} {tr : UTA} {p pos : Pos} {x : Str}
theorem ue_eqP (hu : X.A.units + 64 < cLine) (ha : UE X a ta) (hb : UE X b tb) : UE X (.Compare a [.Eq] [b] pos) (uBin (oEqP false) ta tb) := ue_cmp (op_eqP hu) lEqP ha hb (nomark _)
theorem ut_eqP (hu : X.A.units + 64 < cLine) (ha : UE X a ta) (hb : UE X b tb) : UT X (.Compare a [.Eq] [b] pos) (uTest (uBin (oEqP false) ta tb)) := ut_cmp (op_eqP hu) lEqP ha hb (nomark _)
theorem ue_neP (hu : X.A.units + 64 < cLine) (ha : UE X a ta) (hb : UE X b tb) : UE X (.Compare a [.NotEq] [b] pos) (uBin (oEqP true) ta tb) := ue_cmp (op_neP hu) lEqP ha hb (nomark _)
theorem ut_neP (hu : X.A.units + 64 < cLine) (ha : UE X a ta) (hb : UE X b tb) : UT X (.Compare a [.NotEq] [b] pos) (uTest (uBin (oEqP true) ta tb)) := ut_cmp (op_neP hu) lEqP ha hb (nomark _)
theorem ue_notN (ha : UE X a ta) (hb : UE X b tb) : UE X (.Compare a [.IsNot] [b] pos) (uBin oNotN ta tb) := ue_cmp op_notN lNotN ha hb (nomark _)
theorem ut_notN (ha : UE X a ta) (hb : UE X b tb) : UT X (.Compare a [.IsNot] [b] pos) (uTest (uBin oNotN ta tb)) := ut_cmp op_notN lNotN ha hb (nomark _)
theorem ut_din (hu : X.A.units + 1 < cLine) (ha : UE X a ta) (hb : UE X b tb) (hm : behindInMarks .In b = false := by with_unfolding_all rfl) : UT X (.Compare a [.In] [b] pos) (uTest (uBin (oDIn false) ta tb)) := ut_cmp (op_din hu) lDIn ha hb hm
theorem ut_dnotIn (hu : X.A.units + 1 < cLine) (ha : UE X a ta) (hb : UE X b tb) (hm : behindInMarks .NotIn b = false := by with_unfolding_all rfl) : UT X (.Compare a [.NotIn] [b] pos) (uTest (uBin (oDIn true) ta tb)) := ut_cmp (op_dnotin hu) lDNotIn ha hb hm
theorem ue_dictN (hc : X.calm = true) (hg : Gl X "dict") (hm : X.mg "dict" = none) (ha : UA X [a] tr) (he : starEach [a] X.env = (false, eval a X.env) :: starEach [] X.env := by rfl) : UE X (.Call (.Name "dict" p) [a] [] pos) (uCall oDictN tr) := ue_callTy (call_dict_of hc) lDictN hg hm boot_dict ha (he := he)
/-- d[k] = e of a cell -/
def uSetD (te to ti : UTE) : UTS := fun E env S => te env S fun x S1 => to env S1 fun o S2 => ti env S2 fun i S3 => match o with
  | .ref p => ∃ kts k, S3 p = some (.dct kts) ∧ keyT i = some k ∧ kts.length < sizeLine ∧ E.nx env (updT S3 p (.dct (putT kts k x)))
  | _ => False
theorem us_setD {i : Expr} {pos' : Pos} (hu : X.A.units + 1 < cLine) (he : UE X e te) (ho : UE X o to) (hi : UE X i ti) (hs : swapsWith e (some (.Subscript o i pos')) pos.line X.env = pure false := by rfl) : US X (.Assign [.Subscript o i pos'] e pos) (uSetD te to ti) :=
  PS.imp (ps_dput hu ho hi he hs) fun D σ H ⟨S, env, E, g, re, h, fin⟩ =>
  lf_bind ⟨g, re⟩ h fun v x S1 H1 le1 m1 rx h1 => lf_bind m1 h1 fun ov o S2 H2 le2 m2 ro h2 => lf_bind m2 h2 fun iv i S3 H3 le3 m3 ri h3 => by
    cases o with
    | ref p =>
      obtain ⟨kts, k, e1, e2, e3, e4⟩ := h3
      obtain ⟨kvs, q, rv⟩ := m3.g p _ e1
      cases ro
      have rx3 := rx.mono (le2.trans le3)
      refine ⟨p, upd H3 p (.dK (putK kvs k v)), rfl, ?_, ?_⟩
      · rw [keyT_V ri e2]
        exact DPut.k q (by rw [rv.1]; exact e3)
      · exact fin.nx σ env _ _ (le1.trans (le2.trans (le3.trans (Le.write e1)))) (m3.g.writeD e1 (rv.put rx3)) (m3.re.mono (Le.write e1)) e4
    | _ => exact h3.elim
/-- what it holds will not change again -/
def uMelt (to : UTE) : UTE := fun env S P => to env S fun x S1 => ∃ x' S', Mls S1 x S' x' ∧ P x' S'
theorem ue_melt (ho : UE X o to) : UE X o (uMelt to) := PE.imp ho fun σ H Q ⟨S, env, P, g, re, h, fin⟩ => lf_bind ⟨g, re⟩ h fun v x S1 H1 le1 m1 rx h1 => by
  obtain ⟨x', S', m, h1⟩ := h1
  obtain ⟨l, g', r'⟩ := m.rep m1.g rx
  exact fin _ _ S' H1 (le1.trans l) g' r' h1
/-- a tuple of the module -/
def KTp (K : PySem.W.Frag) (mg : Str → Option Value) (x : Str) (ts : List T) : Prop := ∃ d, mg x = some (.ref d) ∧ ∀ S H, Rep K S H (.ref d) (.tup ts)
theorem ue_gtup {ts : List T} (hg : Gl X x) (h : KTp X.K X.mg x ts) (hd : (x == ("__debug__" : Str)) = false := by decide) : UE X (.Name x pos) (uC (.tup ts)) := by
  obtain ⟨d, hm, r⟩ := h
  exact ue_c (pe_glob (v := .ref d) hg hm rfl hd) r
end
theorem kt_mk {K : PySem.W.Frag} {h : Heap} {mg : Str → Option Value} {x : Str} {d : Addr} {ts : List T} (X : K.In h) (G : h.Ns mainGlobals mg) (a : PySem.W.nsIn K mainGlobals x = some (some (.ref d))) (r : KR K (.ref d) (.tup ts)) : KTp K mg x ts :=
  ⟨d, PySem.W.mg_of X G a, r.rel.2⟩
end TL
end
section
set_option Elab.async false
set_option linter.all false
set_option maxRecDepth 100000
set_option maxHeartbeats 4000000
namespace K04
open PySem PySem.Spec PyProof.Rows L2 TL
seal UE UT UA US USs UI UG UO UW PTs
def top (i : Nat) : Stmt := PySem.Challenge.pw_loomlook_k04_whole_apart.main.body.getD i (.Pass ⟨0, 0, 0, 0⟩)
/-! ### what is meant -/
def isNum (lo hi : Int) : T → Bool
  | .int i => decide (lo ≤ i) && decide (i ≤ hi)
  | _ => false
def nameOk (x : Str) : Bool := decide (1 ≤ x.length) && decide (x.length ≤ 8) && x.cps.toList.all fun (c : Nat) => decide (97 ≤ c) && decide (c ≤ 122)
def isName : T → Bool
  | .str x => nameOk x
  | _ => false
def inS (zs : List Str) : T → Bool
  | .str x => decide (x ∈ zs)
  | _ => false
def hasWord : T → Bool
  | .tup (.str _ :: _) => true
  | _ => false
def kindTab : List (Str × List Str) := [("number", ["number"]), ("own", ["own"]), ("box", ["box"]), ("plus", ["value", "value"]), ("minus", ["value", "value"]), ("less", ["value", "value"]), ("same", ["value", "value"]), ("not", ["value"])]
def kindTree : List (Key × T) := kindTab.map fun p => (Sum.inr p.1, T.tup (p.2.map T.str))
def kindsOf (w : Str) : Option (List Str) := (kindTab.find? fun p => decide (p.1 = w)).map (·.2)
def partOk (f : T → Bool) (ow bx : List Str) (k : Str) (x : T) : Bool :=
  if k = "number" then isNum 0 99 x else if k = "own" then isName x && inS ow x else if k = "box" then isName x && inS bx x else f x
def valOk : Nat → List Str → List Str → T → Bool
  | 0, _, _, _ => false
  | d + 1, ow, bx, t => match t with
    | .tup (.str w :: r) => (match kindsOf w with
      | none => false
      | some ks => decide (r.length = ks.length) && (List.zipWith (fun x k => partOk (valOk d ow bx) ow bx k x) r ks).all id)
    | _ => false
def touchTree : List (Key × T) := [(.inr "get", .tup [.int 2, .str "read"]), (.inr "put", .tup [.int 1, .str "write"]), (.inr "add", .tup [.int 1, .str "add"]), (.inr "take", .tup [.int 1, .str "lock"]), (.inr "give", .tup [.int 1, .str "lock"]), (.inr "wait", .tup [.int 1, .str "read"])]
structure Nm (P : Program) (w : World) (K : PySem.W.Frag) (mg : Str → Option Value) : Prop where
  isinstance : mg "isinstance" = none
  int : mg "int" = none
  bool : mg "bool" = none
  tuple : mg "tuple" = none
  len : mg "len" = none
  dict : mg "dict" = none
  range : mg "range" = none
  SHARED_WAYS : KTp K mg "SHARED_WAYS" [T.str "read", T.str "add"]
  TOUCHES : KDt P w K mg "TOUCHES" touchTree

end K04
end
section
set_option Elab.async false
set_option linter.all false
set_option maxRecDepth 100000
set_option maxHeartbeats 4000000
namespace K04
open PySem PySem.Spec PyProof.Rows L2 TL
seal UE UT UA US USs UI UG UO UW PTs
section
variable {P : Program} {w : World} {K : PySem.W.Frag} {mg : Str → Option Value} {base : Heap}
def Sd (S : TH) (a : Addr) : Prop := ∃ x : Int, S a = some (.lst [.int x])
/-- only the cell at a has turned -/
structure Dr (a : Addr) (S S' : TH) : Prop where
  same : ∀ b, b ≠ a → S' b = S b
  sd : Sd S' a
theorem Dr.trans {a : Addr} {S S1 S2 : TH} (x : Dr a S S1) (y : Dr a S1 S2) : Dr a S S2 := ⟨fun b h => (y.same b h).trans (x.same b h), y.sd⟩
theorem Dr.rfl {a : Addr} {S : TH} (h : Sd S a) : Dr a S S := ⟨fun _ _ => Eq.refl _, h⟩
/-! ### _law_cell_at -/
def cCell : List T → TH → UX → Prop := fun ts S Pp => ∃ (ns : List Int) (k : Nat), ts = [.fls (ns.map T.int), .int (k : Int)] ∧ ∀ v : Int, Pp (.int v) S
theorem scCell : FnScope ["_law_script", "_law_k"] ["_law_script", "_law_k"] (defScope (top 6)) := ⟨rfl, rfl, rfl, by decide +kernel, rfl, by decide +kernel, by decide +kernel⟩
theorem cell_at (N : Nm P w K mg) (d : Stands K mg "_law_cell_at" ["_law_script", "_law_k"] (top 6)) : Has P w K mg base 1 "_law_cell_at" ["_law_script", "_law_k"] cCell := by
  have sc := scCell
  refine has_of (k := 0) d sc (fun ts S Pp h => ?_) fun cdv f A outer s H E hr => ?_
  · obtain ⟨ns, k, rfl, _⟩ := h; rfl
  refine ⟨_, (uss_cons (us_if (ut_lt (uv 1) (ue_len rfl N.len (ua_cons (uv 0) ua_nil))) (uss_one (us_ret (ue_ix (uv 0) (uv 1)))) uss_nil)
      (uss_one (us_ret ue_int))), fun ts S Pp h => ?_⟩
  obtain ⟨ns, k, rfl, h⟩ := h
  simp only [uIf, uOr, uAnd, uNot, uTest, uBin, uUn, uVar, uC, uCall, uCons, uNil, uRet, uSeq, uSet, uNext, uDrop, uAndV, uOrV, uNotV, uIfE, uTup, uLst, uLstC, uChain, uSl3, uoN, uoS, uRev, uKGet, uFind, uUpper, uAppend, uConsts, uFrz, uSetIx, oIsi, tyT, okC, isT, oEq2, oII, oIC, oLe2, oIx, oDx, oSl3, oLen, oList, oInt, oStr, oPlus, oIn, oAll, oIsN, oNeg, TL.startT, List.map_cons, List.map_nil, List.length_cons, List.length_nil, List.replicate, List.cons_append, List.nil_append, List.append_nil, List.getElem?_cons_zero, List.getElem?_cons_succ, List.set_cons_zero, List.set_cons_succ, Bool.false_eq_true, Bool.true_eq_false, false_implies, true_implies, forall_const, and_true, true_and, Bool.not_true, Bool.not_false, beq_self_eq_true, Bool.true_or, Bool.or_true, Bool.false_or, Bool.or_false, Bool.and_true, Bool.true_and, Bool.and_false, Bool.false_and, reduceCtorEq, Nat.reduceAdd, Nat.reduceSub, String.reduceBEq, Bool.false_xor, Bool.true_xor, Option.some.injEq, exists_eq_left, exists_eq_left', Cell.lst.injEq, List.length_map]
  refine ⟨fun e => ?_, fun _ => h 0⟩
  have hk : k < ns.length := by simpa using e
  have e1 : atI (ns.map T.int) (k : Int) = some (.int ns[k]) := atI_nat (by rw [List.getElem?_map, List.getElem?_eq_getElem hk]; rfl)
  exact ⟨_, e1, h _⟩
/-! ### _law_state -/
def cState : List T → TH → UX → Prop := fun ts S Pp => ∃ c k : Int, ts = [.int c, .int k] ∧ ∀ (a : Addr) (x : Int), S a = none → Pp (.ref a) (updT S a (.lst [.int x]))
theorem scState : FnScope ["_law_cell", "_law_k", "_law_drawn"] ["_law_cell", "_law_k"] (defScope (top 7)) := ⟨rfl, rfl, rfl, by decide +kernel, rfl, by decide +kernel, by decide +kernel⟩
theorem law_state (N : Nm P w K mg) (d : Stands K mg "_law_state" ["_law_cell", "_law_k"] (top 7)) : Has P w K mg base 1 "_law_state" ["_law_cell", "_law_k"] cState := by
  have sc := scState
  refine has_of (k := 0) d sc (fun ts S Pp h => ?_) fun cdv f A outer s H E hr => ?_
  · obtain ⟨c, k, rfl, _⟩ := h; rfl
  refine ⟨_, (uss_cons (us_set 2 sc.nd (ue_mod (ue_mul (ue_plus (uv 0) (ue_mul ue_int (uv 1))) ue_int) ue_int))
      (uss_one (us_ret (ue_lstC (ua_cons (ue_mod (ue_mul (uv 2) (uv 2)) ue_int) ua_nil))))), fun ts S Pp h => ?_⟩
  obtain ⟨c, k, rfl, h⟩ := h
  simp only [uIf, uOr, uAnd, uNot, uTest, uBin, uUn, uVar, uC, uCall, uCons, uNil, uRet, uSeq, uSet, uNext, uDrop, uAndV, uOrV, uNotV, uIfE, uTup, uLst, uLstC, uChain, uSl3, uoN, uoS, uRev, uKGet, uFind, uUpper, uAppend, uConsts, uFrz, uSetIx, oIsi, tyT, okC, isT, oEq2, oII, oIC, oLe2, oIx, oDx, oSl3, oLen, oList, oInt, oStr, oPlus, oIn, oAll, oIsN, oNeg, TL.startT, List.map_cons, List.map_nil, List.length_cons, List.length_nil, List.replicate, List.cons_append, List.nil_append, List.append_nil, List.getElem?_cons_zero, List.getElem?_cons_succ, List.set_cons_zero, List.set_cons_succ, Bool.false_eq_true, Bool.true_eq_false, false_implies, true_implies, forall_const, and_true, true_and, Bool.not_true, Bool.not_false, beq_self_eq_true, Bool.true_or, Bool.or_true, Bool.false_or, Bool.or_false, Bool.and_true, Bool.true_and, Bool.and_false, Bool.false_and, reduceCtorEq, Nat.reduceAdd, Nat.reduceSub, String.reduceBEq, Bool.false_xor, Bool.true_xor, Option.some.injEq, exists_eq_left, exists_eq_left', Cell.lst.injEq]
  refine ⟨.inl ⟨by decide, by decide⟩, .inr ⟨by decide, by decide⟩, by decide, ?_, by decide, by decide, fun p hp => h p _ hp⟩
  have h1 := Int.emod_nonneg ((c + 7919 * k) * 48271) (show (2147483647 : Int) ≠ 0 by decide)
  have h2 := Int.emod_lt_of_pos ((c + 7919 * k) * 48271) (show (0 : Int) < 2147483647 by decide)
  exact .inl ⟨by omega, by omega⟩
/-! ### _law_next -/
def cNext : List T → TH → UX → Prop := fun ts S Pp => ∃ (a : Addr) (n : Int), ts = [.ref a, .int n] ∧ Sd S a ∧ 0 < n ∧ ∀ (r : Int) S', Dr a S S' → 0 ≤ r → r < n → Pp (.int r) S'
theorem scNext : FnScope ["_law_state_here", "_law_size"] ["_law_state_here", "_law_size"] (defScope (top 8)) := ⟨rfl, rfl, rfl, by decide +kernel, rfl, by decide +kernel, by decide +kernel⟩
theorem law_next (N : Nm P w K mg) (d : Stands K mg "_law_next" ["_law_state_here", "_law_size"] (top 8)) : Has P w K mg base 1 "_law_next" ["_law_state_here", "_law_size"] cNext := by
  have sc := scNext
  refine has_of (k := 0) d sc (fun ts S Pp h => ?_) fun cdv f A outer s H E hr => ?_
  · obtain ⟨a, n, rfl, _⟩ := h; rfl
  refine ⟨_, (uss_cons (us_setIx (ue_mod (ue_plus (ue_mul (ue_ix (uv 0) ue_int) ue_int) ue_int) ue_int) (uv 0) ue_int)
      (uss_one (us_ret (ue_mod (ue_div (ue_ix (uv 0) ue_int) ue_int) (uv 1))))), fun ts S Pp h => ?_⟩
  obtain ⟨a, n, rfl, ⟨x, hx⟩, hn, h⟩ := h
  have e0 : atI [T.int x] (0 : Int) = some (.int x) := atI_nat (j := 0) rfl
  refine ⟨_, hx, _, e0, .inr ⟨by decide, by decide⟩, show (0:Int) < 2147483647 by decide, [.int x], 0, hx, rfl, ?_⟩
  have e1 : atI ([T.int x].set 0 (T.int ((x * 48271 + 11) % 2147483647))) (0 : Int) = some (T.int ((x * 48271 + 11) % 2147483647)) := atI_nat (j := 0) rfl
  refine ⟨_, updT_same, _, e1, ⟨by decide, by decide⟩, hn, h _ _ ⟨fun b hb => updT_ne hb, _, updT_same⟩ (Int.emod_nonneg _ (by omega)) (Int.emod_lt_of_pos _ hn)⟩
end
end K04
end
section
set_option Elab.async false
set_option linter.all false
set_option maxRecDepth 100000
set_option maxHeartbeats 4000000
namespace K04
open PySem PySem.Spec PyProof.Rows L2 TL
seal UE UT UA US USs UI UG UO UW PTs
section
variable {P : Program} {w : World} {K : PySem.W.Frag} {mg : Str → Option Value} {base : Heap}
def abc : Str := Str.ofString "abcdefghijklmnopqrstuvwxyz"
theorem abc_list : abc.cps.toList = [97, 98, 99, 100, 101, 102, 103, 104, 105, 106, 107, 108, 109, 110, 111, 112, 113, 114, 115, 116, 117, 118, 119, 120, 121, 122] := by decide +kernel
theorem abc_at {i : Int} (h0 : 0 ≤ i) (h1 : i < 26) : ∃ c, atI abc.cps.toList i = some c ∧ 97 ≤ c ∧ c ≤ 122 := by
  have hl : i.toNat < abc.cps.toList.length := by rw [abc_list]; simp; omega
  refine ⟨abc.cps.toList[i.toNat], ?_, ?_⟩
  · have q := atI_nat (List.getElem?_eq_getElem hl)
    rw [Int.toNat_of_nonneg h0] at q
    exact q
  · have all : ∀ c ∈ abc.cps.toList, 97 ≤ c ∧ c ≤ 122 := by rw [abc_list]; decide
    exact all _ (List.getElem_mem hl)
/-- letters alone -/
def Lt (x : Str) : Prop := ∀ c ∈ x.cps.toList, 97 ≤ c ∧ c ≤ 122
theorem nameOk_iff {x : Str} : nameOk x = true ↔ 1 ≤ x.length ∧ x.length ≤ 8 ∧ Lt x := by
  simp only [nameOk, Bool.and_eq_true, decide_eq_true_eq, List.all_eq_true, Lt, and_assoc]
theorem Lt.one {c : Nat} (h1 : 97 ≤ c) (h2 : c ≤ 122) : Lt ⟨#[c]⟩ := fun d hd => by
  have : d = c := by simpa using hd
  subst this
  exact ⟨h1, h2⟩
theorem Lt.app {x y : Str} (h : Lt x) (h' : Lt y) : Lt (x ++ y) := fun d hd => by
  have hd : d ∈ x.cps.toList ++ y.cps.toList := by simpa [Str.cps_append] using hd
  rcases List.mem_append.mp hd with q | q
  · exact h d q
  · exact h' d q
def words : List Str := ["box", "own", "end", "number", "plus", "lock", "skip", "again", "program", "worker", "claim", "size", "set", "get", "put", "add", "take", "give", "wait", "check", "unless", "not", "minus", "less", "same"]
theorem words_ok : ∀ z ∈ words, nameOk z = true := by decide +kernel
theorem at_map {α : Type} {β : Type} (g : α → β) {xs : List α} {i : Int} (h0 : 0 ≤ i) (h1 : i < xs.length) : ∃ x ∈ xs, atI (xs.map g) i = some (g x) := by
  have hl : i.toNat < xs.length := by omega
  refine ⟨xs[i.toNat], List.getElem_mem hl, ?_⟩
  have q : atI (xs.map g) ((i.toNat : Nat) : Int) = some (g xs[i.toNat]) := atI_nat (by rw [List.getElem?_map, List.getElem?_eq_getElem hl]; rfl)
  rw [Int.toNat_of_nonneg h0] at q
  exact q
theorem sz1000 {n : Nat} (h : n ≤ 1000) : n ≤ sizeLine := Nat.le_of_lt (small1000 h)
def cNames : List T → TH → UX → Prop := fun ts S Pp => ∃ (a : Addr) (m : Nat), ts = [.ref a, .int (m : Int)] ∧ Sd S a ∧ m ≤ 100 ∧ ∀ (p : Addr) (zs : List Str) S', S p = none → S' p = some (.lst (zs.map T.str)) → Sd S' a → (∀ b, b ≠ a → b ≠ p → S' b = S b) → zs.length = m → (∀ z ∈ zs, nameOk z = true) → Pp (.ref p) S'
theorem scNames : FnScope ["_law_state_here", "_law_amount", "_law_letters", "_law_shift", "_law_found", "_law_k", "_law_name", "_law_turn", "_law_words"] ["_law_state_here", "_law_amount"] (defScope (top 9)) := ⟨rfl, rfl, rfl, by decide +kernel, rfl, by decide +kernel, by decide +kernel⟩
/-- between two names -/
structure NI (S0 : TH) (a p : Addr) (k : Nat) (zs : List Str) (S : TH) : Prop where
  sd : Sd S a
  found : S p = some (.lst (zs.map T.str))
  len : zs.length = k
  ok : ∀ z ∈ zs, nameOk z = true
  rest : ∀ b, b ≠ a → b ≠ p → S b = S0 b
theorem NI.dr {S0 S S' : TH} {a p : Addr} {k : Nat} {zs : List Str} (h : NI S0 a p k zs S) (np : p ≠ a) (d : Dr a S S') : NI S0 a p k zs S' :=
  ⟨d.sd, (d.same p np).trans h.found, h.len, h.ok, fun b h1 h2 => (d.same b h1).trans (h.rest b h1 h2)⟩
theorem law_names (N : Nm P w K mg) (d : Stands K mg "_law_names" ["_law_state_here", "_law_amount"] (top 9)) (c_law_next : Has P w K mg base 1 "_law_next" ["_law_state_here", "_law_size"] cNext) : Has P w K mg base 2 "_law_names" ["_law_state_here", "_law_amount"] cNames := by
  have sc := scNames
  refine has_of (k := 1) d sc (fun ts S Pp h => ?_) fun cdv f A outer s H E hr => ?_
  · obtain ⟨a, m, rfl, _⟩ := h; rfl
  have hu0 := hu0_of hr
  refine ⟨_, (uss_cons (us_set 2 sc.nd ue_str)
      (uss_cons (us_set 3 sc.nd (ue_calln c_law_next hr rfl (ua_cons (uv 0) (ua_cons ue_int ua_nil))))
      (uss_cons (us_set 4 sc.nd (ue_lstC ua_nil))
      (uss_cons (us_for PassesOwn.never rfl (ui_range1 rfl N.range (ua_cons (uv 1) ua_nil)) (ug_name 5 sc.nd) (uss_cons (us_set 6 sc.nd (ue_ix (uv 2) (ue_mod (ue_plus (uv 3) (uv 5)) ue_int)))
      (uss_cons (us_for PassesOwn.never rfl (ui_range1 rfl N.range (ua_cons (ue_ix (ue_lst (ua_cons ue_int (ua_cons ue_int (ua_cons ue_int (ua_cons ue_int (ua_cons (ue_calln c_law_next hr rfl (ua_cons (uv 0) (ua_cons ue_int ua_nil))) ua_nil)))))) (ue_calln c_law_next hr rfl (ua_cons (uv 0) (ua_cons ue_int ua_nil)))) ua_nil)) (ug_name 7 sc.nd) (uss_one (us_set 6 sc.nd (ue_plus (ue_ix (uv 2) (ue_calln c_law_next hr rfl (ua_cons (uv 0) (ua_cons ue_int ua_nil)))) (uv 6)))))
      (uss_cons (us_if (ut_eq hu0 (ue_calln c_law_next hr rfl (ua_cons (uv 0) (ua_cons ue_int ua_nil))) ue_int) (uss_cons (us_set 8 sc.nd (ue_lst (ua_consts (Cs.s (Cs.s (Cs.s (Cs.s (Cs.s (Cs.s (Cs.s (Cs.s (Cs.s (Cs.s (Cs.s Cs.nil))))))))))))))
      (uss_cons (us_set 8 sc.nd (ue_plus (uv 8) (ue_lst (ua_consts (Cs.s (Cs.s (Cs.s (Cs.s (Cs.s (Cs.s (Cs.s (Cs.s (Cs.s (Cs.s (Cs.s Cs.nil)))))))))))))))
      (uss_one (us_set 6 sc.nd (ue_ix (ue_plus (uv 8) (ue_lst (ua_consts (Cs.s (Cs.s (Cs.s Cs.nil)))))) (ue_calln c_law_next hr rfl (ua_cons (uv 0) (ua_cons ue_int ua_nil)))))))) uss_nil)
      (uss_cons (us_if (ut_in (uv 6) (uv 4)) (uss_one (us_set 6 sc.nd (ue_ix (uv 2) (ue_mod (ue_plus (uv 3) (uv 5)) ue_int)))) uss_nil)
      (uss_one (us_expr (ue_append (uv 4) (ua_cons (uv 6) ua_nil)))))))))
      (uss_one (us_ret (uv 4))))))), fun ts S0 Pp h => ?_⟩
  obtain ⟨a, m, rfl, hs, hm, h⟩ := h
  simp only [uIf, uOr, uAnd, uNot, uTest, uBin, uUn, uVar, uC, uCall, uCons, uNil, uRet, uSeq, uSet, uNext, uDrop, uAndV, uOrV, uNotV, uIfE, uTup, uLst, uLstC, uChain, uSl3, uoN, uoS, uRev, uKGet, uFind, uUpper, uAppend, uConsts, uFrz, uSetIx, oIsi, tyT, okC, isT, oEq2, oII, oIC, oLe2, oIx, oDx, oSl3, oLen, oList, oInt, oStr, oPlus, oIn, oAll, oIsN, oNeg, TL.startT, List.map_cons, List.map_nil, List.length_cons, List.length_nil, List.replicate, List.cons_append, List.nil_append, List.append_nil, List.getElem?_cons_zero, List.getElem?_cons_succ, List.set_cons_zero, List.set_cons_succ, Bool.false_eq_true, Bool.true_eq_false, false_implies, true_implies, forall_const, and_true, true_and, Bool.not_true, Bool.not_false, beq_self_eq_true, Bool.true_or, Bool.or_true, Bool.false_or, Bool.or_false, Bool.and_true, Bool.true_and, Bool.and_false, Bool.false_and, reduceCtorEq, Nat.reduceAdd, Nat.reduceSub, String.reduceBEq, Bool.false_xor, Bool.true_xor, Option.some.injEq, exists_eq_left, exists_eq_left', Cell.lst.injEq]
  refine ⟨a, 26, rfl, hs, by decide, fun sh S1 d1 s0 s1 => ⟨by decide, fun p hp => ?_⟩⟩
  have np : p ≠ a := fun z => by rw [z] at hp; obtain ⟨x, q⟩ := d1.sd; rw [q] at hp; cases hp
  simp only [uFor, uRng1]
  simp only [uIf, uOr, uAnd, uNot, uTest, uBin, uUn, uVar, uC, uCall, uCons, uNil, uRet, uSeq, uSet, uNext, uDrop, uAndV, uOrV, uNotV, uIfE, uTup, uLst, uLstC, uChain, uSl3, uoN, uoS, uRev, uKGet, uFind, uUpper, uAppend, uConsts, uFrz, uSetIx, oIsi, tyT, okC, isT, oEq2, oII, oIC, oLe2, oIx, oDx, oSl3, oLen, oList, oInt, oStr, oPlus, oIn, oAll, oIsN, oNeg, TL.startT, List.map_cons, List.map_nil, List.length_cons, List.length_nil, List.replicate, List.cons_append, List.nil_append, List.append_nil, List.getElem?_cons_zero, List.getElem?_cons_succ, List.set_cons_zero, List.set_cons_succ, Bool.false_eq_true, Bool.true_eq_false, false_implies, true_implies, forall_const, and_true, true_and, Bool.not_true, Bool.not_false, beq_self_eq_true, Bool.true_or, Bool.or_true, Bool.false_or, Bool.or_false, Bool.and_true, Bool.true_and, Bool.and_false, Bool.false_and, reduceCtorEq, Nat.reduceAdd, Nat.reduceSub, String.reduceBEq, Bool.false_xor, Bool.true_xor, Option.some.injEq, exists_eq_left, exists_eq_left', Cell.lst.injEq]
  refine ⟨by omega, by omega, fun k env S => ∃ e5 e6 e7 e8 zs, env = [some (.ref a), some (.int m), some (.str abc), some (.int sh), some (.ref p), e5, e6, e7, e8] ∧ NI S0 a p k zs S, ⟨none, none, none, none, [], rfl, ?_⟩, ?_, ?_⟩
  · exact ⟨by obtain ⟨x, q⟩ := d1.sd; exact ⟨x, by rw [updT_ne (Ne.symm np)]; exact q⟩, updT_same, rfl, fun z hz => (by cases hz), fun b h1 h2 => by rw [updT_ne h2]; exact d1.same b h1⟩
  · rintro k x env S hk ⟨e5, e6, e7, e8, zs, rfl, ni⟩
    have hkm : k < m := by
      have := (List.getElem?_eq_some_iff.mp hk).1
      rw [rngT_length] at this
      simpa using this
    have hx : x = .int k := by
      rw [rngT_get (by simpa using hkm)] at hk
      exact (Option.some.inj hk).symm
    subst hx
    obtain ⟨c0, hc0, l0, l1⟩ := abc_at (i := (sh + k) % 26) (Int.emod_nonneg _ (by decide)) (Int.emod_lt_of_pos _ (by decide))
    have one0 : nameOk ⟨#[c0]⟩ = true := nameOk_iff.mpr ⟨show 1 ≤ 1 by omega, show 1 ≤ 8 by omega, Lt.one l0 l1⟩
    refine ⟨show (0:Int) < 26 by decide, by decide +kernel, c0, hc0, ?_⟩
    refine ⟨a, 8, rfl, ni.sd, by decide, fun r8 S2 d2 r80 r81 => ⟨show 5 ≤ sizeLine by decide, a, 5, rfl, d2.sd, by decide, fun r5 S3 d3 r50 r51 => ?_⟩⟩
    have n3 := (ni.dr np d2).dr np d3
    have pk : ∃ t : Nat, t ≤ 7 ∧ atI [T.int 0, T.int 0, T.int 1, T.int 7, T.int r8] r5 = some (.int t) := by
      have : r5 = 0 ∨ r5 = 1 ∨ r5 = 2 ∨ r5 = 3 ∨ r5 = 4 := by omega
      rcases this with rfl | rfl | rfl | rfl | rfl
      · exact ⟨0, by omega, rfl⟩
      · exact ⟨0, by omega, rfl⟩
      · exact ⟨1, by omega, rfl⟩
      · exact ⟨7, by omega, rfl⟩
      · refine ⟨r8.toNat, by omega, ?_⟩
        rw [Int.toNat_of_nonneg r80]
        rfl
    obtain ⟨t, ht, et⟩ := pk
    -- behind the letters: a name that is one, whatever else
    refine ⟨_, et, show -(2^62) ≤ (t:Int) by omega, show (t:Int) < 2^62 by omega, fun j env S => ∃ e7 x, env = [some (.ref a), some (.int m), some (.str abc), some (.int sh), some (.ref p), some (.int k), some (.str x), e7, e8] ∧ NI S0 a p k zs S ∧ 1 ≤ x.length ∧ x.length ≤ 1 + j ∧ Lt x, ⟨e7, _, rfl, n3, show 1 ≤ 1 by omega, show 1 ≤ 1 + 0 by omega, Lt.one l0 l1⟩, ?_, ?_⟩
    · rintro j y env S hj ⟨e7', x, rfl, n4, x1, x2, x3⟩
      have hjt : j < t := by
        have := (List.getElem?_eq_some_iff.mp hj).1
        rw [rngT_length] at this
        simpa using this
      refine ⟨a, 26, rfl, n4.sd, by decide, fun r S5 d5 r0 r1 => ?_⟩
      obtain ⟨c, hc, q0, q1⟩ := abc_at r0 r1
      have lx : (⟨#[c]⟩ ++ x : Str).length = 1 + x.length := by rw [Str.length_append]; rfl
      refine ⟨by decide +kernel, c, hc, sz1000 (show 1 + x.length ≤ 1000 by omega), _, _, rfl, n4.dr np d5, by omega, by omega, (Lt.one q0 q1).app x3⟩
    · rintro env S ⟨e7', x, rfl, n4, x1, x2, x3⟩
      have okx : nameOk x = true := nameOk_iff.mpr ⟨x1, by rw [rngT_length] at x2; simp at x2; omega, x3⟩
      have close : ∀ (x : Str) (e8 : Option T) S, nameOk x = true → NI S0 a p k zs S → ∀ S', S' = updT S p (.lst (zs.map T.str ++ [.str x])) → ∃ e5 e6 e7 e8' zs', [some (T.ref a), some (.int m), some (.str abc), some (.int sh), some (.ref p), some (.int k), some (.str x), e7', e8] = [some (.ref a), some (.int m), some (.str abc), some (.int sh), some (.ref p), e5, e6, e7, e8'] ∧ NI S0 a p (k + 1) zs' S' := fun x e8 S okx n S' e => by
        subst e
        refine ⟨_, _, _, _, zs ++ [x], rfl, ?_, ?_, ?_, ?_, ?_⟩
        · obtain ⟨y, q⟩ := n.sd
          exact ⟨y, by rw [updT_ne (Ne.symm np)]; exact q⟩
        · rw [updT_same, List.map_append]; rfl
        · simp [n.len]
        · intro z hz
          rcases List.mem_append.mp hz with q | q
          · exact n.ok z q
          · have : z = x := by simpa using q
            rw [this]; exact okx
        · intro b h1 h2
          rw [updT_ne h2]; exact n.rest b h1 h2
      have lz : ∀ S, NI S0 a p k zs S → (zs.map T.str).length < sizeLine := fun S n => by
        rw [List.length_map, n.len]
        exact small1000 (by omega)
      -- the last two statements of the turn
      have tail : ∀ (x : Str) (e8 : Option T) S (E : UEnds), nameOk x = true → NI S0 a p k zs S → (∀ (x : Str) (e8 : Option T) S, nameOk x = true → NI S0 a p k zs S → E.nx [some (T.ref a), some (.int m), some (.str abc), some (.int sh), some (.ref p), some (.int k), some (.str x), e7', e8] (updT S p (.lst (zs.map T.str ++ [.str x])))) → uSeq (uIf (uTest (uBin (oIn false) (uVar 6) (uVar 4))) (uSet 6 (uBin oIx (uVar 2) (uBin oMod (uBin oPlus (uVar 3) (uVar 5)) (uC (.int 26))))) uNext) (uDrop (uAppend (uVar 4) (uCons (uVar 6) uNil))) E [some (T.ref a), some (.int m), some (.str abc), some (.int sh), some (.ref p), some (.int k), some (.str x), e7', e8] S := fun x e8 S E okx n fin => by
        refine ⟨_, n.found, zs, strsT_map zs, fun _ => ?_, fun _ => ?_⟩
        · refine ⟨show (0:Int) < 26 by decide, by decide +kernel, c0, hc0, ?_⟩
          refine ⟨⟨_, n.found⟩, _, n.found, lz S n, fin _ _ _ one0 n⟩
        · exact ⟨⟨_, n.found⟩, _, n.found, lz S n, fin _ _ _ okx n⟩
      refine ⟨a, 6, rfl, n4.sd, by decide, fun r6 S6 d6 r60 r61 => ⟨fun _ => ?_, fun _ => ?_⟩⟩
      · refine ⟨show 11 ≤ sizeLine by decide, show 11 ≤ sizeLine by decide, show 22 ≤ sizeLine by decide, show 3 ≤ sizeLine by decide, show 25 ≤ sizeLine by decide, a, 25, rfl, d6.sd, by decide, fun r25 S7 d7 r0 r1 => ?_⟩
        obtain ⟨z, hz, ez⟩ := at_map T.str (xs := words) r0 r1
        exact ⟨_, ez, tail z _ S7 _ (words_ok z hz) ((n4.dr np d6).dr np d7) fun x e8 S okx n => close x e8 S okx n _ rfl⟩
      · exact tail x e8 S6 _ okx (n4.dr np d6) fun x e8 S okx n => close x e8 S okx n _ rfl
  · rintro env S ⟨e5, e6, e7, e8, zs, rfl, ni⟩
    simp only [uIf, uOr, uAnd, uNot, uTest, uBin, uUn, uVar, uC, uCall, uCons, uNil, uRet, uSeq, uSet, uNext, uDrop, uAndV, uOrV, uNotV, uIfE, uTup, uLst, uLstC, uChain, uSl3, uoN, uoS, uRev, uKGet, uFind, uUpper, uAppend, uConsts, uFrz, uSetIx, oIsi, tyT, okC, isT, oEq2, oII, oIC, oLe2, oIx, oDx, oSl3, oLen, oList, oInt, oStr, oPlus, oIn, oAll, oIsN, oNeg, TL.startT, List.map_cons, List.map_nil, List.length_cons, List.length_nil, List.replicate, List.cons_append, List.nil_append, List.append_nil, List.getElem?_cons_zero, List.getElem?_cons_succ, List.set_cons_zero, List.set_cons_succ, Bool.false_eq_true, Bool.true_eq_false, false_implies, true_implies, forall_const, and_true, true_and, Bool.not_true, Bool.not_false, beq_self_eq_true, Bool.true_or, Bool.or_true, Bool.false_or, Bool.or_false, Bool.and_true, Bool.true_and, Bool.and_false, Bool.false_and, reduceCtorEq, Nat.reduceAdd, Nat.reduceSub, String.reduceBEq, Bool.false_xor, Bool.true_xor, Option.some.injEq, exists_eq_left, exists_eq_left', Cell.lst.injEq]
    refine h p zs S ((d1.same p np).symm.trans hp) ni.found ni.sd ni.rest ?_ ni.ok
    rw [ni.len, rngT_length]; rfl
end
end K04
end
section
set_option Elab.async false
set_option linter.all false
set_option maxRecDepth 100000
set_option maxHeartbeats 4000000
namespace K04
open PySem PySem.Spec PyProof.Rows L2 TL
seal UE UT UA US USs UI UG UO UW PTs uComp uOr uAnd
section
variable {P : Program} {w : World} {K : PySem.W.Frag} {mg : Str → Option Value} {base : Heap}
structure Nms (zs : List Str) : Prop where
  few : zs.length ≤ 100
  ok : ∀ z ∈ zs, nameOk z = true
/-- a drawn value: its form -/
inductive VF (ow bx : List Str) : Nat → T → Prop where
  | num {n : Nat} {i : Int} : 0 ≤ i → i ≤ 99 → VF ow bx (n + 1) (.tup [.str "number", .int i])
  | own {n : Nat} {x : Str} : x ∈ ow → VF ow bx (n + 1) (.tup [.str "own", .str x])
  | box {n : Nat} {x : Str} : x ∈ bx → VF ow bx (n + 1) (.tup [.str "box", .str x])
  | neg {n : Nat} {t : T} : VF ow bx n t → VF ow bx (n + 1) (.tup [.str "not", t])
  | two {n : Nat} {z : Str} {t u : T} : (z = "plus" ∨ z = "minus" ∨ z = "less" ∨ z = "same") → VF ow bx n t → VF ow bx n u → VF ow bx (n + 1) (.tup [.str z, t, u])
theorem VF.up {ow bx : List Str} {n : Nat} {t : T} (h : VF ow bx n t) : ∀ {m}, n ≤ m → VF ow bx m t := by
  induction h with
  | num a b => intro m hm; cases m with
    | zero => omega
    | succ m => exact .num a b
  | own a => intro m hm; cases m with
    | zero => omega
    | succ m => exact .own a
  | box a => intro m hm; cases m with
    | zero => omega
    | succ m => exact .box a
  | neg _ ih => intro m hm; cases m with
    | zero => omega
    | succ m => exact .neg (ih (by omega))
  | two a _ _ ih1 ih2 => intro m hm; cases m with
    | zero => omega
    | succ m => exact .two a (ih1 (by omega)) (ih2 (by omega))
theorem vf_tup {ow bx : List Str} {n : Nat} {t : T} (h : VF ow bx n t) : ∃ us, t = .tup us := by cases h <;> exact ⟨_, rfl⟩
def tagT (z : Str) : T → Option T
  | .str x => some (.tup [.str z, .str x])
  | _ => none
theorem tagT_map (z : Str) (zs : List Str) : (zs.map T.str).filterMap (tagT z) = zs.map fun x => T.tup [.str z, .str x] := by
  rw [List.filterMap_map, ← List.filterMap_eq_map]
  rfl
theorem nameOk_len {x : Str} (h : nameOk x = true) : x.length ≤ 8 := (nameOk_iff.mp h).2.1
def cVal (n : Nat) : List T → TH → UX → Prop := fun ts S Pp => ∃ (a : Addr) (ow bx : List Str), ts = [.ref a, .int (n : Int), .lst (ow.map T.str), .lst (bx.map T.str)] ∧ Sd S a ∧ Nms ow ∧ Nms bx ∧ ∀ t S', Dr a S S' → VF ow bx n t → Pp t S'
theorem scVal : FnScope ["_law_state_here", "_law_deep", "_law_owns", "_law_boxes", "_law_kind", "_law_names_here", "_law_one"] ["_law_state_here", "_law_deep", "_law_owns", "_law_boxes"] (defScope (top 10)) := ⟨rfl, rfl, rfl, by decide +kernel, rfl, by decide +kernel, by decide +kernel⟩
/-- at most n deep -/
def cVals (n : Nat) : List T → TH → UX → Prop := fun ts S Pp => ∃ j, j < n ∧ cVal (j + 1) ts S Pp
theorem law_value1 {n m : Nat} (hm : 1 ≤ m) (N : Nm P w K mg) (d : Stands K mg "_law_value" ["_law_state_here", "_law_deep", "_law_owns", "_law_boxes"] (top 10)) (c_law_next : Has P w K mg base 1 "_law_next" ["_law_state_here", "_law_size"] cNext)
    (c_law_value : Has P w K mg base m "_law_value" ["_law_state_here", "_law_deep", "_law_owns", "_law_boxes"] (cVals n)) : Has P w K mg base (m + 1) "_law_value" ["_law_state_here", "_law_deep", "_law_owns", "_law_boxes"] (cVals (n + 1)) := by
  have sc := scVal
  have c_law_next := c_law_next.mono hm
  refine has_of (k := m) d sc (fun ts S Pp h => ?_) fun cdv f A outer s H E hr => ?_
  · obtain ⟨j, _, a, ow, bx, rfl, _⟩ := h; rfl
  have hu0 := hu0_of hr
  refine ⟨_, (uss_cons (us_set 4 sc.nd (ue_calln c_law_next hr rfl (ua_cons (uv 0) (ua_cons ue_int ua_nil))))
      (uss_cons (us_set 5 sc.nd (ue_plus (ue_comp1 0 ["_law_own"] [none] rfl (ui_any (uv 2)) (fun _ _ _ _ _ => uts_nil) (fun _ _ _ _ _ => (ue_tup (ua_cons ue_str (ua_cons (uv 0) ua_nil))))) (ue_comp1 0 ["_law_box"] [none] rfl (ui_any (uv 3)) (fun _ _ _ _ _ => uts_nil) (fun _ _ _ _ _ => (ue_tup (ua_cons ue_str (ua_cons (uv 0) ua_nil)))))))
      (uss_cons (us_if (UW.ut (uw_or (ut_lt (uv 1) ue_int) (uw_or1 (ut_lt (uv 4) ue_int)))) (uss_cons (us_if (UW.ut (uw_and (ut_gt (ue_len rfl N.len (ua_cons (uv 5) ua_nil)) ue_int) (uw_and1 (ut_gt (ue_calln c_law_next hr rfl (ua_cons (uv 0) (ua_cons ue_int ua_nil))) ue_int)))) (uss_one (us_ret (ue_ix (uv 5) (ue_calln c_law_next hr rfl (ua_cons (uv 0) (ua_cons (ue_len rfl N.len (ua_cons (uv 5) ua_nil)) ua_nil)))))) uss_nil)
      (uss_one (us_ret (ue_tup (ua_cons ue_str (ua_cons (ue_ix (ue_lst (ua_cons (ue_calln c_law_next hr rfl (ua_cons (uv 0) (ua_cons ue_int ua_nil))) (ua_cons (ue_calln c_law_next hr rfl (ua_cons (uv 0) (ua_cons ue_int ua_nil))) ua_nil))) (ue_div (ue_calln c_law_next hr rfl (ua_cons (uv 0) (ua_cons ue_int ua_nil))) ue_int)) ua_nil)))))) uss_nil)
      (uss_cons (us_set 6 sc.nd (ue_calln c_law_value hr rfl (ua_cons (uv 0) (ua_cons (ue_sub (uv 1) ue_int) (ua_cons (uv 2) (ua_cons (uv 3) ua_nil))))))
      (uss_cons (us_if (ut_eq hu0 (uv 4) ue_int) (uss_one (us_ret (ue_tup (ua_cons ue_str (ua_cons (uv 6) ua_nil))))) uss_nil)
      (uss_one (us_ret (ue_tup (ua_cons (ue_ix (ue_lst (ua_consts (Cs.s (Cs.s (Cs.s (Cs.s Cs.nil)))))) (ue_sub (uv 4) ue_int)) (ua_cons (uv 6) (ua_cons (ue_calln c_law_value hr rfl (ua_cons (uv 0) (ua_cons (ue_sub (uv 1) ue_int) (ua_cons (uv 2) (ua_cons (uv 3) ua_nil))))) ua_nil))))))))))), fun ts S0 Pp h => ?_⟩
  obtain ⟨j, hj, a, ow, bx, rfl, hs, now, nbx, h⟩ := h
  refine ⟨a, 8, rfl, hs, by decide, fun kd S1 d1 k0 k1 => ?_⟩
  have l1 : (ow.map T.str).length ≤ sizeLine := by rw [List.length_map]; exact sz1000 (by have := now.few; omega)
  have l2 : (bx.map T.str).length ≤ sizeLine := by rw [List.length_map]; exact sz1000 (by have := nbx.few; omega)
  refine comp_u (ts := ow.map T.str) (f := tagT "own") (fun k hk => hk) l1 (fun y hy A B hA hB => ?_) ?_
  · obtain ⟨z, _, rfl⟩ := List.mem_map.mp hy
    exact ⟨fun _ => ⟨show 2 ≤ sizeLine by decide, hA _ rfl⟩, fun e => (by cases e)⟩
  refine comp_u (ts := bx.map T.str) (f := tagT "box") (fun k hk => hk) l2 (fun y hy A B hA hB => ?_) ?_
  · obtain ⟨z, _, rfl⟩ := List.mem_map.mp hy
    exact ⟨fun _ => ⟨show 2 ≤ sizeLine by decide, hA _ rfl⟩, fun e => (by cases e)⟩
  have vts : ∀ t ∈ (ow.map T.str).filterMap (tagT "own") ++ (bx.map T.str).filterMap (tagT "box"), VF ow bx 1 t := by
    intro t ht
    rw [tagT_map, tagT_map] at ht
    rcases List.mem_append.mp ht with q | q
    · obtain ⟨z, hz, rfl⟩ := List.mem_map.mp q
      exact .own hz
    · obtain ⟨z, hz, rfl⟩ := List.mem_map.mp q
      exact .box hz
  refine ⟨?_, ?_⟩
  · rw [tagT_map, tagT_map, List.length_map, List.length_map]
    exact sz1000 (by have := now.few; have := nbx.few; omega)
  refine or_pure (fun _ h => h) (fun _ h => h) ⟨fun e => ?_, fun e => ?_⟩
  · refine and_inv (R := Dr a S0) (fun _ h => h) d1 (fun e1 P hP => ⟨a, 3, rfl, d1.sd, by decide, fun r S2 d2 _ _ => hP _ S2 (d1.trans d2)⟩) fun b S2 d2 hb => ⟨fun e2 => ?_, fun e2 => ?_⟩
    · have hl := hb e2
      have hl := of_decide_eq_true hl
      refine ⟨a, _, rfl, d2.sd, hl, fun r S3 d3 r0 r1 => ?_⟩
      obtain ⟨t, ht, et⟩ := at_mem r0 r1
      exact ⟨t, et, h t S3 (d2.trans d3) ((vts t ht).up (by omega))⟩
    · refine ⟨a, 4, rfl, d2.sd, by decide, fun r4 S3 d3 r40 r41 => ⟨a, 100, rfl, d3.sd, by decide, fun r100 S4 d4 r0 r1 => ⟨show 2 ≤ sizeLine by decide, a, 6, rfl, d4.sd, by decide, fun r6 S5 d5 r60 r61 => ⟨⟨by decide, by decide⟩, ?_⟩⟩⟩⟩
      have : r6 / 5 = 0 ∨ r6 / 5 = 1 := by omega
      rcases this with q | q
      · refine ⟨.int r4, by rw [q]; rfl, show 2 ≤ sizeLine by decide, h _ S5 (((d2.trans d3).trans d4).trans d5) (.num r40 (by omega))⟩
      · refine ⟨.int r100, by rw [q]; rfl, show 2 ≤ sizeLine by decide, h _ S5 (((d2.trans d3).trans d4).trans d5) (.num r0 (by omega))⟩
  · have e1 : ¬ ((j + 1 : Nat) : Int) < 2 ∧ ¬ kd < 3 := by simpa using e
    obtain ⟨i, rfl⟩ : ∃ i, j = i + 1 := ⟨j - 1, by omega⟩
    have en : ((i + 1 + 1 : Nat) : Int) - 1 = ((i + 1 : Nat) : Int) := by omega
    refine ⟨i, by omega, a, ow, bx, by dsimp only; rw [en], d1.sd, now, nbx, fun t S2 d2 vt => ⟨fun e3 => ?_, fun e3 => ?_⟩⟩
    · exact ⟨show 2 ≤ sizeLine by decide, h _ S2 (d1.trans d2) (.neg vt)⟩
    · have e4 : ¬ kd = 3 := by simpa using e3
      refine ⟨show 4 ≤ sizeLine by decide, ?_⟩
      have : kd - 4 = 0 ∨ kd - 4 = 1 ∨ kd - 4 = 2 ∨ kd - 4 = 3 := by omega
      have wd : ∃ z : Str, (z = "plus" ∨ z = "minus" ∨ z = "less" ∨ z = "same") ∧ atI [T.str "plus", T.str "minus", T.str "less", T.str "same"] (kd - 4) = some (.str z) := by
        rcases this with q | q | q | q <;> rw [q]
        · exact ⟨"plus", .inl rfl, rfl⟩
        · exact ⟨"minus", .inr (.inl rfl), rfl⟩
        · exact ⟨"less", .inr (.inr (.inl rfl)), rfl⟩
        · exact ⟨"same", .inr (.inr (.inr rfl)), rfl⟩
      obtain ⟨z, lz, ez⟩ := wd
      refine ⟨_, ez, i, by omega, a, ow, bx, by dsimp only; rw [en], d2.sd, now, nbx, fun t' S3 d3 vt' => ⟨show 3 ≤ sizeLine by decide, h _ S3 ((d1.trans d2).trans d3) (.two lz vt vt')⟩⟩
theorem law_value (N : Nm P w K mg) (d : Stands K mg "_law_value" ["_law_state_here", "_law_deep", "_law_owns", "_law_boxes"] (top 10)) (c : Has P w K mg base 1 "_law_next" ["_law_state_here", "_law_size"] cNext) : ∀ n : Nat, Has P w K mg base (n + 1) "_law_value" ["_law_state_here", "_law_deep", "_law_owns", "_law_boxes"] (cVals n)
  | 0 => has_none d fun _ _ _ ⟨_, z, _⟩ => by omega
  | n + 1 => law_value1 (m := n + 1) (by omega) N d c (law_value N d c n)
end
end K04
end
section
set_option Elab.async false
set_option linter.all false
set_option maxRecDepth 100000
set_option maxHeartbeats 4000000
namespace K04
open PySem PySem.Spec PyProof.Rows L2 TL
seal UE UT UA US USs UI UG UO UW PTs uComp uOr uAnd
def twoV (size : Int) (z : Str) (a b : Int) : Int :=
  if z = "plus" then (a + b) % size else if z = "minus" then (a - b) % size else if z = "less" then (if a < b then 1 else 0) else (if a = b then 1 else 0)
/-- what a value comes to -/
inductive W (size : Int) (od bd : List (Key × T)) : Nat → T → Int → Prop where
  | num {n : Nat} {i : Int} : W size od bd (n + 1) (.tup [.str "number", .int i]) (i % size)
  | own {n : Nat} {x : Str} {i : Int} : valT od (.inr x) = some (.int i) → W size od bd (n + 1) (.tup [.str "own", .str x]) i
  | box {n : Nat} {x : Str} {i : Int} : valT bd (.inr x) = some (.int i) → W size od bd (n + 1) (.tup [.str "box", .str x]) i
  | neg {n : Nat} {t : T} {i : Int} : W size od bd n t i → W size od bd (n + 1) (.tup [.str "not", t]) (if i = 0 then 1 else 0)
  | two {n : Nat} {z : Str} {t u : T} {i j : Int} : (z = "plus" ∨ z = "minus" ∨ z = "less" ∨ z = "same") → W size od bd n t i → W size od bd n u j → W size od bd (n + 1) (.tup [.str z, t, u]) (twoV size z i j)
theorem vf_worth {ow bx : List Str} {od bd : List (Key × T)} {size : Int} (ho : ∀ x ∈ ow, ∃ i, valT od (.inr x) = some (.int i)) (hb : ∀ x ∈ bx, ∃ i, valT bd (.inr x) = some (.int i)) {n : Nat} {t : T} (h : VF ow bx n t) : ∃ i, W size od bd n t i := by
  induction h with
  | num _ _ => exact ⟨_, .num⟩
  | own q => obtain ⟨i, e⟩ := ho _ q; exact ⟨i, .own e⟩
  | box q => obtain ⟨i, e⟩ := hb _ q; exact ⟨i, .box e⟩
  | neg _ ih => obtain ⟨i, e⟩ := ih; exact ⟨_, .neg e⟩
  | two q _ _ ih1 ih2 =>
    obtain ⟨i, e⟩ := ih1
    obtain ⟨j, e'⟩ := ih2
    exact ⟨_, .two q e e'⟩
theorem at0 {a : T} {r : List T} : atI (a :: r) (0 : Int) = some a := atI_nat (j := 0) rfl
theorem at1 {a b : T} {r : List T} : atI (a :: b :: r) (1 : Int) = some b := atI_nat (j := 1) rfl
theorem at2 {a b c : T} {r : List T} : atI (a :: b :: c :: r) (2 : Int) = some c := atI_nat (j := 2) rfl
end K04
end
section
set_option Elab.async false
set_option linter.all false
set_option maxRecDepth 100000
set_option maxHeartbeats 4000000
namespace K04
open PySem PySem.Spec PyProof.Rows L2 TL
/-! ### steps: their forms, what they touch, what they do -/
inductive Wy where
  | no | lock (y : Str) | read (y : Str) | write (y : Str) | add (y : Str)
def wT : Wy → T
  | .no => .non
  | .lock y => .tup [.str y, .str "lock"]
  | .read y => .tup [.str y, .str "read"]
  | .write y => .tup [.str y, .str "write"]
  | .add y => .tup [.str y, .str "add"]
def Wy.nm : Wy → Str
  | .no => ""
  | .lock y => y
  | .read y => y
  | .write y => y
  | .add y => y
def Wy.way : Wy → Str
  | .no => ""
  | .lock _ => "lock"
  | .read _ => "read"
  | .write _ => "write"
  | .add _ => "add"
def Wy.some : Wy → Bool
  | .no => false
  | _ => true
theorem wT_some {r : Wy} (h : r.some = true) : wT r = .tup [.str r.nm, .str r.way] := by cases r <;> first | rfl | cases h
def ap (r s : Wy) : Bool := !r.some || !s.some || !decide (r.nm = s.nm) || (decide (r.way = s.way) && decide (r.way ∈ (["read", "add"] : List Str)))
theorem ap_same {r s : Wy} (h1 : r.some = true) (h2 : s.some = true) (h : r.nm = s.nm) : ap r s = (decide (r.way = s.way) && decide (r.way ∈ (["read", "add"] : List Str))) := by
  unfold ap
  rw [h1, h2, decide_eq_true h]
  rfl
theorem ap_comm (r s : Wy) : ap r s = ap s r := by
  unfold ap
  by_cases h1 : r.nm = s.nm
  · by_cases h2 : r.way = s.way
    · rw [h1, h2]
      cases r.some <;> cases s.some <;> rfl
    · rw [decide_eq_false h2, decide_eq_false (fun z : s.way = r.way => h2 z.symm), h1]
      cases r.some <;> cases s.some <;> rfl
  · rw [decide_eq_false h1, decide_eq_false (fun z : s.nm = r.nm => h1 z.symm)]
    cases r.some <;> cases s.some <;> rfl
inductive SF (ow bx : List Str) (l : Str) : T → Wy → Prop where
  | take : SF ow bx l (.tup [.str "take", .str l]) (.lock l)
  | give : SF ow bx l (.tup [.str "give", .str l]) (.lock l)
  | get {x y : Str} : x ∈ ow → y ∈ bx → SF ow bx l (.tup [.str "get", .str x, .str y]) (.read y)
  | add {y : Str} {v : T} : y ∈ bx → VF ow [] 5 v → SF ow bx l (.tup [.str "add", .str y, v]) (.add y)
  | put {y : Str} {v : T} : y ∈ bx → VF ow [] 5 v → SF ow bx l (.tup [.str "put", .str y, v]) (.write y)
  | wait {y : Str} {v : T} : y ∈ bx → VF ow [] 5 v → SF ow bx l (.tup [.str "wait", .str y, v]) (.read y)
  | set {x : Str} {v : T} : x ∈ ow → VF ow [] 5 v → SF ow bx l (.tup [.str "set", .str x, v]) .no
  | check {v : T} : VF ow [] 5 v → SF ow bx l (.tup [.str "check", v]) .no
  | skip {i : Int} : SF ow bx l (.tup [.str "skip", .int i]) .no
  | unl {v : T} {i : Int} : VF ow [] 5 v → SF ow bx l (.tup [.str "unless", v, .int i]) .no
abbrev KT := List (Key × T)
inductive Eff (size wk : Int) : T → KT → Int → KT → KT → Int → KT → Int → Prop where
  | get {x y : Str} {b h : Int} {bd od : KT} : valT bd (.inr y) = some (.int b) → Eff size wk (.tup [.str "get", .str x, .str y]) bd h od bd h (putT od (.inr x) (.int b)) 1
  | set {x : Str} {v : T} {w h : Int} {bd od : KT} : W size od od 5 v w → Eff size wk (.tup [.str "set", .str x, v]) bd h od bd h (putT od (.inr x) (.int w)) 1
  | put {y : Str} {v : T} {w h : Int} {bd od : KT} : W size od od 5 v w → Eff size wk (.tup [.str "put", .str y, v]) bd h od (putT bd (.inr y) (.int w)) h od 1
  | add {y : Str} {v : T} {b w h : Int} {bd od : KT} : valT bd (.inr y) = some (.int b) → W size od od 5 v w → Eff size wk (.tup [.str "add", .str y, v]) bd h od (putT bd (.inr y) (.int ((b + w) % size))) h od 1
  | take {y : Str} {h : Int} {bd od : KT} : Eff size wk (.tup [.str "take", .str y]) bd h od bd wk od 1
  | give1 {y : Str} {h : Int} {bd od : KT} : h = wk → Eff size wk (.tup [.str "give", .str y]) bd h od bd (-1) od 1
  | give2 {y : Str} {h : Int} {bd od : KT} : h ≠ wk → Eff size wk (.tup [.str "give", .str y]) bd h od bd h od (-1)
  | check0 {v : T} {h : Int} {bd od : KT} : W size od od 5 v 0 → Eff size wk (.tup [.str "check", v]) bd h od bd h od (-1)
  | check1 {v : T} {w h : Int} {bd od : KT} : W size od od 5 v w → w ≠ 0 → Eff size wk (.tup [.str "check", v]) bd h od bd h od 1
  | skip {i h : Int} {bd od : KT} : Eff size wk (.tup [.str "skip", .int i]) bd h od bd h od 1
  | unless0 {v : T} {i h : Int} {bd od : KT} : W size od od 5 v 0 → Eff size wk (.tup [.str "unless", v, .int i]) bd h od bd h od 2
  | unless1 {v : T} {w i h : Int} {bd od : KT} : W size od od 5 v w → w ≠ 0 → Eff size wk (.tup [.str "unless", v, .int i]) bd h od bd h od 1
  | wait {y : Str} {v : T} {h : Int} {bd od : KT} : Eff size wk (.tup [.str "wait", .str y, v]) bd h od bd h od 1
inductive St (size : Int) : T → KT → Int → KT → Bool → Prop where
  | take {y : Str} {h : Int} {bd od : KT} : St size (.tup [.str "take", .str y]) bd h od (!decide (h = -1))
  | wait {y : Str} {v : T} {b w h : Int} {bd od : KT} : valT bd (.inr y) = some (.int b) → W size od od 5 v w → St size (.tup [.str "wait", .str y, v]) bd h od (!decide (b = w))
  | other {z : Str} {r : List T} {h : Int} {bd od : KT} : decide (z = "take") = false → decide (z = "wait") = false → St size (.tup (.str z :: r)) bd h od false
/-! ### the thing that is touched -/
def ResOk (r : Wy) (bd : KT) (h ρ : Int) : Prop := match r with
  | .no => True
  | .lock _ => h = ρ
  | .read y => valT bd (.inr y) = some (.int ρ)
  | .write y => valT bd (.inr y) = some (.int ρ)
  | .add y => valT bd (.inr y) = some (.int ρ)
def updB (r : Wy) (ρ : Int) (bd : KT) : KT := match r with
  | .write y => putT bd (.inr y) (.int ρ)
  | .add y => putT bd (.inr y) (.int ρ)
  | _ => bd
def updH (r : Wy) (ρ h : Int) : Int := match r with
  | .lock _ => ρ
  | _ => h
theorem sf_run {ow bx : List Str} {l : Str} {t : T} {r : Wy} {size wk : Int} {od : KT} (hs : SF ow bx l t r) (ho : ∀ x ∈ ow, ∃ i, valT od (.inr x) = some (.int i)) (ρ : Int) :
    ∃ ρ' od' pl b, ∀ bd h, ResOk r bd h ρ → Eff size wk t bd h od (updB r ρ' bd) (updH r ρ' h) od' pl ∧ St size t bd h od b := by
  have wv : ∀ {v : T}, VF ow [] 5 v → ∃ w, W size od od 5 v w := fun {v} q => vf_worth ho (fun x z => (by cases z)) q
  cases hs with
  | take => exact ⟨wk, od, 1, !decide (ρ = -1), fun bd h e => by cases (show h = ρ from e); exact ⟨.take, .take⟩⟩
  | give =>
    by_cases e : ρ = wk
    · exact ⟨-1, od, 1, false, fun bd h q => by cases (show h = ρ from q); exact ⟨.give1 e, .other (by decide) (by decide)⟩⟩
    · exact ⟨ρ, od, -1, false, fun bd h q => by cases (show h = ρ from q); exact ⟨.give2 e, .other (by decide) (by decide)⟩⟩
  | get hx hy => exact ⟨0, _, 1, false, fun bd h q => ⟨.get q, .other (by decide) (by decide)⟩⟩
  | add hy hv => obtain ⟨w, hw⟩ := wv hv; exact ⟨(ρ + w) % size, od, 1, false, fun bd h q => ⟨.add q hw, .other (by decide) (by decide)⟩⟩
  | put hy hv => obtain ⟨w, hw⟩ := wv hv; exact ⟨w, od, 1, false, fun bd h q => ⟨.put hw, .other (by decide) (by decide)⟩⟩
  | wait hy hv => obtain ⟨w, hw⟩ := wv hv; exact ⟨0, od, 1, !decide (ρ = w), fun bd h q => ⟨.wait, .wait q hw⟩⟩
  | set hx hv => obtain ⟨w, hw⟩ := wv hv; exact ⟨0, _, 1, false, fun bd h q => ⟨.set hw, .other (by decide) (by decide)⟩⟩
  | check hv =>
    obtain ⟨w, hw⟩ := wv hv
    by_cases e : w = 0
    · subst e; exact ⟨0, od, -1, false, fun bd h q => ⟨.check0 hw, .other (by decide) (by decide)⟩⟩
    · exact ⟨0, od, 1, false, fun bd h q => ⟨.check1 hw e, .other (by decide) (by decide)⟩⟩
  | skip => exact ⟨0, od, 1, false, fun bd h q => ⟨.skip, .other (by decide) (by decide)⟩⟩
  | unl hv =>
    obtain ⟨w, hw⟩ := wv hv
    by_cases e : w = 0
    · subst e; exact ⟨0, od, 2, false, fun bd h q => ⟨.unless0 hw, .other (by decide) (by decide)⟩⟩
    · exact ⟨0, od, 1, false, fun bd h q => ⟨.unless1 hw e, .other (by decide) (by decide)⟩⟩
theorem sf_add {ow bx : List Str} {l y : Str} {t : T} {size wk : Int} {od : KT} (hs : SF ow bx l t (.add y)) (ho : ∀ x ∈ ow, ∃ i, valT od (.inr x) = some (.int i)) :
    ∃ w, ∀ ρ bd h, valT bd (.inr y) = some (.int ρ) → Eff size wk t bd h od (putT bd (.inr y) (.int ((ρ + w) % size))) h od 1 ∧ St size t bd h od false := by
  cases hs with
  | add hy hv =>
    obtain ⟨w, hw⟩ := vf_worth (size := size) (od := od) (bd := od) ho (fun x z => (by cases z)) hv
    exact ⟨w, fun ρ bd h q => ⟨.add q hw, .other (by decide) (by decide)⟩⟩
/-! ### putT -/
theorem putT_in {kts : KT} {k : Key} {t : T} (h : k ∈ kts.map (·.1)) : putT kts k t = kts.map fun kv => if kv.1 = k then (kv.1, t) else kv := by
  unfold putT
  rw [if_pos]
  obtain ⟨p, hp, e⟩ := List.mem_map.mp h
  exact List.any_eq_true.mpr ⟨p, hp, decide_eq_true e⟩
theorem putT_keys {kts : KT} {k : Key} {t : T} (h : k ∈ kts.map (·.1)) : (putT kts k t).map (·.1) = kts.map (·.1) := by
  rw [putT_in h, List.map_map]
  congr 1
  funext kv
  show (if kv.1 = k then (kv.1, t) else kv).1 = kv.1
  split <;> rfl
theorem putT_comm {kts : KT} {k k' : Key} {t t' : T} (h : k ∈ kts.map (·.1)) (h' : k' ∈ kts.map (·.1)) (ne : k ≠ k') : putT (putT kts k t) k' t' = putT (putT kts k' t') k t := by
  rw [putT_in (kts := putT kts k t) (by rw [putT_keys h]; exact h'), putT_in (kts := putT kts k' t') (by rw [putT_keys h']; exact h), putT_in h, putT_in h', List.map_map, List.map_map]
  congr 1
  funext kv
  show (if (if kv.1 = k then (kv.1, t) else kv).1 = k' then ((if kv.1 = k then (kv.1, t) else kv).1, t') else (if kv.1 = k then (kv.1, t) else kv)) = (if (if kv.1 = k' then (kv.1, t') else kv).1 = k then ((if kv.1 = k' then (kv.1, t') else kv).1, t) else (if kv.1 = k' then (kv.1, t') else kv))
  by_cases e : kv.1 = k
  · have e' : ¬ kv.1 = k' := fun z => ne (e.symm.trans z)
    simp only [if_pos e, if_neg e']
  · by_cases e' : kv.1 = k'
    · simp only [if_neg e, if_pos e']
    · simp only [if_neg e, if_neg e']
theorem putT_put {kts : KT} {k : Key} {t t' : T} (h : k ∈ kts.map (·.1)) : putT (putT kts k t) k t' = putT kts k t' := by
  rw [putT_in (kts := putT kts k t) (by rw [putT_keys h]; exact h), putT_in h, putT_in h, List.map_map]
  congr 1
  funext kv
  show (if (if kv.1 = k then (kv.1, t) else kv).1 = k then ((if kv.1 = k then (kv.1, t) else kv).1, t') else (if kv.1 = k then (kv.1, t) else kv)) = (if kv.1 = k then (kv.1, t') else kv)
  by_cases e : kv.1 = k
  · simp only [if_pos e]
  · simp only [if_neg e]
theorem valT_in {kts : KT} {k : Key} {t : T} (h : valT kts k = some t) : k ∈ kts.map (·.1) := by
  unfold valT at h
  cases q : kts.find? fun kv => decide (kv.1 = k) with
  | none => rw [q] at h; cases h
  | some p => exact List.mem_map.mpr ⟨p, List.mem_of_find?_eq_some q, by have := List.find?_some q; exact of_decide_eq_true this⟩
theorem valT_put {kts : KT} {k : Key} {t : T} (h : k ∈ kts.map (·.1)) : valT (putT kts k t) k = some t := by
  rw [putT_in h]
  induction kts with
  | nil => cases h
  | cons kv r ih =>
    unfold valT at ih ⊢
    rw [List.map_cons, List.find?_cons]
    by_cases e : kv.1 = k
    · rw [if_pos e]
      have : decide ((kv.1, t).1 = k) = true := decide_eq_true e
      rw [this]
      rfl
    · rw [if_neg e, decide_eq_false e]
      have h : k ∈ r.map (·.1) := by
        rcases List.mem_cons.mp (show k ∈ kv.1 :: r.map (·.1) from h) with z | z
        · exact absurd z.symm e
        · exact z
      exact ih h
theorem valT_put_ne {kts : KT} {k k' : Key} {t : T} (h : k ∈ kts.map (·.1)) (ne : k' ≠ k) : valT (putT kts k t) k' = valT kts k' := by
  rw [putT_in h]
  clear h
  induction kts with
  | nil => rfl
  | cons kv r ih =>
    unfold valT at ih ⊢
    rw [List.map_cons, List.find?_cons, List.find?_cons]
    by_cases e : kv.1 = k
    · rw [if_pos e]
      have e1 : decide ((kv.1, t).1 = k') = false := decide_eq_false fun z => ne (z.symm.trans e)
      have e2 : decide (kv.1 = k') = false := decide_eq_false fun z => ne (z.symm.trans e)
      rw [e1]
      exact ih
    · rw [if_neg e]
      by_cases e' : kv.1 = k'
      · rw [decide_eq_true e']
      · rw [decide_eq_false e']
        exact ih
/-! ### two steps that are apart -/
def Ind (r s : Wy) : Prop := (∀ bd h ρ ρ', ResOk r bd h ρ' → ResOk s bd h ρ → ∀ σ, ResOk s (updB r σ bd) (updH r σ h) ρ) ∧ ∀ bd h ρ ρ', ResOk r bd h ρ' → ResOk s bd h ρ → ∀ σ τ, updB s τ (updB r σ bd) = updB r σ (updB s τ bd) ∧ updH s τ (updH r σ h) = updH r σ (updH s τ h)
theorem ind_no (s : Wy) : Ind .no s := ⟨fun _ _ _ _ _ q _ => q, fun _ _ _ _ _ _ _ _ => ⟨rfl, rfl⟩⟩
theorem ind_no' (s : Wy) : Ind s .no := ⟨fun _ _ _ _ _ _ _ => trivial, fun _ _ _ _ _ _ _ _ => ⟨rfl, rfl⟩⟩
theorem inr_ne {x y : Str} (h : ¬ x = y) : (Sum.inr x : Key) ≠ Sum.inr y := fun z => h (Sum.inr.inj z)
theorem ind_ne {r s : Wy} (h : ¬ r.nm = s.nm) (hl : ¬ ((∃ y, r = .lock y) ∧ ∃ y, s = .lock y)) : Ind r s := by
  refine ⟨fun bd h ρ ρ' hr hs σ => ?_, fun bd h ρ ρ' hr hs σ τ => ?_⟩
  · cases r <;> cases s <;> first
      | exact trivial
      | exact absurd ⟨⟨_, rfl⟩, ⟨_, rfl⟩⟩ hl
      | exact hs
      | exact (valT_put_ne (valT_in hr) (inr_ne fun z => h (z.symm))).trans hs
  · cases r <;> cases s <;> first
      | exact ⟨rfl, rfl⟩
      | exact absurd ⟨⟨_, rfl⟩, ⟨_, rfl⟩⟩ hl
      | exact ⟨putT_comm (valT_in hr) (valT_in hs) (inr_ne h), rfl⟩
theorem ind_read (x y : Str) : Ind (.read x) (.read y) := ⟨fun _ _ _ _ _ q _ => q, fun _ _ _ _ _ _ _ _ => ⟨rfl, rfl⟩⟩
theorem sf_lock {ow bx : List Str} {l y : Str} {t : T} (h : SF ow bx l t (.lock y)) : y = l := by cases h <;> rfl
theorem bad {r s : Wy} (h1 : r.some = true) (h2 : s.some = true) (hn : r.nm = s.nm) (h : ap r s = true) (hab : (r.way = "lock" ∨ r.way = "write") ∨ r.way ≠ s.way) : False := by
  rw [ap_same h1 h2 hn, Bool.and_eq_true] at h
  have e := of_decide_eq_true h.1
  have m := of_decide_eq_true h.2
  rcases hab with (q | q) | ne
  · rw [q] at m; exact absurd m (by decide)
  · rw [q] at m; exact absurd m (by decide)
  · exact ne e
theorem ap_ind {ow bx : List Str} {l : Str} {t u : T} {r s : Wy} (ht : SF ow bx l t r) (hu : SF ow bx l u s) (h : ap r s = true) : Ind r s ∨ ∃ y, r = .add y ∧ s = .add y := by
  by_cases hn : r.nm = s.nm
  · cases r with
    | no => exact .inl (ind_no s)
    | lock y => cases s with
      | no => exact .inl (ind_no' _)
      | _ => exact (bad rfl rfl hn h (.inl (.inl rfl))).elim
    | read y => cases s with
      | no => exact .inl (ind_no' _)
      | read z => exact .inl (ind_read _ _)
      | lock z => exact (bad rfl rfl hn h (.inr (show ("read" : Str) ≠ "lock" by decide))).elim
      | write z => exact (bad rfl rfl hn h (.inr (show ("read" : Str) ≠ "write" by decide))).elim
      | add z => exact (bad rfl rfl hn h (.inr (show ("read" : Str) ≠ "add" by decide))).elim
    | write y => cases s with
      | no => exact .inl (ind_no' _)
      | _ => exact (bad rfl rfl hn h (.inl (.inr rfl))).elim
    | add y => cases s with
      | no => exact .inl (ind_no' _)
      | add z =>
        have e : y = z := hn
        subst e
        exact .inr ⟨y, rfl, rfl⟩
      | lock z => exact (bad rfl rfl hn h (.inr (show ("add" : Str) ≠ "lock" by decide))).elim
      | read z => exact (bad rfl rfl hn h (.inr (show ("add" : Str) ≠ "read" by decide))).elim
      | write z => exact (bad rfl rfl hn h (.inr (show ("add" : Str) ≠ "write" by decide))).elim
  · refine .inl (ind_ne hn ?_)
    rintro ⟨⟨y, rfl⟩, ⟨z, rfl⟩⟩
    exact hn ((sf_lock ht).trans (sf_lock hu).symm)
theorem sf_res {ow bx : List Str} {l : Str} {t : T} {r : Wy} {bd : KT} {h : Int} (hs : SF ow bx l t r) (hb : ∀ y ∈ bx, ∃ i, valT bd (.inr y) = some (.int i)) : ∃ ρ, ResOk r bd h ρ := by
  cases hs with
  | take => exact ⟨h, rfl⟩
  | give => exact ⟨h, rfl⟩
  | get _ hy => exact hb _ hy
  | add hy _ => exact hb _ hy
  | put hy _ => exact hb _ hy
  | wait hy _ => exact hb _ hy
  | set _ _ => exact ⟨0, trivial⟩
  | check _ => exact ⟨0, trivial⟩
  | skip => exact ⟨0, trivial⟩
  | unl _ => exact ⟨0, trivial⟩
/-- both orders come to the same -/
theorem commute {ow bx : List Str} {l : Str} {t u : T} {r s : Wy} {size : Int} {bd o0 o1 : KT} {h : Int} (ht : SF ow bx l t r) (hu : SF ow bx l u s) (ha : ap r s = true)
    (hb : ∀ y ∈ bx, ∃ i, valT bd (.inr y) = some (.int i)) (h0 : ∀ x ∈ ow, ∃ i, valT o0 (.inr x) = some (.int i)) (h1 : ∀ x ∈ ow, ∃ i, valT o1 (.inr x) = some (.int i)) :
    ∃ b0 b1, St size t bd h o0 b0 ∧ St size u bd h o1 b1 ∧ (b0 = false → b1 = false → ∃ bd1 h1 o0' p0 bd2 h2 o1' p1 bd1' h1', Eff size 0 t bd h o0 bd1 h1 o0' p0 ∧ St size u bd1 h1 o1 false ∧ Eff size 1 u bd1 h1 o1 bd2 h2 o1' p1 ∧
      Eff size 1 u bd h o1 bd1' h1' o1' p1 ∧ St size t bd1' h1' o0 false ∧ Eff size 0 t bd1' h1' o0 bd2 h2 o0' p0) := by
  obtain ⟨ρ0, e0⟩ := sf_res (h := h) ht hb
  obtain ⟨ρ1, e1⟩ := sf_res (h := h) hu hb
  rcases ap_ind ht hu ha with ind | ⟨y, rfl, rfl⟩
  · obtain ⟨σ, o0', p0, b0, f0⟩ := sf_run (size := size) (wk := 0) ht h0 ρ0
    obtain ⟨τ, o1', p1, b1, f1⟩ := sf_run (size := size) (wk := 1) hu h1 ρ1
    refine ⟨b0, b1, (f0 bd h e0).2, (f1 bd h e1).2, fun z0 z1 => ?_⟩
    subst z0 z1
    have r1 := ind.1 bd h ρ1 ρ0 e0 e1 σ
    obtain ⟨c1, c2⟩ := ind.2 bd h ρ1 ρ0 e0 e1 σ τ
    have r0 : ResOk r (updB s τ bd) (updH s τ h) ρ0 := by
      rcases ap_ind hu ht (by rw [ap_comm]; exact ha) with ind' | ⟨y, rfl, rfl⟩
      · exact ind'.1 bd h ρ0 ρ1 e1 e0 τ
      · exact absurd (ind.2 bd h ρ1 ρ0 e0 e1) (fun _ => by
          have q := ind.1 bd h ρ1 ρ0 e0 e1 (ρ1 + 1)
          have q' : valT (putT bd (.inr y) (.int (ρ1 + 1))) (.inr y) = some (.int ρ1) := q
          rw [valT_put (valT_in e0)] at q'
          have := T.int.inj (Option.some.inj q')
          omega)
    refine ⟨_, _, o0', p0, updB s τ (updB r σ bd), updH s τ (updH r σ h), o1', p1, _, _, (f0 bd h e0).1, (f1 _ _ r1).2, (f1 _ _ r1).1, (f1 bd h e1).1, (f0 _ _ r0).2, ?_⟩
    rw [c1, c2]
    exact (f0 _ _ r0).1
  · obtain ⟨w0, f0⟩ := sf_add (size := size) (wk := 0) ht h0
    obtain ⟨w1, f1⟩ := sf_add (size := size) (wk := 1) hu h1
    refine ⟨false, false, (f0 ρ0 bd h e0).2, (f1 ρ1 bd h e1).2, fun _ _ => ?_⟩
    have eq : ρ1 = ρ0 := T.int.inj (Option.some.inj ((show valT bd (.inr y) = some (.int ρ1) from e1).symm.trans e0))
    subst eq
    have k := valT_in e0
    have g1 := f1 ((ρ1 + w0) % size) (putT bd (.inr y) (.int ((ρ1 + w0) % size))) h (valT_put k)
    have g0 := f0 ((ρ1 + w1) % size) (putT bd (.inr y) (.int ((ρ1 + w1) % size))) h (valT_put k)
    rw [putT_put k] at g1 g0
    have e : ((ρ1 + w0) % size + w1) % size = ((ρ1 + w1) % size + w0) % size := by
      rw [Int.emod_add_emod, Int.emod_add_emod]
      congr 1
      omega
    refine ⟨_, _, o0, 1, putT bd (.inr y) (.int (((ρ1 + w0) % size + w1) % size)), h, o1, 1, _, _, (f0 ρ1 bd h e0).1, g1.2, g1.1, (f1 ρ1 bd h e1).1, g0.2, ?_⟩
    rw [e]
    exact g0.1
theorem num_put {kts : KT} {x : Str} {i : Int} (h : NumD kts) : NumD (putT kts (.inr x) (.int i)) := fun p hp => (putT_mem hp).elim (h p) fun e => ⟨x, i, e⟩
theorem Eff.num {size wk : Int} {t : T} {bd od bd' od' : KT} {h h' pl : Int} (e : Eff size wk t bd h od bd' h' od' pl) (nb : NumD bd) (no : NumD od) : NumD bd' ∧ NumD od' ∧ bd'.length ≤ bd.length + 1 ∧ od'.length ≤ od.length + 1 := by
  cases e <;> refine ⟨?_, ?_, ?_, ?_⟩ <;> first
    | exact nb
    | exact no
    | exact num_put nb
    | exact num_put no
    | exact putT_len
    | omega
end K04
end
section
set_option Elab.async false
set_option linter.all false
set_option maxRecDepth 100000
set_option maxHeartbeats 4000000
namespace K04
open PySem PySem.Spec PyProof.Rows L2 TL
seal UE UT UA US USs UI UG UO UW PTs uComp uOr uAnd uSeq
section
variable {P : Program} {w : World} {K : PySem.W.Frag} {mg : Str → Option Value} {base : Heap}
/-! ### touched -/
def cTouched : List T → TH → UX → Prop := fun ts S Pp => ∃ (ow bx : List Str) (l : Str) (t : T) (r : Wy), ts = [t] ∧ SF ow bx l t r ∧ Pp (wT r) S
theorem touch_of {ow bx : List Str} {l : Str} {t : T} {r : Wy} (hs : SF ow bx l t r) : ∃ z rest, t = .tup (.str z :: rest) ∧ ((∃ i y wy, valT touchTree (.inr z) = some (.tup [.int i, .str wy]) ∧ atI (T.str z :: rest) i = some y ∧ wT r = .tup [y, .str wy]) ∨ (valT touchTree (.inr z) = none ∧ wT r = .non)) := by
  cases hs with
  | take => exact ⟨_, _, rfl, .inl ⟨_, _, _, rfl, at1, rfl⟩⟩
  | give => exact ⟨_, _, rfl, .inl ⟨_, _, _, rfl, at1, rfl⟩⟩
  | get _ _ => exact ⟨_, _, rfl, .inl ⟨_, _, _, rfl, at2, rfl⟩⟩
  | add _ _ => exact ⟨_, _, rfl, .inl ⟨_, _, _, rfl, at1, rfl⟩⟩
  | put _ _ => exact ⟨_, _, rfl, .inl ⟨_, _, _, rfl, at1, rfl⟩⟩
  | wait _ _ => exact ⟨_, _, rfl, .inl ⟨_, _, _, rfl, at1, rfl⟩⟩
  | set _ _ => exact ⟨_, _, rfl, .inr ⟨rfl, rfl⟩⟩
  | check _ => exact ⟨_, _, rfl, .inr ⟨rfl, rfl⟩⟩
  | skip => exact ⟨_, _, rfl, .inr ⟨rfl, rfl⟩⟩
  | unl _ => exact ⟨_, _, rfl, .inr ⟨rfl, rfl⟩⟩
theorem scTouched : FnScope ["step", "touch"] ["step"] (defScope (top 3)) := ⟨rfl, rfl, rfl, by decide +kernel, rfl, by decide +kernel, by decide +kernel⟩
theorem touched (N : Nm P w K mg) (d : Stands K mg "touched" ["step"] (top 3)) : Has P w K mg base 1 "touched" ["step"] cTouched := by
  have sc := scTouched
  refine has_of (k := 0) d sc (fun ts S Pp h => ?_) fun cdv f A outer s H E hr => ?_
  · obtain ⟨ow, bx, l, t, r, rfl, _⟩ := h; rfl
  refine ⟨_, (uss_cons (us_set 1 sc.nd (ue_kgetn rfl N.TOUCHES (ue_ix (uv 0) ue_int) ⟨rfl, rfl, rfl, rfl⟩))
      (uss_cons (us_if (ut_isN (uv 1) ue_non) (uss_one (us_ret ue_non)) uss_nil)
      (uss_one (us_ret (ue_tup (ua_cons (ue_ix (uv 0) (ue_ix (uv 1) ue_int)) (ua_cons (ue_ix (uv 1) ue_int) ua_nil))))))), fun ts S Pp h => ?_⟩
  obtain ⟨ow, bx, l, t, r, rfl, hs, h⟩ := h
  have o2 : 2 ≤ sizeLine := by decide
  obtain ⟨z, rest, rfl, q⟩ := touch_of hs
  rcases q with ⟨i, y, wy, e, ey, er⟩ | ⟨e, er⟩
  · rw [er] at h
    refine seq_join (fun env S' => env = [some (.tup (.str z :: rest)), some (.tup [.int i, .str wy])] ∧ S = S') (fun k hk => ⟨_, at0, ?_⟩) ?_
    · show k ([some (T.tup (.str z :: rest)), none].set 1 (some ((valT touchTree (.inr z)).getD .non))) S
      rw [e]
      exact hk _ _ ⟨rfl, rfl⟩
    rintro _ _ ⟨rfl, rfl⟩
    refine seq_join (fun env S' => env = [some (.tup (.str z :: rest)), some (.tup [.int i, .str wy])] ∧ S = S') (fun k hk => ⟨fun e => (by cases e), fun _ => hk _ _ ⟨rfl, rfl⟩⟩) ?_
    rintro _ _ ⟨rfl, rfl⟩
    exact ⟨_, at0, _, ey, _, at1, o2, h⟩
  · rw [er] at h
    refine seq_join (fun env S' => env = [some (.tup (.str z :: rest)), some .non] ∧ S = S') (fun k hk => ⟨_, at0, ?_⟩) ?_
    · show k ([some (T.tup (.str z :: rest)), none].set 1 (some ((valT touchTree (.inr z)).getD .non))) S
      rw [e]
      exact hk _ _ ⟨rfl, rfl⟩
    rintro _ _ ⟨rfl, rfl⟩
    refine seq_join (fun _ _ => False) (fun k hk => ⟨fun _ => h, fun e => (by cases e)⟩) ?_
    exact fun _ _ z => z.elim
/-! ### apart -/
def cApart : List T → TH → UX → Prop := fun ts S Pp => ∃ (ow bx : List Str) (l : Str) (t u : T) (r s : Wy), ts = [t, u] ∧ SF ow bx l t r ∧ SF ow bx l u s ∧ Pp (.bl (ap r s)) S
theorem scApart : FnScope ["step", "other", "mine", "theirs"] ["step", "other"] (defScope (top 4)) := ⟨rfl, rfl, rfl, by decide +kernel, rfl, by decide +kernel, by decide +kernel⟩
theorem Wy.no_of {r : Wy} (h : r.some = false) : r = .no := by cases r <;> first | rfl | cases h
theorem ap_no {r s : Wy} (h : r.some = false) : ap r s = true := by unfold ap; rw [h]; rfl
theorem ap_no' {r s : Wy} (h : s.some = false) : ap r s = true := by rw [ap_comm]; exact ap_no h
theorem ap_ne {r s : Wy} (h : ¬ r.nm = s.nm) : ap r s = true := by
  unfold ap
  rw [decide_eq_false h]
  cases r.some <;> cases s.some <;> rfl
theorem apart {m : Nat} (N : Nm P w K mg) (d : Stands K mg "apart" ["step", "other"] (top 4)) (c_touched : Has P w K mg base m "touched" ["step"] cTouched) : Has P w K mg base (m + 1) "apart" ["step", "other"] cApart := by
  have sc := scApart
  refine has_of (k := m) d sc (fun ts S Pp h => ?_) fun cdv f A outer s H E hr => ?_
  · obtain ⟨ow, bx, l, t, u, r, s, rfl, _⟩ := h; rfl
  have hu0 := hu0_of hr
  refine ⟨_, (uss_cons (us_set 2 sc.nd (ue_calln c_touched hr rfl (ua_cons (uv 0) ua_nil)))
      (uss_cons (us_set 3 sc.nd (ue_calln c_touched hr rfl (ua_cons (uv 1) ua_nil)))
      (uss_cons (us_if (UW.ut (uw_or (ut_isN (uv 2) ue_non) (uw_or (ut_isN (uv 3) ue_non) (uw_or1 (ut_ne hu0 (ue_ix (uv 2) ue_int) (ue_ix (uv 3) ue_int)))))) (uss_one (us_ret ue_bl)) uss_nil)
      (uss_one (us_ret (ue_and (ue_eq hu0 (ue_ix (uv 2) ue_int) (ue_ix (uv 3) ue_int)) (ue_one (ue_in (ue_ix (uv 2) ue_int) (ue_gtup rfl N.SHARED_WAYS))))))))), fun ts S Pp h => ?_⟩
  obtain ⟨ow, bx, l, t, u, r, s, rfl, ht, hu, h⟩ := h
  refine seq_join (fun env S' => env = [some t, some u, some (wT r), none] ∧ S = S') (fun k hk => ⟨ow, bx, l, t, r, rfl, ht, hk _ _ ⟨rfl, rfl⟩⟩) ?_
  rintro _ _ ⟨rfl, rfl⟩
  refine seq_join (fun env S' => env = [some t, some u, some (wT r), some (wT s)] ∧ S = S') (fun k hk => ⟨ow, bx, l, u, s, rfl, hu, hk _ _ ⟨rfl, rfl⟩⟩) ?_
  rintro _ _ ⟨rfl, rfl⟩
  cases er : r.some with
  | false =>
    rw [ap_no er] at h
    cases Wy.no_of er
    exact seq_join (fun _ _ => False) (fun k hk => or_first (fun _ h => h) ⟨fun _ => h, fun e => (by cases e)⟩) fun _ _ z => z.elim
  | true =>
    rw [wT_some er]
    cases es : s.some with
    | false =>
      rw [ap_no' es] at h
      cases Wy.no_of es
      exact seq_join (fun _ _ => False) (fun k hk => or_skip (fun _ h => h) (or_first (fun _ h => h) ⟨fun _ => h, fun e => (by cases e)⟩)) fun _ _ z => z.elim
    | true =>
      rw [wT_some es]
      refine seq_join (fun env S' => env = [some t, some u, some (.tup [.str r.nm, .str r.way]), some (.tup [.str s.nm, .str s.way])] ∧ S = S' ∧ r.nm = s.nm) (fun k hk => or_skip (fun _ h => h) (or_skip (fun _ h => h) ⟨_, at0, _, at0, fun e => ?_, fun e => ?_⟩)) ?_
      · have ne : ¬ r.nm = s.nm := fun z => by simp [z] at e
        rw [ap_ne ne] at h
        exact h
      · refine hk _ _ ⟨rfl, rfl, ?_⟩
        by_cases z : r.nm = s.nm
        · exact z
        · simp [z] at e
      rintro _ _ ⟨rfl, rfl, en⟩
      rw [ap_same er es en] at h
      refine ⟨_, at1, _, at1, fun e => ⟨_, at1, ["read", "add"], rfl, ?_⟩, fun e => ?_⟩
      · have e1 : decide (r.way = s.way) = true := by simpa using e
        rw [e1, Bool.true_and] at h
        exact h
      · have e1 : decide (r.way = s.way) = false := by simpa using e
        rw [e1, Bool.false_and] at h
        exact h
/-! ### _law_touched -/
def waysTree : KT := [(.inr "get", .str "read"), (.inr "wait", .str "read"), (.inr "put", .str "write"), (.inr "add", .str "add"), (.inr "take", .str "lock"), (.inr "give", .str "lock")]
theorem scLTouched : FnScope ["_law_step_here", "_law_ways"] ["_law_step_here"] (defScope (top 13)) := ⟨rfl, rfl, rfl, by decide +kernel, rfl, by decide +kernel, by decide +kernel⟩
theorem law_touched (N : Nm P w K mg) (d : Stands K mg "_law_touched" ["_law_step_here"] (top 13)) : Has P w K mg base 1 "_law_touched" ["_law_step_here"] cTouched := by
  have sc := scLTouched
  refine has_of (k := 0) d sc (fun ts S Pp h => ?_) fun cdv f A outer s H E hr => ?_
  · obtain ⟨ow, bx, l, t, r, rfl, _⟩ := h; rfl
  have hu0 := hu0_of hr
  have hu1 := hu_of hr
  refine ⟨_, (uss_cons (us_set 1 sc.nd (ue_disp (Ds.cons ue_str ue_str (Ds.cons ue_str ue_str (Ds.cons ue_str ue_str (Ds.cons ue_str ue_str (Ds.cons ue_str ue_str (Ds.cons ue_str ue_str Ds.nil))))))))
      (uss_cons (us_if (ut_dnotIn hu1 (ue_ix (uv 0) ue_int) (uv 1)) (uss_one (us_ret ue_non)) uss_nil)
      (uss_one (us_ret (ue_tup (ua_cons (ue_ix (uv 0) (ue_plus ue_int (ue_intC rfl N.int (ua_cons (ue_eq hu0 (ue_ix (uv 0) ue_int) ue_str) ua_nil)))) (ua_cons (ue_dx hu1 (uv 1) (ue_ix (uv 0) ue_int)) ua_nil))))))), fun ts S Pp h => ?_⟩
  obtain ⟨ow, bx, l, t, r, rfl, hs, h⟩ := h
  have o2 : 2 ≤ sizeLine := by decide
  have em : mergeT [] waysTree = waysTree := by
    have q := mergeT_nodup waysTree [] (by decide +kernel)
    simpa using q
  refine seq_join (fun env S' => env = [some t, some (.dct waysTree)] ∧ S = S') (fun k hk => fun p hp => ⟨updT_same, waysTree, rfl, hk _ _ ⟨by rw [em]; rfl, (del_upd hp).symm⟩⟩) ?_
  rintro _ _ ⟨rfl, rfl⟩
  cases hs with
  | take => exact seq_join (fun env S' => env = [some _, some (.dct waysTree)] ∧ S = S') (fun k hk => ⟨_, at0, _, rfl, fun e => absurd e (by decide +kernel), fun _ => hk _ _ ⟨rfl, rfl⟩⟩) fun _ _ ⟨e1, e2⟩ => by subst e1 e2; exact ⟨_, at0, _, (show atI _ (1 : Int) = some _ from at1), _, at0, _, _, rfl, rfl, o2, h⟩
  | give => exact seq_join (fun env S' => env = [some _, some (.dct waysTree)] ∧ S = S') (fun k hk => ⟨_, at0, _, rfl, fun e => absurd e (by decide +kernel), fun _ => hk _ _ ⟨rfl, rfl⟩⟩) fun _ _ ⟨e1, e2⟩ => by subst e1 e2; exact ⟨_, at0, _, (show atI _ (1 : Int) = some _ from at1), _, at0, _, _, rfl, rfl, o2, h⟩
  | get _ _ => exact seq_join (fun env S' => env = [some _, some (.dct waysTree)] ∧ S = S') (fun k hk => ⟨_, at0, _, rfl, fun e => absurd e (by decide +kernel), fun _ => hk _ _ ⟨rfl, rfl⟩⟩) fun _ _ ⟨e1, e2⟩ => by subst e1 e2; exact ⟨_, at0, _, (show atI _ (2 : Int) = some _ from at2), _, at0, _, _, rfl, rfl, o2, h⟩
  | add _ _ => exact seq_join (fun env S' => env = [some _, some (.dct waysTree)] ∧ S = S') (fun k hk => ⟨_, at0, _, rfl, fun e => absurd e (by decide +kernel), fun _ => hk _ _ ⟨rfl, rfl⟩⟩) fun _ _ ⟨e1, e2⟩ => by subst e1 e2; exact ⟨_, at0, _, (show atI _ (1 : Int) = some _ from at1), _, at0, _, _, rfl, rfl, o2, h⟩
  | put _ _ => exact seq_join (fun env S' => env = [some _, some (.dct waysTree)] ∧ S = S') (fun k hk => ⟨_, at0, _, rfl, fun e => absurd e (by decide +kernel), fun _ => hk _ _ ⟨rfl, rfl⟩⟩) fun _ _ ⟨e1, e2⟩ => by subst e1 e2; exact ⟨_, at0, _, (show atI _ (1 : Int) = some _ from at1), _, at0, _, _, rfl, rfl, o2, h⟩
  | wait _ _ => exact seq_join (fun env S' => env = [some _, some (.dct waysTree)] ∧ S = S') (fun k hk => ⟨_, at0, _, rfl, fun e => absurd e (by decide +kernel), fun _ => hk _ _ ⟨rfl, rfl⟩⟩) fun _ _ ⟨e1, e2⟩ => by subst e1 e2; exact ⟨_, at0, _, (show atI _ (1 : Int) = some _ from at1), _, at0, _, _, rfl, rfl, o2, h⟩
  | set _ _ => exact seq_join (fun _ _ => False) (fun k hk => ⟨_, at0, _, rfl, fun _ => h, fun e => absurd e (by decide +kernel)⟩) fun _ _ z => z.elim
  | check _ => exact seq_join (fun _ _ => False) (fun k hk => ⟨_, at0, _, rfl, fun _ => h, fun e => absurd e (by decide +kernel)⟩) fun _ _ z => z.elim
  | skip => exact seq_join (fun _ _ => False) (fun k hk => ⟨_, at0, _, rfl, fun _ => h, fun e => absurd e (by decide +kernel)⟩) fun _ _ z => z.elim
  | unl _ => exact seq_join (fun _ _ => False) (fun k hk => ⟨_, at0, _, rfl, fun _ => h, fun e => absurd e (by decide +kernel)⟩) fun _ _ z => z.elim
/-! ### _law_due -/
theorem scDue : FnScope ["_law_step_here", "_law_other", "_law_one", "_law_two"] ["_law_step_here", "_law_other"] (defScope (top 14)) := ⟨rfl, rfl, rfl, by decide +kernel, rfl, by decide +kernel, by decide +kernel⟩
theorem law_due {m : Nat} (N : Nm P w K mg) (d : Stands K mg "_law_due" ["_law_step_here", "_law_other"] (top 14)) (c_law_touched : Has P w K mg base m "_law_touched" ["_law_step_here"] cTouched) : Has P w K mg base (m + 1) "_law_due" ["_law_step_here", "_law_other"] cApart := by
  have sc := scDue
  refine has_of (k := m) d sc (fun ts S Pp h => ?_) fun cdv f A outer s H E hr => ?_
  · obtain ⟨ow, bx, l, t, u, r, s, rfl, _⟩ := h; rfl
  have hu0 := hu0_of hr
  have hu64 := hr.units
  refine ⟨_, (uss_cons (us_set 2 sc.nd (ue_calln c_law_touched hr rfl (ua_cons (uv 0) ua_nil)))
      (uss_cons (us_set 3 sc.nd (ue_calln c_law_touched hr rfl (ua_cons (uv 1) ua_nil)))
      (uss_cons (us_if (UW.ut (uw_or (ut_isN (uv 2) ue_non) (uw_or (ut_isN (uv 3) ue_non) (uw_or1 (ut_ne hu0 (ue_ix (uv 2) ue_int) (ue_ix (uv 3) ue_int)))))) (uss_one (us_ret ue_bl)) uss_nil)
      (uss_one (us_ret (ue_and (ue_eqP hu64 (uv 2) (uv 3)) (ue_one (ue_in (ue_ix (uv 2) ue_int) (ue_tup (ua_consts (Cs.s (Cs.s Cs.nil)))))))))))), fun ts S Pp h => ?_⟩
  obtain ⟨ow, bx, l, t, u, r, s, rfl, ht, hu, h⟩ := h
  refine seq_join (fun env S' => env = [some t, some u, some (wT r), none] ∧ S = S') (fun k hk => ⟨ow, bx, l, t, r, rfl, ht, hk _ _ ⟨rfl, rfl⟩⟩) ?_
  rintro _ _ ⟨rfl, rfl⟩
  refine seq_join (fun env S' => env = [some t, some u, some (wT r), some (wT s)] ∧ S = S') (fun k hk => ⟨ow, bx, l, u, s, rfl, hu, hk _ _ ⟨rfl, rfl⟩⟩) ?_
  rintro _ _ ⟨rfl, rfl⟩
  cases er : r.some with
  | false =>
    rw [ap_no er] at h
    cases Wy.no_of er
    exact seq_join (fun _ _ => False) (fun k hk => or_first (fun _ h => h) ⟨fun _ => h, fun e => (by cases e)⟩) fun _ _ z => z.elim
  | true =>
    rw [wT_some er]
    cases es : s.some with
    | false =>
      rw [ap_no' es] at h
      cases Wy.no_of es
      exact seq_join (fun _ _ => False) (fun k hk => or_skip (fun _ h => h) (or_first (fun _ h => h) ⟨fun _ => h, fun e => (by cases e)⟩)) fun _ _ z => z.elim
    | true =>
      rw [wT_some es]
      refine seq_join (fun env S' => env = [some t, some u, some (.tup [.str r.nm, .str r.way]), some (.tup [.str s.nm, .str s.way])] ∧ S = S' ∧ r.nm = s.nm) (fun k hk => or_skip (fun _ h => h) (or_skip (fun _ h => h) ⟨_, at0, _, at0, fun e => ?_, fun e => ?_⟩)) ?_
      · have ne : ¬ r.nm = s.nm := fun z => by simp [z] at e
        rw [ap_ne ne] at h
        exact h
      · refine hk _ _ ⟨rfl, rfl, ?_⟩
        by_cases z : r.nm = s.nm
        · exact z
        · simp [z] at e
      rintro _ _ ⟨rfl, rfl, en⟩
      rw [ap_same er es en] at h
      have eb : (r.nm == s.nm && r.way == s.way) = decide (r.way = s.way) := by
        rw [en, beq_self_eq_true, Bool.true_and]
        by_cases z : r.way = s.way
        · rw [z, beq_self_eq_true, decide_eq_true rfl]
        · rw [decide_eq_false z, beq_eq_false_iff_ne.mpr z]
      refine ⟨fun e => ⟨_, at1, show 2 ≤ sizeLine by decide, ["read", "add"], rfl, ?_⟩, fun e => ?_⟩
      · rw [Bool.false_xor, eb] at e
        rw [e, Bool.true_and] at h
        exact h
      · rw [Bool.false_xor, eb] at e
        rw [e, Bool.false_and] at h
        exact h
/-! ### _law_step -/
def cLStep : List T → TH → UX → Prop := fun ts S Pp => ∃ (a : Addr) (ow bx : List Str) (l : Str) (b : Nat), ts = [.ref a, .lst (ow.map T.str), .lst (bx.map T.str), .lst [.str l], .int (b : Int)] ∧ Sd S a ∧ Nms ow ∧ Nms bx ∧ b ≤ 90 ∧
  ∀ t r S', Dr a S S' → SF ow bx l t r → Pp t S'
theorem scLStep : FnScope ["_law_state_here", "_law_owns", "_law_boxes", "_law_locks", "_law_behind", "_law_kind", "_law_value_here"] ["_law_state_here", "_law_owns", "_law_boxes", "_law_locks", "_law_behind"] (defScope (top 11)) := ⟨rfl, rfl, rfl, by decide +kernel, rfl, by decide +kernel, by decide +kernel⟩
theorem pick_name {zs : List Str} {r : Int} (h0 : 0 ≤ r) (h1 : r < (zs.map T.str).length) : ∃ z ∈ zs, atI (zs.map T.str) r = some (.str z) := by
  rw [List.length_map] at h1
  exact at_map T.str h0 h1
theorem law_step {m : Nat} (N : Nm P w K mg) (d : Stands K mg "_law_step" ["_law_state_here", "_law_owns", "_law_boxes", "_law_locks", "_law_behind"] (top 11)) (c_law_next : Has P w K mg base m "_law_next" ["_law_state_here", "_law_size"] cNext) (c_law_value : Has P w K mg base m "_law_value" ["_law_state_here", "_law_deep", "_law_owns", "_law_boxes"] (cVals 5)) : Has P w K mg base (m + 1) "_law_step" ["_law_state_here", "_law_owns", "_law_boxes", "_law_locks", "_law_behind"] cLStep := by
  have sc := scLStep
  refine has_of (k := m) d sc (fun ts S Pp h => ?_) fun cdv f A outer s H E hr => ?_
  · obtain ⟨a, ow, bx, l, b, rfl, _⟩ := h; rfl
  have hu0 := hu0_of hr
  refine ⟨_, (uss_cons (us_set 5 sc.nd (ue_calln c_law_next hr rfl (ua_cons (uv 0) (ua_cons ue_int ua_nil))))
      (uss_cons (us_set 6 sc.nd (ue_calln c_law_value hr rfl (ua_cons (uv 0) (ua_cons (ue_ix (ue_lst (ua_cons ue_int (ua_cons ue_int (ua_cons ue_int (ua_cons (ue_plus ue_int (ue_calln c_law_next hr rfl (ua_cons (uv 0) (ua_cons ue_int ua_nil)))) ua_nil))))) (ue_calln c_law_next hr rfl (ua_cons (uv 0) (ua_cons ue_int ua_nil)))) (ua_cons (uv 1) (ua_cons (ue_lst ua_nil) ua_nil))))))
      (uss_cons (us_if (UW.ut (uw_and (ut_lt (uv 5) ue_int) (uw_and1 (ut_gt (ue_len rfl N.len (ua_cons (uv 3) ua_nil)) ue_int)))) (uss_one (us_ret (ue_tup (ua_cons (ue_ix (ue_lst (ua_consts (Cs.s (Cs.s Cs.nil)))) (uv 5)) (ua_cons (ue_ix (uv 3) (ue_calln c_law_next hr rfl (ua_cons (uv 0) (ua_cons (ue_len rfl N.len (ua_cons (uv 3) ua_nil)) ua_nil)))) ua_nil))))) uss_nil)
      (uss_cons (us_if (UW.ut (uw_and (ut_lt (uv 5) ue_int) (uw_and (ut_gt (ue_len rfl N.len (ua_cons (uv 1) ua_nil)) ue_int) (uw_and1 (ut_gt (ue_len rfl N.len (ua_cons (uv 2) ua_nil)) ue_int))))) (uss_one (us_ret (ue_tup (ua_cons ue_str (ua_cons (ue_ix (uv 1) (ue_calln c_law_next hr rfl (ua_cons (uv 0) (ua_cons (ue_len rfl N.len (ua_cons (uv 1) ua_nil)) ua_nil)))) (ua_cons (ue_ix (uv 2) (ue_calln c_law_next hr rfl (ua_cons (uv 0) (ua_cons (ue_len rfl N.len (ua_cons (uv 2) ua_nil)) ua_nil)))) ua_nil)))))) uss_nil)
      (uss_cons (us_if (UW.ut (uw_and (ut_lt (uv 5) ue_int) (uw_and1 (ut_gt (ue_len rfl N.len (ua_cons (uv 2) ua_nil)) ue_int)))) (uss_one (us_ret (ue_tup (ua_cons (ue_ix (ue_lst (ua_consts (Cs.s (Cs.s (Cs.s Cs.nil))))) (ue_div (uv 5) ue_int)) (ua_cons (ue_ix (uv 2) (ue_calln c_law_next hr rfl (ua_cons (uv 0) (ua_cons (ue_len rfl N.len (ua_cons (uv 2) ua_nil)) ua_nil)))) (ua_cons (uv 6) ua_nil)))))) uss_nil)
      (uss_cons (us_if (UW.ut (uw_and (ut_eq hu0 (uv 5) ue_int) (uw_and1 (ut_gt (ue_len rfl N.len (ua_cons (uv 1) ua_nil)) ue_int)))) (uss_one (us_ret (ue_tup (ua_cons ue_str (ua_cons (ue_ix (uv 1) (ue_calln c_law_next hr rfl (ua_cons (uv 0) (ua_cons (ue_len rfl N.len (ua_cons (uv 1) ua_nil)) ua_nil)))) (ua_cons (uv 6) ua_nil)))))) uss_nil)
      (uss_cons (us_if (ut_lt (uv 5) ue_int) (uss_one (us_ret (ue_tup (ua_cons ue_str (ua_cons (uv 6) ua_nil))))) uss_nil)
      (uss_cons (us_if (ut_eq hu0 (uv 5) ue_int) (uss_one (us_ret (ue_tup (ua_cons ue_str (ua_cons (ue_calln c_law_next hr rfl (ua_cons (uv 0) (ua_cons (ue_plus (uv 4) ue_int) ua_nil))) ua_nil))))) uss_nil)
      (uss_cons (us_if (ut_eq hu0 (uv 5) ue_int) (uss_one (us_ret (ue_tup (ua_cons ue_str (ua_cons (uv 6) (ua_cons (ue_calln c_law_next hr rfl (ua_cons (uv 0) (ua_cons (ue_plus (uv 4) ue_int) ua_nil))) ua_nil)))))) uss_nil)
      (uss_cons (us_if (ut_gt (ue_len rfl N.len (ua_cons (uv 2) ua_nil)) ue_int) (uss_one (us_ret (ue_tup (ua_cons ue_str (ua_cons (ue_ix (uv 2) (ue_calln c_law_next hr rfl (ua_cons (uv 0) (ua_cons (ue_len rfl N.len (ua_cons (uv 2) ua_nil)) ua_nil)))) (ua_cons (ue_tup (ua_consts (Cs.s (Cs.i Cs.nil)))) ua_nil)))))) uss_nil)
      (uss_one (us_ret (ue_tup (ua_cons ue_str (ua_cons (ue_tup (ua_cons ue_str (ua_cons (ue_plus ue_int (ue_calln c_law_next hr rfl (ua_cons (uv 0) (ua_cons ue_int ua_nil)))) ua_nil))) ua_nil))))))))))))))), fun ts S0 Pp h => ?_⟩
  obtain ⟨a, ow, bx, l, b, rfl, hs, now, nbx, hb, h⟩ := h
  have o2 : 2 ≤ sizeLine := by decide
  have o3 : 3 ≤ sizeLine := by decide
  refine seq_join (fun env S => ∃ kd : Int, env = [some (.ref a), some (.lst (ow.map T.str)), some (.lst (bx.map T.str)), some (.lst [.str l]), some (.int b), some (.int kd), none] ∧ Dr a S0 S ∧ 0 ≤ kd ∧ kd < 12) (fun k hk => ⟨a, 12, rfl, hs, by decide, fun r S1 d1 r0 r1 => hk _ _ ⟨r, rfl, d1, r0, r1⟩⟩) ?_
  rintro _ S1 ⟨kd, rfl, d1, kd0, kd1⟩
  refine seq_join (fun env S => ∃ v : T, env = [some (.ref a), some (.lst (ow.map T.str)), some (.lst (bx.map T.str)), some (.lst [.str l]), some (.int b), some (.int kd), some v] ∧ Dr a S0 S ∧ VF ow [] 5 v) (fun k hk => ⟨a, 5, rfl, d1.sd, by decide, fun r5 S2 d2 r50 r51 => ⟨show 4 ≤ sizeLine by decide, a, 4, rfl, d2.sd, by decide, fun r4 S3 d3 r40 r41 => ?_⟩⟩) ?_
  · have pk : ∃ j : Nat, j < 5 ∧ atI [T.int 1, T.int 2, T.int 2, T.int (1 + r5)] r4 = some (.int ((j + 1 : Nat) : Int)) := by
      have : r4 = 0 ∨ r4 = 1 ∨ r4 = 2 ∨ r4 = 3 := by omega
      rcases this with rfl | rfl | rfl | rfl
      · exact ⟨0, by omega, rfl⟩
      · exact ⟨1, by omega, rfl⟩
      · exact ⟨1, by omega, rfl⟩
      · refine ⟨r5.toNat, by omega, ?_⟩
        rw [show ((r5.toNat + 1 : Nat) : Int) = 1 + r5 by omega]
        rfl
    obtain ⟨j, hj, ej⟩ := pk
    exact ⟨_, ej, show 0 ≤ sizeLine by decide, j, hj, a, ow, [], rfl, d3.sd, now, ⟨by decide, fun _ z => (by cases z)⟩, fun t S4 d4 vt => hk _ _ ⟨t, rfl, ((d1.trans d2).trans d3).trans d4, vt.up (by omega)⟩⟩
  rintro _ S2 ⟨v, rfl, d2, vv⟩
  clear d1 S1
  have tru : ∀ {b : Bool} {p : Prop} [Decidable p], (b && decide p) = true → p := fun {b p _} e => by
    rw [Bool.and_eq_true] at e
    exact of_decide_eq_true e.2
  have l1 : ∀ {r : Int}, 0 ≤ r → r < 1 → atI [T.str l] r = some (.str l) := fun {r} h0 h1 => by
    have : r = 0 := by omega
    subst this
    exact at0
  -- take, give
  refine seq_join (fun env S => env = [some (.ref a), some (.lst (ow.map T.str)), some (.lst (bx.map T.str)), some (.lst [.str l]), some (.int b), some (.int kd), some v] ∧ S = S2) (fun k hk => and_pure (fun _ h => h) (fun _ _ h => h) ⟨fun e => ?_, fun _ => hk _ _ ⟨rfl, rfl⟩⟩) ?_
  · have e1 : kd < 2 := by rw [Bool.and_eq_true] at e; exact of_decide_eq_true e.1
    have : kd = 0 ∨ kd = 1 := by omega
    rcases this with rfl | rfl
    · exact ⟨o2, .str "take", rfl, a, _, rfl, d2.sd, (by decide : (0 : Int) < 1), fun r S3 d3 r0 r1 => ⟨_, l1 r0 r1, o2, h _ _ _ (d2.trans d3) .take⟩⟩
    · exact ⟨o2, .str "give", rfl, a, _, rfl, d2.sd, (by decide : (0 : Int) < 1), fun r S3 d3 r0 r1 => ⟨_, l1 r0 r1, o2, h _ _ _ (d2.trans d3) .give⟩⟩
  rintro _ _ ⟨rfl, rfl⟩
  -- get
  refine seq_join (fun env S => env = [some (.ref a), some (.lst (ow.map T.str)), some (.lst (bx.map T.str)), some (.lst [.str l]), some (.int b), some (.int kd), some v] ∧ Dr a S0 S) (fun k hk => and_pure (fun _ h => h) (fun _ _ h => and_pure (fun _ h => h) (fun _ _ h => h) h) ⟨fun e => ?_, fun _ => hk _ _ ⟨rfl, d2⟩⟩) ?_
  · rw [Bool.and_eq_true, Bool.and_eq_true] at e
    refine ⟨a, _, rfl, d2.sd, of_decide_eq_true e.2.1, fun r S3 d3 r0 r1 => ?_⟩
    obtain ⟨y, ly, ey⟩ := pick_name r0 r1
    refine ⟨_, ey, a, _, rfl, d3.sd, of_decide_eq_true e.2.2, fun r' S4 d4 r0' r1' => ?_⟩
    obtain ⟨y', ly', ey'⟩ := pick_name r0' r1'
    exact ⟨_, ey', o3, h _ _ _ ((d2.trans d3).trans d4) (.get ly ly')⟩
  rintro _ S2 ⟨rfl, d2⟩
  -- add, put, wait
  refine seq_join (fun env S => env = [some (.ref a), some (.lst (ow.map T.str)), some (.lst (bx.map T.str)), some (.lst [.str l]), some (.int b), some (.int kd), some v] ∧ Dr a S0 S) (fun k hk => and_pure (fun _ h => h) (fun _ _ h => h) ⟨fun e => ?_, fun _ => hk _ _ ⟨rfl, d2⟩⟩) ?_
  · have e1 : kd < 7 := by rw [Bool.and_eq_true] at e; exact of_decide_eq_true e.1
    have e2 := tru e
    have wd : ∃ z : Str, (∀ y ∈ bx, ∃ r, SF ow bx l (.tup [.str z, .str y, v]) r) ∧ atI [T.str "add", T.str "put", T.str "wait"] (kd / 3) = some (.str z) := by
      have : kd / 3 = 0 ∨ kd / 3 = 1 ∨ kd / 3 = 2 := by omega
      rcases this with q | q | q <;> rw [q]
      · exact ⟨"add", fun y hy => ⟨_, .add hy vv⟩, rfl⟩
      · exact ⟨"put", fun y hy => ⟨_, .put hy vv⟩, rfl⟩
      · exact ⟨"wait", fun y hy => ⟨_, .wait hy vv⟩, rfl⟩
    obtain ⟨z, lz, ez⟩ := wd
    refine ⟨o3, ⟨by decide, by decide⟩, _, ez, a, _, rfl, d2.sd, e2, fun r S3 d3 r0 r1 => ?_⟩
    obtain ⟨y, ly, ey⟩ := pick_name r0 r1
    obtain ⟨wy, sf⟩ := lz y ly
    exact ⟨_, ey, o3, h _ _ _ (d2.trans d3) sf⟩
  rintro _ S2 ⟨rfl, d2⟩
  -- set
  refine seq_join (fun env S => env = [some (.ref a), some (.lst (ow.map T.str)), some (.lst (bx.map T.str)), some (.lst [.str l]), some (.int b), some (.int kd), some v] ∧ Dr a S0 S) (fun k hk => and_pure (fun _ h => h) (fun _ _ h => h) ⟨fun e => ?_, fun _ => hk _ _ ⟨rfl, d2⟩⟩) ?_
  · have e2 := tru e
    refine ⟨a, _, rfl, d2.sd, e2, fun r S3 d3 r0 r1 => ?_⟩
    obtain ⟨y, ly, ey⟩ := pick_name r0 r1
    exact ⟨_, ey, o3, h _ _ _ (d2.trans d3) (.set ly vv)⟩
  rintro _ S2 ⟨rfl, d2⟩
  -- check
  refine seq_join (fun env S => env = [some (.ref a), some (.lst (ow.map T.str)), some (.lst (bx.map T.str)), some (.lst [.str l]), some (.int b), some (.int kd), some v] ∧ Dr a S0 S) (fun k hk => ⟨fun _ => ⟨o2, h _ _ _ d2 (.check vv)⟩, fun _ => hk _ _ ⟨rfl, d2⟩⟩) ?_
  rintro _ S2 ⟨rfl, d2⟩
  -- skip
  refine seq_join (fun env S => env = [some (.ref a), some (.lst (ow.map T.str)), some (.lst (bx.map T.str)), some (.lst [.str l]), some (.int b), some (.int kd), some v] ∧ Dr a S0 S) (fun k hk => ⟨fun _ => ⟨a, _, rfl, d2.sd, show (0 : Int) < (b : Int) + 1 by omega, fun r S3 d3 r0 r1 => ⟨o2, h _ _ _ (d2.trans d3) .skip⟩⟩, fun _ => hk _ _ ⟨rfl, d2⟩⟩) ?_
  rintro _ S2 ⟨rfl, d2⟩
  -- unless
  refine seq_join (fun env S => env = [some (.ref a), some (.lst (ow.map T.str)), some (.lst (bx.map T.str)), some (.lst [.str l]), some (.int b), some (.int kd), some v] ∧ Dr a S0 S) (fun k hk => ⟨fun _ => ⟨a, _, rfl, d2.sd, show (0 : Int) < (b : Int) + 1 by omega, fun r S3 d3 r0 r1 => ⟨o3, h _ _ _ (d2.trans d3) (.unl vv)⟩⟩, fun _ => hk _ _ ⟨rfl, d2⟩⟩) ?_
  rintro _ S2 ⟨rfl, d2⟩
  -- add one
  refine seq_join (fun env S => env = [some (.ref a), some (.lst (ow.map T.str)), some (.lst (bx.map T.str)), some (.lst [.str l]), some (.int b), some (.int kd), some v] ∧ Dr a S0 S) (fun k hk => ⟨fun e => ⟨a, _, rfl, d2.sd, of_decide_eq_true e, fun r S3 d3 r0 r1 => ?_⟩, fun _ => hk _ _ ⟨rfl, d2⟩⟩) ?_
  · obtain ⟨y, ly, ey⟩ := pick_name r0 r1
    exact ⟨_, ey, o2, o3, h _ _ _ (d2.trans d3) (.add ly (.num (by decide) (by decide)))⟩
  rintro _ S2 ⟨rfl, d2⟩
  exact ⟨a, 2, rfl, d2.sd, by decide, fun r S3 d3 r0 r1 => ⟨o2, o2, h _ _ _ (d2.trans d3) (.check (.num (by omega) (by omega)))⟩⟩
end
end K04
end
section
set_option Elab.async false
set_option linter.all false
set_option maxRecDepth 100000
set_option maxHeartbeats 4000000
namespace K04
open PySem PySem.Spec PyProof.Rows L2 TL
seal UE UT UA US USs UI UG UO UW PTs uComp uOr uAnd
theorem w_no {z y : Str} {P : Bool → TH → Prop} {S : TH} (hz : decide (z = y) = false) (h : P false S) : P (Bool.xor false (decide (z = y))) S := by rw [hz]; exact h
theorem w_yes {z : Str} {P : Bool → TH → Prop} {S : TH} (h : P true S) : P (Bool.xor false (decide (z = z))) S := by rw [decide_eq_true rfl]; exact h
section
variable {P : Program} {w : World} {K : PySem.W.Frag} {mg : Str → Option Value} {base : Heap}
/-- a worker's numbers: a dict, or the cell of one -/
def OwnAt (S : TH) (x : T) (od : KT) : Prop := x = .dct od ∨ ∃ c, x = .ref c ∧ S c = some (.dct od)
theorem OwnAt.dx {S : TH} {x : T} {od : KT} {y : Str} {t : T} {P : UX} (h : OwnAt S x od) (e : valT od (.inr y) = some t) (k : P t S) : oDx x (.str y) S P := by
  rcases h with rfl | ⟨c, rfl, hc⟩
  · exact ⟨_, _, rfl, e, k⟩
  · exact ⟨od, hc, _, _, rfl, e, k⟩
/-! ### _law_worth -/
def cW4 (n : Nat) : List T → TH → UX → Prop := fun ts S Pp => ∃ (t : T) (size : Int) (x : T) (od : KT) (i : Int), ts = [t, .int size, x] ∧ OwnAt S x od ∧ 0 < size ∧ W size od od n t i ∧ Pp (.int i) S
theorem scW4 : FnScope ["_law_value_here", "_law_size", "_law_numbers", "_law_word", "_law_one", "_law_other"] ["_law_value_here", "_law_size", "_law_numbers"] (defScope (top 12)) := ⟨rfl, rfl, rfl, by decide +kernel, rfl, by decide +kernel, by decide +kernel⟩
theorem worth41 {n m : Nat} (N : Nm P w K mg) (d : Stands K mg "_law_worth" ["_law_value_here", "_law_size", "_law_numbers"] (top 12)) (c_law_worth : Has P w K mg base m "_law_worth" ["_law_value_here", "_law_size", "_law_numbers"] (cW4 n)) : Has P w K mg base (m + 1) "_law_worth" ["_law_value_here", "_law_size", "_law_numbers"] (cW4 (n + 1)) := by
  have sc := scW4
  refine has_of (k := m) d sc (fun ts S Pp h => ?_) fun cdv f A outer s H E hr => ?_
  · obtain ⟨t, size, x, od, i, rfl, _⟩ := h; rfl
  have hu0 := hu0_of hr
  have hu1 := hu_of hr
  refine ⟨_, (uss_cons (us_set 3 sc.nd (ue_ix (uv 0) ue_int))
      (uss_cons (us_if (ut_eq hu0 (uv 3) ue_str) (uss_one (us_ret (ue_mod (ue_ix (uv 0) ue_int) (uv 1)))) uss_nil)
      (uss_cons (us_if (ut_in (uv 3) (ue_lst (ua_consts (Cs.s (Cs.s Cs.nil))))) (uss_one (us_ret (ue_dx hu1 (uv 2) (ue_ix (uv 0) ue_int)))) uss_nil)
      (uss_cons (us_set 4 sc.nd (ue_calln c_law_worth hr rfl (ua_cons (ue_ix (uv 0) ue_int) (ua_cons (uv 1) (ua_cons (uv 2) ua_nil)))))
      (uss_cons (us_if (ut_eq hu0 (uv 3) ue_str) (uss_one (us_ret (ue_intC rfl N.int (ua_cons (ue_eq hu0 (uv 4) ue_int) ua_nil)))) uss_nil)
      (uss_cons (us_set 5 sc.nd (ue_calln c_law_worth hr rfl (ua_cons (ue_ix (uv 0) ue_int) (ua_cons (uv 1) (ua_cons (uv 2) ua_nil)))))
      (uss_cons (us_if (ut_in (uv 3) (ue_lst (ua_consts (Cs.s (Cs.s Cs.nil))))) (uss_one (us_ret (ue_mod (ue_plus (uv 4) (ue_ix (ue_lst (ua_cons (uv 5) (ua_cons (ue_neg (uv 5)) ua_nil))) (ue_intC rfl N.int (ua_cons (ue_eq hu0 (uv 3) ue_str) ua_nil)))) (uv 1)))) uss_nil)
      (uss_one (us_ret (ue_intC rfl N.int (ua_cons (ue_ix (ue_lst (ua_cons (ue_lt (uv 4) (uv 5)) (ua_cons (ue_eq hu0 (uv 4) (uv 5)) ua_nil))) (ue_intC rfl N.int (ua_cons (ue_eq hu0 (uv 3) ue_str) ua_nil))) ua_nil))))))))))), fun ts S Pp h => ?_⟩
  obtain ⟨t, size, x, od, i, rfl, own, hs, hw, h⟩ := h
  have o2 : 2 ≤ sizeLine := by decide
  cases hw with
  | num => exact ⟨_, at0, fun _ => ⟨_, at1, hs, h⟩, fun e => absurd e (by decide)⟩
  | own e => exact ⟨_, at0, fun e => absurd e (by decide), fun _ => ⟨o2, ["own", "box"], rfl, fun _ => ⟨_, at1, own.dx e h⟩, fun e => absurd e (by decide)⟩⟩
  | box e => exact ⟨_, at0, fun e => absurd e (by decide), fun _ => ⟨o2, ["own", "box"], rfl, fun _ => ⟨_, at1, own.dx e h⟩, fun e => absurd e (by decide)⟩⟩
  | @neg _ t i hw =>
    refine ⟨_, at0, fun e => absurd e (by decide), fun _ => ⟨o2, ["own", "box"], rfl, fun e => absurd e (by decide), fun _ => ⟨_, at1, t, size, x, od, i, rfl, own, hs, hw, fun _ => ?_, fun e => absurd e (by decide)⟩⟩⟩
    show Pp (.int (if Bool.xor false (decide (i = 0)) = true then 1 else 0)) S
    rw [Bool.false_xor]
    simp only [decide_eq_true_eq]
    exact h
  | @two _ z t u i j hz hw hw' =>
    unfold twoV at h
    rcases hz with rfl | rfl | rfl | rfl
    · refine ⟨_, at0, fun e => absurd e (by decide), fun _ => ⟨o2, ["own", "box"], rfl, fun e => absurd e (by decide), fun _ => ⟨_, at1, t, size, x, od, i, rfl, own, hs, hw, fun e => absurd e (by decide), fun _ => ⟨_, at2, u, size, x, od, j, rfl, own, hs, hw', o2, ["plus", "minus"], rfl, fun _ => ⟨o2, .int j, rfl, hs, ?_⟩, fun e => absurd e (by decide)⟩⟩⟩⟩
      rw [if_pos rfl] at h
      exact h
    · refine ⟨_, at0, fun e => absurd e (by decide), fun _ => ⟨o2, ["own", "box"], rfl, fun e => absurd e (by decide), fun _ => ⟨_, at1, t, size, x, od, i, rfl, own, hs, hw, fun e => absurd e (by decide), fun _ => ⟨_, at2, u, size, x, od, j, rfl, own, hs, hw', o2, ["plus", "minus"], rfl, fun _ => ⟨o2, .int (-j), rfl, hs, ?_⟩, fun e => absurd e (by decide)⟩⟩⟩⟩
      rw [if_neg (by decide), if_pos rfl] at h
      exact h
    · refine ⟨_, at0, fun e => absurd e (by decide), fun _ => ⟨o2, ["own", "box"], rfl, fun e => absurd e (by decide), fun _ => ⟨_, at1, t, size, x, od, i, rfl, own, hs, hw, fun e => absurd e (by decide), fun _ => ⟨_, at2, u, size, x, od, j, rfl, own, hs, hw', o2, ["plus", "minus"], rfl, fun e => absurd e (by decide), fun _ => ⟨o2, .bl (decide (i < j)), rfl, ?_⟩⟩⟩⟩⟩
      rw [if_neg (by decide), if_neg (by decide), if_pos rfl] at h
      show Pp (.int (if decide (i < j) = true then 1 else 0)) S
      simp only [decide_eq_true_eq]
      exact h
    · refine ⟨_, at0, fun e => absurd e (by decide), fun _ => ⟨o2, ["own", "box"], rfl, fun e => absurd e (by decide), fun _ => ⟨_, at1, t, size, x, od, i, rfl, own, hs, hw, fun e => absurd e (by decide), fun _ => ⟨_, at2, u, size, x, od, j, rfl, own, hs, hw', o2, ["plus", "minus"], rfl, fun e => absurd e (by decide), fun _ => ⟨o2, .bl (Bool.xor false (decide (i = j))), rfl, ?_⟩⟩⟩⟩⟩
      rw [if_neg (by decide), if_neg (by decide), if_neg (by decide)] at h
      show Pp (.int (if Bool.xor false (decide (i = j)) = true then 1 else 0)) S
      rw [Bool.false_xor]
      simp only [decide_eq_true_eq]
      exact h
theorem worth4 (N : Nm P w K mg) (d : Stands K mg "_law_worth" ["_law_value_here", "_law_size", "_law_numbers"] (top 12)) : ∀ n : Nat, Has P w K mg base (n + 1) "_law_worth" ["_law_value_here", "_law_size", "_law_numbers"] (cW4 n)
  | 0 => has_none d fun _ _ _ ⟨_, _, _, _, _, _, _, _, q, _⟩ => by cases q
  | n + 1 => worth41 (m := n + 1) N d (worth4 N d n)
/-! ### _law_stopped -/
structure Shd (sh bd : KT) (h : Int) : Prop where
  b : valT sh (.inr "boxes") = some (.dct bd)
  h : valT sh (.inr "holder") = some (.int h)
def cStop : List T → TH → UX → Prop := fun ts S Pp => ∃ (sh bd : KT) (h : Int) (t x : T) (od : KT) (size : Int) (b : Bool), ts = [.dct sh, t, x, .int size] ∧ Shd sh bd h ∧ OwnAt S x od ∧ 0 < size ∧ St size t bd h od b ∧ Pp (.bl b) S
theorem scStop : FnScope ["_law_shared", "_law_step_here", "_law_owns", "_law_size"] ["_law_shared", "_law_step_here", "_law_owns", "_law_size"] (defScope (top 15)) := ⟨rfl, rfl, rfl, by decide +kernel, rfl, by decide +kernel, by decide +kernel⟩
theorem law_stopped {m : Nat} (N : Nm P w K mg) (d : Stands K mg "_law_stopped" ["_law_shared", "_law_step_here", "_law_owns", "_law_size"] (top 15)) (c_law_worth : Has P w K mg base m "_law_worth" ["_law_value_here", "_law_size", "_law_numbers"] (cW4 5)) : Has P w K mg base (m + 1) "_law_stopped" ["_law_shared", "_law_step_here", "_law_owns", "_law_size"] cStop := by
  have sc := scStop
  refine has_of (k := m) d sc (fun ts S Pp h => ?_) fun cdv f A outer s H E hr => ?_
  · obtain ⟨sh, bd, h, t, x, od, size, b, rfl, _⟩ := h; rfl
  have hu0 := hu0_of hr
  have hu1 := hu_of hr
  refine ⟨_, (uss_cons (us_if (ut_eq hu0 (ue_ix (uv 1) ue_int) ue_str) (uss_one (us_ret (ue_ne hu0 (ue_dx hu1 (uv 0) ue_str) (ue_neg ue_int)))) uss_nil)
      (uss_one (us_ret (ue_and (ue_eq hu0 (ue_ix (uv 1) ue_int) ue_str) (ue_one (ue_ne hu0 (ue_dx hu1 (ue_dx hu1 (uv 0) ue_str) (ue_ix (uv 1) ue_int)) (ue_calln c_law_worth hr rfl (ua_cons (ue_ix (uv 1) ue_int) (ua_cons (uv 3) (ua_cons (uv 2) ua_nil)))))))))), fun ts S Pp k => ?_⟩
  obtain ⟨sh, bd, h, t, x, od, size, b, rfl, hsh, own, hs, st, k⟩ := k
  cases st with
  | take =>
    refine ⟨_, at0, fun _ => ⟨_, _, rfl, hsh.h, ?_⟩, fun e => absurd e (by decide)⟩
    show Pp (.bl (Bool.xor true (decide (h = -1)))) S
    rw [Bool.true_xor]
    exact k
  | @wait y v b w _ _ _ eb hw =>
    refine ⟨_, at0, fun e => absurd e (by decide), fun _ => ⟨_, at0, fun _ => ⟨_, _, rfl, hsh.b, _, at1, _, _, rfl, eb, _, at2, v, size, x, od, w, rfl, own, hs, hw, ?_⟩, fun e => absurd e (by decide)⟩⟩
    show Pp (.bl (Bool.xor true (decide (b = w)))) S
    rw [Bool.true_xor]
    exact k
  | @other z r _ _ _ n1 n2 =>
    refine ⟨_, at0, fun e => ?_, fun _ => ⟨_, at0, fun e => ?_, fun _ => k⟩⟩
    · have e : Bool.xor false (decide (z = "take")) = true := e
      rw [n1] at e
      exact absurd e (by decide)
    · have e : Bool.xor false (decide (z = "wait")) = true := e
      rw [n2] at e
      exact absurd e (by decide)
/-! ### _law_shifted -/
def shT (bd : KT) (h pl : Int) : KT := [(.inr "boxes", .dct bd), (.inr "holder", .int h), (.inr "place", .int pl)]
theorem shT_ok {bd : KT} {h pl : Int} : Shd (shT bd h pl) bd h := ⟨rfl, rfl⟩
def cShift : List T → TH → UX → Prop := fun ts S Pp => ∃ (sh bd : KT) (h : Int) (t : T) (c : Addr) (od : KT) (size wk : Int) (bd' : KT) (h' : Int) (od' : KT) (pl : Int), ts = [.dct sh, t, .ref c, .int size, .int wk] ∧ Shd sh bd h ∧ S c = some (.dct od) ∧ 0 < size ∧ bd.length ≤ 900 ∧ od.length ≤ 900 ∧ Eff size wk t bd h od bd' h' od' pl ∧
  ∀ S', S' c = some (.dct od') → (∀ b, b ≠ c → S' b = S b) → Pp (.dct (shT bd' h' pl)) S'
theorem scShift : FnScope ["_law_shared", "_law_step_here", "_law_owns", "_law_size", "_law_worker", "_law_boxes", "_law_holder", "_law_place"] ["_law_shared", "_law_step_here", "_law_owns", "_law_size", "_law_worker"] (defScope (top 16)) := ⟨rfl, rfl, rfl, by decide +kernel, rfl, by decide +kernel, by decide +kernel⟩
theorem ml_sh {q : Addr} {bd : KT} {h pl : Int} : Ml q (.dct bd) (.dct [(.inr "boxes", .ref q), (.inr "holder", .int h), (.inr "place", .int pl)]) (.dct (shT bd h pl)) := by
  refine .dct rfl (fun i t u e1 e2 => ?_) fun i t u e1 e2 => ?_
  · rcases i with _ | _ | _ | i
    · simp [shT] at e1 e2; rw [← e1, ← e2]
    · simp [shT] at e1 e2; rw [← e1, ← e2]
    · simp [shT] at e1 e2; rw [← e1, ← e2]
    · simp at e1
  · rcases i with _ | _ | _ | i
    · simp [shT] at e1 e2; rw [← e1, ← e2]; exact .here
    · simp [shT] at e1 e2; rw [← e1, ← e2]; exact .keep _
    · simp [shT] at e1 e2; rw [← e1, ← e2]; exact .keep _
    · simp at e1
theorem merge3 {x y z : T} : mergeT [] [((Sum.inr "boxes" : Key), x), (Sum.inr "holder", y), (Sum.inr "place", z)] = [((Sum.inr "boxes" : Key), x), (Sum.inr "holder", y), (Sum.inr "place", z)] := by
  have q := mergeT_nodup [((Sum.inr "boxes" : Key), x), (Sum.inr "holder", y), (Sum.inr "place", z)] [] (show ([Sum.inr "boxes", Sum.inr "holder", Sum.inr "place"] : List Key).Nodup by decide +kernel)
  simpa using q
theorem law_shifted {m : Nat} (N : Nm P w K mg) (d : Stands K mg "_law_shifted" ["_law_shared", "_law_step_here", "_law_owns", "_law_size", "_law_worker"] (top 16)) (c_law_worth : Has P w K mg base m "_law_worth" ["_law_value_here", "_law_size", "_law_numbers"] (cW4 5)) : Has P w K mg base (m + 1) "_law_shifted" ["_law_shared", "_law_step_here", "_law_owns", "_law_size", "_law_worker"] cShift := by
  have sc := scShift
  refine has_of (k := m) d sc (fun ts S Pp h => ?_) fun cdv f A outer s H E hr => ?_
  · obtain ⟨sh, bd, h, t, c, od, size, wk, bd', h', od', pl, rfl, _⟩ := h; rfl
  have hu0 := hu0_of hr
  have hu1 := hu_of hr
  refine ⟨_, (uss_cons (us_set 5 sc.nd (ue_dictN rfl rfl N.dict (ua_cons (ue_dx hu1 (uv 0) ue_str) ua_nil)))
      (uss_cons (us_set 6 sc.nd (ue_dx hu1 (uv 0) ue_str))
      (uss_cons (us_set 7 sc.nd ue_int)
      (uss_cons (us_if (ut_eq hu0 (ue_ix (uv 1) ue_int) ue_str) (uss_one (us_setD hu1 (ue_dx hu1 (uv 5) (ue_ix (uv 1) ue_int)) (uv 2) (ue_ix (uv 1) ue_int))) (uss_one (us_if (ut_eq hu0 (ue_ix (uv 1) ue_int) ue_str) (uss_one (us_setD hu1 (ue_calln c_law_worth hr rfl (ua_cons (ue_ix (uv 1) ue_int) (ua_cons (uv 3) (ua_cons (uv 2) ua_nil)))) (uv 2) (ue_ix (uv 1) ue_int))) (uss_one (us_if (ut_eq hu0 (ue_ix (uv 1) ue_int) ue_str) (uss_one (us_setD hu1 (ue_calln c_law_worth hr rfl (ua_cons (ue_ix (uv 1) ue_int) (ua_cons (uv 3) (ua_cons (uv 2) ua_nil)))) (uv 5) (ue_ix (uv 1) ue_int))) (uss_one (us_if (ut_eq hu0 (ue_ix (uv 1) ue_int) ue_str) (uss_one (us_setD hu1 (ue_mod (ue_plus (ue_dx hu1 (uv 5) (ue_ix (uv 1) ue_int)) (ue_calln c_law_worth hr rfl (ua_cons (ue_ix (uv 1) ue_int) (ua_cons (uv 3) (ua_cons (uv 2) ua_nil))))) (uv 3)) (uv 5) (ue_ix (uv 1) ue_int))) (uss_one (us_if (ut_eq hu0 (ue_ix (uv 1) ue_int) ue_str) (uss_one (us_set 6 sc.nd (uv 4))) (uss_one (us_if (UW.ut (uw_and (ut_eq hu0 (ue_ix (uv 1) ue_int) ue_str) (uw_and1 (ut_eq hu0 (uv 6) (uv 4))))) (uss_one (us_set 6 sc.nd (ue_neg ue_int))) (uss_one (us_if (UW.ut (uw_or (ut_eq hu0 (ue_ix (uv 1) ue_int) ue_str) (uw_or1 (UW.ut (uw_and (ut_eq hu0 (ue_ix (uv 1) ue_int) ue_str) (uw_and1 (ut_eq hu0 (ue_calln c_law_worth hr rfl (ua_cons (ue_ix (uv 1) ue_int) (ua_cons (uv 3) (ua_cons (uv 2) ua_nil)))) ue_int))))))) (uss_one (us_set 7 sc.nd (ue_neg ue_int))) (uss_one (us_if (UW.ut (uw_and (ut_eq hu0 (ue_ix (uv 1) ue_int) ue_str) (uw_and1 (ut_eq hu0 (ue_calln c_law_worth hr rfl (ua_cons (ue_ix (uv 1) ue_int) (ua_cons (uv 3) (ua_cons (uv 2) ua_nil)))) ue_int)))) (uss_one (us_set 7 sc.nd ue_int)) uss_nil)))))))))))))))
      (uss_one (us_ret (ue_melt (ue_disp (Ds.cons ue_str (uv 5) (Ds.cons ue_str (uv 6) (Ds.cons ue_str (uv 7) Ds.nil))))))))))), fun ts S Pp k => ?_⟩
  obtain ⟨sh, bd, h, t, c, od, size, wk, bd', h', od', pl, rfl, hsh, hc, hs, lb, lo, ef, fin⟩ := k
  refine seq_join (fun env S' => ∃ q, env = [some (.dct sh), some t, some (.ref c), some (.int size), some (.int wk), some (.ref q), none, none] ∧ S' = updT S q (.dct bd) ∧ S q = none) (fun k hk => ⟨_, _, rfl, hsh.b, fun q hq => hk _ _ ⟨q, rfl, rfl, hq⟩⟩) ?_
  rintro _ _ ⟨q, rfl, rfl, hq⟩
  have cq : c ≠ q := fun z => by rw [z, hq] at hc; cases hc
  have hq1 : updT S q (.dct bd) q = some (.dct bd) := updT_same
  have hc1 : updT S q (.dct bd) c = some (.dct od) := by rw [updT_ne cq]; exact hc
  refine seq_join (fun env S' => env = [some (.dct sh), some t, some (.ref c), some (.int size), some (.int wk), some (.ref q), some (.int h), none] ∧ S' = updT S q (.dct bd)) (fun k hk => ⟨_, _, rfl, hsh.h, hk _ _ ⟨rfl, rfl⟩⟩) ?_
  rintro _ _ ⟨rfl, rfl⟩
  refine seq_join (fun env S' => env = [some (.dct sh), some t, some (.ref c), some (.int size), some (.int wk), some (.ref q), some (.int h), some (.int 1)] ∧ S' = updT S q (.dct bd)) (fun k hk => hk _ _ ⟨rfl, rfl⟩) ?_
  rintro _ _ ⟨rfl, rfl⟩
  have bs : ∀ b, b ≠ c → b ≠ q → updT S q (.dct bd) b = S b := fun b _ h2 => updT_ne h2
  have own : OwnAt (updT S q (.dct bd)) (.ref c) od := .inr ⟨c, rfl, hc1⟩
  have sz : ∀ {n : Nat}, n ≤ 900 → n < sizeLine := fun h => small1000 (by omega)
  have wc : ∀ (o2 : KT), updT (updT S q (.dct bd)) c (.dct o2) q = some (.dct bd) ∧ updT (updT S q (.dct bd)) c (.dct o2) c = some (.dct o2) ∧ ∀ b, b ≠ c → b ≠ q → updT (updT S q (.dct bd)) c (.dct o2) b = S b := fun o2 => ⟨by rw [updT_ne (Ne.symm cq)]; exact hq1, updT_same, fun b h1 h2 => by rw [updT_ne h1]; exact bs b h1 h2⟩
  have wq : ∀ (b2 : KT), updT (updT S q (.dct bd)) q (.dct b2) q = some (.dct b2) ∧ updT (updT S q (.dct bd)) q (.dct b2) c = some (.dct od) ∧ ∀ b, b ≠ c → b ≠ q → updT (updT S q (.dct bd)) q (.dct b2) b = S b := fun b2 => ⟨updT_same, by rw [updT_ne cq]; exact hc1, fun b h1 h2 => by rw [updT_ne h2]; exact bs b h1 h2⟩
  refine seq_join (fun env S' => env = [some (.dct sh), some t, some (.ref c), some (.int size), some (.int wk), some (.ref q), some (.int h'), some (.int pl)] ∧ S' q = some (.dct bd') ∧ S' c = some (.dct od') ∧ ∀ b, b ≠ c → b ≠ q → S' b = S b) (fun k hk => ?_) ?_
  · cases ef with
    | get eb => exact ⟨_, at0, fun _ => ⟨_, at2, bd, hq1, _, _, rfl, eb, _, at1, od, _, hc1, rfl, sz lo, hk _ _ ⟨rfl, wc _⟩⟩, fun e => absurd e (by decide)⟩
    | @set x v wv _ _ _ hw => exact ⟨_, at0, fun e => absurd e (by decide), fun _ => ⟨_, at0, fun _ => ⟨_, at2, v, size, .ref c, od, wv, rfl, own, hs, hw, _, at1, od, _, hc1, rfl, sz lo, hk _ _ ⟨rfl, wc _⟩⟩, fun e => absurd e (by decide)⟩⟩
    | @put y v wv _ _ _ hw => exact ⟨_, at0, fun e => absurd e (by decide), fun _ => ⟨_, at0, fun e => absurd e (by decide), fun _ => ⟨_, at0, fun _ => ⟨_, at2, v, size, .ref c, od, wv, rfl, own, hs, hw, _, at1, bd, _, hq1, rfl, sz lb, hk _ _ ⟨rfl, wq _⟩⟩, fun e => absurd e (by decide)⟩⟩⟩
    | @add y v b wv _ _ _ eb hw => exact ⟨_, at0, fun e => absurd e (by decide), fun _ => ⟨_, at0, fun e => absurd e (by decide), fun _ => ⟨_, at0, fun e => absurd e (by decide), fun _ => ⟨_, at0, fun _ => ⟨_, at1, bd, hq1, _, _, rfl, eb, _, at2, v, size, .ref c, od, wv, rfl, own, hs, hw, hs, _, at1, bd, _, hq1, rfl, sz lb, hk _ _ ⟨rfl, wq _⟩⟩, fun e => absurd e (by decide)⟩⟩⟩⟩
    | take => exact ⟨_, at0, fun e => absurd e (by decide), fun _ => ⟨_, at0, fun e => absurd e (by decide), fun _ => ⟨_, at0, fun e => absurd e (by decide), fun _ => ⟨_, at0, fun e => absurd e (by decide), fun _ => ⟨_, at0, fun _ => hk _ _ ⟨rfl, hq1, hc1, bs⟩, fun e => absurd e (by decide)⟩⟩⟩⟩⟩
    | give1 e0 => exact ⟨_, at0, fun e => absurd e (by decide), fun _ => ⟨_, at0, fun e => absurd e (by decide), fun _ => ⟨_, at0, fun e => absurd e (by decide), fun _ => ⟨_, at0, fun e => absurd e (by decide), fun _ => ⟨_, at0, fun e => absurd e (by decide), fun _ => and_skip (fun _ h => ⟨_, at0, w_yes h⟩) ⟨fun _ => hk _ _ ⟨rfl, hq1, hc1, bs⟩, fun e => (by rw [e0] at e; simp at e)⟩⟩⟩⟩⟩⟩
    | give2 e0 => exact ⟨_, at0, fun e => absurd e (by decide), fun _ => ⟨_, at0, fun e => absurd e (by decide), fun _ => ⟨_, at0, fun e => absurd e (by decide), fun _ => ⟨_, at0, fun e => absurd e (by decide), fun _ => ⟨_, at0, fun e => absurd e (by decide), fun _ => and_skip (fun _ h => ⟨_, at0, w_yes h⟩) ⟨fun e => (by simp [e0] at e), fun _ => or_first (fun _ h => ⟨_, at0, w_yes h⟩) ⟨fun _ => hk _ _ ⟨rfl, hq1, hc1, bs⟩, fun e => (by cases e)⟩⟩⟩⟩⟩⟩⟩
    | @check0 v _ _ _ hw => exact ⟨_, at0, fun e => absurd e (by decide), fun _ => ⟨_, at0, fun e => absurd e (by decide), fun _ => ⟨_, at0, fun e => absurd e (by decide), fun _ => ⟨_, at0, fun e => absurd e (by decide), fun _ => ⟨_, at0, fun e => absurd e (by decide), fun _ => and_first (fun _ h => ⟨_, at0, w_no (by decide) h⟩) ⟨fun e => (by cases e), fun _ => or_skip (fun _ h => ⟨_, at0, w_no (by decide) h⟩) (and_skip (fun _ h => ⟨_, at0, w_yes h⟩) ⟨_, at1, v, size, .ref c, od, 0, rfl, own, hs, hw, fun _ => hk _ _ ⟨rfl, hq1, hc1, bs⟩, fun e => absurd e (by decide)⟩)⟩⟩⟩⟩⟩⟩
    | @check1 v wv _ _ _ hw e0 => exact ⟨_, at0, fun e => absurd e (by decide), fun _ => ⟨_, at0, fun e => absurd e (by decide), fun _ => ⟨_, at0, fun e => absurd e (by decide), fun _ => ⟨_, at0, fun e => absurd e (by decide), fun _ => ⟨_, at0, fun e => absurd e (by decide), fun _ => and_first (fun _ h => ⟨_, at0, w_no (by decide) h⟩) ⟨fun e => (by cases e), fun _ => or_skip (fun _ h => ⟨_, at0, w_no (by decide) h⟩) (and_skip (fun _ h => ⟨_, at0, w_yes h⟩) ⟨_, at1, v, size, .ref c, od, wv, rfl, own, hs, hw, fun e => (by simp [e0] at e), fun _ => and_first (fun _ h => ⟨_, at0, w_no (by decide) h⟩) ⟨fun e => (by cases e), fun _ => hk _ _ ⟨rfl, hq1, hc1, bs⟩⟩⟩)⟩⟩⟩⟩⟩⟩
    | skip => exact ⟨_, at0, fun e => absurd e (by decide), fun _ => ⟨_, at0, fun e => absurd e (by decide), fun _ => ⟨_, at0, fun e => absurd e (by decide), fun _ => ⟨_, at0, fun e => absurd e (by decide), fun _ => ⟨_, at0, fun e => absurd e (by decide), fun _ => and_first (fun _ h => ⟨_, at0, w_no (by decide) h⟩) ⟨fun e => (by cases e), fun _ => or_skip (fun _ h => ⟨_, at0, w_no (by decide) h⟩) (and_first (fun _ h => ⟨_, at0, w_no (by decide) h⟩) ⟨fun e => (by cases e), fun _ => and_first (fun _ h => ⟨_, at0, w_no (by decide) h⟩) ⟨fun e => (by cases e), fun _ => hk _ _ ⟨rfl, hq1, hc1, bs⟩⟩⟩)⟩⟩⟩⟩⟩⟩
    | @unless0 v i _ _ _ hw => exact ⟨_, at0, fun e => absurd e (by decide), fun _ => ⟨_, at0, fun e => absurd e (by decide), fun _ => ⟨_, at0, fun e => absurd e (by decide), fun _ => ⟨_, at0, fun e => absurd e (by decide), fun _ => ⟨_, at0, fun e => absurd e (by decide), fun _ => and_first (fun _ h => ⟨_, at0, w_no (by decide) h⟩) ⟨fun e => (by cases e), fun _ => or_skip (fun _ h => ⟨_, at0, w_no (by decide) h⟩) (and_first (fun _ h => ⟨_, at0, w_no (by decide) h⟩) ⟨fun e => (by cases e), fun _ => and_skip (fun _ h => ⟨_, at0, w_yes h⟩) ⟨_, at1, v, size, .ref c, od, 0, rfl, own, hs, hw, fun _ => hk _ _ ⟨rfl, hq1, hc1, bs⟩, fun e => absurd e (by decide)⟩⟩)⟩⟩⟩⟩⟩⟩
    | @unless1 v wv i _ _ _ hw e0 => exact ⟨_, at0, fun e => absurd e (by decide), fun _ => ⟨_, at0, fun e => absurd e (by decide), fun _ => ⟨_, at0, fun e => absurd e (by decide), fun _ => ⟨_, at0, fun e => absurd e (by decide), fun _ => ⟨_, at0, fun e => absurd e (by decide), fun _ => and_first (fun _ h => ⟨_, at0, w_no (by decide) h⟩) ⟨fun e => (by cases e), fun _ => or_skip (fun _ h => ⟨_, at0, w_no (by decide) h⟩) (and_first (fun _ h => ⟨_, at0, w_no (by decide) h⟩) ⟨fun e => (by cases e), fun _ => and_skip (fun _ h => ⟨_, at0, w_yes h⟩) ⟨_, at1, v, size, .ref c, od, wv, rfl, own, hs, hw, fun e => (by simp [e0] at e), fun _ => hk _ _ ⟨rfl, hq1, hc1, bs⟩⟩⟩)⟩⟩⟩⟩⟩⟩
    | wait => exact ⟨_, at0, fun e => absurd e (by decide), fun _ => ⟨_, at0, fun e => absurd e (by decide), fun _ => ⟨_, at0, fun e => absurd e (by decide), fun _ => ⟨_, at0, fun e => absurd e (by decide), fun _ => ⟨_, at0, fun e => absurd e (by decide), fun _ => and_first (fun _ h => ⟨_, at0, w_no (by decide) h⟩) ⟨fun e => (by cases e), fun _ => or_skip (fun _ h => ⟨_, at0, w_no (by decide) h⟩) (and_first (fun _ h => ⟨_, at0, w_no (by decide) h⟩) ⟨fun e => (by cases e), fun _ => and_first (fun _ h => ⟨_, at0, w_no (by decide) h⟩) ⟨fun e => (by cases e), fun _ => hk _ _ ⟨rfl, hq1, hc1, bs⟩⟩⟩)⟩⟩⟩⟩⟩⟩
  rintro _ S2 ⟨rfl, e1, e2, e3⟩
  refine fun p hp => ⟨updT_same, [(.inr "boxes", .ref q), (.inr "holder", .int h'), (.inr "place", .int pl)], rfl, ?_⟩
  rw [merge3, del_upd hp]
  refine ⟨_, _, .step e1 ml_sh .done, fin _ (by rw [delT_ne cq]; exact e2) fun b hb => ?_⟩
  by_cases bq : b = q
  · subst bq; rw [delT_same, hq]
  · rw [delT_ne bq]; exact e3 b hb bq
end
end K04
end
section
set_option Elab.async false
set_option linter.all false
set_option maxRecDepth 100000
set_option maxHeartbeats 4000000
namespace K04
open PySem PySem.Spec PyProof.Rows L2 TL
seal UE UT UA US USs UI UG UO UW PTs uComp uOr uAnd uSeq
theorem Sd.new {S : TH} {a : Addr} {x : Int} : Sd (updT S a (.lst [.int x])) a := ⟨x, updT_same⟩
section
variable {P : Program} {w : World} {K : PySem.W.Frag} {mg : Str → Option Value} {base : Heap}
/-! ### _law_both -/
def resT (bd : KT) (h : Int) (o : Nat → KT) (p : Nat → Int) : T := .lst [.dct bd, .int h, .lst [.dct (o 0), .dct (o 1)], .lst [.int (p 0), .int (p 1)]]
def cBoth : List T → TH → UX → Prop := fun ts S Pp => ∃ (sh : KT) (tr : Nat → T) (od : Nat → KT) (size : Int) (i j : Nat) (bd : KT) (h : Int) (bd1 : KT) (h1 : Int) (bd2 : KT) (h2 : Int) (o : Nat → KT) (p : Nat → Int),
  ts = [.dct sh, .lst [tr 0, tr 1], .lst [.dct (od 0), .dct (od 1)], .int size, .lst [.int (i : Int), .int (j : Int)]] ∧ ((i = 0 ∧ j = 1) ∨ (i = 1 ∧ j = 0)) ∧ Shd sh bd h ∧ 0 < size ∧ bd.length ≤ 100 ∧ bd1.length ≤ 101 ∧ (od 0).length ≤ 100 ∧ (od 1).length ≤ 100 ∧
  St size (tr i) bd h (od i) false ∧ Eff size i (tr i) bd h (od i) bd1 h1 (o i) (p i) ∧ St size (tr j) bd1 h1 (od j) false ∧ Eff size j (tr j) bd1 h1 (od j) bd2 h2 (o j) (p j) ∧ ∀ S', Pp (resT bd2 h2 o p) S'
theorem scBoth : FnScope ["_law_shared", "_law_steps", "_law_owns", "_law_size", "_law_order", "_law_own", "_law_places", "_law_worker"] ["_law_shared", "_law_steps", "_law_owns", "_law_size", "_law_order"] (defScope (top 17)) := ⟨rfl, rfl, rfl, by decide +kernel, rfl, by decide +kernel, by decide +kernel⟩
theorem at_two (f : Nat → T) {n : Nat} (h : n = 0 ∨ n = 1) : atI [f 0, f 1] (n : Int) = some (f n) := by
  rcases h with rfl | rfl
  · exact at0
  · exact at1
/-- between two turns -/
structure BI (p0 p1 pl : Addr) (O : Nat → KT) (Q : Nat → Int) (S : TH) : Prop where
  c0 : S p0 = some (.dct (O 0))
  c1 : S p1 = some (.dct (O 1))
  pl : S pl = some (.lst [.int (Q 0), .int (Q 1)])
theorem ml_one {p : Addr} {c a b x y : T} (h1 : Ml p c a x) (h2 : Ml p c b y) : Ml p c (.lst [a, b]) (.lst [x, y]) := by
  refine .lst rfl fun i t u e1 e2 => ?_
  rcases i with _ | _ | i
  · simp at e1 e2; rw [← e1, ← e2]; exact h1
  · simp at e1 e2; rw [← e1, ← e2]; exact h2
  · simp at e1
theorem ml_four {p : Addr} {c a1 a2 a3 a4 x1 x2 x3 x4 : T} (h1 : Ml p c a1 x1) (h2 : Ml p c a2 x2) (h3 : Ml p c a3 x3) (h4 : Ml p c a4 x4) : Ml p c (.lst [a1, a2, a3, a4]) (.lst [x1, x2, x3, x4]) := by
  refine .lst rfl fun i t u e1 e2 => ?_
  rcases i with _ | _ | _ | _ | i
  · simp at e1 e2; rw [← e1, ← e2]; exact h1
  · simp at e1 e2; rw [← e1, ← e2]; exact h2
  · simp at e1 e2; rw [← e1, ← e2]; exact h3
  · simp at e1 e2; rw [← e1, ← e2]; exact h4
  · simp at e1
theorem law_both {m : Nat} (N : Nm P w K mg) (d : Stands K mg "_law_both" ["_law_shared", "_law_steps", "_law_owns", "_law_size", "_law_order"] (top 17)) (c_law_stopped : Has P w K mg base m "_law_stopped" ["_law_shared", "_law_step_here", "_law_owns", "_law_size"] cStop) (c_law_shifted : Has P w K mg base m "_law_shifted" ["_law_shared", "_law_step_here", "_law_owns", "_law_size", "_law_worker"] cShift) : Has P w K mg base (m + 1) "_law_both" ["_law_shared", "_law_steps", "_law_owns", "_law_size", "_law_order"] cBoth := by
  have sc := scBoth
  refine has_of (k := m) d sc (fun ts S Pp h => ?_) fun cdv f A outer s H E hr => ?_
  · obtain ⟨sh, tr, od, size, i, j, bd, h, bd1, h1, bd2, h2, o, p, rfl, _⟩ := h; rfl
  have hu0 := hu0_of hr
  have hu1 := hu_of hr
  refine ⟨_, (uss_cons (us_set 5 sc.nd (ue_lst (ua_cons (ue_dictN rfl rfl N.dict (ua_cons (ue_ix (uv 2) ue_int) ua_nil)) (ua_cons (ue_dictN rfl rfl N.dict (ua_cons (ue_ix (uv 2) ue_int) ua_nil)) ua_nil))))
      (uss_cons (us_set 6 sc.nd (ue_lstC (ua_consts (Cs.i (Cs.i Cs.nil)))))
      (uss_cons (us_for PassesOwn.never rfl (ui_any (uv 4)) (ug_name 7 sc.nd) (uss_cons (us_if (ut_val (ue_calln c_law_stopped hr rfl (ua_cons (uv 0) (ua_cons (ue_ix (uv 1) (uv 7)) (ua_cons (ue_ix (uv 5) (uv 7)) (ua_cons (uv 3) ua_nil)))))) (uss_one (us_ret ue_non)) uss_nil)
      (uss_cons (us_set 0 sc.nd (ue_calln c_law_shifted hr rfl (ua_cons (uv 0) (ua_cons (ue_ix (uv 1) (uv 7)) (ua_cons (ue_ix (uv 5) (uv 7)) (ua_cons (uv 3) (ua_cons (uv 7) ua_nil)))))))
      (uss_one (us_setIx (ue_dx hu1 (uv 0) ue_str) (uv 6) (uv 7))))))
      (uss_one (us_ret (ue_melt (ue_lst (ua_cons (ue_dx hu1 (uv 0) ue_str) (ua_cons (ue_dx hu1 (uv 0) ue_str) (ua_cons (uv 5) (ua_cons (uv 6) ua_nil))))))))))), fun ts S Pp k => ?_⟩
  obtain ⟨sh, tr, od, size, i, j, bd, h, bd1, h1, bd2, h2, o, p, rfl, hij, hsh, hs, lb, lb1, l0, l1, st0, ef0, st1, ef1, fin⟩ := k
  have o2 : 2 ≤ sizeLine := by decide
  have hi : i = 0 ∨ i = 1 := by omega
  have hj : j = 0 ∨ j = 1 := by omega
  refine seq_join (fun env S' => ∃ p0 p1, env = [some (.dct sh), some (.lst [tr 0, tr 1]), some (.lst [.dct (od 0), .dct (od 1)]), some (.int size), some (.lst [.int (i : Int), .int (j : Int)]), some (.lst [.ref p0, .ref p1]), none, none] ∧ p0 ≠ p1 ∧ S' p0 = some (.dct (od 0)) ∧ S' p1 = some (.dct (od 1))) (fun k hk => ⟨_, at0, fun p0 hp0 => ⟨_, at1, fun p1 hp1 => ⟨o2, hk _ _ ⟨p0, p1, rfl, ?_, ?_, updT_same⟩⟩⟩⟩) ?_
  · intro z; rw [← z, updT_same] at hp1; cases hp1
  · rw [updT_ne (fun z => by rw [← z, updT_same] at hp1; cases hp1), updT_same]
  rintro _ S1 ⟨p0, p1, rfl, n01, e0, e1⟩
  refine seq_join (fun env S' => ∃ pl, env = [some (.dct sh), some (.lst [tr 0, tr 1]), some (.lst [.dct (od 0), .dct (od 1)]), some (.int size), some (.lst [.int (i : Int), .int (j : Int)]), some (.lst [.ref p0, .ref p1]), some (.ref pl), none] ∧ p0 ≠ pl ∧ p1 ≠ pl ∧ BI p0 p1 pl od (fun _ => 0) S') (fun k hk => ⟨o2, fun pl hpl => ?_⟩) ?_
  · have m0 : p0 ≠ pl := fun z => by rw [← z, e0] at hpl; cases hpl
    have m1 : p1 ≠ pl := fun z => by rw [← z, e1] at hpl; cases hpl
    exact hk _ _ ⟨pl, rfl, m0, m1, by rw [updT_ne m0]; exact e0, by rw [updT_ne m1]; exact e1, updT_same⟩
  rintro _ S2 ⟨pl, rfl, m0, m1, bi⟩
  clear e0 e1 S1
  refine seq_join (fun env S' => ∃ (sh' : KT) (e7 : Option T) (O : Nat → KT) (Q : Nat → Int), env = [some (.dct sh'), some (.lst [tr 0, tr 1]), some (.lst [.dct (od 0), .dct (od 1)]), some (.int size), some (.lst [.int (i : Int), .int (j : Int)]), some (.lst [.ref p0, .ref p1]), some (.ref pl), e7] ∧ BI p0 p1 pl O Q S' ∧ Shd sh' bd2 h2 ∧ O i = o i ∧ O j = o j ∧ Q i = p i ∧ Q j = p j) (fun k hk => ?_) ?_
  · refine ⟨fun n env S' => ∃ (sh' : KT) (e7 : Option T) (O : Nat → KT) (Q : Nat → Int) (bd' : KT) (h' : Int), env = [some (.dct sh'), some (.lst [tr 0, tr 1]), some (.lst [.dct (od 0), .dct (od 1)]), some (.int size), some (.lst [.int (i : Int), .int (j : Int)]), some (.lst [.ref p0, .ref p1]), some (.ref pl), e7] ∧ BI p0 p1 pl O Q S' ∧ Shd sh' bd' h' ∧ (n = 0 → bd' = bd ∧ h' = h ∧ O = od) ∧ (n = 1 → bd' = bd1 ∧ h' = h1 ∧ O i = o i ∧ O j = od j ∧ Q i = p i) ∧ (n = 2 → bd' = bd2 ∧ h' = h2 ∧ O i = o i ∧ O j = o j ∧ Q i = p i ∧ Q j = p j),
      ⟨sh, none, od, fun _ => 0, bd, h, rfl, bi, hsh, fun _ => ⟨rfl, rfl, rfl⟩, fun z => (by cases z), fun z => (by cases z)⟩, ?_, ?_⟩
    · rintro n x env S' en ⟨sh', e7, O, Q, bd', h', rfl, b, hs', f0, f1, f2⟩
      -- who, and what it does
      obtain ⟨v, hv, rfl, bN, hN, oN, pN, st, ef, lB, lO, nx⟩ : ∃ v : Nat, (v = 0 ∨ v = 1) ∧ x = .int (v : Int) ∧ ∃ bN hN oN pN, St size (tr v) bd' h' (O v) false ∧ Eff size v (tr v) bd' h' (O v) bN hN oN pN ∧ bd'.length ≤ 900 ∧ (O v).length ≤ 900 ∧
          ∀ (O' : Nat → KT) (Q' : Nat → Int), O' v = oN → (∀ u, u ≠ v → O' u = O u) → Q' v = pN → (∀ u, u ≠ v → Q' u = Q u) → (n + 1 = 1 → bN = bd1 ∧ hN = h1 ∧ O' i = o i ∧ O' j = od j ∧ Q' i = p i) ∧ (n + 1 = 2 → bN = bd2 ∧ hN = h2 ∧ O' i = o i ∧ O' j = o j ∧ Q' i = p i ∧ Q' j = p j) := by
        have hn : n = 0 ∨ n = 1 := by
          have := (List.getElem?_eq_some_iff.mp en).1
          simp at this
          omega
        rcases hn with rfl | rfl
        · obtain ⟨rfl, rfl, rfl⟩ := f0 rfl
          have hx : x = .int (i : Int) := by simp at en; exact en.symm
          refine ⟨i, hi, hx, bd1, h1, o i, p i, st0, ef0, by omega, ?_, fun O' Q' a1 a2 a3 a4 => ⟨fun _ => ⟨rfl, rfl, a1, a2 j (by omega), a3⟩, fun z => by omega⟩⟩
          rcases hi with rfl | rfl <;> omega
        · obtain ⟨rfl, rfl, q1, q2, q3⟩ := f1 rfl
          have hx : x = .int (j : Int) := by simp at en; exact en.symm
          refine ⟨j, hj, hx, bd2, h2, o j, p j, by rw [q2]; exact st1, by rw [q2]; exact ef1, by omega, ?_, fun O' Q' a1 a2 a3 a4 => ⟨fun z => by omega, fun _ => ⟨rfl, rfl, (a2 i (by omega)).trans q1, a1, (a4 i (by omega)).trans q3, a3⟩⟩⟩
          rw [q2]
          rcases hj with rfl | rfl <;> omega
      have oat : atI [T.ref p0, T.ref p1] (v : Int) = some (.ref (if v = 0 then p0 else p1)) := at_two (fun n => .ref (if n = 0 then p0 else p1)) hv
      have hcp : S' (if v = 0 then p0 else p1) = some (.dct (O v)) := by
        rcases hv with rfl | rfl
        · exact b.c0
        · exact b.c1
      refine seq_join (fun env S2 => S' = S2 ∧ env = [some (.dct sh'), some (.lst [tr 0, tr 1]), some (.lst [.dct (od 0), .dct (od 1)]), some (.int size), some (.lst [.int (i : Int), .int (j : Int)]), some (.lst [.ref p0, .ref p1]), some (.ref pl), some (.int (v : Int))]) (fun k hk => ⟨_, at_two tr hv, _, oat, sh', bd', h', tr v, _, O v, size, false, rfl, hs', .inr ⟨_, rfl, hcp⟩, hs, st, fun e => (by cases e), fun _ => hk _ _ ⟨rfl, rfl⟩⟩) ?_
      rintro _ _ ⟨rfl, rfl⟩
      refine seq_join (fun env S2 => env = [some (.dct (shT bN hN pN)), some (.lst [tr 0, tr 1]), some (.lst [.dct (od 0), .dct (od 1)]), some (.int size), some (.lst [.int (i : Int), .int (j : Int)]), some (.lst [.ref p0, .ref p1]), some (.ref pl), some (.int (v : Int))] ∧ S2 (if v = 0 then p0 else p1) = some (.dct oN) ∧ ∀ u, u ≠ (if v = 0 then p0 else p1) → S2 u = S' u) (fun k hk => ⟨_, at_two tr hv, _, oat, sh', bd', h', tr v, _, O v, size, (v : Int), bN, hN, oN, pN, rfl, hs', hcp, hs, lB, lO, ef, fun S2 a1 a2 => hk _ _ ⟨rfl, a1, a2⟩⟩) ?_
      rintro _ S2 ⟨rfl, a1, a2⟩
      obtain ⟨n1, n2⟩ := nx (fun u => if u = v then oN else O u) (fun u => if u = v then pN else Q u) (if_pos rfl) (fun u hu => if_neg hu) (if_pos rfl) (fun u hu => if_neg hu)
      rcases hv with rfl | rfl
      · refine ⟨_, _, rfl, rfl, _, 0, (a2 pl (Ne.symm m0)).trans b.pl, rfl, shT bN hN pN, _, (fun u => if u = 0 then oN else O u), (fun u => if u = 0 then pN else Q u), bN, hN, rfl, ⟨?_, ?_, updT_same⟩, shT_ok, fun z => by omega, n1, n2⟩
        · rw [updT_ne m0]; exact a1
        · rw [updT_ne m1]; exact (a2 p1 (Ne.symm n01)).trans b.c1
      · refine ⟨_, _, rfl, rfl, _, 1, (a2 pl (Ne.symm m1)).trans b.pl, rfl, shT bN hN pN, _, (fun u => if u = 1 then oN else O u), (fun u => if u = 1 then pN else Q u), bN, hN, rfl, ⟨?_, ?_, updT_same⟩, shT_ok, fun z => by omega, n1, n2⟩
        · rw [updT_ne m0]; exact (a2 p0 n01).trans b.c0
        · rw [updT_ne m1]; exact a1
    · rintro env S' ⟨sh', e7, O, Q, bd', h', rfl, b, hs', f0, f1, f2⟩
      obtain ⟨rfl, rfl, q⟩ := f2 rfl
      exact hk _ _ ⟨sh', e7, O, Q, rfl, b, hs', q⟩
  rintro _ S3 ⟨sh', e7, O, Q, rfl, b, hs', q1, q2, q3, q4⟩
  have eO : O 0 = o 0 ∧ O 1 = o 1 ∧ Q 0 = p 0 ∧ Q 1 = p 1 := by
    rcases hij with ⟨rfl, rfl⟩ | ⟨rfl, rfl⟩
    · exact ⟨q1, q2, q3, q4⟩
    · exact ⟨q2, q1, q4, q3⟩
  refine ⟨_, _, rfl, hs'.b, _, _, rfl, hs'.h, show 4 ≤ sizeLine by decide, resT bd2 h2 o p, delT (delT (delT S3 p0) p1) pl, ?_, fin _⟩
  obtain ⟨z0, z1, z2, z3⟩ := eO
  have r0 : S3 p0 = some (.dct (o 0)) := z0 ▸ b.c0
  have r1 : delT S3 p0 p1 = some (.dct (o 1)) := by rw [delT_ne (Ne.symm n01)]; exact z1 ▸ b.c1
  have r2 : delT (delT S3 p0) p1 pl = some (.lst [.int (p 0), .int (p 1)]) := by rw [delT_ne (Ne.symm m1), delT_ne (Ne.symm m0)]; exact z2 ▸ z3 ▸ b.pl
  exact .step r0 (ml_four (.keep _) (.keep _) (ml_one .here (.keep _)) (.keep _)) (.step r1 (ml_four (.keep _) (.keep _) (ml_one (.keep _) .here) (.keep _)) (.step r2 (ml_four (.keep _) (.keep _) (.keep _) .here) .done))
/-! ### _law_same -/
theorem put_key {kts : KT} {k k' : Key} {t : T} (h : k' = k ∨ k' ∈ kts.map (·.1)) : k' ∈ (putT kts k t).map (·.1) := by
  by_cases hk : k ∈ kts.map (·.1)
  · rw [putT_keys hk]
    rcases h with rfl | h
    · exact hk
    · exact h
  · rw [putT_new hk, List.map_append]
    rcases h with rfl | h
    · exact List.mem_append_right _ (by simp)
    · exact List.mem_append_left _ h
theorem merge_key : ∀ {more kts : KT} {k : Key}, k ∈ kts.map (·.1) ∨ k ∈ more.map (·.1) → k ∈ (mergeT kts more).map (·.1)
  | [], kts, k, h => by
    rcases h with h | h
    · exact h
    · cases h
  | q :: r, kts, k, h => by
    show k ∈ (mergeT (putT kts q.1 q.2) r).map (·.1)
    refine merge_key ?_
    rcases h with h | h
    · exact .inl (put_key (.inr h))
    · rcases List.mem_cons.mp (show k ∈ q.1 :: r.map (·.1) from h) with h | h
      · exact .inl (put_key (.inl h))
      · exact .inr h
theorem pairs_map : ∀ ps : List (Str × Int), pairsT (ps.map fun p => T.tup [.str p.1, .int p.2]) = some (ps.map fun p => ((Sum.inr p.1 : Key), T.int p.2))
  | [] => rfl
  | p :: r => by
    rw [List.map_cons, pairsT, pairs_map r]
    rfl
theorem boxes_dict (ps : List (Str × Int)) : NumD (mergeT [] (ps.map fun p => ((Sum.inr p.1 : Key), T.int p.2))) ∧ (mergeT [] (ps.map fun p => ((Sum.inr p.1 : Key), T.int p.2))).length ≤ ps.length ∧
    ∀ y ∈ ps.map (·.1), ∃ i, valT (mergeT [] (ps.map fun p => ((Sum.inr p.1 : Key), T.int p.2))) (.inr y) = some (.int i) := by
  have nd : NumD (mergeT [] (ps.map fun p => ((Sum.inr p.1 : Key), T.int p.2))) := fun p hm => by
    rcases mergeT_mem hm with q | q
    · cases q
    · obtain ⟨r, _, rfl⟩ := List.mem_map.mp q
      exact ⟨_, _, rfl⟩
  refine ⟨nd, ?_, fun y hy => nd.val (mem_keysS.mpr ?_)⟩
  · have h2 := mergeT_len (more := ps.map fun p => ((Sum.inr p.1 : Key), T.int p.2)) (kts := [])
    simpa using h2
  · obtain ⟨q, hq, rfl⟩ := List.mem_map.mp hy
    have := merge_key (kts := []) (more := ps.map fun p => ((Sum.inr p.1 : Key), T.int p.2)) (k := .inr q.1) (.inr (List.mem_map.mpr ⟨_, List.mem_map.mpr ⟨q, hq, rfl⟩, rfl⟩))
    obtain ⟨r, hr, e⟩ := List.mem_map.mp this
    exact ⟨r, hr, e⟩
theorem disp_dr {S S2 : TH} {a q : Addr} (hq : S q = none) (hs : Sd S a) (d : Dr a (updT S q (.dct [])) S2) : Dr a S (delT S2 q) ∧ S2 q = some (.dct []) ∧ a ≠ q := by
  have ne : a ≠ q := fun z => by obtain ⟨x, e⟩ := hs; rw [z, hq] at e; cases e
  refine ⟨⟨fun b hb => ?_, ?_⟩, (d.same q (Ne.symm ne)).trans updT_same, ne⟩
  · by_cases e : b = q
    · subst e; rw [delT_same, hq]
    · rw [delT_ne e, d.same b hb, updT_ne e]
  · obtain ⟨x, e⟩ := d.sd
    exact ⟨x, by rw [delT_ne ne]; exact e⟩
theorem sd_upd {S : TH} {a q : Addr} {c : Cell} (hs : Sd S a) (hq : S q = none) : Sd (updT S q c) a := by
  obtain ⟨x, e⟩ := hs
  exact ⟨x, by rw [updT_ne (fun z => by rw [z, hq] at e; cases e)]; exact e⟩
theorem merge2 {x y : T} : mergeT [] [((Sum.inr "boxes" : Key), x), (Sum.inr "holder", y)] = [((Sum.inr "boxes" : Key), x), (Sum.inr "holder", y)] := by
  have q := mergeT_nodup [((Sum.inr "boxes" : Key), x), (Sum.inr "holder", y)] [] (show ([Sum.inr "boxes", Sum.inr "holder"] : List Key).Nodup by decide +kernel)
  simpa using q
def cSame : List T → TH → UX → Prop := fun ts S Pp => ∃ (t u : T) (r s : Wy) (p : Addr) (zs : List Str) (ns : List Int) (o l : Str) (bx : List Str), ts = [.lst [t, u], .ref p, .fls (ns.map T.int)] ∧ S p = some (.lst (zs.map T.str)) ∧ zs.length = 4 ∧ atI (zs.map T.str) (3 : Int) = some (.str o) ∧ SF [o] bx l t r ∧ SF [o] bx l u s ∧ (∀ y ∈ bx, y ∈ cutA zs none (some 2)) ∧ ap r s = true ∧ ∀ S', Pp (.bl true) S'
theorem scSame : FnScope ["_law_steps", "_law_names_here", "_law_script", "_law_state_here", "_law_size", "_law_boxes", "_law_shared", "_law_owns", "_law_one"] ["_law_steps", "_law_names_here", "_law_script"] (defScope (top 18)) := ⟨rfl, rfl, rfl, by decide +kernel, rfl, by decide +kernel, by decide +kernel⟩
theorem numD_dat {kts : List (Key × T)} (h : NumD kts) : DatP 1 (.dct kts) := .dct fun p hp => by
  obtain ⟨x, i, rfl⟩ := h p hp
  exact .int i
theorem res_dat {bd : KT} {h : Int} {o : Nat → KT} {p : Nat → Int} (nb : NumD bd) (n0 : NumD (o 0)) (n1 : NumD (o 1)) : DatP 3 (resT bd h o p) := by
  have up1 : ∀ {kts : KT}, NumD kts → ∀ n, DatP (n + 1) (.dct kts) := fun {kts} hk n => .dct fun p hp => by
    obtain ⟨x, i, rfl⟩ := hk p hp
    exact .int i
  exact .lst (al_cons (up1 nb 1) (al_cons (.d (.int h)) (al_cons (.lst (al_cons (up1 n0 0) (al_cons (up1 n1 0) al_nil))) (al_cons (.d (.lst (al_cons (.int _) (al_cons (.int _) al_nil)))) al_nil))))
def es (t u : T) (p : Addr) (ns : List Int) (e3 e4 e5 e6 e7 e8 : Option T) : Ev := [some (.lst [t, u]), some (.ref p), some (.fls (ns.map T.int)), e3, e4, e5, e6, e7, e8]
theorem law_same {m : Nat} (N : Nm P w K mg) (d : Stands K mg "_law_same" ["_law_steps", "_law_names_here", "_law_script"] (top 18)) (c_law_cell_at : Has P w K mg base m "_law_cell_at" ["_law_script", "_law_k"] cCell) (c_law_state : Has P w K mg base m "_law_state" ["_law_cell", "_law_k"] cState) (c_law_next : Has P w K mg base m "_law_next" ["_law_state_here", "_law_size"] cNext) (c_law_stopped : Has P w K mg base m "_law_stopped" ["_law_shared", "_law_step_here", "_law_owns", "_law_size"] cStop) (c_law_both : Has P w K mg base m "_law_both" ["_law_shared", "_law_steps", "_law_owns", "_law_size", "_law_order"] cBoth) : Has P w K mg base (m + 1) "_law_same" ["_law_steps", "_law_names_here", "_law_script"] cSame := by
  have sc := scSame
  refine has_of (k := m) d sc (fun ts S Pp h => ?_) fun cdv f A outer s H E hr => ?_
  · obtain ⟨t, u, r, s, p, zs, ns, o, l, bx, rfl, _⟩ := h; rfl
  have hu0 := hu0_of hr
  have hu1 := hu_of hr
  have hu64 := hr.units
  refine ⟨_, (uss_cons (us_set 3 sc.nd (ue_calln c_law_state hr rfl (ua_cons (ue_calln c_law_cell_at hr rfl (ua_cons (uv 2) (ua_cons ue_int ua_nil))) (ua_cons ue_int ua_nil))))
      (uss_cons (us_set 4 sc.nd (ue_plus ue_int (ue_calln c_law_next hr rfl (ua_cons (uv 3) (ua_cons ue_int ua_nil)))))
      (uss_cons (us_set 5 sc.nd (ue_dictC rfl rfl N.dict (ua_cons (ue_comp1 0 ["_law_box", "_law_state_here", "_law_size"] [none, some 3, some 4] rfl (ui_any (ue_sl (uv 1) uo_none (uo_some ue_int))) (fun _ _ _ _ _ => uts_nil) (fun _ _ _ _ _ => (ue_tup (ua_cons (uv 0) (ua_cons (ue_calln c_law_next hr rfl (ua_cons (uv 1) (ua_cons (uv 2) ua_nil))) ua_nil))))) ua_nil)))
      (uss_cons (us_set 6 sc.nd (ue_disp (Ds.cons ue_str (uv 5) (Ds.cons ue_str (ue_sub (ue_calln c_law_next hr rfl (ua_cons (uv 3) (ua_cons ue_int ua_nil))) ue_int) Ds.nil))))
      (uss_cons (us_set 7 sc.nd (ue_lst (ua_cons (ue_disp (Ds.cons (ue_ix (uv 1) ue_int) (ue_calln c_law_next hr rfl (ua_cons (uv 3) (ua_cons (uv 4) ua_nil))) Ds.nil)) (ua_cons (ue_disp (Ds.cons (ue_ix (uv 1) ue_int) (ue_calln c_law_next hr rfl (ua_cons (uv 3) (ua_cons (uv 4) ua_nil))) Ds.nil)) ua_nil))))
      (uss_cons (us_if (UW.ut (uw_or (ut_val (ue_calln c_law_stopped hr rfl (ua_cons (uv 6) (ua_cons (ue_ix (uv 0) ue_int) (ua_cons (ue_ix (uv 7) ue_int) (ua_cons (uv 4) ua_nil)))))) (uw_or1 (ut_val (ue_calln c_law_stopped hr rfl (ua_cons (uv 6) (ua_cons (ue_ix (uv 0) ue_int) (ua_cons (ue_ix (uv 7) ue_int) (ua_cons (uv 4) ua_nil))))))))) (uss_one (us_ret ue_bl)) uss_nil)
      (uss_cons (us_set 8 sc.nd (ue_calln c_law_both hr rfl (ua_cons (uv 6) (ua_cons (uv 0) (ua_cons (uv 7) (ua_cons (uv 4) (ua_cons (ue_lst (ua_consts (Cs.i (Cs.i Cs.nil)))) ua_nil)))))))
      (uss_one (us_ret (ue_and (ue_notN (uv 8) ue_non) (ue_one (ue_eqS hu64 (uv 8) (ue_calln c_law_both hr rfl (ua_cons (uv 6) (ua_cons (uv 0) (ua_cons (uv 7) (ua_cons (uv 4) (ua_cons (ue_lst (ua_consts (Cs.i (Cs.i Cs.nil)))) ua_nil)))))))))))))))))), fun ts S0 Pp h => ?_⟩
  obtain ⟨t, u, r, s, p, zs, ns, o, l, bx, rfl, hp, hz, ho, sft, sfu, hbx, hap, h⟩ := h
  have o2 : 2 ≤ sizeLine := by decide
  refine seq_join (fun env S => ∃ a, env = es t u p ns (some (.ref a)) none none none none none ∧ Sd S a ∧ S p = some (.lst (zs.map T.str)) ∧ p ≠ a) (fun k hk => ⟨ns, 3, rfl, fun v => ⟨v, 4, rfl, fun a x ha => ?_⟩⟩) ?_
  · have ne : p ≠ a := fun z => by rw [z, ha] at hp; cases hp
    exact hk _ _ ⟨a, rfl, Sd.new, by rw [updT_ne ne]; exact hp, ne⟩
  rintro _ S1 ⟨a, rfl, sd1, hp1, ne⟩
  refine seq_join (fun env S => ∃ size : Int, env = es t u p ns (some (.ref a)) (some (.int size)) none none none none ∧ Sd S a ∧ S p = some (.lst (zs.map T.str)) ∧ 0 < size) (fun k hk => ⟨a, 4, rfl, sd1, by decide, fun q S2 d2 q0 q1 => hk _ _ ⟨2 + q, rfl, d2.sd, (d2.same p ne).trans hp1, by omega⟩⟩) ?_
  rintro _ S2 ⟨size, rfl, sd2, hp2, hs⟩
  -- the boxes
  refine seq_join (fun env S => ∃ bd : KT, env = es t u p ns (some (.ref a)) (some (.int size)) (some (.dct bd)) none none none ∧ Sd S a ∧ S p = some (.lst (zs.map T.str)) ∧ NumD bd ∧ bd.length ≤ 100 ∧ ∀ y ∈ cutA zs none (some 2), ∃ i, valT bd (.inr y) = some (.int i)) (fun k hk => ?_) ?_
  · have lz : (cutA zs none (some 2)).length ≤ 4 := hz ▸ cutN_len zs none (some 2)
    refine comp_inv ((cutA zs none (some 2)).map T.str) (fun k acc S => Dr a S2 S ∧ ∃ ps : List (Str × Int), acc = ps.map (fun p => T.tup [.str p.1, .int p.2]) ∧ ps.map (·.1) = (cutA zs none (some 2)).take k) (fun k hk => ⟨_, hp2, by rw [cut_map]; exact hk⟩) (by rw [List.length_map]; exact sz1000 (by omega)) ⟨Dr.rfl sd2, [], rfl, rfl⟩ ?_ ?_
    · rintro k x acc S e ⟨d1, ps, rfl, hk'⟩
      have ek : (cutA zs none (some 2))[k]? ≠ none := fun z => by rw [List.getElem?_map, z] at e; cases e
      obtain ⟨z, ez⟩ := Option.ne_none_iff_exists'.mp ek
      have ex : x = .str z := by rw [List.getElem?_map, ez] at e; exact (Option.some.inj e).symm
      subst ex
      refine ⟨fun _ => ⟨a, size, rfl, d1.sd, hs, fun q S3 d3 q0 q1 => ⟨o2, d1.trans d3, ps ++ [(z, q)], ?_, ?_⟩⟩, fun e => (by cases e)⟩
      · rw [List.map_append]; rfl
      · rw [List.map_append, hk', List.take_add_one, ez]; rfl
    · rintro acc S ⟨d1, ps, rfl, hk'⟩
      rw [List.length_map, List.take_length] at hk'
      obtain ⟨n1, n2, n3⟩ := boxes_dict ps
      have lp : ps.length ≤ 4 := by
        have := congrArg List.length hk'
        rw [List.length_map] at this
        omega
      exact ⟨_, pairs_map ps, hk _ _ ⟨_, rfl, d1.sd, (d1.same p ne).trans hp2, n1, by omega, fun y hy => n3 y (by rw [hk']; exact hy)⟩⟩
  rintro _ S3 ⟨bd, rfl, sd3, hp3, nb, lb, hb⟩
  -- who holds the lock
  refine seq_join (fun env S => ∃ hh : Int, env = es t u p ns (some (.ref a)) (some (.int size)) (some (.dct bd)) (some (.dct [(.inr "boxes", .dct bd), (.inr "holder", .int hh)])) none none ∧ Sd S a ∧ S p = some (.lst (zs.map T.str))) (fun k hk => fun q hq => ⟨a, 3, rfl, sd_upd sd3 hq, by decide, fun x S4 d4 x0 x1 => ?_⟩) ?_
  · obtain ⟨g1, g2, g3⟩ := disp_dr hq sd3 d4
    refine ⟨g2, _, rfl, ?_⟩
    rw [merge2]
    exact hk _ _ ⟨x - 1, rfl, g1.sd, (g1.same p ne).trans hp3⟩
  rintro _ S4 ⟨hh, rfl, sd4, hp4⟩
  -- the owns' numbers
  refine seq_join (fun env S => ∃ x y : Int, env = es t u p ns (some (.ref a)) (some (.int size)) (some (.dct bd)) (some (.dct [(.inr "boxes", .dct bd), (.inr "holder", .int hh)])) (some (.lst [.dct [(.inr o, .int x)], .dct [(.inr o, .int y)]])) none) (fun k hk => fun q hq => ⟨_, ?_, _, ho, a, size, rfl, sd_upd sd4 hq, hs, fun x S5 d5 x0 x1 => ?_⟩) ?_
  · rw [updT_ne (fun z => by rw [z, hq] at hp4; cases hp4)]; exact hp4
  · obtain ⟨g1, g2, g3⟩ := disp_dr hq sd4 d5
    have hp5 := (g1.same p ne).trans hp4
    refine ⟨g2, _, rfl, fun q' hq' => ⟨_, ?_, _, ho, a, size, rfl, sd_upd g1.sd hq', hs, fun y S6 d6 y0 y1 => ?_⟩⟩
    · rw [updT_ne (fun z => by rw [z, hq'] at hp5; cases hp5)]; exact hp5
    · obtain ⟨g1', g2', g3'⟩ := disp_dr hq' g1.sd d6
      exact ⟨g2', _, rfl, o2, hk _ _ ⟨x, y, rfl⟩⟩
  rintro _ S5 ⟨x, y, rfl⟩
  have on : ∀ (x : Int) (z : Str), z ∈ [o] → ∃ i, valT [((Sum.inr o : Key), T.int x)] (.inr z) = some (.int i) := fun x z hz' => by
    cases List.mem_singleton.mp hz'
    refine ⟨x, ?_⟩
    unfold valT
    rw [List.find?_cons, decide_eq_true rfl]
    rfl
  have sn : ∀ x : Int, NumD [((Sum.inr o : Key), T.int x)] := fun x p hp => ⟨o, x, List.mem_singleton.mp hp⟩
  have hsh : Shd [((Sum.inr "boxes" : Key), T.dct bd), (.inr "holder", .int hh)] bd hh := ⟨rfl, rfl⟩
  obtain ⟨b0, b1, st0, st1, run⟩ := commute (size := size) (h := hh) (bd := bd) (o0 := [((Sum.inr o : Key), T.int x)]) (o1 := [((Sum.inr o : Key), T.int y)]) sft sfu hap (fun y hy => hb y (hbx y hy)) (on x) (on y)
  refine seq_join (fun env S => b0 = false ∧ b1 = false ∧ env = es t u p ns (some (.ref a)) (some (.int size)) (some (.dct bd)) (some (.dct [(.inr "boxes", .dct bd), (.inr "holder", .int hh)])) (some (.lst [.dct [(.inr o, .int x)], .dct [(.inr o, .int y)]])) none) (fun k hk => ?_) ?_
  · cases b0 with
    | true => exact or_first (fun _ h => ⟨_, at0, _, at0, _, bd, hh, t, _, _, size, true, rfl, hsh, .inl rfl, hs, st0, h⟩) ⟨fun _ => h _, fun e => (by cases e)⟩
    | false =>
      refine or_skip (fun _ h => ⟨_, at0, _, at0, _, bd, hh, t, _, _, size, false, rfl, hsh, .inl rfl, hs, st0, h⟩) ⟨_, at1, _, at1, _, bd, hh, u, _, _, size, b1, rfl, hsh, .inl rfl, hs, st1, ?_⟩
      cases b1 with
      | true => exact ⟨fun _ => h _, fun e => (by cases e)⟩
      | false => exact ⟨fun e => (by cases e), fun _ => hk _ _ ⟨rfl, rfl, rfl⟩⟩
  rintro _ S6 ⟨rfl, rfl, rfl⟩
  obtain ⟨bd1, h1, o0', p0, bd2, h2, o1', p1, bd1', h1', a1, a2, a3, a4, a5, a6⟩ := run rfl rfl
  obtain ⟨w1, w2, w3, w4⟩ := a1.num nb (sn x)
  obtain ⟨w5, w6, w7, w8⟩ := a3.num w1 (sn y)
  obtain ⟨v1, v2, v3, v4⟩ := a4.num nb (sn y)
  have lone : ∀ x : Int, [((Sum.inr o : Key), T.int x)].length ≤ 100 := fun _ => by simp
  refine seq_join (fun env S => env = es t u p ns (some (.ref a)) (some (.int size)) (some (.dct bd)) (some (.dct [(.inr "boxes", .dct bd), (.inr "holder", .int hh)])) (some (.lst [.dct [(.inr o, .int x)], .dct [(.inr o, .int y)]])) (some (resT bd2 h2 (fun n => if n = 0 then o0' else o1') (fun n => if n = 0 then p0 else p1)))) (fun k hk => ⟨o2, _, fun n => if n = 0 then t else u, fun n => if n = 0 then [(.inr o, .int x)] else [(.inr o, .int y)], size, 0, 1, bd, hh, bd1, h1, bd2, h2, fun n => if n = 0 then o0' else o1', fun n => if n = 0 then p0 else p1, rfl, .inl ⟨rfl, rfl⟩, hsh, hs, lb, by omega, lone x, lone y, st0, a1, a2, a3, fun S' => hk _ _ rfl⟩) ?_
  rintro _ S7 rfl
  refine ⟨fun _ => ⟨o2, _, fun n => if n = 0 then t else u, fun n => if n = 0 then [(.inr o, .int x)] else [(.inr o, .int y)], size, 1, 0, bd, hh, bd1', h1', bd2, h2, fun n => if n = 0 then o0' else o1', fun n => if n = 0 then p0 else p1, rfl, .inr ⟨rfl, rfl⟩, hsh, hs, lb, by omega, lone x, lone y, st1, a4, a5, a6, fun S' => ?_⟩, fun e => (by cases e)⟩
  exact ⟨rfl, ⟨3, by decide, res_dat w5 w2 w6⟩, h S'⟩
/-! ### law -/
def cLaw : List T → TH → UX → Prop := fun ts S Pp => ∃ ns : List Int, ts = [.fls (ns.map T.int)] ∧ ∀ S', Pp (.bl true) S'
theorem scLaw : FnScope ["_law_script", "_law_state_here", "_law_names_here", "_law_boxes", "_law_one", "_law_other", "_law_step_here", "_law_found", "_law_due_here", "_law_pair"] ["_law_script"] (defScope (top 19)) := ⟨rfl, rfl, rfl, by decide +kernel, rfl, by decide +kernel, by decide +kernel⟩
def en (ns : List Int) (a p : Addr) (bx : List Str) (e4 e5 e6 e7 e8 e9 : Option T) : Ev := [some (.fls (ns.map T.int)), some (.ref a), some (.ref p), some (.lst (bx.map T.str)), e4, e5, e6, e7, e8, e9]
theorem atn {zs : List Str} {i : Nat} {z : Str} (h : zs[i]? = some z) : atI (zs.map T.str) (i : Int) = some (.str z) := atI_nat (by rw [List.getElem?_map, h]; rfl)
theorem law_ok {m : Nat} {f : Addr} {fd : FuncData} (N : Nm P w K mg) (F : Fun K "law" "law" (top 19) f fd) (c_law_cell_at : Has P w K mg base m "_law_cell_at" ["_law_script", "_law_k"] cCell) (c_law_state : Has P w K mg base m "_law_state" ["_law_cell", "_law_k"] cState) (c_law_next : Has P w K mg base m "_law_next" ["_law_state_here", "_law_size"] cNext) (c_law_names : Has P w K mg base m "_law_names" ["_law_state_here", "_law_amount"] cNames)
    (c_law_step : Has P w K mg base m "_law_step" ["_law_state_here", "_law_owns", "_law_boxes", "_law_locks", "_law_behind"] cLStep) (c_touched : Has P w K mg base m "touched" ["step"] cTouched) (c_law_touched : Has P w K mg base m "_law_touched" ["_law_step_here"] cTouched) (c_law_due : Has P w K mg base m "_law_due" ["_law_step_here", "_law_other"] cApart) (c_apart : Has P w K mg base m "apart" ["step", "other"] cApart) (c_law_same : Has P w K mg base m "_law_same" ["_law_steps", "_law_names_here", "_law_script"] cSame) : FnOk P w K mg base CX0 (m + 1) f fd ["_law_script"] (spU K cLaw) := by
  have sc := scLaw
  refine def_u (k := m) F sc (fun ts S Pp h => ?_) fun cdv A outer s H E hr => ?_
  · obtain ⟨ns, rfl, _⟩ := h; rfl
  have hu0 := hu0_of hr
  have hu1 := hu_of hr
  have hu64 := hr.units
  refine ⟨_, (uss_cons (us_set 1 sc.nd (ue_calln c_law_state hr rfl (ua_cons (ue_calln c_law_cell_at hr rfl (ua_cons (uv 0) (ua_cons ue_int ua_nil))) (ua_cons ue_int ua_nil))))
      (uss_cons (us_set 2 sc.nd (ue_calln c_law_names hr rfl (ua_cons (uv 1) (ua_cons ue_int ua_nil))))
      (uss_cons (us_set 3 sc.nd (ue_sl (uv 2) uo_none (uo_some (ue_plus ue_int (ue_calln c_law_next hr rfl (ua_cons (uv 1) (ua_cons ue_int ua_nil)))))))
      (uss_cons (us_setIx (ue_ix (uv 2) (ue_ix (ue_lst (ua_consts (Cs.i (Cs.i (Cs.i (Cs.i Cs.nil)))))) (ue_calln c_law_next hr rfl (ua_cons (uv 1) (ua_cons ue_int ua_nil))))) (uv 2) ue_int)
      (uss_cons (us_set 4 sc.nd (ue_calln c_law_step hr rfl (ua_cons (ue_calln c_law_state hr rfl (ua_cons (ue_calln c_law_cell_at hr rfl (ua_cons (uv 0) (ua_cons ue_int ua_nil))) (ua_cons ue_int ua_nil))) (ua_cons (ue_lst (ua_cons (ue_ix (uv 2) ue_int) ua_nil)) (ua_cons (uv 3) (ua_cons (ue_lst (ua_cons (ue_ix (uv 2) ue_int) ua_nil)) (ua_cons ue_int ua_nil)))))))
      (uss_cons (us_set 5 sc.nd (ue_calln c_law_step hr rfl (ua_cons (ue_calln c_law_state hr rfl (ua_cons (ue_calln c_law_cell_at hr rfl (ua_cons (uv 0) (ua_cons ue_int ua_nil))) (ua_cons ue_int ua_nil))) (ua_cons (ue_lst (ua_cons (ue_ix (uv 2) ue_int) ua_nil)) (ua_cons (uv 3) (ua_cons (ue_lst (ua_cons (ue_ix (uv 2) ue_int) ua_nil)) (ua_cons ue_int ua_nil)))))))
      (uss_cons (us_for PassesOwn.never rfl (ui_any (ue_tup (ua_cons (uv 4) (ua_cons (uv 5) (ua_cons (uv 4) ua_nil))))) (ug_name 6 sc.nd) (uss_cons (us_set 7 sc.nd (ue_calln c_touched hr rfl (ua_cons (uv 6) ua_nil)))
      (uss_one (us_if (UW.ut (uw_or (ut_neP hu64 (uv 7) (ue_calln c_law_touched hr rfl (ua_cons (uv 6) ua_nil))) (uw_or1 (UW.ut (uw_and (ut_notN (uv 7) ue_non) (uw_and1 (ut_not (ut_val (ue_isi rfl N.isinstance (ua_cons (uv 7) (ua_cons (ue_bty rfl N.tuple boot_tuple) ua_nil))))))))))) (uss_one (us_ret ue_bl)) uss_nil))))
      (uss_cons (us_set 8 sc.nd (ue_calln c_law_due hr rfl (ua_cons (uv 4) (ua_cons (uv 5) ua_nil))))
      (uss_cons (us_for PassesOwn.never rfl (ui_any (ue_tup (ua_cons (ue_lst (ua_cons (uv 4) (ua_cons (uv 5) ua_nil))) (ua_cons (ue_lst (ua_cons (uv 5) (ua_cons (uv 4) ua_nil))) (ua_cons (ue_lst (ua_cons (uv 4) (ua_cons (uv 5) ua_nil))) ua_nil))))) (ug_name 9 sc.nd) (uss_cons (us_set 7 sc.nd (ue_calln c_apart hr rfl (ua_cons (ue_ix (uv 9) ue_int) (ua_cons (ue_ix (uv 9) ue_int) ua_nil))))
      (uss_one (us_if (UW.ut (uw_or (ut_not (ut_val (ue_isi rfl N.isinstance (ua_cons (uv 7) (ua_cons (ue_bty rfl N.bool boot_bool) ua_nil))))) (uw_or1 (ut_ne hu0 (uv 7) (uv 8))))) (uss_one (us_ret ue_bl)) uss_nil))))
      (uss_one (us_ret (ue_or (ue_not (uv 8)) (ue_one (ue_calln c_law_same hr rfl (ua_cons (ue_lst (ua_cons (uv 4) (ua_cons (uv 5) ua_nil))) (ua_cons (uv 2) (ua_cons (uv 0) ua_nil))))))))))))))))), fun ts S0 Pp h => ?_⟩
  obtain ⟨ns, rfl, h⟩ := h
  have o1 : 1 ≤ sizeLine := by decide
  have o2 : 2 ≤ sizeLine := by decide
  have o3 : 3 ≤ sizeLine := by decide
  refine seq_join (fun env S => ∃ a, env = [some (.fls (ns.map T.int)), some (.ref a), none, none, none, none, none, none, none, none] ∧ Sd S a) (fun k hk => ⟨ns, 0, rfl, fun v => ⟨v, 1, rfl, fun a x ha => hk _ _ ⟨a, rfl, Sd.new⟩⟩⟩) ?_
  rintro _ S1 ⟨a, rfl, sd1⟩
  refine seq_join (fun env S => ∃ p zs, env = [some (.fls (ns.map T.int)), some (.ref a), some (.ref p), none, none, none, none, none, none, none] ∧ Sd S a ∧ S p = some (.lst (zs.map T.str)) ∧ p ≠ a ∧ zs.length = 4 ∧ ∀ z ∈ zs, nameOk z = true) (fun k hk => ⟨a, 4, rfl, sd1, by decide, fun p zs S2 hp hp2 sd2 _ hz ok => hk _ _ ⟨p, zs, rfl, sd2, hp2, fun z => ?_, hz, ok⟩⟩) ?_
  · rw [z] at hp
    obtain ⟨x, e⟩ := sd1
    rw [hp] at e
    cases e
  rintro _ S2 ⟨p, zs, rfl, sd2, hp2, ne, hz, ok⟩
  refine seq_join (fun env S => ∃ bx, env = en ns a p bx none none none none none none ∧ Sd S a ∧ S p = some (.lst (zs.map T.str)) ∧ Nms bx ∧ ∀ y ∈ bx, y ∈ cutA zs none (some 2)) (fun k hk => ⟨a, 2, rfl, sd2, by decide, fun r S3 d3 r0 r1 => ⟨_, (d3.same p ne).trans hp2, ?_⟩⟩) ?_
  · refine hk _ _ ⟨cutA zs none (some (1 + r)), by unfold en; rw [← cut_map]; rfl, d3.sd, (d3.same p ne).trans hp2, ⟨Nat.le_trans (cutN_len _ _ _) (by omega), fun z hz' => ok z (cutN_mem hz')⟩, fun y hy => ?_⟩
    match zs, hz, hy with
    | [z0, z1, z2, z3], _, hy =>
      have : r = 0 ∨ r = 1 := by omega
      rcases this with rfl | rfl
      · have hy : y ∈ [z0] := hy
        exact List.mem_cons.mpr (.inl (List.mem_singleton.mp hy))
      · exact hy
  rintro _ S3 ⟨bx, rfl, sd3, hp3, nbx, hbx⟩
  -- the own's name
  refine seq_join (fun env S => ∃ ys o l, env = en ns a p bx none none none none none none ∧ S p = some (.lst (ys.map T.str)) ∧ ys.length = 4 ∧ atI (ys.map T.str) (3 : Int) = some (.str o) ∧ atI (ys.map T.str) (2 : Int) = some (.str l) ∧ nameOk o = true ∧ ∀ y ∈ bx, y ∈ cutA ys none (some 2)) (fun k hk => ⟨show 4 ≤ sizeLine by decide, a, 4, rfl, sd3, by decide, fun r S4 d4 r0 r1 => ?_⟩) ?_
  · have hp4 := (d4.same p ne).trans hp3
    match zs, hz, ok, hp4, hbx with
    | [z0, z1, z2, z3], _, ok, hp4, hbx =>
      have pk : ∃ (i : Int) (z : Str), atI [T.int 3, T.int 0, T.int 1, T.int 2] r = some (.int i) ∧ atI ([z0, z1, z2, z3].map T.str) i = some (.str z) ∧ nameOk z = true := by
        have : r = 0 ∨ r = 1 ∨ r = 2 ∨ r = 3 := by omega
        rcases this with rfl | rfl | rfl | rfl
        · exact ⟨3, z3, rfl, rfl, ok _ (by simp)⟩
        · exact ⟨0, z0, rfl, rfl, ok _ (by simp)⟩
        · exact ⟨1, z1, rfl, rfl, ok _ (by simp)⟩
        · exact ⟨2, z2, rfl, rfl, ok _ (by simp)⟩
      obtain ⟨i, z, e1, e2, e3⟩ := pk
      exact ⟨_, e1, _, hp4, _, e2, _, 3, hp4, rfl, hk _ _ ⟨[z0, z1, z2, z], z, z2, rfl, updT_same, rfl, rfl, rfl, e3, hbx⟩⟩
  rintro _ S4 ⟨ys, o, l, rfl, hp4, hy, eo, el, oo, hbx⟩
  clear sd1 sd2 sd3 hp2 hp3
  have now : Nms [o] := ⟨by simp, fun z hz' => by cases List.mem_singleton.mp hz'; exact oo⟩
  -- the steps
  refine seq_join (fun env S => ∃ t r, env = en ns a p bx (some t) none none none none none ∧ S p = some (.lst (ys.map T.str)) ∧ SF [o] bx l t r) (fun k hk => ⟨ns, 1, rfl, fun v => ⟨v, 2, rfl, fun b x hb => ?_⟩⟩) ?_
  · have nb : p ≠ b := fun z => by rw [z, hb] at hp4; cases hp4
    have hp5 : updT S4 b (.lst [.int x]) p = some (.lst (ys.map T.str)) := by rw [updT_ne nb]; exact hp4
    exact ⟨_, hp5, _, eo, o1, _, hp5, _, el, o1, b, [o], bx, l, 1, rfl, Sd.new, now, nbx, by decide, fun t r S' d' sf => hk _ _ ⟨t, r, rfl, (d'.same p nb).trans hp5, sf⟩⟩
  rintro _ S5 ⟨t, r, rfl, hp5, sft⟩
  refine seq_join (fun env S => ∃ u s, env = en ns a p bx (some t) (some u) none none none none ∧ S p = some (.lst (ys.map T.str)) ∧ SF [o] bx l u s) (fun k hk => ⟨ns, 2, rfl, fun v => ⟨v, 3, rfl, fun b x hb => ?_⟩⟩) ?_
  · have nb : p ≠ b := fun z => by rw [z, hb] at hp5; cases hp5
    have hp6 : updT S5 b (.lst [.int x]) p = some (.lst (ys.map T.str)) := by rw [updT_ne nb]; exact hp5
    exact ⟨_, hp6, _, eo, o1, _, hp6, _, el, o1, b, [o], bx, l, 1, rfl, Sd.new, now, nbx, by decide, fun t r S' d' sf => hk _ _ ⟨t, r, rfl, (d'.same p nb).trans hp6, sf⟩⟩
  rintro _ S6 ⟨u, s, rfl, hp6, sfu⟩
  -- what they touch
  refine seq_join (fun env S => S6 = S ∧ ∃ e6 e7, env = en ns a p bx (some t) (some u) e6 e7 none none) (fun k hk => ⟨o3, fun _ env S => S6 = S ∧ ∃ e6 e7, env = en ns a p bx (some t) (some u) e6 e7 none none, ⟨rfl, _, _, rfl⟩, ?_, fun env S q => hk _ _ q⟩) ?_
  · rintro n x env S ex ⟨rfl, e6, e7, rfl⟩
    obtain ⟨wx, sfx⟩ : ∃ wx, SF [o] bx l x wx := (al_cons ⟨r, sft⟩ (al_cons ⟨s, sfu⟩ (al_cons ⟨r, sft⟩ al_nil)) : ∀ x ∈ [t, u, t], ∃ wx, SF [o] bx l x wx) x (List.mem_of_getElem? ex)
    refine seq_join (fun env S' => S6 = S' ∧ env = en ns a p bx (some t) (some u) (some x) (some (wT wx)) none none) (fun k hk => ⟨[o], bx, l, x, wx, rfl, sfx, hk _ _ ⟨rfl, rfl⟩⟩) ?_
    rintro _ _ ⟨rfl, rfl⟩
    cases hw : wx.some with
    | false =>
      cases Wy.no_of hw
      exact or_skip (fun _ h => ⟨[o], bx, l, x, .no, rfl, sfx, h⟩) (and_first (fun _ h => h) ⟨fun e => (by cases e), fun _ => ⟨rfl, _, _, rfl⟩⟩)
    | true =>
      refine or_skip (fun P h => ⟨[o], bx, l, x, wx, rfl, sfx, ?_⟩) ?_
      · rw [wT_some hw]
        show P (Bool.xor true (wx.nm == wx.nm && wx.way == wx.way)) S6
        rw [beq_self_eq_true, beq_self_eq_true]
        exact h
      · rw [wT_some hw]
        exact and_skip (fun _ h => h) ⟨rfl, fun e => (by cases e), fun _ => ⟨rfl, _, _, rfl⟩⟩
  rintro _ _ ⟨rfl, e6, e7, rfl⟩
  refine seq_join (fun env S => S6 = S ∧ env = en ns a p bx (some t) (some u) e6 e7 (some (.bl (ap r s))) none) (fun k hk => ⟨[o], bx, l, t, u, r, s, rfl, sft, sfu, hk _ _ ⟨rfl, rfl⟩⟩) ?_
  rintro _ _ ⟨rfl, rfl⟩
  refine seq_join (fun env S => S6 = S ∧ ∃ e7 e9, env = en ns a p bx (some t) (some u) e6 e7 (some (.bl (ap r s))) e9) (fun k hk => ⟨o2, o2, o2, o3, fun _ env S => S6 = S ∧ ∃ e7 e9, env = en ns a p bx (some t) (some u) e6 e7 (some (.bl (ap r s))) e9, ⟨rfl, _, _, rfl⟩, ?_, fun env S q => hk _ _ q⟩) ?_
  · rintro n x env S ex ⟨rfl, e7, e9, rfl⟩
    obtain ⟨x0, x1, rfl, q⟩ : ∃ x0 x1, x = .lst [x0, x1] ∧ ∃ r0 r1, SF [o] bx l x0 r0 ∧ SF [o] bx l x1 r1 ∧ ap r0 r1 = ap r s := (al_cons ⟨t, u, rfl, r, s, sft, sfu, rfl⟩ (al_cons ⟨u, t, rfl, s, r, sfu, sft, ap_comm s r⟩ (al_cons ⟨t, u, rfl, r, s, sft, sfu, rfl⟩ al_nil)) : ∀ x ∈ [T.lst [t, u], .lst [u, t], .lst [t, u]], ∃ x0 x1, x = .lst [x0, x1] ∧ ∃ r0 r1, SF [o] bx l x0 r0 ∧ SF [o] bx l x1 r1 ∧ ap r0 r1 = ap r s) x (List.mem_of_getElem? ex)
    obtain ⟨r0, r1, sf0, sf1, eap⟩ := q
    refine seq_join (fun env S' => S6 = S' ∧ env = en ns a p bx (some t) (some u) e6 (some (.bl (ap r s))) (some (.bl (ap r s))) (some (.lst [x0, x1]))) (fun k hk => ⟨_, at0, _, at1, [o], bx, l, x0, x1, r0, r1, rfl, sf0, sf1, hk _ _ ⟨rfl, by rw [eap]; rfl⟩⟩) ?_
    rintro _ _ ⟨rfl, rfl⟩
    refine or_skip (fun _ h => ⟨rfl, h⟩) ⟨fun e => ?_, fun _ => ⟨rfl, _, _, rfl⟩⟩
    simp at e
  rintro _ _ ⟨rfl, e7, e9, rfl⟩
  cases hap : ap r s with
  | false => exact ⟨fun _ => h _, fun e => (by cases e)⟩
  | true => exact ⟨fun e => (by cases e), fun _ => ⟨o2, t, u, r, s, p, ys, ns, o, l, bx, rfl, hp6, hy, eo, sft, sfu, hbx, hap, h⟩⟩
/-! ### all together -/
theorem all_ok {f : Addr} {fd : FuncData} (N : Nm P w K mg) (s_touched : Stands K mg "touched" ["step"] (top 3)) (s_apart : Stands K mg "apart" ["step", "other"] (top 4)) (s_cell : Stands K mg "_law_cell_at" ["_law_script", "_law_k"] (top 6)) (s_state : Stands K mg "_law_state" ["_law_cell", "_law_k"] (top 7)) (s_next : Stands K mg "_law_next" ["_law_state_here", "_law_size"] (top 8)) (s_names : Stands K mg "_law_names" ["_law_state_here", "_law_amount"] (top 9)) (s_value : Stands K mg "_law_value" ["_law_state_here", "_law_deep", "_law_owns", "_law_boxes"] (top 10)) (s_step : Stands K mg "_law_step" ["_law_state_here", "_law_owns", "_law_boxes", "_law_locks", "_law_behind"] (top 11)) (s_worth : Stands K mg "_law_worth" ["_law_value_here", "_law_size", "_law_numbers"] (top 12)) (s_ltouched : Stands K mg "_law_touched" ["_law_step_here"] (top 13)) (s_due : Stands K mg "_law_due" ["_law_step_here", "_law_other"] (top 14)) (s_stopped : Stands K mg "_law_stopped" ["_law_shared", "_law_step_here", "_law_owns", "_law_size"] (top 15)) (s_shifted : Stands K mg "_law_shifted" ["_law_shared", "_law_step_here", "_law_owns", "_law_size", "_law_worker"] (top 16)) (s_both : Stands K mg "_law_both" ["_law_shared", "_law_steps", "_law_owns", "_law_size", "_law_order"] (top 17)) (s_same : Stands K mg "_law_same" ["_law_steps", "_law_names_here", "_law_script"] (top 18))
    (F : Fun K "law" "law" (top 19) f fd) : FnOk P w K mg base CX0 20 f fd ["_law_script"] (spU K cLaw) := by
  have c_next := law_next (base := base) N s_next
  have c_cell := cell_at (base := base) N s_cell
  have c_state := law_state (base := base) N s_state
  have c_names := law_names (base := base) N s_names c_next
  have c_val := law_value (base := base) N s_value c_next 5
  have c_step := law_step (base := base) (m := 6) N s_step (c_next.mono (by omega)) c_val
  have c_worth := worth4 (base := base) N s_worth 5
  have c_stop := law_stopped (base := base) N s_stopped c_worth
  have c_shift := law_shifted (base := base) N s_shifted c_worth
  have c_both := law_both (base := base) N s_both c_stop c_shift
  have c_same := law_same (base := base) (m := 8) N s_same (c_cell.mono (by omega)) (c_state.mono (by omega)) (c_next.mono (by omega)) (c_stop.mono (by omega)) c_both
  have c_touched := touched (base := base) N s_touched
  have c_apart := apart (base := base) N s_apart c_touched
  have c_ltouched := law_touched (base := base) N s_ltouched
  have c_due := law_due (base := base) N s_due c_ltouched
  exact law_ok (m := 19) N F (c_cell.mono (by omega)) (c_state.mono (by omega)) (c_next.mono (by omega)) (c_names.mono (by omega)) (c_step.mono (by omega)) (c_touched.mono (by omega)) (c_ltouched.mono (by omega)) (c_due.mono (by omega)) (c_apart.mono (by omega)) (c_same.mono (by omega))
end
end K04
end
section
set_option Elab.async false
set_option linter.all false
open PySem PySem.W PyProof.Rows
set_option maxRecDepth 100000 in
set_option maxHeartbeats 0 in
theorem PySem.Challenge.cw_loomlook_k04_whole_apart_holds : PySem.Challenge.rw_loomlook_k04_whole_apart.Holds := by
  w_on; o_law; k_head; (case hw => w_witness2)
  k_fill
  refine L2.walk_ofK (l := PySem.Challenge.rw_loomlook_k04_whole_apart) (n := 63) (k := 20) (x := "_law_script") (CX := L2.CX0) (sp := fun K => TL.spU K K04.cLaw) rfl (by decide) rfl ⟨rfl, by decide, by decide⟩ (fun w h Y => PySem.W.kIn_of Y) ?F ?S ?C
  case S => exact fun K H a ns hl hO hS => TL.script_mk hO hS ⟨ns, rfl, fun _ => rfl⟩
  case C => exact fun _ _ _ _ z => z
  case F =>
    intro w mg fa h KX G hmg
    have nm : K04.Nm PySem.Challenge.rw_loomlook_k04_whole_apart.prog w (L2.KOf KX) mg := by
      dsimp only [L2.KOf]
      refine' ⟨PySem.W.mg_none_of KX G ?z_isinstance, PySem.W.mg_none_of KX G ?z_int, PySem.W.mg_none_of KX G ?z_bool, PySem.W.mg_none_of KX G ?z_tuple, PySem.W.mg_none_of KX G ?z_len, PySem.W.mg_none_of KX G ?z_dict, PySem.W.mg_none_of KX G ?z_range, TL.kt_mk KX G ?t1_SHARED_WAYS (TL.KR.tupI ?t2_SHARED_WAYS ?t3_SHARED_WAYS ?t4_SHARED_WAYS), TL.kd_mk KX G ?d1_TOUCHES ?d2_TOUCHES ?d3_TOUCHES ?d4_TOUCHES ?d5_TOUCHES⟩
      (case z_isinstance => k_is)
      (case z_int => k_is)
      (case z_bool => k_is)
      (case z_tuple => k_is)
      (case z_len => k_is)
      (case z_dict => k_is)
      (case z_range => k_is)
      (case t1_SHARED_WAYS => k_is)
      (case t2_SHARED_WAYS => k_is)
      (case t3_SHARED_WAYS => decide)
      (case t4_SHARED_WAYS => repeat first | exact TL.KRs.nil | refine TL.KRs.cons (TL.KR.str _ _) ?_ | refine TL.KRs.cons (TL.KR.int _ _) ?_)
      (case d1_TOUCHES => k_is)
      (case d2_TOUCHES => k_is)
      (case d3_TOUCHES => decide)
      (case d5_TOUCHES => decide +kernel)
      (case d4_TOUCHES =>
        refine' (TL.Ents.cons (TL.KR.tupI ?l5 ?m5 ?r5) (TL.Ents.cons (TL.KR.tupI ?l4 ?m4 ?r4) (TL.Ents.cons (TL.KR.tupI ?l3 ?m3 ?r3) (TL.Ents.cons (TL.KR.tupI ?l2 ?m2 ?r2) (TL.Ents.cons (TL.KR.tupI ?l1 ?m1 ?r1) (TL.Ents.cons (TL.KR.tupI ?l0 ?m0 ?r0) TL.Ents.nil))))))
        (case l0 => k_is)
        (case l1 => k_is)
        (case l2 => k_is)
        (case l3 => k_is)
        (case l4 => k_is)
        (case l5 => k_is)
        (case m0 => decide)
        (case m1 => decide)
        (case m2 => decide)
        (case m3 => decide)
        (case m4 => decide)
        (case m5 => decide)
        (case r0 => repeat first | exact TL.KRs.nil | refine TL.KRs.cons (TL.KR.str _ _) ?_ | refine TL.KRs.cons (TL.KR.int _ _) ?_)
        (case r1 => repeat first | exact TL.KRs.nil | refine TL.KRs.cons (TL.KR.str _ _) ?_ | refine TL.KRs.cons (TL.KR.int _ _) ?_)
        (case r2 => repeat first | exact TL.KRs.nil | refine TL.KRs.cons (TL.KR.str _ _) ?_ | refine TL.KRs.cons (TL.KR.int _ _) ?_)
        (case r3 => repeat first | exact TL.KRs.nil | refine TL.KRs.cons (TL.KR.str _ _) ?_ | refine TL.KRs.cons (TL.KR.int _ _) ?_)
        (case r4 => repeat first | exact TL.KRs.nil | refine TL.KRs.cons (TL.KR.str _ _) ?_ | refine TL.KRs.cons (TL.KR.int _ _) ?_)
        (case r5 => repeat first | exact TL.KRs.nil | refine TL.KRs.cons (TL.KR.str _ _) ?_ | refine TL.KRs.cons (TL.KR.int _ _) ?_))
    have s_touched : TL.Stands (L2.KOf KX) mg "touched" ["step"] (K04.top 3) := by
      dsimp only [L2.KOf]
      refine' TL.stands_mk KX G ?a1 ?l1 ?c1 ?k1 (fun _ _ _ _ _ _ us hl => match us, hl with | [_], _ => rfl)
      (case a1 => k_is); (case l1 => k_is); (case c1 => k_is); (case k1 => k_is)
    have s_apart : TL.Stands (L2.KOf KX) mg "apart" ["step", "other"] (K04.top 4) := by
      dsimp only [L2.KOf]
      refine' TL.stands_mk KX G ?a1 ?l1 ?c1 ?k1 (fun _ _ _ _ _ _ us hl => match us, hl with | [_, _], _ => rfl)
      (case a1 => k_is); (case l1 => k_is); (case c1 => k_is); (case k1 => k_is)
    have s_law_cell_at : TL.Stands (L2.KOf KX) mg "_law_cell_at" ["_law_script", "_law_k"] (K04.top 6) := by
      dsimp only [L2.KOf]
      refine' TL.stands_mk KX G ?a1 ?l1 ?c1 ?k1 (fun _ _ _ _ _ _ us hl => match us, hl with | [_, _], _ => rfl)
      (case a1 => k_is); (case l1 => k_is); (case c1 => k_is); (case k1 => k_is)
    have s_law_state : TL.Stands (L2.KOf KX) mg "_law_state" ["_law_cell", "_law_k"] (K04.top 7) := by
      dsimp only [L2.KOf]
      refine' TL.stands_mk KX G ?a1 ?l1 ?c1 ?k1 (fun _ _ _ _ _ _ us hl => match us, hl with | [_, _], _ => rfl)
      (case a1 => k_is); (case l1 => k_is); (case c1 => k_is); (case k1 => k_is)
    have s_law_next : TL.Stands (L2.KOf KX) mg "_law_next" ["_law_state_here", "_law_size"] (K04.top 8) := by
      dsimp only [L2.KOf]
      refine' TL.stands_mk KX G ?a1 ?l1 ?c1 ?k1 (fun _ _ _ _ _ _ us hl => match us, hl with | [_, _], _ => rfl)
      (case a1 => k_is); (case l1 => k_is); (case c1 => k_is); (case k1 => k_is)
    have s_law_names : TL.Stands (L2.KOf KX) mg "_law_names" ["_law_state_here", "_law_amount"] (K04.top 9) := by
      dsimp only [L2.KOf]
      refine' TL.stands_mk KX G ?a1 ?l1 ?c1 ?k1 (fun _ _ _ _ _ _ us hl => match us, hl with | [_, _], _ => rfl)
      (case a1 => k_is); (case l1 => k_is); (case c1 => k_is); (case k1 => k_is)
    have s_law_value : TL.Stands (L2.KOf KX) mg "_law_value" ["_law_state_here", "_law_deep", "_law_owns", "_law_boxes"] (K04.top 10) := by
      dsimp only [L2.KOf]
      refine' TL.stands_mk KX G ?a1 ?l1 ?c1 ?k1 (fun _ _ _ _ _ _ us hl => match us, hl with | [_, _, _, _], _ => rfl)
      (case a1 => k_is); (case l1 => k_is); (case c1 => k_is); (case k1 => k_is)
    have s_law_step : TL.Stands (L2.KOf KX) mg "_law_step" ["_law_state_here", "_law_owns", "_law_boxes", "_law_locks", "_law_behind"] (K04.top 11) := by
      dsimp only [L2.KOf]
      refine' TL.stands_mk KX G ?a1 ?l1 ?c1 ?k1 (fun _ _ _ _ _ _ us hl => match us, hl with | [_, _, _, _, _], _ => rfl)
      (case a1 => k_is); (case l1 => k_is); (case c1 => k_is); (case k1 => k_is)
    have s_law_worth : TL.Stands (L2.KOf KX) mg "_law_worth" ["_law_value_here", "_law_size", "_law_numbers"] (K04.top 12) := by
      dsimp only [L2.KOf]
      refine' TL.stands_mk KX G ?a1 ?l1 ?c1 ?k1 (fun _ _ _ _ _ _ us hl => match us, hl with | [_, _, _], _ => rfl)
      (case a1 => k_is); (case l1 => k_is); (case c1 => k_is); (case k1 => k_is)
    have s_law_touched : TL.Stands (L2.KOf KX) mg "_law_touched" ["_law_step_here"] (K04.top 13) := by
      dsimp only [L2.KOf]
      refine' TL.stands_mk KX G ?a1 ?l1 ?c1 ?k1 (fun _ _ _ _ _ _ us hl => match us, hl with | [_], _ => rfl)
      (case a1 => k_is); (case l1 => k_is); (case c1 => k_is); (case k1 => k_is)
    have s_law_due : TL.Stands (L2.KOf KX) mg "_law_due" ["_law_step_here", "_law_other"] (K04.top 14) := by
      dsimp only [L2.KOf]
      refine' TL.stands_mk KX G ?a1 ?l1 ?c1 ?k1 (fun _ _ _ _ _ _ us hl => match us, hl with | [_, _], _ => rfl)
      (case a1 => k_is); (case l1 => k_is); (case c1 => k_is); (case k1 => k_is)
    have s_law_stopped : TL.Stands (L2.KOf KX) mg "_law_stopped" ["_law_shared", "_law_step_here", "_law_owns", "_law_size"] (K04.top 15) := by
      dsimp only [L2.KOf]
      refine' TL.stands_mk KX G ?a1 ?l1 ?c1 ?k1 (fun _ _ _ _ _ _ us hl => match us, hl with | [_, _, _, _], _ => rfl)
      (case a1 => k_is); (case l1 => k_is); (case c1 => k_is); (case k1 => k_is)
    have s_law_shifted : TL.Stands (L2.KOf KX) mg "_law_shifted" ["_law_shared", "_law_step_here", "_law_owns", "_law_size", "_law_worker"] (K04.top 16) := by
      dsimp only [L2.KOf]
      refine' TL.stands_mk KX G ?a1 ?l1 ?c1 ?k1 (fun _ _ _ _ _ _ us hl => match us, hl with | [_, _, _, _, _], _ => rfl)
      (case a1 => k_is); (case l1 => k_is); (case c1 => k_is); (case k1 => k_is)
    have s_law_both : TL.Stands (L2.KOf KX) mg "_law_both" ["_law_shared", "_law_steps", "_law_owns", "_law_size", "_law_order"] (K04.top 17) := by
      dsimp only [L2.KOf]
      refine' TL.stands_mk KX G ?a1 ?l1 ?c1 ?k1 (fun _ _ _ _ _ _ us hl => match us, hl with | [_, _, _, _, _], _ => rfl)
      (case a1 => k_is); (case l1 => k_is); (case c1 => k_is); (case k1 => k_is)
    have s_law_same : TL.Stands (L2.KOf KX) mg "_law_same" ["_law_steps", "_law_names_here", "_law_script"] (K04.top 18) := by
      dsimp only [L2.KOf]
      refine' TL.stands_mk KX G ?a1 ?l1 ?c1 ?k1 (fun _ _ _ _ _ _ us hl => match us, hl with | [_, _, _], _ => rfl)
      (case a1 => k_is); (case l1 => k_is); (case c1 => k_is); (case k1 => k_is)
    have lw : TL.Stands (L2.KOf KX) mg "law" ["_law_script"] (K04.top 19) := by
      dsimp only [L2.KOf]
      refine' TL.stands_mk KX G ?a1 ?l1 ?c1 ?k1 (fun _ _ _ _ _ _ us hl => match us, hl with | [_], _ => rfl)
      (case a1 => k_is); (case l1 => k_is); (case c1 => k_is); (case k1 => k_is)
    obtain ⟨f, fd, F, b, hm⟩ := lw
    have e := hmg.symm.trans hm
    cases e
    obtain ⟨oc, od, kV, doc, pm, an, cdv, ct, osl, rfl, _⟩ := F.ex
    exact ⟨_, fun s u => .of_eq rfl, fun base _ _ => K04.all_ok nm s_touched s_apart s_law_cell_at s_law_state s_law_next s_law_names s_law_value s_law_step s_law_worth s_law_touched s_law_due s_law_stopped s_law_shifted s_law_both s_law_same F⟩
end

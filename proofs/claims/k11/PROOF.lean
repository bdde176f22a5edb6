import PyProof.Rows.All
import Wide.All
import OpenK.AllK
import Wide.FinOn
import Lean
import PyProof.EqAt
import PyProof.EqKinds
import PyProof.TupleCall
import PyProof.NeKinds
import PyProof.AttrMiss
import PyProof.IsiH_list
import KE.KDictOf
import KE.KDictList
import KE.KEqDict
import PyProof.SetNew
import PyProof.SetRoads
import PyProof.EnumMake
import PyProof.EnumFor
import PyProof.Draws
import PySem.Challenge.RW_loomlook_k11_written
section
-- CHANGE: your row's module here, as the last of these rows
set_option Elab.async false
set_option linter.all false
set_option maxRecDepth 100000
namespace L2
open PySem PySem.Spec PyProof.Rows

/-- a key: an int or a str -/
abbrev Key := Sum Int Str
def keyIs : Key → Value → Bool
  | .inl k, v => Value.isInt k v
  | .inr x, v => Value.isStrOf x v
def keyH (w : World) : Key → Int
  | .inl k => hashInt k
  | .inr x => hashStr w x
theorem keyIs_shape : ∀ {k : Key} {v : Value}, keyIs k v = true → (∃ i t, k = Sum.inl i ∧ v = Value.int i t) ∨ (∃ x t, k = Sum.inr x ∧ v = Value.str x t)
  | .inl i, v, h => by
    obtain ⟨t, e⟩ := Value.isInt_shape (k := i) (v := v) h
    exact .inl ⟨i, t, rfl, e⟩
  | .inr x, v, h => by
    obtain ⟨t, e⟩ := Value.isStrOf_shape (x := x) (v := v) h
    exact .inr ⟨x, t, rfl, e⟩
theorem keyIs_int (i : Int) (t : Tok) : keyIs (.inl i) (.int i t) = true := by simp [keyIs, Value.isInt]
theorem keyIs_str (x : Str) (t : Tok) : keyIs (.inr x) (.str x t) = true := by simp [keyIs, Value.isStrOf]
theorem key_ll (a b : Int) : decide ((Sum.inl a : Key) = Sum.inl b) = (a == b) := by
  by_cases e : a = b
  · subst e; simp
  · have h : ¬ (Sum.inl a : Key) = Sum.inl b := fun q => e (Sum.inl.inj q)
    rw [decide_eq_false h]
    exact (beq_eq_false_iff_ne.mpr e).symm
theorem key_rr (a b : Str) : decide ((Sum.inr a : Key) = Sum.inr b) = decide (a = b) := by
  by_cases e : a = b
  · subst e; simp
  · have h : ¬ (Sum.inr a : Key) = Sum.inr b := fun q => e (Sum.inr.inj q)
    rw [decide_eq_false h, decide_eq_false e]
theorem key_lr (a : Int) (b : Str) : decide ((Sum.inl a : Key) = Sum.inr b) = false := decide_eq_false (fun q => nomatch q)
theorem key_rl (a : Str) (b : Int) : decide ((Sum.inr a : Key) = Sum.inl b) = false := decide_eq_false (fun q => nomatch q)

def mixKind (prog : Program) (w : World) : PySem.KeyKind prog w Key where
  is := keyIs
  hash := keyH w
  inj := fun v a b ha hb => by
    rcases keyIs_shape ha with ⟨i, t, rfl, rfl⟩ | ⟨x, t, rfl, rfl⟩
    · rcases keyIs_shape hb with ⟨j, u, rfl, e⟩ | ⟨y, u, rfl, e⟩
      · injection e with e1 _; rw [e1]
      · exact nomatch e
    · rcases keyIs_shape hb with ⟨j, u, rfl, e⟩ | ⟨y, u, rfl, e⟩
      · exact nomatch e
      · injection e with e1 _; rw [e1]
  byValue := fun k v h => by
    rcases keyIs_shape h with ⟨i, t, rfl, rfl⟩ | ⟨x, t, rfl, rfl⟩ <;> rfl
  pyHash := fun hv h => by
    rcases keyIs_shape hv with ⟨i, t, rfl, rfl⟩ | ⟨x, t, rfl, rfl⟩
    · exact wpAny_pyHash_int h
    · exact wpAny_pyHash_str h
  eqBool := fun hu hv h => by
    rcases keyIs_shape hu with ⟨i, t, rfl, rfl⟩ | ⟨x, t, rfl, rfl⟩
    · rcases keyIs_shape hv with ⟨j, u, rfl, rfl⟩ | ⟨y, u, rfl, rfl⟩
      · rw [key_ll] at h; exact wpAny_eqBool_int h
      · rw [key_lr] at h; exact SeqAt.EqAt.int_str i t y u _ _ _ _ h
    · rcases keyIs_shape hv with ⟨j, u, rfl, rfl⟩ | ⟨y, u, rfl, rfl⟩
      · rw [key_rl] at h; exact SeqAt.EqAt.str_int x t j u _ _ _ _ h
      · rw [key_rr] at h; exact wpAny_eqBool_str h
  «strs» := fun k x t v h => by
    rcases keyIs_shape h with ⟨i, u, rfl, e⟩ | ⟨y, u, rfl, e⟩
    · exact nomatch e
    · injection e with e1 _
      subst e1
      cases v <;> rfl

theorem mixKind_int (prog : Program) (w : World) (i : Int) (t : Tok) : (mixKind prog w).is (.inl i) (.int i t) = true := keyIs_int i t
theorem mixKind_str (prog : Program) (w : World) (x : Str) (t : Tok) : (mixKind prog w).is (.inr x) (.str x t) = true := keyIs_str x t
end L2

namespace L2
open PySem PySem.Spec PyProof.Rows

/-- a value, without the heap -/
inductive V where
  | non | bl (b : Bool) | int (i : Int) | str (x : Str) | byt (b : Array UInt8) | flt (b : UInt64) | ref (a : Addr) | ty (n : String)
  deriving DecidableEq

def RelV : V → Value → Prop
  | .non, u => u = Value.none
  | .bl b, u => u = Value.bool b
  | .int i, u => ∃ t, u = Value.int i t
  | .str x, u => ∃ t, u = Value.str x t
  | .byt b, u => ∃ t, u = Value.bytes b t
  | .flt b, u => ∃ t, u = Value.float b t
  | .ref a, u => u = Value.ref a
  | .ty n, u => u = Value.type n

abbrev Vals : List V → List Value → Prop := Paired RelV
theorem Vals.length {xs : List V} {us : List Value} (r : Vals xs us) : xs.length = us.length := Paired.length r
theorem Vals.get : ∀ {xs : List V} {us : List Value} {i : Nat} {x : V}, Vals xs us → xs[i]? = some x → ∃ u, us[i]? = some u ∧ RelV x u
  | _, _, _, _, .nil, e => by simp at e
  | _, _, 0, _, .cons r _, e => by simp at e; subst e; exact ⟨_, rfl, r⟩
  | _, _, i + 1, x, .cons _ t, e => by
    obtain ⟨u, h1, h2⟩ := Vals.get (i := i) (x := x) t (by simpa using e)
    exact ⟨u, by simpa using h1, h2⟩
theorem Vals.set {x : V} {u : Value} (r : RelV x u) : ∀ {xs : List V} {us : List Value} (i : Nat), Vals xs us → Vals (xs.set i x) (us.set i u)
  | _, _, _, .nil => .nil
  | _, _, 0, .cons _ t => .cons r t
  | _, _, i + 1, .cons q t => .cons q (Vals.set r i t)
theorem Vals.append : ∀ {xs ys : List V} {us ws : List Value}, Vals xs us → Vals ys ws → Vals (xs ++ ys) (us ++ ws)
  | _, _, _, _, .nil, s => s
  | _, _, _, _, .cons r t, s => .cons r (Vals.append t s)
theorem Vals.take : ∀ {xs : List V} {us : List Value} (n : Nat), Vals xs us → Vals (xs.take n) (us.take n)
  | _, _, 0, _ => .nil
  | _, _, _ + 1, .nil => .nil
  | _, _, n + 1, .cons r t => .cons r (Vals.take n t)
theorem Vals.drop : ∀ {xs : List V} {us : List Value} (n : Nat), Vals xs us → Vals (xs.drop n) (us.drop n)
  | _, _, 0, r => r
  | _, _, _ + 1, .nil => .nil
  | _, _, n + 1, .cons _ t => Vals.drop n t
theorem Vals.none_of : ∀ {xs : List V} {us : List Value} {i : Nat}, Vals xs us → xs[i]? = none → us[i]? = none := fun {xs us i} r e => by
  have h1 := r.length
  have h2 : xs.length ≤ i := List.getElem?_eq_none_iff.mp e
  exact List.getElem?_eq_none_iff.mpr (by omega)

def RelO : Option V → Option Value → Prop
  | some v, some u => RelV v u
  | none, none => True
  | _, _ => False
def KV {κ : Type} : List (κ × V) → List (κ × Value) → Prop := Paired fun (p : κ × V) (q : κ × Value) => p.1 = q.1 ∧ RelV p.2 q.2

/-- a key of a dict (00_mix): an int or a text -/
def kV : Key → V
  | .inl i => .int i
  | .inr x => .str x

/-- what stands at a tracked address -/
inductive HO where
  /-- a list -/
  | lst (xs : List V)
  /-- a tuple (never changes) -/
  | tup (xs : List V)
  /-- a dict whose keys are ints and texts; one whose keys are tuples of ints and texts (the empty one is both) -/
  | dK (kvs : List (Key × V)) | dT (kvs : List (List Key × V))
  /-- a set of ints: its members, its size -/
  | set (S : Int → Bool) (n : Nat)
  /-- an instance of the class at C, its dict at dx, its attributes -/
  | ins (C dx : Addr) (fs : List (Str × V))
  /-- the dict of the instance at x -/
  | own (x : Addr)
  /-- the dict of an exception -/
  | xd (fs : List (Str × V))
  /-- a bound method, f of x -/
  | met (f x : Addr)
  /-- a range object lo, lo + 1, .. below hi -/
  | rng (lo hi : Int)
  /-- a thing that is known to the object (the script; a dict while a loop walks it): read, never written while it is so -/
  | frz (o : Obj) (u : HO)
  /-- a code object's table -/
  | tbl (ps : Array Value)
  /-- any other thing, by what is true of its one object (a def of one's own: SetO a S n := HO.ext fun h => ..) -/
  | ext (φ : Heap → Prop)

abbrev Hp := Addr → Option HO
def upd (H : Hp) (a : Addr) (o : HO) : Hp := fun b => if b = a then some o else H b
theorem upd_same {H : Hp} {a : Addr} {o : HO} : upd H a o a = some o := by unfold upd; rw [if_pos rfl]
theorem upd_ne {H : Hp} {a b : Addr} {o : HO} (h : b ≠ a) : upd H a o b = H b := by unfold upd; rw [if_neg h]
theorem ne_of_none {H : Hp} {a b : Addr} {o : HO} (h : H a = some o) (h' : H b = none) : a ≠ b := by
  intro e; subst e; rw [h] at h'; cases h'

section
variable (P : Program) (w : World)
def ObjOk (H : Hp) (h : Heap) (a : Addr) : HO → Prop
  | .lst xs => xs.length ≤ sizeLine ∧ ∃ (its : List Value) (n : Nat), Vals xs its ∧ h.get? a = some { cls := .type "list", data := .seq its.toArray n }
  | .tup xs => xs.length ≤ sizeLine ∧ ∃ its : List Value, Vals xs its ∧ IsTup h a its.toArray
  | .dK kvs => kvs.length ≤ sizeLine ∧ (a == sysModules) = false ∧ ∃ vs, KV kvs vs ∧ h.DictOf (mixKind P w) a vs
  | .dT kvs => kvs.length ≤ sizeLine ∧ (a == sysModules) = false ∧ ∃ xs : List (List Key × Addr × Value),
      Paired (fun (p : List Key × V) (q : List Key × Addr × Value) => p.1 = q.1 ∧ H q.2.1 = some (.tup (p.1.map kV)) ∧ RelV p.2 q.2.2) kvs xs ∧
      ∃ o es ep, h.get? a = some o ∧ o.ExactDict ∧ o.data = .dict es ep ∧ es.toList = xs.map (entryOfKey (tupleKind (mixKind P w))) ∧ (xs.map (·.1)).Nodup
  | .set S n => h.SetOf (intKind P w) a S n
  | .ins C dx fs => H dx = some (.own a) ∧ fs.length ≤ 1000 ∧ dx ≠ a ∧ h.get? a = some (PySem.W.instObj C dx) ∧
      ∃ mA, h.Ns1 dx mA ∧ (∀ f, RelO (fs.lookup f) (mA f)) ∧ PySem.Within mA (fs.map (·.1))
  | .own _ => ∃ o, h.get? a = some o
  | .xd fs => ∃ mA, h.Ns1 a mA ∧ ∀ f, RelO (fs.lookup f) (mA f)
  | .rng lo hi => ∃ t u v, h.get? a = some { cls := .type "range", data := .fields #[.int lo t, .int hi u, .int 1 v] }
  | .frz o u => h.get? a = some o ∧ ObjOk H h a u
  | .tbl ps => h.get? a = some { cls := .none, data := .fields ps }
  | .met f x => h.get? a = some (PySem.W.methodObj (.ref f) (.ref x))
  | .ext φ => φ h ∧ (∃ o, h.get? a = some o) ∧ ∀ h1 h2 : Heap, φ h1 → (∀ o, h1.get? a = some o → h2.get? a = some o) → φ h2
/-- the abstract heap is held -/
def HOk (H : Hp) (h : Heap) : Prop := ∀ a o, H a = some o → ObjOk P w H h a o
end

section
variable {P : Program} {w : World} {H H' : Hp} {h h' : Heap} {a : Addr} {o : HO}
theorem ObjOk.lt (x : ObjOk P w H h a o) : a < h.objs.size := by
  cases o with
  | lst xs => obtain ⟨_, _, _, _, e⟩ := x; exact Heap.lt_size e
  | tup xs => obtain ⟨_, _, _, p⟩ := x; exact p.lt
  | dK kvs => obtain ⟨_, _, _, _, o, _, _, e, _⟩ := x; exact Heap.lt_size e
  | dT kvs => obtain ⟨_, _, _, _, o, _, _, e, _⟩ := x; exact Heap.lt_size e
  | set S n => obtain ⟨o, _, _, _, e, _⟩ := x; exact Heap.lt_size e
  | ins C dx fs => obtain ⟨_, _, _, e, _⟩ := x; exact Heap.lt_size e
  | own y => obtain ⟨_, e⟩ := x; exact Heap.lt_size e
  | xd fs => obtain ⟨_, ⟨_, _, _, e, _⟩, _⟩ := x; exact Heap.lt_size e
  | rng lo hi => obtain ⟨_, _, _, e⟩ := x; exact Heap.lt_size e
  | frz ob u => obtain ⟨e, _⟩ := x; exact Heap.lt_size e
  | tbl ps => exact Heap.lt_size (show h.get? a = some _ from x)
  | met f y => exact Heap.lt_size (show h.get? a = some _ from x)
  | ext φ => obtain ⟨_, ⟨_, e⟩, _⟩ := x; exact Heap.lt_size e
theorem Paired.mapP {α β : Type} {F G : α → β → Prop} : ∀ {l₁ : List α} {l₂ : List β}, Paired F l₁ l₂ → (∀ a b, F a b → G a b) → Paired G l₁ l₂
  | _, _, .nil, _ => .nil
  | _, _, .cons r t, f => .cons (f _ _ r) (Paired.mapP t f)
/-- what an object's description leans on: its own object, its own dict, the tuples -/
theorem ObjOk.stay (x : ObjOk P w H h a o) (k : ∀ b u, (b = a ∨ H b = some (.own a)) → h.get? b = some u → h'.get? b = some u)
    (ho : ∀ b, H b = some (.own a) → H' b = some (.own a)) (ht : ∀ b xs, H b = some (.tup xs) → H' b = some (.tup xs)) : ObjOk P w H' h' a o := by
  induction o with
  | lst xs => obtain ⟨z, its, n, r, e⟩ := x; exact ⟨z, its, n, r, k _ _ (.inl rfl) e⟩
  | tup xs => obtain ⟨z, its, r, ob, e, c⟩ := x; exact ⟨z, its, r, ob, k _ _ (.inl rfl) e, c⟩
  | dK kvs => obtain ⟨z, y, vs, r, ob, es, ep, e, c⟩ := x; exact ⟨z, y, vs, r, ob, es, ep, k _ _ (.inl rfl) e, c⟩
  | dT kvs =>
    obtain ⟨z, y, xs, r, ob, es, ep, e, c⟩ := x
    exact ⟨z, y, xs, Paired.mapP r fun p q z => ⟨z.1, ht _ _ z.2.1, z.2.2⟩, ob, es, ep, k _ _ (.inl rfl) e, c⟩
  | set S n => obtain ⟨ob, es, ep, t, e, c⟩ := x; exact ⟨ob, es, ep, t, k _ _ (.inl rfl) e, c⟩
  | ins C dx fs =>
    obtain ⟨d, z, ne, e, mA, ⟨od, es, ep, e2, c⟩, r⟩ := x
    exact ⟨ho _ d, z, ne, k _ _ (.inl rfl) e, mA, ⟨od, es, ep, k _ _ (.inr d) e2, c⟩, r⟩
  | own y => obtain ⟨ob, e⟩ := x; exact ⟨ob, k _ _ (.inl rfl) e⟩
  | xd fs => obtain ⟨mA, ⟨od, es, ep, e, c⟩, r⟩ := x; exact ⟨mA, ⟨od, es, ep, k _ _ (.inl rfl) e, c⟩, r⟩
  | rng lo hi => obtain ⟨t, u, v, e⟩ := x; exact ⟨t, u, v, k _ _ (.inl rfl) e⟩
  | frz ob u ih => obtain ⟨e, q⟩ := x; exact ⟨k _ _ (.inl rfl) e, ih q⟩
  | tbl ps =>
    have e : h.get? a = some { cls := .none, data := .fields ps } := x
    show h'.get? a = some { cls := .none, data := .fields ps }
    exact k a _ (.inl rfl) e
  | met f y =>
    have e : h.get? a = some (PySem.W.methodObj (.ref f) (.ref y)) := x
    show h'.get? a = some (PySem.W.methodObj (.ref f) (.ref y))
    exact k a _ (.inl rfl) e
  | ext φ => obtain ⟨p, ⟨o, e⟩, st⟩ := x; exact ⟨st _ _ p fun o q => k _ _ (.inl rfl) q, ⟨o, k _ _ (.inl rfl) e⟩, st⟩
theorem HOk.lt (x : HOk P w H h) (e : H a = some o) : a < h.objs.size := (x a o e).lt
theorem HOk.fresh (x : HOk P w H h) (e : h.objs.size ≤ a) : H a = none := by
  cases q : H a with
  | none => rfl
  | some u => exact absurd (Nat.lt_of_lt_of_le (x.lt q) e) (Nat.lt_irrefl _)
/-- every object of the heap is kept -/
theorem HOk.kept (x : HOk P w H h) (k : ∀ b u, h.get? b = some u → h'.get? b = some u) : HOk P w H h' := fun a o e =>
  (x a o e).stay (fun b u _ q => k b u q) (fun _ q => q) fun _ _ q => q
/-- a new object is laid and tracked -/
theorem HOk.laid (x : HOk P w H h) (k : ∀ b u, h.get? b = some u → h'.get? b = some u) (hp : h.objs.size ≤ a) (new : ObjOk P w (upd H a o) h' a o) : HOk P w (upd H a o) h' := fun b u e => by
  have hn := x.fresh hp
  by_cases hb : b = a
  · subst hb; rw [upd_same] at e; cases e; exact new
  · rw [upd_ne hb] at e
    exact (x b u e).stay (fun c v _ q => k c v q) (fun c q => by rw [upd_ne (ne_of_none q hn)]; exact q) fun c xs q => by rw [upd_ne (ne_of_none q hn)]; exact q
end

/-- what may be read as u: it is u, or a known u -/
def Rd (H : Hp) (a : Addr) (u : HO) : Prop := H a = some u ∨ ∃ o, H a = some (.frz o u)
theorem Rd.of {H : Hp} {a : Addr} {u : HO} (h : H a = some u) : Rd H a u := .inl h
theorem Rd.ok {P : Program} {w : World} {H : Hp} {h : Heap} {a : Addr} {u : HO} (r : Rd H a u) (x : HOk P w H h) : ObjOk P w H h a u := by
  rcases r with r | ⟨o, r⟩
  · exact x a u r
  · obtain ⟨_, q⟩ := x a _ r
    exact q
/-- what may be written -/
def Mut : Option HO → Prop
  | some (.lst _) => True
  | some (.dK _) => True
  | some (.dT _) => True
  | some (.set _ _) => True
  | some (.ins _ _ _) => True
  | some (.ext _) => True
  | _ => False
section
variable {P : Program} {w : World} {H : Hp} {h h' : Heap} {x e : Addr} {o' : HO}
/-- the object at e is changed: x itself, or the dict of the instance x -/
theorem HOk.write (ok : HOk P w H h) (mu : Mut (H x)) (he : e = x ∨ H e = some (.own x)) (k : ∀ b u, b ≠ e → h.get? b = some u → h'.get? b = some u) (heo : ∃ u, h'.get? e = some u)
    (new : ObjOk P w (upd H x o') h' x o') : HOk P w (upd H x o') h' := fun b u q => by
  have nown : ∀ c y, H c = some (.own y) → c ≠ x := fun c y r z => by subst z; rw [r] at mu; exact mu
  have ntup : ∀ c xs, H c = some (.tup xs) → c ≠ x := fun c xs r z => by subst z; rw [r] at mu; exact mu
  by_cases hb : b = x
  · subst hb; rw [upd_same] at q; cases q; exact new
  · rw [upd_ne hb] at q
    by_cases hbe : b = e
    · have q' : H b = some (.own x) := by
        rcases he with z | z
        · exact absurd (hbe.trans z) hb
        · rw [hbe]; exact z
      rw [q] at q'; cases q'
      obtain ⟨v, hv⟩ := heo
      exact ⟨v, by rw [hbe]; exact hv⟩
    · refine (ok b u q).stay (fun c v hc r => k c v ?_ r) (fun c r => by rw [upd_ne (nown c b r)]; exact r) fun c xs r => by rw [upd_ne (ntup c xs r)]; exact r
      rcases hc with rfl | hc
      · exact hbe
      · rintro rfl
        rcases he with z | z
        · exact nown c b hc z
        · rw [hc] at z; cases z; exact hb rfl
end

structure Un (fs ex : List Addr) (H H' : Hp) (h h' : Heap) : Prop where
  keep : ∀ b o, h.get? b = some o → H b = none → b ∉ fs → b ∉ ex → h'.get? b = some o
  slot : ∀ b o, h.get? b = some o → H b = none → b ∈ fs → b ∉ ex → ∃ sl, h'.get? b = some { o with slots := sl }
  free : ∀ b o, h.get? b = some o → H b = none → b ∉ ex → H' b = none
  there : ∀ b o, h.get? b = some o → b ∉ ex → ∃ o', h'.get? b = some o'
  tups : ∀ b xs, H b = some (.tup xs) → H' b = some (.tup xs)
  frzs : ∀ b o u, H b = some (.frz o u) → H' b = some (.frz o u)
  tbls : ∀ b ps, H b = some (.tbl ps) → ∃ more, H' b = some (.tbl (ps ++ more))
section
variable {fs fs' ex ex' : List Addr} {H H1 H2 : Hp} {h h1 h2 h' : Heap} {a x e : Addr} {o : HO}
theorem Un.any (u : Un fs ex H H1 h h1) {b : Addr} {ob : Obj} (q : h.get? b = some ob) (n : H b = none) (hx : b ∉ ex) : ∃ sl, h1.get? b = some { ob with slots := sl } := by
  by_cases hb : b ∈ fs
  · exact u.slot b ob q n hb hx
  · exact ⟨ob.slots, u.keep b ob q n hb hx⟩
theorem Un.trans (a : Un fs ex H H1 h h1) (b : Un fs ex H1 H2 h1 h2) : Un fs ex H H2 h h2 where
  keep := fun c ob q n hc hx => b.keep c ob (a.keep c ob q n hc hx) (a.free c ob q n hx) hc hx
  slot := fun c ob q n hc hx => by
    obtain ⟨sl, e1⟩ := a.slot c ob q n hc hx
    obtain ⟨sl', e2⟩ := b.slot c _ e1 (a.free c ob q n hx) hc hx
    exact ⟨sl', e2⟩
  free := fun c ob q n hx => by
    obtain ⟨o', e1⟩ := a.there c ob q hx
    exact b.free c o' e1 (a.free c ob q n hx) hx
  there := fun c ob q hx => by
    obtain ⟨o', e1⟩ := a.there c ob q hx
    exact b.there c o' e1 hx
  tups := fun c xs q => b.tups c xs (a.tups c xs q)
  frzs := fun c ob xs q => b.frzs c ob xs (a.frzs c ob xs q)
  tbls := fun c ps q => by
    obtain ⟨m1, e1⟩ := a.tbls c ps q
    obtain ⟨m2, e2⟩ := b.tbls c _ e1
    exact ⟨m1 ++ m2, by rw [e2, Array.append_assoc]⟩
theorem Un.kept (k : ∀ b u, h.get? b = some u → h'.get? b = some u) : Un fs ex H H h h' :=
  ⟨fun b ob q _ _ _ => k b ob q, fun b ob q _ _ _ => ⟨ob.slots, k b ob q⟩, fun _ _ _ n _ => n, fun b ob q _ => ⟨ob, k b ob q⟩, fun _ _ q => q, fun _ _ _ q => q, fun _ ps q => ⟨#[], by rw [q]; simp⟩⟩
theorem Un.refl : Un fs ex H H h h := Un.kept fun _ _ q => q
theorem Un.laid (k : ∀ b u, h.get? b = some u → h'.get? b = some u) (hp : h.objs.size ≤ a) (hn : H a = none) : Un fs ex H (upd H a o) h h' where
  keep := fun b u q _ _ _ => k b u q
  slot := fun b u q _ _ _ => ⟨u.slots, k b u q⟩
  free := fun b u q n _ => by rw [upd_ne (Nat.ne_of_lt (Nat.lt_of_lt_of_le (Heap.lt_size q) hp))]; exact n
  there := fun b u q _ => ⟨u, k b u q⟩
  tups := fun b xs q => by rw [upd_ne (ne_of_none q hn)]; exact q
  frzs := fun b u xs q => by rw [upd_ne (ne_of_none q hn)]; exact q
  tbls := fun b ps q => ⟨#[], by rw [upd_ne (ne_of_none q hn), q]; simp⟩
theorem Un.write (mu : Mut (H x)) (he : e = x ∨ H e = some (.own x)) (k : ∀ b u, b ≠ e → h.get? b = some u → h'.get? b = some u) (heo : ∃ u, h'.get? e = some u) : Un fs ex H (upd H x o) h h' := by
  have hx : ∀ b, H b = none → b ≠ x := fun b n z => by subst z; rw [n] at mu; exact mu
  have hb : ∀ b, H b = none → b ≠ e := fun b n z => by
    subst z
    rcases he with r | r
    · exact hx b n r
    · rw [n] at r; cases r
  have hm : ∀ b u, H b = some u → ¬ Mut (some u) → b ≠ x := fun b u q nm z => by subst z; rw [q] at mu; exact nm mu
  refine ⟨fun b u q n _ _ => k b u (hb b n) q, fun b u q n _ _ => ⟨u.slots, k b u (hb b n) q⟩, fun b u q n _ => by rw [upd_ne (hx b n)]; exact n, fun b u q _ => ?_,
    fun b xs q => by rw [upd_ne (hm b _ q fun z => z)]; exact q, fun b u xs q => by rw [upd_ne (hm b _ q fun z => z)]; exact q, fun b ps q => ⟨#[], by rw [upd_ne (hm b _ q fun z => z), q]; simp⟩⟩
  by_cases hbe : b = e
  · subst hbe; exact heo
  · exact ⟨u, k b u hbe q⟩
theorem Un.mono (u : Un fs ex H H1 h h1) (hs : ∀ b ∈ fs, b ∈ fs') (hx : ∀ b ∈ ex, b ∈ ex') : Un fs' ex' H H1 h h1 :=
  ⟨fun b ob q n hb he => u.keep b ob q n (fun z => hb (hs b z)) fun z => he (hx b z), fun _ _ q n _ he => u.any q n fun z => he (hx _ z), fun b ob q n he => u.free b ob q n fun z => he (hx b z), fun b ob q he => u.there b ob q fun z => he (hx b z), u.tups, u.frzs, u.tbls⟩
end

def trk (h : Heap) (H : Hp) : List Addr := (List.range h.objs.size).filter fun a => (H a).isSome
def hidT (h : Heap) (H : Hp) : Heap := PySem.W.hideAll h (trk h H)
theorem hidT_size (h : Heap) (H : Hp) : (hidT h H).objs.size = h.objs.size := PySem.W.hideAll_size _ _
theorem hidT_get {h : Heap} {H : Hp} {b : Addr} {o : Obj} (e : h.get? b = some o) (n : H b = none) : (hidT h H).get? b = some o :=
  PySem.W.hideAll_get _ e fun hm => by
    have q : (H b).isSome = true := (List.mem_filter.mp hm).2
    rw [n] at q; simp at q
theorem of_hidT {h : Heap} {H : Hp} {b : Addr} {o : Obj} (e : (hidT h H).get? b = some o) : h.get? b = some o ∧ H b = none := by
  have e' : h.get? b = some o := PySem.W.of_hideAll (trk h H) e
  refine ⟨e', ?_⟩
  cases q : H b with
  | none => rfl
  | some x =>
    have hm : b ∈ trk h H := List.mem_filter.mpr ⟨List.mem_range.mpr (Heap.lt_size e'), by simp [q]⟩
    have z : (hidT h H).get? b = none := PySem.W.hideAll_none (trk h H) hm
    rw [z] at e; cases e

def allNews (g h : Heap) (L : Addr) : List (Addr × Obj) := (List.range h.objs.size).filterMap fun a => if a = L ∨ (g.get? a).isSome = true then none else (h.get? a).map fun o => (a, o)
def rest (g h : Heap) (L d : Addr) : List (Addr × Obj) := (allNews g h L).filter fun p => decide (p.1 ≠ d)
end L2

namespace L2
open PySem PySem.Spec PyProof.Rows

/-- the module's facts, over the base: the heap at the law's entry without what is tracked there -/
structure Mod (K : PySem.W.Frag) (mg : Str → Option Value) (base : Heap) : Prop where
  kin : K.In base
  glob : base.Ns mainGlobals mg
  blt : ∃ mb, base.Ns builtinsNs mb ∧ ∀ x : Str, x ≠ "__name__" → mb x = bootBuiltins x
  nolimit : base.NoLimit

/-- the context: a def's body (or a comprehension's block) running. base: fixed through the whole law; s₀, H₀: the entry; outer: the frames whose slots others may change (a def's callers); stack: all frames that run;
   ex: iterators that were made ahead of the entry and are walked here (a comprehension's); fn: the names whose cells were made at the entry (a def: all; a comprehension's block: its own); calm: not within an except suite; pn: pins that every state bears; xe: what is wanted of an exception that leaves the code -/
structure Cx where
  prog : Program
  w : World
  K : PySem.W.Frag
  mg : Str → Option Value
  base : Heap
  A : Around
  N : List Str
  s₀ : Shared
  H₀ : Hp
  env : Env
  outer : List Env
  stack : List Env
  ex : List Addr
  fn : Str → Bool
  calm : Bool
  pn : List (Addr × Obj)
  xe : Value → Shared → Prop
/-- the callers' frames -/
def frs (l : List Env) : List Addr := l.filterMap (·.frame)
abbrev Cx.fs (X : Cx) : List Addr := frs X.outer

def Vis (sc : Scope) (x : Str) : Prop := sc.names.lookup x = some .local ∨ sc.names.lookup x = some .cell ∨ sc.names.lookup x = some .free
def Loc (sc : Scope) (x : Str) : Prop := sc.names.lookup x = some .local ∨ sc.names.lookup x = some .cell
def Look (env : Env) (h : Heap) (m : Str → Option Value) (x : Str) (u : Value) : Prop :=
  (env.kindOf x = some .local ∧ m x = some u) ∨ ((env.kindOf x = some .cell ∨ env.kindOf x = some .free) ∧ ∃ c, env.cells.lookup x = some c ∧ h.IsCell c (some u))

structure Cx.Ok (X : Cx) : Prop where
  mod : Mod X.K X.mg X.base
  kind : X.env.scope.kind = .function
  glob : X.env.globals = mainGlobals
  blt : X.env.builtins = builtinsNs
  above : X.s₀.heap.objs.size ≤ X.env.locals
  inj : ∀ x y c, X.env.cells.lookup x = some c → X.env.cells.lookup y = some c → x = y
  has : ∀ x, (X.env.kindOf x = some .cell ∨ X.env.kindOf x = some .free) → ∃ c, X.env.cells.lookup x = some c
  cab : ∀ x c, X.fn x = true → X.env.cells.lookup x = some c → X.s₀.heap.objs.size ≤ c
  hd : X.calm = true → X.A.handled = none
  frames : X.A.frames = some X.stack
  stk : X.stack = X.outer ∨ (X.stack = X.env :: X.outer ∧ X.env.frame = some X.env.locals)
  exf : ∀ b ∈ X.ex, b ≠ X.env.locals ∧ ∀ x c, X.env.cells.lookup x = some c → c ≠ b
  bs : ∀ b o, X.base.get? b = some o → X.s₀.heap.get? b = some o ∧ X.H₀ b = none
  bsz : X.base.objs.size ≤ X.s₀.heap.objs.size
  noex : ∀ b o, X.base.get? b = some o → b ∉ X.ex
  exfs : ∀ b ∈ X.ex, b ∉ X.fs
  funs : X.s₀.heap.FunFrames X.base X.outer
  frf : ∀ b ∈ X.fs, X.H₀ b = none

structure Inv (X : Cx) (pins : List (Addr × Obj)) (σ : List (Option V)) (H : Hp) (s : Shared) : Prop where
  ok : X.Ok
  os : s.os = X.s₀.os
  bare : AllBare s.gens
  base : Un X.fs X.ex X.H₀ H X.s₀.heap s.heap
  loc : ∃ m, s.heap.Ns X.env.locals m ∧ ∀ (i : Nat) (x : Str) (v : V), X.N[i]? = some x → σ[i]? = some (some v) → Vis X.env.scope x → ∃ u, RelV v u ∧ Look X.env s.heap m x u
  cell : ∀ x c, X.env.cells.lookup x = some c → ∃ v, s.heap.IsCell c v
  free : H X.env.locals = none
  freeC : ∀ x c, X.env.cells.lookup x = some c → H c = none
  pin : ∀ p ∈ X.pn ++ pins, s.heap.get? p.1 = some p.2 ∧ H p.1 = none ∧ p.1 ≠ X.env.locals ∧ p.1 ∉ X.fs ∧ ∀ v, p.2.data ≠ .cell v
  hok : HOk X.prog X.w H s.heap
  len : σ.length = X.N.length

section
variable {X : Cx} {pins : List (Addr × Obj)} {σ : List (Option V)} {H H' : Hp} {s : Shared} {h' : Heap}

theorem Cx.Ok.nofr (ok : X.Ok) {b : Addr} {o : Obj} (e : X.base.get? b = some o) : b ∉ X.fs := fun hb => by
  have := (ok.funs.mem hb).1
  rw [e] at this; cases this
theorem Inv.bs (I : Inv X pins σ H s) : ∀ b o, X.base.get? b = some o → s.heap.get? b = some o ∧ H b = none := fun b o e =>
  ⟨I.base.keep b o (I.ok.bs b o e).1 (I.ok.bs b o e).2 (I.ok.nofr e) (I.ok.noex b o e), I.base.free b o (I.ok.bs b o e).1 (I.ok.bs b o e).2 (I.ok.noex b o e)⟩
theorem Inv.bk (I : Inv X pins σ H s) : ∀ b o, X.base.get? b = some o → s.heap.get? b = some o := fun b o e => (I.bs b o e).1
theorem Inv.mod (I : Inv X pins σ H s) : Mod X.K X.mg X.base := I.ok.mod
theorem Inv.kIn (I : Inv X pins σ H s) : X.K.In s.heap := I.ok.mod.kin.keeps I.bk
theorem Inv.nolimit (I : Inv X pins σ H s) : s.heap.NoLimit := I.ok.mod.nolimit.keeps I.bk
theorem Inv.lt (I : Inv X pins σ H s) : X.env.locals < s.heap.objs.size := let ⟨_, hn, _⟩ := I.loc; hn.lt
theorem Inv.sz (I : Inv X pins σ H s) : X.s₀.heap.objs.size ≤ s.heap.objs.size := Nat.le_trans I.ok.above (Nat.le_of_lt I.lt)
theorem Inv.nofs (I : Inv X pins σ H s) {a : Addr} (h : s.heap.objs.size ≤ a) : a ∉ X.fs := fun hb => by
  obtain ⟨_, o, ho, _⟩ := I.ok.funs.mem hb
  exact absurd (Nat.lt_of_lt_of_le (Heap.lt_size ho) (Nat.le_trans I.sz h)) (Nat.lt_irrefl _)
theorem Inv.cne (I : Inv X pins σ H s) : ∀ x c, X.env.cells.lookup x = some c → c ≠ X.env.locals := fun x c e z => by
  obtain ⟨v, o, ho, hd⟩ := I.cell x c e
  obtain ⟨m, ⟨o', es, ep, ho', hd', _⟩, _⟩ := I.loc
  rw [z, ho'] at ho; cases ho; rw [hd'] at hd; cases hd
theorem Inv.funs (I : Inv X pins σ H s) : s.heap.FunFrames X.base X.outer := by
  have all : ∀ (l : List Env), (∀ b ∈ frs l, b ∈ X.fs) → X.s₀.heap.FunFrames X.base l → s.heap.FunFrames X.base l := by
    intro l
    induction l with
    | nil => intro _ _; trivial
    | cons env r ih =>
      intro hs hl
      obtain ⟨hk, ⟨L, o, hf, hn, ho, hd⟩, hr⟩ := hl
      have hL : L ∈ X.fs := hs L (by unfold frs; rw [List.filterMap_cons, hf]; exact List.mem_cons_self)
      obtain ⟨sl, e⟩ := I.base.slot L o ho (I.ok.frf L hL) hL fun z => I.ok.exfs L z hL
      exact ⟨hk, ⟨L, _, hf, hn, e, hd⟩, ih (fun b hb => hs b (by unfold frs; rw [List.filterMap_cons, hf]; exact List.mem_cons_of_mem _ hb)) hr⟩
  exact all X.outer (fun _ hb => hb) I.ok.funs

/-- the frames that run, for a call -/
theorem Inv.stack (I : Inv X pins σ H s) : s.heap.FunFrames X.base X.stack := by
  rcases I.ok.stk with e | ⟨e, hf⟩
  · rw [e]; exact I.funs
  · rw [e]
    obtain ⟨m, hn, _⟩ := I.loc
    refine .cons (by rw [I.ok.kind]; decide) hf hn ?_ I.funs
    exact Heap.get?_none_of_le (Nat.le_trans I.ok.bsz I.ok.above)
theorem Inv.stkSub (I : Inv X pins σ H s) : ∀ b ∈ frs X.stack, b ∈ X.env.locals :: X.fs := fun b hb => by
  rcases I.ok.stk with e | ⟨e, hf⟩
  · rw [e] at hb; exact List.mem_cons_of_mem _ hb
  · rw [e] at hb
    unfold frs at hb
    rw [List.filterMap_cons, hf] at hb
    exact hb
theorem Inv.stkFree (I : Inv X pins σ H s) : ∀ b ∈ frs X.stack, H b = none := fun b hb => by
  rcases List.mem_cons.mp (I.stkSub b hb) with e | hb
  · rw [e]; exact I.free
  · obtain ⟨_, o, ho, _⟩ := I.ok.funs.mem hb
    exact I.base.free b o ho (I.ok.frf b hb) fun z => I.ok.exfs b z hb

/-- THE STEP: the untracked objects but the frame and the records at ch are kept (the callers' frames up to slots), the frame's map is kept, the new abstract heap is held -/
theorem Inv.step {g' : Array GenState} {t' : Nat} {d' : Drawn} {ch : List Addr} (I : Inv X pins σ H s)
    (hch : ∀ b ∈ ch, (b ∈ X.ex ∨ X.s₀.heap.objs.size ≤ b) ∧ b ≠ X.env.locals ∧ (∀ x c, X.env.cells.lookup x = some c → c ≠ b) ∧ ∀ p ∈ X.pn ++ pins, p.1 ≠ b)
    (keep : ∀ b o, b ≠ X.env.locals → b ∉ X.fs → b ∉ ch → s.heap.get? b = some o → H b = none → h'.get? b = some o)
    (slot : ∀ b o, b ≠ X.env.locals → b ∈ X.fs → b ∉ ch → s.heap.get? b = some o → H b = none → ∃ sl, h'.get? b = some { o with slots := sl }) (free : ∀ b o, b ∉ ch → s.heap.get? b = some o → H b = none → H' b = none)
    (there : ∀ b o, b ∉ ch → s.heap.get? b = some o → ∃ o', h'.get? b = some o')
    (tups : ∀ b xs, H b = some (.tup xs) → H' b = some (.tup xs)) (frzs : ∀ b o u, H b = some (.frz o u) → H' b = some (.frz o u)) (tbls : ∀ b ps, H b = some (.tbl ps) → ∃ more, H' b = some (.tbl (ps ++ more)))
    (ns : ∀ m, s.heap.Ns X.env.locals m → h'.Ns X.env.locals m) (hok : HOk X.prog X.w H' h') (hg : AllBare g') :
    Inv X pins σ H' { s with heap := h', gens := g', drawn := d', toks := t' } := by
  have neL : ∀ b o, X.s₀.heap.get? b = some o → b ≠ X.env.locals := fun b o e => Nat.ne_of_lt (Nat.lt_of_lt_of_le (Heap.lt_size e) I.ok.above)
  have neC : ∀ b o, X.s₀.heap.get? b = some o → b ∉ X.ex → b ∉ ch := fun b o e hx hb => by
    rcases (hch b hb).1 with z | z
    · exact hx z
    · exact absurd (Nat.lt_of_lt_of_le (Heap.lt_size e) z) (Nat.lt_irrefl _)
  have cellK : ∀ x c, X.env.cells.lookup x = some c → ∀ v, s.heap.IsCell c v → h'.IsCell c v := fun x c e v ⟨o, ho, hd⟩ => by
    have nch : c ∉ ch := fun z => (hch c z).2.2.1 x c e rfl
    by_cases hc : c ∈ X.fs
    · obtain ⟨sl, q⟩ := slot c o (I.cne x c e) hc nch ho (I.freeC x c e)
      exact ⟨_, q, hd⟩
    · exact ⟨o, keep c o (I.cne x c e) hc nch ho (I.freeC x c e), hd⟩
  refine ⟨I.ok, I.os, hg, ⟨fun b o e n hb hx => ?_, fun b o e n hb hx => ?_, fun b o e n hx => ?_, fun b o e hx => ?_, fun b xs e => tups b xs (I.base.tups b xs e), fun b o xs e => frzs b o xs (I.base.frzs b o xs e), fun b ps e => ?_⟩, ?_, fun x c e => ?_, ?_, fun x c e => ?_, fun p hp => ?_, hok, I.len⟩
  · exact keep b o (neL b o e) hb (neC b o e hx) (I.base.keep b o e n hb hx) (I.base.free b o e n hx)
  · obtain ⟨sl, e1⟩ := I.base.slot b o e n hb hx
    obtain ⟨sl', e2⟩ := slot b _ (neL b o e) hb (neC b o e hx) e1 (I.base.free b o e n hx)
    exact ⟨sl', e2⟩
  · obtain ⟨o', e1⟩ := I.base.there b o e hx
    exact free b o' (neC b o e hx) e1 (I.base.free b o e n hx)
  · obtain ⟨o', e1⟩ := I.base.there b o e hx
    exact there b o' (neC b o e hx) e1
  · obtain ⟨m1, e1⟩ := I.base.tbls b ps e
    obtain ⟨m2, e2⟩ := tbls b _ e1
    exact ⟨m1 ++ m2, by rw [e2, Array.append_assoc]⟩
  · obtain ⟨m, hn, hl⟩ := I.loc
    refine ⟨m, ns m hn, fun i x v e1 e2 e3 => ?_⟩
    obtain ⟨u, r, l⟩ := hl i x v e1 e2 e3
    refine ⟨u, r, ?_⟩
    rcases l with l | ⟨k, c, e, z⟩
    · exact .inl l
    · exact .inr ⟨k, c, e, cellK x c e _ z⟩
  · obtain ⟨v, z⟩ := I.cell x c e
    exact ⟨v, cellK x c e v z⟩
  · obtain ⟨m, ⟨o, _, _, ho, _⟩, _⟩ := I.loc
    exact free _ o (fun z => (hch _ z).2.1 rfl) ho I.free
  · obtain ⟨v, o, ho, hd⟩ := I.cell x c e
    exact free c o (fun z => (hch c z).2.2.1 x c e rfl) ho (I.freeC x c e)
  · obtain ⟨e, n, ne, nf, d⟩ := I.pin p hp
    have nch : p.1 ∉ ch := fun z => (hch p.1 z).2.2.2 p hp rfl
    exact ⟨keep p.1 p.2 ne nf nch e n, free p.1 p.2 nch e n, ne, nf, d⟩
/-- .. where the frame's own object is kept too -/
theorem Inv.un {t' : Nat} (I : Inv X pins σ H s) (u : Un X.fs [] H H' s.heap h') (hok : HOk X.prog X.w H' h') : Inv X pins σ H' { s with heap := h', toks := t' } := by
  obtain ⟨m, ⟨o, es, ep, ho, r⟩, _⟩ := id I.loc
  obtain ⟨sl, hL⟩ := u.any ho I.free (by simp)
  exact I.step (g' := s.gens) (d' := s.drawn) (ch := []) (fun _ z => nomatch z) (fun b o _ hb _ e n => u.keep b o e n hb (by simp)) (fun b o _ hb _ e n => u.slot b o e n hb (by simp)) (fun b o _ e n => u.free b o e n (by simp)) (fun b o _ e => u.there b o e (by simp)) u.tups u.frzs u.tbls (fun m' hm => by
    obtain ⟨o', es', ep', ho', r'⟩ := hm
    rw [ho] at ho'; cases ho'
    exact ⟨_, es', ep', hL, r'⟩) hok I.bare
/-- behind a call (or a comprehension's block): the slots of this frame may have changed too, the records at ch may have turned -/
theorem Inv.call {g' : Array GenState} {t' : Nat} {d' : Drawn} {ch : List Addr} (I : Inv X pins σ H s) (u : Un (frs X.stack) ch H H' s.heap h') (hok : HOk X.prog X.w H' h') (hg : AllBare g')
    (hch : ∀ b ∈ ch, (b ∈ X.ex ∨ X.s₀.heap.objs.size ≤ b) ∧ b ≠ X.env.locals ∧ (∀ x c, X.env.cells.lookup x = some c → c ≠ b) ∧ ∀ p ∈ X.pn ++ pins, p.1 ≠ b) :
    Inv X pins σ H' { s with heap := h', gens := g', drawn := d', toks := t' } := by
  obtain ⟨m, ⟨o, es, ep, ho, r⟩, _⟩ := id I.loc
  obtain ⟨sl, hL⟩ := u.any ho I.free fun z => (hch _ z).2.1 rfl
  exact I.step (ch := ch) hch (fun b o hL hb hc e n => u.keep b o e n (fun z => (List.mem_cons.mp (I.stkSub b z)).elim hL hb) hc) (fun b o _ _ hc e n => u.any e n hc) (fun b o hc e n => u.free b o e n hc) (fun b o hc e => u.there b o e hc) u.tups u.frzs u.tbls (fun m' hm => by
    obtain ⟨o', es', ep', ho', r'⟩ := hm
    rw [ho] at ho'; cases ho'
    exact ⟨_, es', ep', hL, r'⟩) hok hg
/-- an untracked record of ours (an iterator) has turned -/
theorem Inv.turned {t' : Nat} {it : Addr} (I : Inv X pins σ H s) (k : ∀ b o, b ≠ it → s.heap.get? b = some o → h'.get? b = some o) (hn : H it = none) (hL : it ≠ X.env.locals)
    (h1 : it ∈ X.ex ∨ X.s₀.heap.objs.size ≤ it) (h2 : ∀ x c, X.env.cells.lookup x = some c → c ≠ it) (h3 : ∀ p ∈ X.pn ++ pins, p.1 ≠ it) : Inv X pins σ H { s with heap := h', toks := t' } := by
  have nit : ∀ b u, H b = some u → b ≠ it := fun b u e z => by rw [z, hn] at e; cases e
  refine I.step (g' := s.gens) (d' := s.drawn) (ch := [it]) (fun b hb => ?_) (fun b o _ _ hc e _ => k b o (fun z => hc (by simp [z])) e) (fun b o _ _ hc e _ => ⟨o.slots, k b o (fun z => hc (by simp [z])) e⟩) (fun _ _ _ _ n => n)
    (fun b o hc e => ⟨o, k b o (fun z => hc (by simp [z])) e⟩) (fun _ _ e => e) (fun _ _ _ e => e) (fun b ps e => ⟨#[], by rw [e]; simp⟩) (fun m hm => ?_) (fun b u e => ?_) I.bare
  · have e : b = it := by simpa using hb
    subst e
    exact ⟨h1, hL, h2, h3⟩
  · obtain ⟨o, es, ep, ho, r⟩ := hm
    exact ⟨o, es, ep, k _ o (Ne.symm hL) ho, r⟩
  · refine (I.hok b u e).stay (fun c v hc q => k c v ?_ q) (fun _ q => q) fun _ _ q => q
    rcases hc with z | z
    · rw [z]; exact nit b u e
    · exact nit c _ z
theorem Inv.tok (I : Inv X pins σ H s) (t : Nat) : Inv X pins σ H { s with toks := t } := I.un (h' := s.heap) (t' := t) Un.refl I.hok
/-- all objects kept -/
theorem Inv.kept {t' : Nat} (I : Inv X pins σ H s) (k : ∀ b u, s.heap.get? b = some u → h'.get? b = some u) : Inv X pins σ H { s with heap := h', toks := t' } := I.un (Un.kept k) (I.hok.kept k)
/-- a new object laid and tracked -/
theorem Inv.laid {a : Addr} {o : HO} {t' : Nat} (I : Inv X pins σ H s) (k : ∀ b u, s.heap.get? b = some u → h'.get? b = some u) (hp : s.heap.objs.size ≤ a) (new : ObjOk X.prog X.w (upd H a o) h' a o) :
    Inv X pins σ (upd H a o) { s with heap := h', toks := t' } := I.un (Un.laid k hp (I.hok.fresh hp)) (I.hok.laid k hp new)
/-- an object written -/
theorem Inv.write {x e : Addr} {o : HO} {t' : Nat} (I : Inv X pins σ H s) (mu : Mut (H x)) (he : e = x ∨ H e = some (.own x)) (k : ∀ b u, b ≠ e → s.heap.get? b = some u → h'.get? b = some u) (heo : ∃ u, h'.get? e = some u)
    (new : ObjOk X.prog X.w (upd H x o) h' x o) : Inv X pins σ (upd H x o) { s with heap := h', toks := t' } := I.un (Un.write mu he k heo) (I.hok.write mu he k heo new)
/-- forgetting slots, pins -/
theorem Inv.weak {σ' : List (Option V)} (I : Inv X pins σ H s) (hl : σ'.length = σ.length) (w : ∀ (i : Nat) v, σ'[i]? = some (some v) → σ[i]? = some (some v)) : Inv X pins σ' H s :=
  ⟨I.ok, I.os, I.bare, I.base, let ⟨m, hn, hl'⟩ := I.loc; ⟨m, hn, fun i x v e1 e2 e3 => hl' i x v e1 (w i v e2) e3⟩, I.cell, I.free, I.freeC, I.pin, I.hok, hl.trans I.len⟩
theorem Inv.pins_of {pins' : List (Addr × Obj)} (I : Inv X pins σ H s) (h : ∀ p ∈ pins', s.heap.get? p.1 = some p.2 ∧ H p.1 = none ∧ p.1 ≠ X.env.locals ∧ p.1 ∉ X.fs ∧ ∀ v, p.2.data ≠ .cell v) : Inv X pins' σ H s :=
  ⟨I.ok, I.os, I.bare, I.base, I.loc, I.cell, I.free, I.freeC, fun p hp => (List.mem_append.mp hp).elim (fun z => I.pin p (List.mem_append_left _ z)) (h p), I.hok, I.len⟩

theorem nodup_ix {N : List Str} (hN : N.Nodup) {i j : Nat} {x : Str} (a : N[i]? = some x) (b : N[j]? = some x) : i = j := by
  obtain ⟨h1, e1⟩ := List.getElem?_eq_some_iff.mp a
  obtain ⟨h2, e2⟩ := List.getElem?_eq_some_iff.mp b
  exact (List.getElem_inj hN).mp (e1.trans e2.symm)

/-- a name is stored; what changed -/
theorem store_ok2 {M : Model} {A : Around} {E : Value → Shared → Prop} {i : Nat} {x : Str} {v : V} {u : Value} {Q : Unit → Shared → Prop} (I : Inv X pins σ H s) (hN : X.N.Nodup) (hi : X.N[i]? = some x) (hx : Loc X.env.scope x) (r : RelV v u)
    (h : ∀ s', Inv X pins (σ.set i (some v)) H s' → (∃ a, Heap.SameBut a s.heap s'.heap ∧ (a = X.env.locals ∨ X.env.cells.lookup x = some a)) → Q () s') (hf : X.fn x = true ∨ X.env.scope.names.lookup x = some .local := by first | exact .inl rfl | exact .inr rfl | assumption) : wpAny M A (storeName X.env x u) Q E s := by
  obtain ⟨m, hn, hl⟩ := id I.loc
  have hcls : (X.env.scope.kind == .class || (X.env.scope.kind == .module && X.env.locals != X.env.globals)) = false := by rw [I.ok.kind]; rfl
  have hiσ : i < σ.length := by rw [I.len]; exact (List.getElem?_eq_some_iff.mp hi).1
  have cne := I.cne
  have tracked : ∀ {a : Addr} {h' : Heap}, (∃ o, s.heap.get? a = some o ∧ H a = none) → Heap.SameBut a s.heap h' → HOk X.prog X.w H h' := fun {a h'} ha hs b ob e => by
    obtain ⟨_, _, hfree⟩ := ha
    refine (I.hok b ob e).stay (fun c w' hc q => (hs.2 c ?_).trans q) (fun _ q => q) fun _ _ q => q
    rintro rfl
    rcases hc with rfl | hc
    · rw [hfree] at e; cases e
    · rw [hfree] at hc; cases hc
  rcases hx with hk | hk
  · refine wpAny_storeName_local hk hn (fun h' hn' hs => ?_) hcls
    obtain ⟨oL, _, _, hoL, _⟩ := id hn
    refine h _ ⟨I.ok, I.os, I.bare, ⟨fun b o e n hb hx => ?_, fun b o e n hb hx => ?_, I.base.free, fun b o e hx => ?_, I.base.tups, I.base.frzs, I.base.tbls⟩, ⟨_, hn', fun j y v' e1 e2 e3 => ?_⟩, fun y c e => ?_, I.free, I.freeC, fun p hp => ?_, tracked ⟨oL, hoL, I.free⟩ hs, by simpa using I.len⟩ ⟨_, hs, .inl rfl⟩
    · exact (hs.2 b (Nat.ne_of_lt (Nat.lt_of_lt_of_le (Heap.lt_size e) I.ok.above))).trans (I.base.keep b o e n hb hx)
    · obtain ⟨sl, e1⟩ := I.base.slot b o e n hb hx
      exact ⟨sl, (hs.2 b (Nat.ne_of_lt (Nat.lt_of_lt_of_le (Heap.lt_size e) I.ok.above))).trans e1⟩
    · obtain ⟨o', e1⟩ := I.base.there b o e hx
      exact ⟨o', (hs.2 b (Nat.ne_of_lt (Nat.lt_of_lt_of_le (Heap.lt_size e) I.ok.above))).trans e1⟩
    · by_cases hj : j = i
      · subst hj
        rw [hi] at e1; cases e1
        rw [List.getElem?_set_self hiσ] at e2
        cases e2
        exact ⟨u, r, .inl ⟨hk, by simp⟩⟩
      · rw [List.getElem?_set_ne (Ne.symm hj)] at e2
        obtain ⟨u', r', q⟩ := hl j y v' e1 e2 e3
        refine ⟨u', r', ?_⟩
        rcases q with ⟨k, e⟩ | ⟨k, c, e, z⟩
        · refine .inl ⟨k, ?_⟩
          have : y ≠ x := fun e => hj (nodup_ix hN e1 (e ▸ hi))
          simp [this, e]
        · exact .inr ⟨k, c, e, z.sameBut hs (cne y c e)⟩
    · obtain ⟨w', z⟩ := I.cell y c e
      exact ⟨w', z.sameBut hs (cne y c e)⟩
    · obtain ⟨e, n, ne, nf, d⟩ := I.pin p hp
      exact ⟨(hs.2 p.1 ne).trans e, n, ne, nf, d⟩
  · have hfn : X.fn x = true := by
      rcases hf with z | z
      · exact z
      · rw [z] at hk; cases hk
    obtain ⟨c, hc⟩ := I.ok.has x (.inl hk)
    obtain ⟨w', z⟩ := I.cell x c hc
    refine wpAny_storeName_cell I.ok.kind hk hc z (fun h' hc' hs => ?_)
    obtain ⟨oc, hoc, hocd⟩ := id z
    refine h { s with heap := h' } ⟨I.ok, I.os, I.bare, ⟨fun b o e n hb hx => ?_, fun b o e n hb hx => ?_, I.base.free, fun b o e hx => ?_, I.base.tups, I.base.frzs, I.base.tbls⟩, ⟨m, hn.sameBut hs (Ne.symm (cne x c hc)), fun j y v' e1 e2 e3 => ?_⟩, fun y c' e => ?_, I.free, I.freeC, fun p hp => ?_, tracked ⟨oc, hoc, I.freeC x c hc⟩ hs, by simpa using I.len⟩ ⟨c, hs, .inr hc⟩
    · exact (hs.2 b (Nat.ne_of_lt (Nat.lt_of_lt_of_le (Heap.lt_size e) (I.ok.cab x c hfn hc)))).trans (I.base.keep b o e n hb hx)
    · obtain ⟨sl, e1⟩ := I.base.slot b o e n hb hx
      exact ⟨sl, (hs.2 b (Nat.ne_of_lt (Nat.lt_of_lt_of_le (Heap.lt_size e) (I.ok.cab x c hfn hc)))).trans e1⟩
    · obtain ⟨o', e1⟩ := I.base.there b o e hx
      exact ⟨o', (hs.2 b (Nat.ne_of_lt (Nat.lt_of_lt_of_le (Heap.lt_size e) (I.ok.cab x c hfn hc)))).trans e1⟩
    · by_cases hj : j = i
      · subst hj
        rw [hi] at e1; cases e1
        rw [List.getElem?_set_self hiσ] at e2
        cases e2
        exact ⟨u, r, .inr ⟨.inl hk, c, hc, hc'⟩⟩
      · rw [List.getElem?_set_ne (Ne.symm hj)] at e2
        obtain ⟨u', r', q⟩ := hl j y v' e1 e2 e3
        refine ⟨u', r', ?_⟩
        rcases q with q | ⟨k, c', e, z'⟩
        · exact .inl q
        · refine .inr ⟨k, c', e, z'.sameBut hs ?_⟩
          rintro rfl
          exact hj (nodup_ix hN e1 (I.ok.inj _ _ _ e hc ▸ hi))
    · by_cases hcc : c' = c
      · subst hcc; exact ⟨_, hc'⟩
      · obtain ⟨w2, z2⟩ := I.cell y c' e
        exact ⟨w2, z2.sameBut hs hcc⟩
    · obtain ⟨e, n, ne, nf, d⟩ := I.pin p hp
      refine ⟨(hs.2 p.1 ?_).trans e, n, ne, nf, d⟩
      intro q
      rw [q, hoc] at e
      have q' : oc = p.2 := Option.some.inj e
      exact d w' (by rw [← q']; exact hocd)
theorem store_ok {M : Model} {A : Around} {E : Value → Shared → Prop} {i : Nat} {x : Str} {v : V} {u : Value} {Q : Unit → Shared → Prop} (I : Inv X pins σ H s) (hN : X.N.Nodup) (hi : X.N[i]? = some x) (hx : Loc X.env.scope x) (r : RelV v u)
    (h : ∀ s', Inv X pins (σ.set i (some v)) H s' → Q () s') (hf : X.fn x = true ∨ X.env.scope.names.lookup x = some .local := by first | exact .inl rfl | exact .inr rfl | assumption) : wpAny M A (storeName X.env x u) Q E s :=
  store_ok2 I hN hi hx r (fun s' I' _ => h s' I') hf
/-- behind a call or a block, the state as it is -/
theorem Inv.call' {s' : Shared} {ch : List Addr} (I : Inv X pins σ H s) (ho : s'.os = s.os) (u : Un (frs X.stack) ch H H' s.heap s'.heap) (hok : HOk X.prog X.w H' s'.heap) (hg : AllBare s'.gens)
    (hch : ∀ b ∈ ch, (b ∈ X.ex ∨ X.s₀.heap.objs.size ≤ b) ∧ b ≠ X.env.locals ∧ (∀ x c, X.env.cells.lookup x = some c → c ≠ b) ∧ ∀ p ∈ X.pn ++ pins, p.1 ≠ b) : Inv X pins σ H' s' := by
  obtain ⟨h', g', d', t', o'⟩ := s'
  have e : o' = s.os := ho
  subst e
  exact I.call (g' := g') (t' := t') (d' := d') u hok hg hch
end

/-- an exception: its class, its own dict's address (where it has one), the abstract heap behind it -/
abbrev XK := Value → Option Addr → Hp → Prop
abbrev St := List (Option V)
abbrev VK := V → Hp → Prop
/-- an expression's reading; a test's; an argument list's -/
abbrev TE := St → Hp → VK → Prop
abbrev TT := St → Hp → (Bool → Hp → Prop) → Prop
abbrev TA := St → Hp → (List V → Hp → Prop) → Prop
/-- what is wanted behind a statement -/
structure Ends where
  nx : St → Hp → Prop
  rt : VK
  bk : St → Hp → Prop := fun _ _ => False
  ct : St → Hp → Prop := fun _ _ => False
abbrev TS := Ends → St → Hp → Prop

def EP (X : Cx) (pins : List (Addr × Obj)) (σ : St) (Q : VK) (u : Value) (s' : Shared) : Prop := ∃ v H', Inv X pins σ H' s' ∧ RelV v u ∧ Q v H'
def TP (X : Cx) (pins : List (Addr × Obj)) (σ : St) (Q : Bool → Hp → Prop) (b : Bool) (s' : Shared) : Prop := ∃ H', Inv X pins σ H' s' ∧ Q b H'
def AP (X : Cx) (pins : List (Addr × Obj)) (σ : St) (Q : List V → Hp → Prop) (us : List Value) (s' : Shared) : Prop := ∃ vs H', Inv X pins σ H' s' ∧ Vals vs us ∧ Q vs H'
def SP (X : Cx) (pins : List (Addr × Obj)) (D : Ends) (f : Flow) (s' : Shared) : Prop :=
  match f with
  | .next => ∃ σ' H', Inv X pins σ' H' s' ∧ D.nx σ' H'
  | .brk => ∃ σ' H', Inv X pins σ' H' s' ∧ D.bk σ' H'
  | .cont => ∃ σ' H', Inv X pins σ' H' s' ∧ D.ct σ' H'
  | .ret u => ∃ v σ' H', Inv X pins σ' H' s' ∧ RelV v u ∧ D.rt v H'

def PE (X : Cx) (e : Expr) (t : TE) : Prop :=
  ∀ (pins : List (Addr × Obj)) (s : Shared) (σ : St) (H : Hp) (Q : VK), Inv X pins σ H s → t σ H Q → wpAny (model X.prog X.w) X.A (eval e X.env) (EP X pins σ Q) X.xe s
def PT (X : Cx) (e : Expr) (t : TT) : Prop :=
  ∀ (pins : List (Addr × Obj)) (s : Shared) (σ : St) (H : Hp) (Q : Bool → Hp → Prop), Inv X pins σ H s → t σ H Q → wpAny (model X.prog X.w) X.A (isTrue e X.env (eval e X.env)) (TP X pins σ Q) X.xe s
/-- a test whatever its 'whole' is (and, or) -/
def PW (X : Cx) (e : Expr) (t : TT) : Prop :=
  ∀ (whole : Sem Value) (pins : List (Addr × Obj)) (s : Shared) (σ : St) (H : Hp) (Q : Bool → Hp → Prop), Inv X pins σ H s → t σ H Q → wpAny (model X.prog X.w) X.A (isTrue e X.env whole) (TP X pins σ Q) X.xe s
theorem PW.pt {X : Cx} {e : Expr} {t : TT} (h : PW X e t) : PT X e t := h _
/-- an argument list (no star), from the left -/
def PA (X : Cx) (es : List Expr) (t : TA) : Prop :=
  ∀ (pos : Pos) (pins : List (Addr × Obj)) (s : Shared) (σ : St) (H : Hp) (Q : List V → Hp → Prop), Inv X pins σ H s → t σ H Q → wpAny (model X.prog X.w) X.A (spliced (backTo pos (starEach es X.env))) (AP X pins σ Q) X.xe s
def PS (X : Cx) (st : Stmt) (t : TS) : Prop :=
  ∀ (pins : List (Addr × Obj)) (s : Shared) (σ : St) (H : Hp) (D : Ends), Inv X pins σ H s → t D σ H → wpAny (model X.prog X.w) X.A (exec st X.env) (SP X pins D) X.xe s
def PSs (X : Cx) (st : List Stmt) (t : TS) : Prop :=
  ∀ (pins : List (Addr × Obj)) (s : Shared) (σ : St) (H : Hp) (D : Ends), Inv X pins σ H s → t D σ H → wpAny (model X.prog X.w) X.A (execs st X.env) (SP X pins D) X.xe s
/-- weaken the end -/
theorem thn {α : Type} {t : Sem α} {Q Q' : α → Shared → Prop} {M : Model} {A : Around} {E : Value → Shared → Prop} {s : Shared} (h : wpAny M A t Q E s) (hQ : ∀ a s, Q a s → Q' a s) : wpAny M A t Q' E s := wpAny_mono h hQ fun _ _ x => x
end L2

namespace L2
open PySem PySem.Spec PyProof.Rows
section
variable {X : Cx}

def tVar (i : Nat) : TE := fun σ H Q => ∃ v, σ[i]? = some (some v) ∧ Q v H
def tC (v : V) : TE := fun _ H Q => Q v H
theorem pe_var {i : Nat} {x : Str} {pos : Pos} (hN : X.N[i]? = some x) (hv : Vis X.env.scope x) (hd : (x == ("__debug__" : Str)) = false := by decide) (hcd : (x == ("__classdict__" : Str)) = false := by decide) : PE X (.Name x pos) (tVar i) := by
  intro pins s σ H Q I h
  obtain ⟨v, e, h⟩ := h
  obtain ⟨m, hn, hl⟩ := I.loc
  obtain ⟨u, r, l⟩ := hl i x v hN e hv
  have fin : EP X pins σ Q u s := ⟨v, H, I, r, h⟩
  rcases l with ⟨hk, hm⟩ | ⟨hk, c, hc, hcell⟩
  · exact wpAny_Name (wpAny_loadName_local I.ok.kind hk hn hm fin) hd
  · rcases hk with hk | hk
    · exact wpAny_Name (wpAny_loadName_cell I.ok.kind hk hc hcell fin) hd
    · exact wpAny_Name (wpAny_loadName_free I.ok.kind hk hc hcell fin hcd) hd
theorem pe_int {i j pos} : PE X (.Constant (.int i) j pos) (tC (.int i)) := fun _ _ _ H _ I h => wpAny_Constant_int ⟨.int i, H, I.tok _, ⟨_, rfl⟩, h⟩
theorem pe_bl {b j pos} : PE X (.Constant (.bool b) j pos) (tC (.bl b)) := fun _ _ _ H _ I h => Constant_bool ⟨.bl b, H, I, rfl, h⟩
theorem pe_non {j pos} : PE X (.Constant .none j pos) (tC .non) := fun _ _ _ H _ I h => Constant_none ⟨.non, H, I, rfl, h⟩
theorem pe_str {x j pos} : PE X (.Constant (.str x) j pos) (tC (.str x)) := fun _ _ _ H _ I h => Calls.Constant_str ⟨.str x, H, I.tok _, ⟨_, rfl⟩, h⟩

/-- a global name of the def -/
def Gl (X : Cx) (x : Str) : Prop := X.env.kindOf x = some .globalImplicit
theorem ld_glob {E : Value → Shared → Prop} {pins : List (Addr × Obj)} {s : Shared} {σ : St} {H : Hp} {x : Str} {u : Value} {pos : Pos} {Q : Value → Shared → Prop} (I : Inv X pins σ H s) (hg : Gl X x) (hm : X.mg x = some u) (h : Q u s)
    (hd : (x == ("__debug__" : Str)) = false := by decide) : wpAny (model X.prog X.w) X.A (eval (.Name x pos) X.env) Q E s :=
  Calls.Name_function_global I.ok.kind hg (Calls.loadGlobal_global (by rw [I.ok.glob]; exact I.mod.glob.keeps I.bk) hm h) hd
theorem ld_blt {E : Value → Shared → Prop} {pins : List (Addr × Obj)} {s : Shared} {σ : St} {H : Hp} {x : Str} {u : Value} {pos : Pos} {Q : Value → Shared → Prop} (I : Inv X pins σ H s) (hg : Gl X x) (hm : X.mg x = none) (hv : bootBuiltins x = some u) (h : Q u s)
    (hn : x ≠ "__name__" := by decide) (hd : (x == ("__debug__" : Str)) = false := by decide) : wpAny (model X.prog X.w) X.A (eval (.Name x pos) X.env) Q E s := by
  obtain ⟨mb, h1, h2⟩ := I.mod.blt
  exact Calls.Name_function_global I.ok.kind hg (Calls.loadGlobal_builtin (by rw [I.ok.glob]; exact I.mod.glob.keeps I.bk) hm (by rw [I.ok.blt]; exact h1.keeps I.bk) ((h2 x hn).trans hv) h) hd
theorem pe_bltn {x : Str} {v : V} {u : Value} {pos : Pos} (hg : Gl X x) (hm : X.mg x = none) (hv : bootBuiltins x = some u) (r : RelV v u) (hn : x ≠ "__name__" := by decide) (hd : (x == ("__debug__" : Str)) = false := by decide) : PE X (.Name x pos) (tC v) :=
  fun _ _ _ H _ I h => ld_blt I hg hm hv ⟨v, H, I, r, h⟩ hn hd

variable {a b : Expr} {ta tb : TE} {pos : Pos}
/-- a comparison as a value, as a test -/
def tB (t : TE) : TT := fun σ H Q => t σ H fun x H1 => ∃ c, x = .bl c ∧ Q c H1
/-- an expression whose value is a bool, as a test -/
theorem pt_val {e : Expr} {t : TE} (h : PE X e t) (he : ∀ whole, isTrue e X.env whole = (do let v ← whole; standAt e.pos; holding [v] (truthy v)) := by intro _; rfl) : PT X e (tB t) := by
  intro pins s σ H Q I hw
  refine isTrue_plain (thn (h pins s σ H _ I hw) fun v s1 ⟨x, H1, I1, r1, q1⟩ => ?_) (he _)
  obtain ⟨d, rfl, q⟩ := q1
  cases r1
  exact wpAny_truthy_bool ⟨H1, I1, q⟩

variable {tA tB' : TT} {rest : List Expr}
def tAnd (t u : TT) : TT := fun σ H Q => t σ H fun c H1 => if c = true then u σ H1 Q else Q false H1
def tOr (t u : TT) : TT := fun σ H Q => t σ H fun c H1 => if c = true then Q true H1 else u σ H1 Q
def tNot (t : TT) : TT := fun σ H Q => t σ H fun c H1 => Q (!c) H1
theorem pw_and1 (ha : PT X a tA) : PW X (.BoolOp .And [a] pos) tA := by
  intro wh pins s σ H Q I h
  refine isTrue_and (thn (ha pins s σ H Q I h) fun c s1 e => ?_)
  cases c with
  | true => exact isTrue_and_nil e
  | false => exact e
theorem pw_or1 (ha : PT X a tA) : PW X (.BoolOp .Or [a] pos) tA := by
  intro wh pins s σ H Q I h
  refine isTrue_or (thn (ha pins s σ H Q I h) fun c s1 e => ?_)
  cases c with
  | false => exact isTrue_or_nil e
  | true => exact e
theorem pw_and (ha : PT X a tA) (hb : PW X (.BoolOp .And (b :: rest) pos) tB') : PW X (.BoolOp .And (a :: b :: rest) pos) (tAnd tA tB') := by
  intro wh pins s σ H Q I h
  refine isTrue_and (thn (ha pins s σ H _ I h) fun c s1 ⟨H1, I1, q1⟩ => ?_)
  cases c with
  | true => exact hb wh pins s1 σ H1 Q I1 q1
  | false => exact ⟨H1, I1, q1⟩
theorem pw_or (ha : PT X a tA) (hb : PW X (.BoolOp .Or (b :: rest) pos) tB') : PW X (.BoolOp .Or (a :: b :: rest) pos) (tOr tA tB') := by
  intro wh pins s σ H Q I h
  refine isTrue_or (thn (ha pins s σ H _ I h) fun c s1 ⟨H1, I1, q1⟩ => ?_)
  cases c with
  | true => exact ⟨H1, I1, q1⟩
  | false => exact hb wh pins s1 σ H1 Q I1 q1
theorem pt_not (ha : PT X a tA) : PT X (.UnaryOp .Not a pos) (tNot tA) := by
  intro pins s σ H Q I h
  exact isTrue_not (ha pins s σ H (fun c H1 => Q (!c) H1) I h)
end
end L2

namespace L2
open PySem PySem.Spec PyProof.Rows

def SqL (K : PySem.W.Frag) (H : Hp) (a : Addr) (xs : List V) : Prop :=
  Rd H a (.lst xs) ∨
    ∃ (o : Obj) (its : Array Value) (n : Nat), K.lookup a = some o ∧ o.cls = .type "list" ∧ o.dict = none ∧ o.data = .seq its n ∧ its.size ≤ sizeLine ∧ Vals xs its.toList
def SqT (K : PySem.W.Frag) (H : Hp) (a : Addr) (xs : List V) : Prop :=
  Rd H a (.tup xs) ∨
    ∃ (o : Obj) (its : Array Value) (n : Nat), K.lookup a = some o ∧ o.cls = .type "tuple" ∧ o.data = .seq its n ∧ its.size ≤ sizeLine ∧ Vals xs its.toList
def absV : Value → Option V
  | .none => some .non
  | .bool b => some (.bl b)
  | .int i _ => some (.int i)
  | .str x _ => some (.str x)
  | .bytes b _ => some (.byt b)
  | .float b _ => some (.flt b)
  | .ref a => some (.ref a)
  | .type n => some (.ty n)
  | _ => none
theorem RelV.abs {x : V} {u : Value} (r : RelV x u) : absV u = some x := by
  cases x with
  | non => cases r; rfl
  | bl _ => cases r; rfl
  | int _ => obtain ⟨t, rfl⟩ := r; rfl
  | str _ => obtain ⟨t, rfl⟩ := r; rfl
  | byt _ => obtain ⟨t, rfl⟩ := r; rfl
  | flt _ => obtain ⟨t, rfl⟩ := r; rfl
  | ref _ => cases r; rfl
  | ty _ => cases r; rfl
theorem RelV.inj {x y : V} {u : Value} (r : RelV x u) (q : RelV y u) : x = y := Option.some.inj (r.abs.symm.trans q.abs)
theorem Vals.inj : ∀ {xs ys : List V} {us : List Value}, Vals xs us → Vals ys us → xs = ys
  | _, _, _, .nil, .nil => rfl
  | _, _, _, .cons r t, .cons r' t' => by rw [r.inj r', Vals.inj t t']
section
variable {X : Cx} {pins : List (Addr × Obj)} {σ : St} {H : Hp} {s : Shared} {a : Addr} {xs ys : List V}
theorem SqL.of {K : PySem.W.Frag} (h : H a = some (.lst xs)) : SqL K H a xs := .inl (.inl h)
theorem SqT.of {K : PySem.W.Frag} (h : H a = some (.tup xs)) : SqT K H a xs := .inl (.inl h)
theorem Inv.list (I : Inv X pins σ H s) (h : SqL X.K H a xs) : ∃ its : List Value, Vals xs its ∧ PlainL s.heap a its.toArray ∧ xs.length ≤ sizeLine := by
  rcases h with h | ⟨o, its, n, hk, hc, hd, hs, hz, r⟩
  · obtain ⟨z, its, n, r, e⟩ := h.ok I.hok
    exact ⟨its, r, ⟨_, n, e, rfl, rfl, rfl⟩, z⟩
  · refine ⟨its.toList, r, ⟨o, n, I.kIn a o hk, hc, hd, by simpa using hs⟩, ?_⟩
    have e := r.length
    simp only [Array.length_toList] at e
    omega
theorem Inv.tuple (I : Inv X pins σ H s) (h : SqT X.K H a xs) : ∃ its : List Value, Vals xs its ∧ IsTup s.heap a its.toArray ∧ xs.length ≤ sizeLine := by
  rcases h with h | ⟨o, its, n, hk, hc, hs, hz, r⟩
  · obtain ⟨z, its, r, p⟩ := h.ok I.hok
    exact ⟨its, r, p, z⟩
  · refine ⟨its.toList, r, ⟨o, I.kIn a o hk, hc, n, by simpa using hs⟩, ?_⟩
    have e := r.length
    simp only [Array.length_toList] at e
    omega
theorem Inv.list_inj (I : Inv X pins σ H s) (h : SqL X.K H a xs) (h' : SqL X.K H a ys) : xs = ys := by
  obtain ⟨its, r, ⟨o, n, e, _, _, d⟩, _⟩ := I.list h
  obtain ⟨its', r', ⟨o', n', e', _, _, d'⟩, _⟩ := I.list h'
  rw [e] at e'; cases e'
  rw [d] at d'
  injection d' with d1 _
  have : its = its' := by simpa using congrArg Array.toList d1
  subst this
  exact r.inj r'
theorem Inv.tuple_inj (I : Inv X pins σ H s) (h : SqT X.K H a xs) (h' : SqT X.K H a ys) : xs = ys := by
  obtain ⟨its, r, ⟨o, e, _, n, d⟩, _⟩ := I.tuple h
  obtain ⟨its', r', ⟨o', e', _, n', d'⟩, _⟩ := I.tuple h'
  rw [e] at e'; cases e'
  rw [d] at d'
  injection d' with d1 _
  have : its = its' := by simpa using congrArg Array.toList d1
  subst this
  exact r.inj r'
end

abbrev Cx.wish (X : Cx) (E : Value → Shared → Prop) : Cx := { X with xe := E }
/-- no exception leaves -/
abbrev Cx.nox (X : Cx) : Cx := X.wish fun _ _ => False
theorem Cx.Ok.wish {X : Cx} (ok : X.Ok) (E : Value → Shared → Prop) : (X.wish E).Ok :=
  ⟨ok.mod, ok.kind, ok.glob, ok.blt, ok.above, ok.inj, ok.has, ok.cab, ok.hd, ok.frames, ok.stk, ok.exf, ok.bs, ok.bsz, ok.noex, ok.exfs, ok.funs, ok.frf⟩
theorem Cx.Ok.unwish {X : Cx} {E : Value → Shared → Prop} (ok : (X.wish E).Ok) : X.Ok :=
  ⟨ok.mod, ok.kind, ok.glob, ok.blt, ok.above, ok.inj, ok.has, ok.cab, ok.hd, ok.frames, ok.stk, ok.exf, ok.bs, ok.bsz, ok.noex, ok.exfs, ok.funs, ok.frf⟩
section
variable {X : Cx} {pins : List (Addr × Obj)} {σ : St} {H : Hp} {s : Shared} {E : Value → Shared → Prop}
theorem Inv.wish (I : Inv X pins σ H s) (E : Value → Shared → Prop) : Inv (X.wish E) pins σ H s := ⟨I.ok.wish E, I.os, I.bare, I.base, I.loc, I.cell, I.free, I.freeC, I.pin, I.hok, I.len⟩
theorem Inv.unwish (I : Inv (X.wish E) pins σ H s) : Inv X pins σ H s := ⟨I.ok.unwish, I.os, I.bare, I.base, I.loc, I.cell, I.free, I.freeC, I.pin, I.hok, I.len⟩
theorem SP.unwish {D : Ends} {f : Flow} {s' : Shared} (h : SP (X.wish E) pins D f s') : SP X pins D f s' := by
  cases f with
  | next => obtain ⟨σ', H', I, q⟩ := h; exact ⟨σ', H', I.unwish, q⟩
  | brk => obtain ⟨σ', H', I, q⟩ := h; exact ⟨σ', H', I.unwish, q⟩
  | cont => obtain ⟨σ', H', I, q⟩ := h; exact ⟨σ', H', I.unwish, q⟩
  | ret u => obtain ⟨v, σ', H', I, r, q⟩ := h; exact ⟨v, σ', H', I.unwish, r, q⟩
theorem PE.nox {e : Expr} {t : TE} (h : PE X.nox e t) : PE X e t := fun pins s σ H Q I hw =>
  wpAny_mono (h pins s σ H Q (I.wish _) hw) (fun _ _ ⟨v, H', I', r, q⟩ => ⟨v, H', I'.unwish, r, q⟩) fun _ _ z => False.elim z
theorem PT.nox {e : Expr} {t : TT} (h : PT X.nox e t) : PT X e t := fun pins s σ H Q I hw =>
  wpAny_mono (h pins s σ H Q (I.wish _) hw) (fun _ _ ⟨H', I', q⟩ => ⟨H', I'.unwish, q⟩) fun _ _ z => False.elim z
theorem PSs.nox {st : List Stmt} {t : TS} (h : PSs X.nox st t) : PSs X st t := fun pins s σ H D I hw =>
  wpAny_mono (h pins s σ H D (I.wish _) hw) (fun _ _ q => q.unwish) fun _ _ z => False.elim z
end

section
variable {X : Cx} {st : Stmt} {rest : List Stmt} {t u : TS} {e : Expr} {te : TE} {pos : Pos}
def tNext : TS := fun D σ H => D.nx σ H
def tSeq (t u : TS) : TS := fun D σ H => t { D with nx := u D } σ H
theorem pss_nil : PSs X [] tNext := fun _ _ σ H _ I h => wpAny_execs_nil ⟨σ, H, I, h⟩
theorem pss_cons (h1 : PS X st t) (h2 : PSs X rest u) : PSs X (st :: rest) (tSeq t u) := by
  intro pins s σ H D I h
  refine wpAny_execs_cons (thn (h1 pins s σ H { D with nx := u D } I h) fun f s1 q => ?_)
  cases f with
  | next =>
    obtain ⟨σ', H', I', q⟩ := q
    exact h2 pins s1 σ' H' D I' q
  | ret v => exact q
  | brk => exact q
  | cont => exact q
theorem pss_one (h1 : PS X st t) : PSs X [st] t := by
  intro pins s σ H D I h
  refine wpAny_execs_cons (thn (h1 pins s σ H D I h) fun f s1 q => ?_)
  cases f with
  | next => exact wpAny_execs_nil q
  | ret v => exact q
  | brk => exact q
  | cont => exact q
/-- in a def's body nothing is shown -/
theorem Inv.quiet {pins : List (Addr × Obj)} {σ : St} {H : Hp} {s : Shared} (I : Inv X pins σ H s) : interactive X.env = false := by simp [interactive, I.ok.kind]
/-- an expression whose value is dropped -/
def tDrop (te : TE) : TS := fun D σ H => te σ H fun _ H1 => D.nx σ H1
theorem ps_expr (he : PE X e te) (hs : swapsWith e none pos.line X.env = pure false := by rfl) : PS X (.Expr e pos) (tDrop te) := by
  intro pins s σ H D I h
  exact wpAny_Expr_any (thn (he pins s σ H _ I h) fun v s1 ⟨x, H1, I1, r1, q1⟩ => ⟨σ, H1, I1, q1⟩) I.quiet hs
def tRet (te : TE) : TS := fun D σ H => te σ H D.rt
theorem ps_ret (he : PE X e te) : PS X (.Return (some e) pos) (tRet te) := by
  intro pins s σ H D I h
  exact wpAny_Return_some (thn (he pins s σ H _ I h) fun v s1 ⟨x, H1, I1, r1, q1⟩ => ⟨x, σ, H1, I1, r1, q1⟩)
def tIfS (c : TT) (t u : TS) : TS := fun D σ H => c σ H fun b H1 => if b = true then t D σ H1 else u D σ H1
theorem ps_if {c : Expr} {a b : List Stmt} {tc : TT} (hc : PT X c tc) (ha : PSs X a t) (hb : PSs X b u) : PS X (.If c a b pos) (tIfS tc t u) := by
  intro pins s σ H D I h
  refine wpAny_If (thn (hc pins s σ H _ I h) fun d s1 ⟨H1, I1, q1⟩ => ?_)
  cases d with
  | true => exact ha pins s1 σ H1 D I1 q1
  | false => exact hb pins s1 σ H1 D I1 q1
end

abbrev TG := V → St → Hp → (St → Hp → Prop) → Prop
abbrev TGs := List V → St → Hp → (St → Hp → Prop) → Prop
def PG (X : Cx) (target : Expr) (t : TG) : Prop :=
  ∀ (pins : List (Addr × Obj)) (s : Shared) (σ : St) (H : Hp) (v : V) (u : Value) (Q : St → Hp → Prop), Inv X pins σ H s → RelV v u → t v σ H Q →
    wpAny (model X.prog X.w) X.A (assign target X.env u) (fun _ s' => ∃ σ' H', Inv X pins σ' H' s' ∧ Q σ' H') X.xe s
/-- several targets, one after another -/
def PGs (X : Cx) (ts : List Expr) (t : TGs) : Prop :=
  ∀ (pins : List (Addr × Obj)) (s : Shared) (σ : St) (H : Hp) (vs : List V) (us : List Value) (Q : St → Hp → Prop), Inv X pins σ H s → Vals vs us → t vs σ H Q →
    wpAny (model X.prog X.w) X.A (assignInOrder ((assignEach ts X.env).map (·.2)) us) (fun _ s' => ∃ σ' H', Inv X pins σ' H' s' ∧ Q σ' H') X.xe s
/-- o[i] = v, by values -/
abbrev TSet := V → V → V → Hp → (Hp → Prop) → Prop
def PSet (X : Cx) (t : TSet) : Prop :=
  ∀ (pins : List (Addr × Obj)) (s : Shared) (σ : St) (H : Hp) (o i v : V) (ov iv u : Value) (Q : Hp → Prop), Inv X pins σ H s → RelV o ov → RelV i iv → RelV v u → t o i v H Q →
    wpAny (model X.prog X.w) X.A (setItem ov iv u) (fun _ s' => ∃ H', Inv X pins σ H' s' ∧ Q H') X.xe s
section
variable {X : Cx} {pos : Pos}
def gName (i : Nat) : TG := fun v σ H Q => Q (σ.set i (some v)) H
theorem pg_name {i : Nat} {x : Str} (hN : X.N.Nodup) (hi : X.N[i]? = some x) (hx : Loc X.env.scope x) (hf : X.fn x = true ∨ X.env.scope.names.lookup x = some .local := by first | exact .inl rfl | exact .inr rfl | assumption) : PG X (.Name x pos) (gName i) := by
  intro pins s σ H v u Q I r h
  exact wpAny_assign_Name (store_ok I hN hi hx r (fun s' I' => ⟨_, H, I', h⟩) hf)
def gNil : TGs := fun vs σ H Q => vs = [] ∧ Q σ H
def gCons (t : TG) (u : TGs) : TGs := fun vs σ H Q => ∃ v r, vs = v :: r ∧ t v σ H fun σ' H' => u r σ' H' Q
theorem pgs_nil : PGs X [] gNil := by
  intro pins s σ H vs us Q I r h
  obtain ⟨e, h⟩ := h
  subst e
  cases r
  exact assignInOrder_nil ⟨σ, H, I, h⟩
theorem pgs_cons {e : Expr} {es : List Expr} {t : TG} {u : TGs} (h1 : PG X e t) (h2 : PGs X es u)
    (hs : (assignEach (e :: es) X.env).map (·.2) = assign e X.env :: (assignEach es X.env).map (·.2) := by rfl) : PGs X (e :: es) (gCons t u) := by
  intro pins s σ H vs us Q I r h
  obtain ⟨v, vr, e1, h⟩ := h
  subst e1
  cases r with
  | cons r rr =>
    rw [hs]
    refine assignInOrder_cons (thn (h1 pins s σ H _ _ _ I r h) fun _ s1 ⟨σ1, H1, I1, q1⟩ => ?_)
    exact h2 pins s1 σ1 H1 _ _ Q I1 rr q1
/-- (a, b, ..) = a tuple of that length -/
def gTup (K : PySem.W.Frag) (n : Nat) (t : TGs) : TG := fun v σ H Q => ∃ a xs, v = .ref a ∧ SqT K H a xs ∧ xs.length = n ∧ t xs σ H Q
theorem pg_tup {es : List Expr} {k : Nat} {t : TGs} {n : Nat} (hc : X.calm = true) (h : PGs X es t)
    (hn : (assignEach es X.env).length = n := by rfl) (hst : (assignEach es X.env).findIdx? (·.1) = none := by rfl) : PG X (.Tuple es k pos) (gTup X.K n t) := by
  intro pins s σ H v u Q I r hw
  obtain ⟨a, xs, e1, hq, hl, hw⟩ := hw
  subst e1
  cases r
  obtain ⟨its, rv, ht, hz⟩ := I.tuple hq
  refine assign_Tuple_tuple (I.ok.hd hc) ht (by simp [hn, ← hl, rv.length]) hst fun h' hx => ?_
  have I1 : Inv X pins σ H { s with heap := h' } := I.kept (t' := s.toks) fun b o e => hx b o (Nat.ne_of_lt (Heap.lt_size e)) e
  exact h pins _ σ H xs _ Q I1 (by simpa using rv) hw
/-- o[i] = .. -/
def gSub (to ti : TE) (t : TSet) : TG := fun v σ H Q => to σ H fun o H1 => ti σ H1 fun i H2 => t o i v H2 fun H3 => Q σ H3
theorem pg_sub {o i : Expr} {to ti : TE} {t : TSet} (ho : PE X o to) (hi : PE X i ti) (hs : PSet X t)
    (ha : ∀ v, assign (.Subscript o i pos) X.env v = (do
      let ov ← holding [v] (eval o X.env)
      let iv ← holding [v, ov] (eval i X.env)
      standAt pos
      holding [v, ov, iv] (setItem ov iv v)
      release [v, ov, iv] []) := by intro _; rfl) : PG X (.Subscript o i pos) (gSub to ti t) := by
  intro pins s σ H v u Q I r h
  rw [ha]
  refine wpAny_bind (wpAny_holding (thn (ho pins s σ H _ I h) fun ov s1 ⟨x, H1, I1, r1, q1⟩ => ?_))
  refine wpAny_bind (wpAny_holding (thn (hi pins s1 σ H1 _ I1 q1) fun iv s2 ⟨y, H2, I2, r2, q2⟩ => ?_))
  refine wpAny_bind (wpAny_standAt (wpAny_bind (wpAny_holding (thn (hs pins s2 σ H2 x y v ov iv u _ I2 r1 r2 r q2) fun _ s3 ⟨H3, I3, q3⟩ => ?_))))
  exact wpAny_release ⟨σ, H3, I3, q3⟩
/-- target = value -/
def tAsg (te : TE) (g : TG) : TS := fun D σ H => te σ H fun x H1 => g x σ H1 D.nx
theorem ps_asg {tg e : Expr} {te : TE} {g : TG} (he : PE X e te) (hg : PG X tg g) (hs : swapsWithSole [tg] e pos.line X.env = pure false := by rfl) (hw : swappedStores [tg] e X.env = pure none := by rfl)
    (h1 : (assignEach [tg] X.env).map (·.2) = [assign tg X.env] := by rfl) : PS X (.Assign [tg] e pos) (tAsg te g) := by
  intro pins s σ H D I h
  refine wpAny_Assign_stores (thn (he pins s σ H _ I h) fun v s1 ⟨x, H1, I1, r1, q1⟩ => ?_) hs hw
  rw [h1]
  exact thn (hg pins s1 σ H1 x v _ I1 r1 q1) fun _ s2 q => q
/-- name = value -/
theorem ps_set {i : Nat} {x : Str} {e : Expr} {te : TE} {pos' : Pos} (hN : X.N.Nodup) (hi : X.N[i]? = some x) (hx : Loc X.env.scope x) (he : PE X e te) (hs : swapsWith e (some (.Name x pos')) pos.line X.env = pure false := by rfl) (hf : X.fn x = true ∨ X.env.scope.names.lookup x = some .local := by first | exact .inl rfl | exact .inr rfl | assumption) :
    PS X (.Assign [.Name x pos'] e pos) (tAsg te (gName i)) := by
  intro pins s σ H D I h
  refine wpAny_Assign_Name (thn (he pins s σ H _ I h) fun v s1 ⟨y, H1, I1, r1, q1⟩ => ?_) hs
  exact store_ok I1 hN hi hx r1 (fun s2 I2 => ⟨_, H1, I2, q1⟩) hf
end

section
variable {X : Cx} {pos : Pos}
end

/-- at turn i: it yields x (the heap may grow), or it stops -/
structure It where
  go : Nat → Hp → Prop
  yld : Nat → Hp → V → Hp → Prop
  stop : Nat → Hp → Prop
/-- the iterator's own objects may turn: they are not the frame's, not pinned, younger than the entry (or a comprehension's own) -/
def FpOk (X : Cx) (pins : List (Addr × Obj)) (H : Hp) (b : Addr) : Prop :=
  H b = none ∧ b ≠ X.env.locals ∧ b ∉ X.fs ∧ (b ∈ X.ex ∨ X.s₀.heap.objs.size ≤ b) ∧ (∀ x c, X.env.cells.lookup x = some c → c ≠ b) ∧ ∀ p ∈ X.pn ++ pins, p.1 ≠ b
theorem Inv.fpOk {X : Cx} {pins : List (Addr × Obj)} {σ : St} {H H' : Hp} {s : Shared} {b : Addr} (I : Inv X pins σ H s) (hb : s.heap.objs.size ≤ b) (hn : H' b = none) : FpOk X pins H' b := by
  refine ⟨hn, Nat.ne_of_gt (Nat.lt_of_lt_of_le I.lt hb), I.nofs hb, .inr (Nat.le_trans I.sz hb), fun x c e z => ?_, fun p hp z => ?_⟩
  · obtain ⟨v, q⟩ := I.cell x c e
    exact absurd (Nat.lt_of_lt_of_le q.lt (by rw [z]; exact hb)) (Nat.lt_irrefl _)
  · exact absurd (Nat.lt_of_lt_of_le (Heap.lt_size (I.pin p hp).1) (by rw [z]; exact hb)) (Nat.lt_irrefl _)
structure Turn (P : Program) (w : World) (K : PySem.W.Frag) (tg : Expr) (J : It) (fp : List Addr) (it : Addr) (tn : Nat → Heap → Prop) : Prop where
  mem : it ∈ fp
  obj : ∀ i h, tn i h → ∀ b ∈ fp, ∃ o, h.get? b = some o ∧ ∀ v, o.data ≠ .cell v
  keep : ∀ i h h', tn i h → (∀ b ∈ fp, ∀ o, h.get? b = some o → h'.get? b = some o) → tn i h'
  item : ∀ (X : Cx), X.prog = P → X.w = w → X.K = K → X.calm = true → ∀ (i : Nat) (pins : List (Addr × Obj)) (s : Shared) (σ : St) (H : Hp) (E : Value → Shared → Prop), Inv X pins σ H s → (∀ b ∈ fp, FpOk X pins H b) → tn i s.heap → J.go i H →
    wpAny (model P w) X.A (pyNext (.ref it)) (fun r s1 => ∃ u, r = some u ∧
      wpAny (model P w) X.A (letOwnedTupleGo tg (.ref it) u) (fun _ s2 => ∃ x H', Inv X pins σ H' s2 ∧ RelV x u ∧ J.yld i H x H' ∧ tn (i + 1) s2.heap ∧ ∀ b ∈ fp, H' b = none) E s1) E s
  done : ∀ (X : Cx), X.prog = P → X.w = w → X.K = K → X.calm = true → ∀ (i : Nat) (pins : List (Addr × Obj)) (s : Shared) (σ : St) (H : Hp) (E : Value → Shared → Prop), Inv X pins σ H s → (∀ b ∈ fp, FpOk X pins H b) → tn i s.heap → J.stop i H →
    wpAny (model P w) X.A (pyNext (.ref it)) (fun r s1 => r = none ∧ Inv X pins σ H s1) E s
  self : ∀ (A : Around) (i : Nat) (s : Shared) (Q : Value → Shared → Prop) (E : Value → Shared → Prop), tn i s.heap → Q (.ref it) s → wpAny (model P w) A (pyIter (.ref it)) Q E s
abbrev TI := St → Hp → (It → Hp → Prop) → Prop
/-- an iterator has come -/
def PIE (X : Cx) (pins : List (Addr × Obj)) (σ : St) (tg : Expr) (R : It → Hp → Prop) (itv : Value) (s2 : Shared) : Prop :=
  ∃ (it : Addr) (fp : List Addr) (tn : Nat → Heap → Prop) (J : It) (H' : Hp), itv = .ref it ∧ Inv X pins σ H' s2 ∧ Turn X.prog X.w X.K tg J fp it tn ∧ tn 0 s2.heap ∧ (∀ b ∈ fp, FpOk X pins H' b) ∧ R J H'
def PI (X : Cx) (tg iter : Expr) (wi : TI) : Prop :=
  ∀ (pins : List (Addr × Obj)) (s : Shared) (σ : St) (H : Hp) (R : It → Hp → Prop), Inv X pins σ H s → wi σ H R →
    wpAny (model X.prog X.w) X.A (eval iter X.env) (fun v s1 => wpAny (model X.prog X.w) X.A (pyIter v) (PIE X pins σ tg R) X.xe s1) X.xe s

/-- the step ahead of the store is nothing for an iterator that keeps no tuple -/
theorem go_of {M : Model} {A : Around} {E : Value → Shared → Prop} {s : Shared} {tg : Expr} {it : Addr} {u : Value} {o : Obj} {n : String} {vs : Array Value} {Q : Unit → Shared → Prop} (ho : s.heap.get? it = some o) (hc : o.cls = .type n) (hd : o.data = .fields vs)
    (hn : ["enumerate", "zip", "dict_itemiterator", "dict_reverseitemiterator", "odict_iterator", "itertools.zip_longest", "itertools.pairwise"].contains n = false) (hQ : Q () s) : wpAny M A (letOwnedTupleGo tg (.ref it) u) Q E s := by
  unfold letOwnedTupleGo
  cases tg <;> first
    | exact wpAny_pure hQ
    | (cases u <;> first
        | exact wpAny_pure hQ
        | (refine wpAny_bind (wpAny_load ho ?_)
           rw [hc, hd]
           show wpAny M A (if (["enumerate", "zip", "dict_itemiterator", "dict_reverseitemiterator", "odict_iterator", "itertools.zip_longest", "itertools.pairwise"].contains n && vs[0]? == some (rawInt _)) = true then _ else _) Q E s
           rw [if_neg (by intro h; rw [hn, Bool.false_and] at h; cases h)]
           exact wpAny_pure hQ))

/-- the list at a, as it stands at each turn (a loop may append to it) -/
def Itl (K : PySem.W.Frag) (a : Addr) : It :=
  ⟨fun i H => ∃ xs x, SqL K H a xs ∧ xs[i]? = some x, fun i H x H' => H' = H ∧ ∀ xs, SqL K H a xs → xs[i]? = some x, fun i H => ∃ xs, SqL K H a xs ∧ xs.length ≤ i⟩
def Itt (K : PySem.W.Frag) (a : Addr) : It :=
  ⟨fun i H => ∃ xs x, SqT K H a xs ∧ xs[i]? = some x, fun i H x H' => H' = H ∧ ∀ xs, SqT K H a xs → xs[i]? = some x, fun i H => ∃ xs, SqT K H a xs ∧ xs.length ≤ i⟩
/-- lo, lo + 1, .. (n of them) -/
def Itr (lo : Int) (n : Nat) : It := ⟨fun i _ => i < n, fun i H x H' => H' = H ∧ x = .int (lo + i), fun i _ => n ≤ i⟩
theorem turn_list {P : Program} {w : World} {K : PySem.W.Frag} {tg : Expr} (a it : Addr) : Turn P w K tg (Itl K a) [it] it (fun i h => h.IsListIter it a i) where
  mem := by simp
  obj := fun i h st b hb => by
    have e : b = it := by simpa using hb
    subst e
    obtain ⟨o, e, c, d⟩ := st
    exact ⟨o, e, fun v z => by rw [d] at z; cases z⟩
  keep := fun i h h' st k => st.at fun o e => k it (by simp) o e
  item := by
    intro X hP hw hK hc i pins s σ H E I hf st hg
    subst hP hw hK
    obtain ⟨xs, x, hq, hx⟩ := hg
    obtain ⟨its, rv, p, hz⟩ := I.list hq
    obtain ⟨u, hu, ru⟩ := rv.get hx
    obtain ⟨f0, f1, f2, f3, f4, f5⟩ := hf it (by simp)
    refine wpAny_pyNext_list_item st p.isList (x := u) (by simpa using hu) fun h' st' sb => ?_
    have I1 : Inv X pins σ H { s with heap := h' } := I.turned (t' := s.toks) (fun b o hb e => (sb.2 b hb).trans e) f0 f1 f3 f4 f5
    obtain ⟨o, e, c, d⟩ := id st'
    exact ⟨u, rfl, go_of (s := { s with heap := h' }) e c d (by decide) ⟨x, H, I1, ru, ⟨rfl, fun ys hy => by rw [I.list_inj hy hq]; exact hx⟩, st', fun b hb => (hf b hb).1⟩⟩
  done := by
    intro X hP hw hK hc i pins s σ H E I hf st hg
    subst hP hw hK
    obtain ⟨xs, hq, hx⟩ := hg
    obtain ⟨its, rv, p, hz⟩ := I.list hq
    obtain ⟨f0, f1, f2, f3, f4, f5⟩ := hf it (by simp)
    have hl := rv.length
    exact wpAny_pyNext_list_end (I.ok.hd hc) st p.isList (by simp; omega) fun h' eb => ⟨rfl, I.turned (t' := s.toks) (fun b o hb e => eb b o hb e) f0 f1 f3 f4 f5⟩
  self := fun _ _ _ _ _ st h => wpAny_pyIter_listiter st h
theorem turn_tuple {P : Program} {w : World} {K : PySem.W.Frag} {tg : Expr} (a it : Addr) : Turn P w K tg (Itt K a) [it] it (fun i h => h.IsTupleIter it a i) where
  mem := by simp
  obj := fun i h st b hb => by
    have e : b = it := by simpa using hb
    subst e
    obtain ⟨o, e, c, d⟩ := st
    exact ⟨o, e, fun v z => by rw [d] at z; cases z⟩
  keep := fun i h h' st k => st.at fun o e => k it (by simp) o e
  item := by
    intro X hP hw hK hc i pins s σ H E I hf st hg
    subst hP hw hK
    obtain ⟨xs, x, hq, hx⟩ := hg
    obtain ⟨its, rv, p, hz⟩ := I.tuple hq
    obtain ⟨u, hu, ru⟩ := rv.get hx
    obtain ⟨f0, f1, f2, f3, f4, f5⟩ := hf it (by simp)
    refine wpAny_pyNext_tuple_item st (show s.heap.IsTuple a its.toArray from p) (x := u) (by simpa using hu) fun h' st' sb => ?_
    have I1 : Inv X pins σ H { s with heap := h' } := I.turned (t' := s.toks) (fun b o hb e => (sb.2 b hb).trans e) f0 f1 f3 f4 f5
    obtain ⟨o, e, c, d⟩ := id st'
    exact ⟨u, rfl, go_of (s := { s with heap := h' }) e c d (by decide) ⟨x, H, I1, ru, ⟨rfl, fun ys hy => by rw [I.tuple_inj hy hq]; exact hx⟩, st', fun b hb => (hf b hb).1⟩⟩
  done := by
    intro X hP hw hK hc i pins s σ H E I hf st hg
    subst hP hw hK
    obtain ⟨xs, hq, hx⟩ := hg
    obtain ⟨its, rv, p, hz⟩ := I.tuple hq
    obtain ⟨f0, f1, f2, f3, f4, f5⟩ := hf it (by simp)
    have hl := rv.length
    exact wpAny_pyNext_tuple_end (I.ok.hd hc) st (show s.heap.IsTuple a its.toArray from p) (by simp; omega) fun h' eb => ⟨rfl, I.turned (t' := s.toks) (fun b o hb e => eb b o hb e) f0 f1 f3 f4 f5⟩
  self := fun _ _ _ _ _ st h => wpAny_pyIter_tupleiter st h
theorem turn_range {P : Program} {w : World} {K : PySem.W.Frag} {tg : Expr} (it : Addr) (lo : Int) (n : Nat) : Turn P w K tg (Itr lo n) [it] it (fun i h => IsRangeIter h it (lo + (i : Nat) * 1) ((n : Int) - (i : Nat)) 1) where
  mem := by simp
  obj := fun i h st b hb => by
    have e : b = it := by simpa using hb
    subst e
    exact ⟨_, st, fun v z => by
      have z' : Data.fields _ = Data.cell v := z
      cases z'⟩
  keep := fun i h h' st k => k it (by simp) _ st
  item := by
    intro X hP hw hK hc i pins s σ H E I hf st hg
    subst hP hw hK
    obtain ⟨f0, f1, f2, f3, f4, f5⟩ := hf it (by simp)
    have W := Walks.range (prog := X.prog) (w := X.w) (I.ok.hd hc) it lo 1 n
    refine W.item i s _ _ hg st fun v h' tk hv st' kk => ?_
    obtain ⟨t, rfl⟩ := hv
    have I1 : Inv X pins σ H { s with heap := h', toks := tk } := I.turned (fun b o hb e => kk b o (by simpa using hb) e) f0 f1 f3 f4 f5
    refine ⟨_, rfl, go_of (s := { s with heap := h', toks := tk }) (n := "range_iterator") st' rfl rfl (by decide) ⟨.int (lo + i), H, I1, ⟨t, ?_⟩, ⟨rfl, rfl⟩, st', fun b hb => (hf b hb).1⟩⟩
    rw [Int.mul_one]
  done := by
    intro X hP hw hK hc i pins s σ H E I hf st hg
    subst hP hw hK
    obtain ⟨f0, f1, f2, f3, f4, f5⟩ := hf it (by simp)
    exact wpAny_pyNext_range_end (I.ok.hd hc) st (by have : n ≤ i := hg; omega) fun h' eb => ⟨rfl, I.turned (t' := s.toks) (fun b o hb e => eb b o hb e) f0 f1 f3 f4 f5⟩
  self := fun _ _ _ _ _ st h => wpAny_pyIter_rangeiter st h
end L2

namespace L2
open PySem PySem.Spec PyProof.Rows
section
variable {X : Cx} {tg : Expr}
/-- a range object just made, walked -/
theorem range_it {pins : List (Addr × Obj)} {σ : St} {H : Hp} {s : Shared} {R : It → Hp → Prop} {E : Value → Shared → Prop} {lo hi : Int} {t u v : Tok} {tk : Nat} (I : Inv X pins σ H s) (h1 : -(2 ^ 62) ≤ lo) (h2 : lo < 2 ^ 62) (h3 : -(2 ^ 62) ≤ hi) (h4 : hi < 2 ^ 62)
    (q : R (Itr lo (hi - lo).toNat) H) : wpAny (model X.prog X.w) X.A (pyIter (.ref s.heap.objs.size)) (PIE X pins σ tg R) E { s with heap := s.heap.push { cls := .type "range", data := .fields #[.int lo t, .int hi u, .int 1 v] }, toks := tk } := by
  refine wpAny_pyIter_range (IsRange.new ..) (small_one h1 h2 h3 h4) ?_
  have I1 : Inv X pins σ H { s with heap := s.heap.push { cls := .type "range", data := .fields #[.int lo t, .int hi u, .int 1 v] }, toks := tk } := I.kept fun b o e => Heap.get?_push_of_some _ e
  refine ⟨(s.heap.push { cls := .type "range", data := .fields #[.int lo t, .int hi u, .int 1 v] }).objs.size, [(s.heap.push { cls := .type "range", data := .fields #[.int lo t, .int hi u, .int 1 v] }).objs.size], _, _, H, rfl,
    I1.kept (t' := tk) fun b o e => Heap.get?_push_of_some _ e, turn_range _ lo (hi - lo).toNat, ?_, fun b hb => ?_, q⟩
  · have e1 : lo + ((0 : Nat) : Int) * 1 = lo := by simp
    have e2 : (((hi - lo).toNat : Nat) : Int) - ((0 : Nat) : Int) = Builtin.Range.rangeSize lo hi 1 := by rw [rangeSize_one]; split <;> omega
    show IsRangeIter _ _ (lo + ((0 : Nat) : Int) * 1) ((((hi - lo).toNat : Nat) : Int) - ((0 : Nat) : Int)) 1
    rw [e1, e2]
    exact Heap.get?_push_size _ rfl
  · have e : b = (s.heap.push { cls := .type "range", data := .fields #[.int lo t, .int hi u, .int 1 v] }).objs.size := by simpa using hb
    subst e
    exact I1.fpOk (Nat.le_refl _) (I1.hok.fresh (Nat.le_refl _))
def iRng1 (ta : TA) : TI := fun σ H R => ta σ H fun vs H1 => ∃ j : Int, vs = [.int j] ∧ -(2 ^ 62) ≤ j ∧ j < 2 ^ 62 ∧ R (Itr 0 j.toNat) H1
theorem pi_range1 {a : Expr} {ta : TA} {p pos : Pos} (hg : Gl X "range") (hm : X.mg "range" = none) (ha : PA X [a] ta) (hs : starEach [a] X.env = [(false, eval a X.env)] := by rfl) : PI X tg (.Call (.Name "range" p) [a] [] pos) (iRng1 ta) := by
  intro pins s σ H R I h
  refine Call_ (ld_blt I hg hm boot_range (PyProof.Rows.callWith_type1 (thn (ha pos pins s σ H _ I h) fun us s1 ⟨vs, H1, I1, r1, q1⟩ => ?_) hs rfl))
  obtain ⟨j, e, q1, q2, q⟩ := q1
  subst e
  cases r1 with
  | cons r rr =>
    cases rr
    obtain ⟨t, rfl⟩ := r
    exact call_range_1 (range_it I1 (by omega) (by omega) q1 q2 (by simpa using q))
/-- W: the invariant by the turn and a measure; N: what the body is to reach -/
def tFor (wi : TI) (g : TG) (tb : TS) : TS := fun D σ H => wi σ H fun J H1 => ∃ W : Nat → Nat → St → Hp → Prop, (∃ m, W 0 m σ H1) ∧ ∀ i m σ H, W i m σ H →
  (J.stop i H ∧ D.nx σ H) ∨ (J.go i H ∧ ∃ N : St → Hp → Prop, (∀ σ' H', N σ' H' → ∃ m', m' < m ∧ W (i + 1) m' σ' H') ∧ ∀ x H', J.yld i H x H' → g x σ H' fun σ2 H2 => tb { D with nx := N, ct := N, bk := D.nx } σ2 H2)
/-- the records at fp as they stand -/
def pinsAt (fp : List Addr) (h : Heap) : List (Addr × Obj) := fp.filterMap fun b => (h.get? b).map fun o => (b, o)
theorem mem_pinsAt {fp : List Addr} {h : Heap} {b : Addr} {o : Obj} (hb : b ∈ fp) (e : h.get? b = some o) : (b, o) ∈ pinsAt fp h := List.mem_filterMap.mpr ⟨b, hb, by rw [e]; rfl⟩
theorem of_pinsAt {fp : List Addr} {h : Heap} {p : Addr × Obj} (hp : p ∈ pinsAt fp h) : p.1 ∈ fp ∧ h.get? p.1 = some p.2 := by
  obtain ⟨b, hb, e⟩ := List.mem_filterMap.mp hp
  cases q : h.get? b with
  | none => rw [q] at e; cases e
  | some o =>
    rw [q] at e
    have e' : (b, o) = p := Option.some.inj e
    subst e'
    exact ⟨hb, q⟩
theorem Inv.pinned {pins : List (Addr × Obj)} {σ : St} {H : Hp} {s : Shared} {fp : List Addr} (I : Inv X pins σ H s) (hf : ∀ b ∈ fp, FpOk X pins H b) (ho : ∀ b ∈ fp, ∃ o, s.heap.get? b = some o ∧ ∀ v, o.data ≠ .cell v) : Inv X (pins ++ pinsAt fp s.heap) σ H s :=
  I.pins_of fun p hp => (List.mem_append.mp hp).elim (fun z => I.pin p (List.mem_append_right _ z)) fun z => by
    obtain ⟨hb, e⟩ := of_pinsAt z
    obtain ⟨f0, f1, f2, _⟩ := hf p.1 hb
    obtain ⟨o, e', d⟩ := ho p.1 hb
    rw [e] at e'; cases e'
    exact ⟨e, f0, f1, f2, d⟩
theorem Inv.unpinned {pins pl : List (Addr × Obj)} {σ : St} {H : Hp} {s : Shared} (I : Inv X (pins ++ pl) σ H s) : Inv X pins σ H s := I.pins_of fun p hp => I.pin p (List.mem_append_right _ (List.mem_append_left _ hp))
theorem ps_for {iter : Expr} {body : List Stmt} {wi : TI} {g : TG} {tb : TS} {pos : Pos} (hp : PassesOwn (model X.prog X.w) X.A X.env X.xe) (hc : X.calm = true) (hi : PI X tg iter wi) (hg : PG X tg g) (hb : PSs X body tb)
    (hs : ∀ x, foldedSetIterable iter X.env x = pure x := by intro _; rfl) : PS X (.For tg iter body [] pos) (tFor wi g tb) := by
  intro pins s σ H D I h
  refine wpAny_For (thn (hi pins s σ H _ I h) fun v s1 h1 => thn h1 fun itv s2 h2 => ?_) hs
  obtain ⟨it, fp, tn, J, H2, e, I2, T, st2, f2, W, ⟨m0, w0⟩, turn⟩ := h2
  subst e
  -- what stays true of the iterator's objects through the loop
  have stat : ∀ {H' : Hp}, (∀ b ∈ fp, H' b = none) → ∀ b ∈ fp, FpOk X pins H' b := fun hn b hb => ⟨hn b hb, (f2 b hb).2⟩
  refine codeAny_forLoop_any (fun n s' => ∃ i σ' H', Inv X pins σ' H' s' ∧ tn i s'.heap ∧ (∀ b ∈ fp, H' b = none) ∧ W i n σ' H') ?_ m0 ⟨0, σ, H2, I2, st2, fun b hb => (f2 b hb).1, w0⟩
  rintro n s3 ⟨i, σ3, H3, I3, st3, fr3, w3⟩
  rcases turn i n σ3 H3 w3 with ⟨stop, qn⟩ | ⟨go, N, hN, step⟩
  · refine wpAny_passesOwn hp (thn (T.done X rfl rfl rfl hc i pins s3 σ3 H3 X.xe I3 (stat fr3) st3 stop) fun r s4 ⟨hr, I4⟩ => ?_)
    subst hr
    exact wpAny_execs_nil ⟨σ3, H3, I4, qn⟩
  · refine wpAny_passesOwn hp (thn (T.item X rfl rfl rfl hc i pins s3 σ3 H3 X.xe I3 (stat fr3) st3 go) fun r s4 ⟨u, hr, h4⟩ => ?_)
    subst hr
    refine wpAny_passesOwn hp (thn h4 fun _ s5 ⟨x, H5, I5, r5, y5, st5, fr5⟩ => ?_)
    have I5' := I5.pinned (stat fr5) (T.obj _ _ st5)
    refine wpAny_passesOwn hp (thn (hg _ s5 σ3 H5 x u _ I5' r5 (step x H5 y5)) fun _ s6 ⟨σ6, H6, I6, q6⟩ => ?_)
    refine wpAny_passesOwn hp (thn (hb _ s6 σ6 H6 _ I6 q6) fun f s7 q7 => ?_)
    have again : ∀ {σ7 : St} {H7 : Hp}, Inv X (pins ++ pinsAt fp s5.heap) σ7 H7 s7 → N σ7 H7 → ∃ m, m < n ∧ ∃ i σ' H', Inv X pins σ' H' s7 ∧ tn i s7.heap ∧ (∀ b ∈ fp, H' b = none) ∧ W i m σ' H' := fun {σ7 H7} I7 n7 => by
      obtain ⟨m', hm, w7⟩ := hN σ7 H7 n7
      refine ⟨m', hm, i + 1, σ7, H7, I7.unpinned, T.keep _ _ _ st5 fun b hb o e => (I7.pin (b, o) (List.mem_append_right _ (List.mem_append_right _ (mem_pinsAt hb e)))).1, fun b hb => ?_, w7⟩
      obtain ⟨o, e, d⟩ := T.obj _ _ st5 b hb
      exact (I7.pin (b, o) (List.mem_append_right _ (List.mem_append_right _ (mem_pinsAt hb e)))).2.1
    cases f with
    | next => obtain ⟨σ7, H7, I7, n7⟩ := q7; exact again I7 n7
    | cont => obtain ⟨σ7, H7, I7, n7⟩ := q7; exact again I7 n7
    | brk => obtain ⟨σ7, H7, I7, q7⟩ := q7; exact ⟨σ7, H7, I7.unpinned, q7⟩
    | ret v => obtain ⟨x7, σ7, H7, I7, r7, q7⟩ := q7; exact ⟨x7, σ7, H7, I7.unpinned, r7, q7⟩
end

end L2

namespace L2
open PySem PySem.Spec PyProof.Rows

abbrev R2 := V → V → Hp → VK → Prop
/-- a two-place operation on values: f is binaryOp op, inplaceOp op or compareOp op -/
def OpR (X : Cx) (f : Value → Value → Sem Value) (r : R2) : Prop :=
  ∀ (pins : List (Addr × Obj)) (s : Shared) (σ : St) (H : Hp) (x y : V) (v u : Value) (Q : VK), Inv X pins σ H s → RelV x v → RelV y u → r x y H Q →
    wpAny (model X.prog X.w) X.A (f v u) (EP X pins σ Q) X.xe s
/-- a call of a value that is known (a builtin, a type) with values -/
def CallR (X : Cx) (f : Value) (r : List V → Hp → VK → Prop) : Prop :=
  ∀ (pins : List (Addr × Obj)) (s : Shared) (σ : St) (H : Hp) (xs : List V) (us : List Value) (Q : VK), Inv X pins σ H s → Vals xs us → r xs H Q →
    wpAny (model X.prog X.w) X.A (call f us) (EP X pins σ Q) X.xe s
def tOp (r : R2) (ta tb : TE) : TE := fun σ H Q => ta σ H fun x H1 => tb σ H1 fun y H2 => r x y H2 Q
/-- ints in, under C, and a value out -/
def rI (C : Int → Int → Prop) (g : Int → Int → V) : R2 := fun x y H Q => ∃ i j, x = .int i ∧ y = .int j ∧ C i j ∧ Q (g i j) H
def rI0 (g : Int → Int → V) : R2 := fun x y H Q => ∃ i j, x = .int i ∧ y = .int j ∧ Q (g i j) H
section
variable {X : Cx} {a b c : Expr} {ta tb tc : TE} {pos : Pos}

theorem binT (ha : PE X a ta) (hb : PE X b tb) {pins : List (Addr × Obj)} {s : Shared} {σ : St} {H : Hp} {R : V → V → Hp → Prop} (I : Inv X pins σ H s)
    (h : ta σ H fun x H1 => tb σ H1 fun y H2 => R x y H2) {Q : Value → Shared → Prop} {f : Value → Value → Sem Value}
    (hf : ∀ v u s2 x y H2, Inv X pins σ H2 s2 → RelV x v → RelV y u → R x y H2 → wpAny (model X.prog X.w) X.A (f v u) Q X.xe s2) :
    wpAny (model X.prog X.w) X.A (eval a X.env) (fun v s₁ => wpAny (model X.prog X.w) X.A (eval b X.env) (fun u s₂ => wpAny (model X.prog X.w) X.A (f v u) Q X.xe s₂) X.xe s₁) X.xe s := by
  refine thn (ha pins s σ H _ I h) fun v s1 ⟨x, H1, I1, r1, q1⟩ => ?_
  refine thn (hb pins s1 σ H1 _ I1 q1) fun u s2 ⟨y, H2, I2, r2, q2⟩ => ?_
  exact hf v u s2 x y H2 I2 r1 r2 q2

theorem pe_op {op : Operator} {r : R2} (ho : OpR X (binaryOp op) r) (ha : PE X a ta) (hb : PE X b tb) : PE X (.BinOp a op b pos) (tOp r ta tb) := by
  intro pins s σ H Q I h
  exact wpAny_BinOp (binT ha hb I h fun v u s2 x y H2 I2 rx ry q => ho pins s2 σ H2 x y v u Q I2 rx ry q)
theorem opI {f : Value → Value → Sem Value} {C : Int → Int → Prop} {g : Int → Int → Int}
    (rule : ∀ (i j : Int) (t u : Tok) (s : Shared) (Q : Value → Shared → Prop) (E : Value → Shared → Prop), C i j → Q (.int (g i j) s.toks) { s with toks := s.toks + 1 } → wpAny (model X.prog X.w) X.A (f (.int i t) (.int j u)) Q E s) :
    OpR X f (rI C fun i j => .int (g i j)) := by
  intro pins s σ H x y v u Q I rx ry h
  obtain ⟨i, j, rfl, rfl, hc, q⟩ := h
  obtain ⟨t, rfl⟩ := rx
  obtain ⟨t', rfl⟩ := ry
  exact rule i j t t' s _ _ hc ⟨.int (g i j), H, I.tok _, ⟨_, rfl⟩, q⟩
theorem opI0 {f : Value → Value → Sem Value} {g : Int → Int → Int}
    (rule : ∀ (i j : Int) (t u : Tok) (s : Shared) (Q : Value → Shared → Prop) (E : Value → Shared → Prop), Q (.int (g i j) s.toks) { s with toks := s.toks + 1 } → wpAny (model X.prog X.w) X.A (f (.int i t) (.int j u)) Q E s) :
    OpR X f (rI0 fun i j => .int (g i j)) := by
  intro pins s σ H x y v u Q I rx ry h
  obtain ⟨i, j, rfl, rfl, q⟩ := h
  obtain ⟨t, rfl⟩ := rx
  obtain ⟨t', rfl⟩ := ry
  exact rule i j t t' s _ _ ⟨.int (g i j), H, I.tok _, ⟨_, rfl⟩, q⟩
theorem opB0 {f : Value → Value → Sem Value} {g : Int → Int → Bool}
    (rule : ∀ (i j : Int) (t u : Tok) (s : Shared) (Q : Value → Shared → Prop) (E : Value → Shared → Prop), Q (.bool (g i j)) s → wpAny (model X.prog X.w) X.A (f (.int i t) (.int j u)) Q E s) :
    OpR X f (rI0 fun i j => .bl (g i j)) := by
  intro pins s σ H x y v u Q I rx ry h
  obtain ⟨i, j, rfl, rfl, q⟩ := h
  obtain ⟨t, rfl⟩ := rx
  obtain ⟨t', rfl⟩ := ry
  exact rule i j t t' s _ _ ⟨.bl (g i j), H, I, rfl, q⟩

def CDiv (i j : Int) : Prop := 0 < j ∧ j < 1073741824
def CMul (i j : Int) : Prop := (-(2 ^ 64) < i ∧ i < 2 ^ 64) ∨ (-(2 ^ 64) < j ∧ j < 2 ^ 64)
theorem CMul.ok {i j : Int} (h : CMul i j) : IntMulOk i j := by
  rcases h with ⟨h1, h2⟩ | ⟨h1, h2⟩
  · exact .of_left (intBits_le_64 h1 h2)
  · exact .of_right (intBits_le_64 h1 h2)
theorem op_add : OpR X (binaryOp .Add) (rI0 fun i j => .int (i + j)) := opI0 fun _ _ _ _ _ _ _ q => add_int q
theorem op_sub : OpR X (binaryOp .Sub) (rI0 fun i j => .int (i - j)) := opI0 fun _ _ _ _ _ _ _ q => sub_int q
theorem op_mul : OpR X (binaryOp .Mult) (rI CMul fun i j => .int (i * j)) := opI fun _ _ _ _ _ _ _ hc q => mul_int q hc.ok
/-- // by a positive divisor -/
theorem op_fdiv : OpR X (binaryOp .FloorDiv) (rI CDiv fun i j => .int (i / j)) := opI fun i j _ _ _ _ _ hc q => by
  have h1 : (0 : Int) < j := hc.1
  have h2 : j < 1073741824 := hc.2
  exact floordiv_int (by omega) (by rw [Int.fdiv_eq_ediv_of_nonneg i (by omega)]; exact q) (.inl (PyProof.noPylong_small (by omega)))
/-- % by a positive divisor of any size -/
theorem op_mod : OpR X (binaryOp .Mod) (rI (fun _ j => 0 < j) fun i j => .int (i % j)) := opI fun i j _ _ _ _ _ hc q => by
  have h1 : (0 : Int) < j := hc
  exact mod_int' (by omega) (by rw [Int.fmod_eq_emod_of_nonneg i (by omega)]; exact q)
end

/-- the scalars that == tells apart as data does -/
def scal : V → V → Bool
  | .non, .non => true | .non, .int _ => true | .int _, .non => true | .non, .bl _ => true | .bl _, .non => true | .non, .str _ => true | .str _, .non => true
  | .int _, .int _ => true | .bl _, .bl _ => true | .str _, .str _ => true | .byt _, .byt _ => true
  | .int _, .str _ => true | .str _, .int _ => true | .bl _, .str _ => true | .str _, .bl _ => true
  | _, _ => false
def rEq : R2 := fun x y H Q => scal x y = true ∧ Q (.bl (decide (x = y))) H
def rNe : R2 := fun x y H Q => scal x y = true ∧ Q (.bl (!decide (x = y))) H

theorem dec_int {i j : Int} : decide (V.int i = V.int j) = (i == j) := by
  rw [Bool.eq_iff_iff]
  simp
theorem dec_bl {i j : Bool} : decide (V.bl i = V.bl j) = (i == j) := by
  rw [Bool.eq_iff_iff]
  simp
theorem dec_str {i j : Str} : decide (V.str i = V.str j) = (i == j) := by
  rw [Bool.eq_iff_iff]
  simp
theorem dec_byt {i j : Array UInt8} : decide (V.byt i = V.byt j) = (i.toList == j.toList) := by
  rw [Bool.eq_iff_iff]
  cases i
  cases j
  simp

section
variable {X : Cx} {a b c : Expr} {ta tb tc : TE} {pos : Pos}
theorem fin_bl {pins : List (Addr × Obj)} {σ : St} {H : Hp} {s : Shared} {Q : VK} {k k' : Bool} (I : Inv X pins σ H s) (q : Q (.bl k) H) (e : k = k') : EP X pins σ Q (.bool k') s := by
  subst e
  exact ⟨.bl k, H, I, rfl, q⟩
theorem op_eq : OpR X (compareOp .Eq) rEq := by
  intro pins s σ H x y v u Q I rx ry h
  obtain ⟨hs, q⟩ := h
  cases x with
  | non =>
    cases rx
    cases y with
    | non => cases ry; exact PySem.EqNone.eq_none_none (fin_bl I q (by simp))
    | bl j => cases ry; exact PySem.EqNone.eq_none_bool (fin_bl I q (by simp))
    | int j => obtain ⟨t', rfl⟩ := ry; exact PySem.EqNone.eq_none_int (fin_bl I q (by simp))
    | str j => obtain ⟨t', rfl⟩ := ry; exact PySem.EqNone.eq_none_str (fin_bl I q (by simp))
    | _ => exact absurd (show false = true from hs) Bool.false_ne_true
  | bl i =>
    cases rx
    cases y with
    | non => cases ry; exact PySem.EqNone.eq_bool_none (fin_bl I q (by simp))
    | bl j => cases ry; exact eq_bool (fin_bl I q dec_bl)
    | str j => obtain ⟨t', rfl⟩ := ry; exact PySem.EqMixed.eq_bool_str (fin_bl I q (by simp))
    | _ => exact absurd (show false = true from hs) Bool.false_ne_true
  | int i =>
    obtain ⟨t, rfl⟩ := rx
    cases y with
    | non => cases ry; exact PySem.EqNone.eq_int_none (fin_bl I q (by simp))
    | int j => obtain ⟨t', rfl⟩ := ry; exact eq_int (fin_bl I q dec_int)
    | str j => obtain ⟨t', rfl⟩ := ry; exact PySem.EqMixed.eq_int_str (fin_bl I q (by simp))
    | _ => exact absurd (show false = true from hs) Bool.false_ne_true
  | str i =>
    obtain ⟨t, rfl⟩ := rx
    cases y with
    | non => cases ry; exact PySem.EqNone.eq_str_none (fin_bl I q (by simp))
    | bl j => cases ry; exact PySem.EqMixed.eq_str_bool (fin_bl I q (by simp))
    | int j => obtain ⟨t', rfl⟩ := ry; exact PySem.EqMixed.eq_str_int (fin_bl I q (by simp))
    | str j => obtain ⟨t', rfl⟩ := ry; exact eq_str (fin_bl I q dec_str)
    | _ => exact absurd (show false = true from hs) Bool.false_ne_true
  | byt i =>
    obtain ⟨t, rfl⟩ := rx
    cases y with
    | byt j => obtain ⟨t', rfl⟩ := ry; exact PySem.W.eq_bytes (fin_bl I q dec_byt)
    | _ => exact absurd (show false = true from hs) Bool.false_ne_true
  | _ => cases y <;> exact absurd (show false = true from hs) Bool.false_ne_true
theorem op_ne : OpR X (compareOp .NotEq) rNe := by
  intro pins s σ H x y v u Q I rx ry h
  obtain ⟨hs, q⟩ := h
  cases x with
  | non =>
    cases rx
    cases y with
    | non => cases ry; exact PySem.EqNone.ne_none_none (fin_bl I q (by simp))
    | bl j => cases ry; exact PySem.EqNone.ne_none_bool (fin_bl I q (by simp))
    | int j => obtain ⟨t', rfl⟩ := ry; exact PySem.EqNone.ne_none_int (fin_bl I q (by simp))
    | str j => obtain ⟨t', rfl⟩ := ry; exact PySem.EqNone.ne_none_str (fin_bl I q (by simp))
    | _ => exact absurd (show false = true from hs) Bool.false_ne_true
  | bl i =>
    cases rx
    cases y with
    | non => cases ry; exact PySem.EqNone.ne_bool_none (fin_bl I q (by simp))
    | bl j => cases ry; exact ne_bool (fin_bl I q (congrArg not dec_bl))
    | str j => obtain ⟨t', rfl⟩ := ry; exact PySem.EqMixed.ne_bool_str (fin_bl I q (by simp))
    | _ => exact absurd (show false = true from hs) Bool.false_ne_true
  | int i =>
    obtain ⟨t, rfl⟩ := rx
    cases y with
    | non => cases ry; exact PySem.EqNone.ne_int_none (fin_bl I q (by simp))
    | int j => obtain ⟨t', rfl⟩ := ry; exact ne_int (fin_bl I q (congrArg not dec_int))
    | str j => obtain ⟨t', rfl⟩ := ry; exact PySem.EqMixed.ne_int_str (fin_bl I q (by simp))
    | _ => exact absurd (show false = true from hs) Bool.false_ne_true
  | str i =>
    obtain ⟨t, rfl⟩ := rx
    cases y with
    | non => cases ry; exact PySem.EqNone.ne_str_none (fin_bl I q (by simp))
    | bl j => cases ry; exact PySem.EqMixed.ne_str_bool (fin_bl I q (by simp))
    | int j => obtain ⟨t', rfl⟩ := ry; exact PySem.EqMixed.ne_str_int (fin_bl I q (by simp))
    | str j => obtain ⟨t', rfl⟩ := ry; exact ne_str (fin_bl I q (congrArg not dec_str))
    | _ => exact absurd (show false = true from hs) Bool.false_ne_true
  | byt i =>
    obtain ⟨t, rfl⟩ := rx
    cases y with
    | byt j => obtain ⟨t', rfl⟩ := ry; exact PySem.W.ne_bytes (fin_bl I q (congrArg not dec_byt))
    | _ => exact absurd (show false = true from hs) Bool.false_ne_true
  | _ => cases y <;> exact absurd (show false = true from hs) Bool.false_ne_true

theorem op_lt : OpR X (compareOp .Lt) (rI0 fun i j => .bl (decide (i < j))) := opB0 fun _ _ _ _ _ _ _ q => lt_int q
theorem op_gt : OpR X (compareOp .Gt) (rI0 fun i j => .bl (decide (j < i))) := opB0 fun _ _ _ _ _ _ _ q => gt_int q
/-- two rules for one operation: by cases -/
theorem OpR.or {f : Value → Value → Sem Value} {r r' : R2} (h : OpR X f r) (h' : OpR X f r') : OpR X f (fun x y H Q => r x y H Q ∨ r' x y H Q) := by
  intro pins s σ H x y v u Q I rx ry q
  rcases q with q | q
  · exact h pins s σ H x y v u Q I rx ry q
  · exact h' pins s σ H x y v u Q I rx ry q

theorem nomark (b : Expr) {op : CmpOp} (h : op ≠ .In := by decide) (h2 : op ≠ .NotIn := by decide) : behindInMarks op b = false := by
  have e1 : (op == CmpOp.In) = false := by cases op <;> first | rfl | exact absurd rfl h
  have e2 : (op == CmpOp.NotIn) = false := by cases op <;> first | rfl | exact absurd rfl h2
  cases b <;> simp [behindInMarks, e1, e2]
/-- a reading of a value as a test -/
def tTest (t : TE) : TT := fun σ H Q => t σ H fun x H' => ∃ k, x = .bl k ∧ Q k H'
theorem pt_cmpR {op : CmpOp} {r : R2} (ho : OpR X (compareOp op) r) (ha : PE X a ta) (hb : PE X b tb) (hm : behindInMarks op b = false) : PT X (.Compare a [op] [b] pos) (tTest (tOp r ta tb)) := by
  intro pins s σ H Q I h
  refine wpAny_isTrue_Compare1 (thn (ha pins s σ H _ I h) fun v s1 ⟨x, H1, I1, r1, q1⟩ => thn (hb pins s1 σ H1 _ I1 q1) fun u s2 ⟨y, H2, I2, r2, q2⟩ =>
    thn (ho pins s2 σ H2 x y v u _ I2 r1 r2 q2) fun c s3 ⟨z, H3, I3, r3, k, e, q3⟩ => ?_) hm
  subst e
  cases r3
  exact wpAny_truthy_bool ⟨H3, I3, q3⟩
theorem line63 : (sizeLine : Nat) < 2 ^ 63 := by rw [sizeLine_eq]; decide
theorem op_add_str : OpR X (binaryOp .Add) (fun x y H Q => ∃ i j, x = .str i ∧ y = .str j ∧ i.length + j.length ≤ sizeLine ∧ Q (.str (i ++ j)) H) := by
  intro pins s σ H x y v u Q I rx ry h
  obtain ⟨i, j, rfl, rfl, hz, q⟩ := h
  obtain ⟨t, rfl⟩ := rx
  obtain ⟨t', rfl⟩ := ry
  exact add_str (fun t' tk => ⟨.str (i ++ j), H, I.tok _, ⟨_, rfl⟩, q⟩) hz
theorem vals1 {x : V} {us : List Value} (r : Vals [x] us) : ∃ u, us = [u] ∧ RelV x u := by
  cases r with
  | cons r1 r2 => cases r2; exact ⟨_, rfl, r1⟩
theorem vals2 {x y : V} {us : List Value} (r : Vals [x, y] us) : ∃ u w', us = [u, w'] ∧ RelV x u ∧ RelV y w' := by
  cases r with
  | cons r1 r2 =>
    cases r2 with
    | cons r3 r4 => cases r4; exact ⟨_, _, rfl, r1, r3⟩
theorem call_str_int : CallR X (.type "str") (fun xs H Q => ∃ i, xs = [.int i] ∧ i.natAbs.log2 < 1920 ∧ Q (.str (toString i)) H) := by
  intro pins s σ H xs us Q I r h
  obtain ⟨i, rfl, hz, q⟩ := h
  obtain ⟨u, rfl, t, rfl⟩ := vals1 r
  exact PySem.P.str_of_int hz ⟨.str _, H, I.tok _, ⟨_, rfl⟩, q⟩
end
end L2

namespace L2
open PySem PySem.Spec PyProof.Rows

structure ObjM (h : Heap) (x dx C : Addr) (mA : Str → Option Value) : Prop where
  obj : h.get? x = some (PySem.W.instObj C dx)
  ns : h.Ns1 dx mA
  ne : dx ≠ x

theorem lookIn_ns {h : Heap} {dx : Addr} {mA : Str → Option Value} (n : h.Ns1 dx mA) : ∃ od, h.get? dx = some od ∧ ∀ name, PySem.W.lookIn name od = some (mA name) := by
  obtain ⟨o, es, ep, ho, hd, hk, _, hm⟩ := n
  refine ⟨o, ho, fun name => ?_⟩
  have e := hm name
  unfold nsFind findBy at e
  rw [← Array.find?_toList] at e
  unfold PySem.W.lookIn
  rw [hd]
  dsimp only
  split
  · rename_i y q
    rw [q] at e
    exact congrArg some e
  · rename_i q
    rw [q] at e
    have a : es.toList.any (·.refKey) = false := by
      rw [List.any_eq_false]
      intro y hy
      obtain ⟨z, t, hkey⟩ := hk y (Array.mem_toList_iff.mp hy)
      simp [DictEntry.refKey, hkey]
    have a' : ¬ es.toList.any (·.refKey) = true := by rw [a]; exact Bool.false_ne_true
    rw [if_neg a']
    exact congrArg some e

theorem ObjM.look {h : Heap} {x dx C : Addr} {mA : Str → Option Value} (I : ObjM h x dx C mA) : ∃ od, PySem.W.InstAt h x (PySem.W.instObj C dx) C (some od) ∧ ∀ name, PySem.W.lookIn name od = some (mA name) :=
  let ⟨od, ho, hl⟩ := lookIn_ns I.ns
  ⟨od, ⟨I.obj, rfl, rfl, ho⟩, hl⟩

section
variable {prog : Program} {w : World} {A : Around} {E : Value → Shared → Prop} {s : Shared} {K : PySem.W.Frag} {x dx C f : Addr} {mA : Str → Option Value} {name : Str} {v : Value}

end

def putF (f : Str) (v : V) : List (Str × V) → List (Str × V)
  | [] => [(f, v)]
  | (g, x) :: r => if g = f then (g, v) :: r else (g, x) :: putF f v r
theorem RelO.none_of {o : Option Value} (r : RelO none o) : o = none := by
  cases o with
  | none => rfl
  | some u => exact (show False from r).elim
section
variable {P : Program} {w : World} {H H' : Hp} {h h' : Heap} {a C dx : Addr} {fs fs' : List (Str × V)}
theorem ins_get (hok : HOk P w H h) (e : H a = some (.ins C dx fs)) : ∃ mA, ObjM h a dx C mA ∧ (∀ f, RelO (fs.lookup f) (mA f)) ∧ PySem.Within mA (fs.map (·.1)) ∧ fs.length ≤ 1000 ∧ H dx = some (.own a) := by
  obtain ⟨d, z, ne, ob, mA, n, r, q⟩ := (show ObjOk P w H h a (.ins C dx fs) from hok a _ e)
  exact ⟨mA, ⟨ob, n, ne⟩, r, q, z, d⟩
end

structure Cls (K : PySem.W.Frag) (C : Addr) : Prop where
  pg : PySem.W.plainGet K C Str.empty = true
  hd : PySem.W.hasDictIn K C = true
  po : PySem.W.plainOver K C = true
  sa : PySem.W.findIn K (.ref C) "__setattr__" = some (some (.builtin "object.__setattr__"))
theorem Cls.get {K : PySem.W.Frag} {C : Addr} (c : Cls K C) (f : Str) : PySem.W.plainGet K C f = true := c.pg
/-- a method: a plain def of the class or of one above it -/
structure Meth (K : PySem.W.Frag) (C : Addr) (m : Str) (f : Addr) : Prop where
  at_ : PySem.W.findIn K (.ref C) m = some (some (.ref f))
  fn : PySem.W.isFn K (.ref f) = true
  kp : PySem.W.keepIn K (.ref f) = true

section
variable {X : Cx} {pins : List (Addr × Obj)} {σ : St} {H : Hp} {s : Shared} {a C dx : Addr} {fs : List (Str × V)} {f : Str} {v : V} {A : Around} {E : Value → Shared → Prop}

/-- a new instance, tracked, without attributes -/
theorem Inv.made (I : Inv X pins σ H s) : Inv X pins σ (upd (upd H s.heap.objs.size (.own (s.heap.objs.size + 1))) (s.heap.objs.size + 1) (.ins C s.heap.objs.size []))
    { s with heap := (s.heap.push PySem.W.emptyDict).push (PySem.W.instObj C s.heap.objs.size) } := by
  have e1 : (s.heap.push PySem.W.emptyDict).get? s.heap.objs.size = some PySem.W.emptyDict := Heap.get?_push_size s.heap rfl
  have e2 : ((s.heap.push PySem.W.emptyDict).push (PySem.W.instObj C s.heap.objs.size)).get? (s.heap.objs.size + 1) = some (PySem.W.instObj C s.heap.objs.size) := by
    have := Heap.get?_push_size (s.heap.push PySem.W.emptyDict) (o := PySem.W.instObj C s.heap.objs.size) rfl
    rwa [Heap.size_push] at this
  have e3 : (s.heap.push PySem.W.emptyDict).Ns s.heap.objs.size (fun _ => none) := ⟨PySem.W.emptyDict, #[], _, e1, rfl, (fun e he => absurd he (by simp)), fun _ => rfl⟩
  have I1 := I.laid (a := s.heap.objs.size) (o := .own (s.heap.objs.size + 1)) (h' := s.heap.push PySem.W.emptyDict) (t' := s.toks) (fun b u q => Heap.get?_push_of_some _ q) (Nat.le_refl _) ⟨_, e1⟩
  refine I1.laid (a := s.heap.objs.size + 1) (o := .ins C s.heap.objs.size []) (t' := s.toks) (fun b u q => Heap.get?_push_of_some _ q) (Nat.le_of_eq (Heap.size_push _ _)) ?_
  have ne : s.heap.objs.size ≠ s.heap.objs.size + 1 := Nat.ne_of_lt (Nat.lt_succ_self _)
  refine ⟨by rw [upd_ne ne, upd_same], Nat.zero_le _, ne, e2, fun _ => none, (Heap.Ns1.of_empty e3).at fun o q => Heap.get?_push_of_some _ q, fun _ => True.intro, fun y hy => absurd rfl hy⟩

end

section
variable {X : Cx} {o e value : Expr} {f : Str} {pos pos' tpos : Pos} {ta tv : TE}
end

section
variable {X : Cx} {pins : List (Addr × Obj)} {σ : St} {H : Hp} {s : Shared} {A : Around} {E : Value → Shared → Prop} {Q : Value → Shared → Prop} {c : Value} {b : Bool}
/-- the type of a value, as the fragment's deciders take it; for an instance its class -/
inductive TyOf (K : PySem.W.Frag) (H : Hp) : V → Value → Prop where
  | non : TyOf K H .non (.type "NoneType")
  | bl (x : Bool) : TyOf K H (.bl x) (.type "bool")
  | int (i : Int) : TyOf K H (.int i) (.type "int")
  | str (x : Str) : TyOf K H (.str x) (.type "str")
  | flt (x : UInt64) : TyOf K H (.flt x) (.type "float")
  | lst {a : Addr} {xs : List V} (e : H a = some (.lst xs)) : TyOf K H (.ref a) (.type "list")
  | frz {a : Addr} {o : Obj} {xs : List V} (e : H a = some (.frz o (.lst xs))) : TyOf K H (.ref a) (.type "list")
  | tup {a : Addr} {xs : List V} (e : H a = some (.tup xs)) : TyOf K H (.ref a) (.type "tuple")
  | dK {a : Addr} {kvs : List (Key × V)} (e : H a = some (.dK kvs)) : TyOf K H (.ref a) (.type "dict")
  | dT {a : Addr} {kvs : List (List Key × V)} (e : H a = some (.dT kvs)) : TyOf K H (.ref a) (.type "dict")
  | ins {a C dx : Addr} {fs : List (Str × V)} (e : H a = some (.ins C dx fs)) (cl : Cls K C) (ha : PySem.W.findIn K (.ref C) "__class__" = some (some (.builtin "object.__class__")))
      (hn : PySem.W.specialIn K (.builtin "object.__class__") "__get__" = some (some (.builtin "getset_descriptor.__get__"))) (htk : PySem.W.takesIn K (.builtin "object.__class__") = some true)
      (hm : PySem.W.mroIn K C (.type "object") = some true) : TyOf K H (.ref a) (.ref C)
end
end L2

namespace L2
open PySem PySem.Spec PyProof.Rows

structure Room (k : Nat) (A : Around) : Prop where
  hd : A.handled = none
  dp : A.depth + 3 * k + 5 < recursionLimit
  un : A.units + 16 * k + 200 < cLine
theorem Room.mono {j k : Nat} {A : Around} (r : Room k A) (h : j ≤ k) : Room j A := ⟨r.hd, by have := r.dp; omega, by have := r.un; omega⟩
theorem Room.deeper {k : Nat} {A : Around} (r : Room (k + 1) A) (env : Env) : Room k (A.deeper env) :=
  ⟨r.hd, by have := r.dp; show A.depth + 1 + 3 * k + 5 < _; omega, by have := r.un; show A.units + 3 + 16 * k + 200 < _; omega⟩
theorem Room.in1 {k : Nat} {A : Around} (r : Room (k + 1) A) : Room k A.in1 :=
  ⟨r.hd, by have := r.dp; show A.depth + 3 * k + 5 < _; omega, by have := r.un; show A.units + 1 + 16 * k + 200 < _; omega⟩
theorem Room.depth {k : Nat} {A : Around} (r : Room k A) : A.depth < recursionLimit := by have := r.dp; omega
theorem Room.units {k : Nat} {A : Around} (r : Room k A) : A.units + 64 < cLine := by have := r.un; omega
theorem Room.units0 {k : Nat} {A : Around} (r : Room k A) : A.units < cLine := by have := r.un; omega

def tNil : TA := fun _ H Q => Q [] H
def tCons (ta : TE) (tr : TA) : TA := fun σ H Q => ta σ H fun x H1 => tr σ H1 fun xs H2 => Q (x :: xs) H2
section
variable {X : Cx} {e : Expr} {es : List Expr} {te : TE} {t : TA} {pos : Pos}
theorem pa_nil : PA X [] tNil := fun _ _ _ _ H Q I h => Calls.spliced_nil ⟨[], H, I, .nil, h⟩
theorem pa_cons (ha : PE X e te) (hr : PA X es t) (hs : starEach (e :: es) X.env = (false, eval e X.env) :: starEach es X.env := by rfl) : PA X (e :: es) (tCons te t) := by
  intro pos pins s σ H Q I h
  rw [hs]
  show wpAny _ _ (spliced ((false, eval e X.env) :: backTo pos (starEach es X.env))) _ _ s
  refine Calls.spliced_cons (thn (ha pins s σ H _ I h) fun u s1 ⟨x, H1, I1, r1, q1⟩ => ?_)
  exact thn (hr pos pins s1 σ H1 _ I1 q1) fun us s2 ⟨xs, H2, I2, r2, q2⟩ => ⟨x :: xs, H2, I2, .cons r1 r2, q2⟩

/-- a tuple, a list of written items -/
def tTup (t : TA) : TE := fun σ H Q => t σ H fun xs H1 => xs.length ≤ sizeLine ∧ ∀ p, H1 p = none → Q (.ref p) (upd H1 p (.tup xs))
def tLst (t : TA) : TE := fun σ H Q => t σ H fun xs H1 => xs.length ≤ sizeLine ∧ ∀ p, H1 p = none → Q (.ref p) (upd H1 p (.lst xs))
theorem pe_tup {x1} (h : PA X es t) : PE X (.Tuple es x1 pos) (tTup t) := by
  intro pins s σ H Q I hq
  refine wpAny_Tuple_spliced (thn (h pos pins s σ H _ I hq) fun us s1 ⟨xs, H1, I1, r, z, q⟩ => ⟨by rw [← r.length]; exact z, ?_⟩)
  have hf : H1 s1.heap.objs.size = none := I1.hok.fresh (Nat.le_refl _)
  refine ⟨.ref s1.heap.objs.size, upd H1 s1.heap.objs.size (.tup xs), I1.laid (t' := s1.toks) (fun b u e => Heap.get?_push_of_some _ e) (Nat.le_refl _) ?_, rfl, q _ hf⟩
  exact ⟨z, us, r, ⟨_, Heap.get?_push_size _ rfl, rfl, _, rfl⟩⟩
theorem pe_lst (h : PA X es t) : PE X (.List es pos) (tLst t) := by
  intro pins s σ H Q I hq
  refine wpAny_List_spliced (thn (h pos pins s σ H _ I hq) fun us s1 ⟨xs, H1, I1, r, z, q⟩ => ⟨by rw [← r.length]; exact z, ?_⟩)
  have hf : H1 s1.heap.objs.size = none := I1.hok.fresh (Nat.le_refl _)
  refine ⟨.ref s1.heap.objs.size, upd H1 s1.heap.objs.size (.lst xs), I1.laid (t' := s1.toks) (fun b u e => Heap.get?_push_of_some _ e) (Nat.le_refl _) ?_, rfl, q _ hf⟩
  exact ⟨z, us, 0, r, Heap.get?_push_size _ rfl⟩
end

/-- a def's promise: the bound arguments in the parameters' order, the heap, the wanted end, the wanted exception -/
abbrev Sp := List V → Hp → VK → XK → Prop
/-- how an exception lies behind a call (file 08 gives it): the callers' frames, abstract heap and state ahead of the call, the wish, the exception, the state -/
abbrev CXT := List Env → Hp → Shared → XK → Value → Shared → Prop

/-- the state at a call -/
structure Env0 (P : Program) (w : World) (K : PySem.W.Frag) (mg : Str → Option Value) (base : Heap) (A : Around) (outer : List Env) (s : Shared) (H : Hp) : Prop where
  frames : A.frames = some outer
  mod : Mod K mg base
  bs : ∀ b o, base.get? b = some o → s.heap.get? b = some o ∧ H b = none
  bsz : base.objs.size ≤ s.heap.objs.size
  funs : s.heap.FunFrames base outer
  frf : ∀ b ∈ frs outer, H b = none
  hok : HOk P w H s.heap
  bare : AllBare s.gens
/-- a call's end -/
def CE (outer : List Env) (P : Program) (w : World) (H : Hp) (s : Shared) (Q : VK) (u : Value) (s' : Shared) : Prop :=
  ∃ v H', s'.os = s.os ∧ AllBare s'.gens ∧ Un (frs outer) [] H H' s.heap s'.heap ∧ HOk P w H' s'.heap ∧ RelV v u ∧ Q v H'
def CR (CX : CXT) (outer : List Env) (P : Program) (w : World) (H : Hp) (s : Shared) (Q : VK) (E : XK) (r : Result) (s' : Shared) : Prop :=
  match r with
  | .ok (.ret u) => CE outer P w H s Q u s'
  | .ok _ => False
  | .error e => CX outer H s E e s'
structure FnOk (P : Program) (w : World) (K : PySem.W.Frag) (mg : Str → Option Value) (base : Heap) (CX : CXT) (k : Nat) (f : Addr) (fd : FuncData) (ps : List Str) (sp : Sp) : Prop where
  len : ∀ vs H Q E, sp vs H Q E → vs.length = ps.length
  run : ∀ (A : Around) (outer : List Env) (s : Shared) (H : Hp) (args : Args) (us : List Value) (vs : List V) (Q : VK) (E : XK), Room k A → Env0 P w K mg base A outer s H → BindsTo s fd args (ps.zip us) → Vals vs us → sp vs H Q E →
    codeAny (model P w) A (.call (.ref f) args) (CR CX outer P w H s Q E) s
theorem FnOk.mono {P : Program} {w : World} {K : PySem.W.Frag} {mg : Str → Option Value} {base : Heap} {CX : CXT} {j k : Nat} {f : Addr} {fd : FuncData} {ps : List Str} {sp : Sp} (F : FnOk P w K mg base CX j f fd ps sp) (h : j ≤ k) :
    FnOk P w K mg base CX k f fd ps sp := ⟨F.len, fun A outer s H args us vs Q E hr => F.run A outer s H args us vs Q E (hr.mono h)⟩
/-- a weaker promise -/
theorem FnOk.imp {P : Program} {w : World} {K : PySem.W.Frag} {mg : Str → Option Value} {base : Heap} {CX : CXT} {k : Nat} {f : Addr} {fd : FuncData} {ps : List Str} {sp sp' : Sp} (F : FnOk P w K mg base CX k f fd ps sp)
    (h : ∀ vs H Q E, sp' vs H Q E → sp vs H Q E) : FnOk P w K mg base CX k f fd ps sp' :=
  ⟨fun vs H Q E q => F.len vs H Q E (h _ _ _ _ q), fun A outer s H args us vs Q E hr he hb hv hs => F.run A outer s H args us vs Q E hr he hb hv (h _ _ _ _ hs)⟩

theorem Env0.in1 {P : Program} {w : World} {K : PySem.W.Frag} {mg : Str → Option Value} {base : Heap} {A : Around} {outer : List Env} {s : Shared} {H : Hp} (e : Env0 P w K mg base A outer s H) :
    Env0 P w K mg base A.in1 outer s H := ⟨e.frames, e.mod, e.bs, e.bsz, e.funs, e.frf, e.hok, e.bare⟩

section
variable {X : Cx} {pins : List (Addr × Obj)} {σ : St} {H : Hp} {s s' : Shared}
/-- from a body: what a callee wants -/
theorem Inv.env0 (I : Inv X pins σ H s) : Env0 X.prog X.w X.K X.mg X.base X.A X.stack s H :=
  ⟨I.ok.frames, I.ok.mod, I.bs, Nat.le_trans I.ok.bsz I.sz, I.stack, I.stkFree, I.hok, I.bare⟩
/-- behind a call -/
theorem Inv.after {Q : VK} {u : Value} (I : Inv X pins σ H s) (h : CE X.stack X.prog X.w H s Q u s') : EP X pins σ Q u s' := by
  obtain ⟨v, H', os, bare, un, hok, r, q⟩ := h
  obtain ⟨hh, g, d, t, os'⟩ := s'
  obtain rfl : os' = s.os := os
  exact ⟨v, H', I.call (h' := hh) (g' := g) (d' := d) (t' := t) (ch := []) un hok bare (fun b z => absurd z (by simp)), r, q⟩
end

/-- f(..): the written arguments, then the defaults dvs; E: what is wanted of an exception -/
def tCall (sp : Sp) (dvs : List V) (E : XK) (t : TA) : TE := fun σ H Q => t σ H fun vs H1 => sp (vs ++ dvs) H1 Q E
/-- how the parameters are bound: us the positional arguments, kw the keywords' values by name, ds the defaults that fill up -/
def Binds (K : PySem.W.Frag) (fd : FuncData) (ps : List Str) (ds : List Value) : Prop :=
  ∀ (s : Shared) (us : List Value), K.In s.heap → (us ++ ds).length = ps.length → BindsTo s fd ⟨us, []⟩ (ps.zip (us ++ ds))
/-- every parameter is given -/
theorem Binds.all {K : PySem.W.Frag} {fd : FuncData} {ps : List Str} (h : ∀ us : List Value, us.length = ps.length → bindArgs fd ⟨us, []⟩ = pure (ps.zip us)) : Binds K fd ps [] := fun s us _ hl => by
  rw [List.append_nil] at hl ⊢
  exact .of_eq (h us hl)

/-- an exception of a callee reaches what this body wants of exceptions -/
def Passes (CX : CXT) (X : Cx) (E : XK) : Prop := ∀ (pins : List (Addr × Obj)) (σ : St) (H : Hp) (s : Shared) (e : Value) (s' : Shared), Inv X pins σ H s → CX X.stack H s E e s' → X.xe e s'

section
variable {X : Cx} {CX : CXT} {k : Nat} {f C : Addr} {fd : FuncData} {ps : List Str} {sp : Sp} {dvs : List V} {ds : List Value} {E : XK} {x m : Str} {p pos apos : Pos} {e o : Expr} {es : List Expr} {ta : TE} {t : TA}

/-- the callee runs -/
theorem run_fn {pins : List (Addr × Obj)} {σ : St} {H : Hp} {s : Shared} {Q : VK} {us : List Value} {vs : List V} (F : FnOk X.prog X.w X.K X.mg X.base CX k f fd ps sp) (hr : Room k X.A) (hb : Binds X.K fd ps ds) (hd : Vals dvs ds) (hx : Passes CX X E)
    (I : Inv X pins σ H s) (r : Vals vs us) (h : sp (vs ++ dvs) H Q E) : wpAny (model X.prog X.w) X.A (call (.ref f) us) (EP X pins σ Q) X.xe s := by
  have r2 : Vals (vs ++ dvs) (us ++ ds) := r.append hd
  have hl : (us ++ ds).length = ps.length := by rw [← r2.length]; exact F.len _ _ _ _ h
  refine wpAny_call (codeAny_mono (F.run X.A X.stack s H ⟨us, []⟩ (us ++ ds) (vs ++ dvs) Q E hr I.env0 (hb s us I.kIn hl) r2 h) fun r s' hq => ?_)
  cases r with
  | error e => exact hx pins σ H s e s' I hq
  | ok fl =>
    cases fl with
    | ret u => exact I.after hq
    | next => exact False.elim hq
    | brk => exact False.elim hq
    | cont => exact False.elim hq

theorem pe_call (F : FnOk X.prog X.w X.K X.mg X.base CX k f fd ps sp) (hr : Room k X.A) (hg : Gl X x) (hm : X.mg x = some (.ref f)) (hk : PySem.W.keepIn X.K (.ref f) = true) (hb : Binds X.K fd ps ds) (hd : Vals dvs ds) (hx : Passes CX X E)
    (ha : PA X (e :: es) t) (hdb : (x == ("__debug__" : Str)) = false := by decide) (he : starEach (e :: es) X.env = (false, eval e X.env) :: starEach es X.env := by rfl) (hpl : (backTo pos (starEach es X.env)).any (·.1) = false := by rfl) :
    PE X (.Call (.Name x p) (e :: es) [] pos) (tCall sp dvs E t) := by
  intro pins s σ H Q I h
  refine wpAny_Call_Name_kw (ld_glob I hg hm ?_ hdb)
  refine PySem.W.callWith_K (h₀ := X.base) I.ok.mod.kin hk (thn (ha pos pins s σ H _ I h) fun us s1 ⟨vs, H1, I1, r, q⟩ => ⟨I1.kIn, ?_⟩) he hpl
  exact run_fn F hr hb hd hx I1 r q
/-- what a class must have to be made -/
structure Mk (K : PySem.W.Frag) (C f : Addr) : Prop where
  makes : PySem.W.makesIn K C = true
  init : PySem.W.findIn K (.ref C) "__init__" = some (some (.ref f))
  fn : PySem.W.isFn K (.ref f) = true
  kp : PySem.W.keepIn K (.ref C) = true

end

section
variable {X : Cx} {CX : CXT} {k : Nat} {f C : Addr} {fd : FuncData} {ps ks : List Str} {sp : Sp} {E : XK} {x m : Str} {p pos apos kpos : Pos} {e o : Expr} {es : List Expr} {kws : List Keyword} {te ta : TE} {t tk : TA} {nm : Option Str}
variable {g : List Value → List Value → List Value} {gV : List V → List V → List V}
end

/-- names: the parameters first -/
structure FnScope (N P : List Str) (sc : Scope) : Prop where
  kind : sc.kind = .function
  co : sc.isCoroutine = false
  gen : sc.isGenerator = false
  nd : N.Nodup
  pre : N.take P.length = P
  par : ∀ x ∈ P, sc.names.lookup x = some .local ∨ sc.names.lookup x = some .cell
  nofree : ∀ y ∈ sc.names, y.2 ≠ .free

theorem bindL_out {kindOf : Str → Option NameKind} {x : Str} : ∀ {binds : List (Str × Value)} {m : Str → Option Value}, (∀ v, (x, v) ∉ binds) → bindL kindOf binds m x = m x
  | [], _, _ => rfl
  | (n, v) :: r, m, h => by
    unfold bindL
    rw [bindL_out fun w hw => h w (List.mem_cons_of_mem _ hw)]
    split
    · have : x ≠ n := by rintro rfl; exact h v List.mem_cons_self
      simp [this]
    · rfl
theorem bindC_out {kindOf : Str → Option NameKind} {x : Str} : ∀ {binds : List (Str × Value)} {m : Str → Option Value}, (∀ v, (x, v) ∉ binds) → bindC kindOf binds m x = m x
  | [], _, _ => rfl
  | (n, v) :: r, m, h => by
    unfold bindC
    rw [bindC_out fun w hw => h w (List.mem_cons_of_mem _ hw)]
    split
    · rfl
    · have : x ≠ n := by rintro rfl; exact h v List.mem_cons_self
      simp [this]
theorem bindL_get {kindOf : Str → Option NameKind} {x : Str} {v : Value} : ∀ {P : List Str} {vs : List Value} {i : Nat} {m : Str → Option Value}, P.Nodup → P[i]? = some x → vs[i]? = some v → kindOf x = some .local →
    bindL kindOf (P.zip vs) m x = some v
  | [], _, _, _, _, h, _, _ => by simp at h
  | _ :: _, [], _, _, _, _, h, _ => by simp at h
  | p :: P, w :: vs, 0, m, nd, h1, h2, hk => by
    simp at h1 h2; subst h1; subst h2
    show bindL kindOf ((p, w) :: P.zip vs) m p = _
    unfold bindL
    rw [bindL_out fun v hv => (List.nodup_cons.mp nd).1 (List.of_mem_zip hv).1, if_pos hk]
    simp
  | p :: P, w :: vs, i + 1, m, nd, h1, h2, hk => by
    show bindL kindOf ((p, w) :: P.zip vs) m x = _
    unfold bindL
    exact bindL_get (i := i) (List.nodup_cons.mp nd).2 (by simpa using h1) (by simpa using h2) hk
theorem bindC_get {kindOf : Str → Option NameKind} {x : Str} {v : Value} : ∀ {P : List Str} {vs : List Value} {i : Nat} {m : Str → Option Value}, P.Nodup → P[i]? = some x → vs[i]? = some v → kindOf x ≠ some .local →
    bindC kindOf (P.zip vs) m x = some v
  | [], _, _, _, _, h, _, _ => by simp at h
  | _ :: _, [], _, _, _, _, h, _ => by simp at h
  | p :: P, w :: vs, 0, m, nd, h1, h2, hk => by
    simp at h1 h2; subst h1; subst h2
    show bindC kindOf ((p, w) :: P.zip vs) m p = _
    unfold bindC
    rw [bindC_out fun v hv => (List.nodup_cons.mp nd).1 (List.of_mem_zip hv).1, if_neg hk]
    simp
  | p :: P, w :: vs, i + 1, m, nd, h1, h2, hk => by
    show bindC kindOf ((p, w) :: P.zip vs) m x = _
    unfold bindC
    exact bindC_get (i := i) (List.nodup_cons.mp nd).2 (by simpa using h1) (by simpa using h2) hk

/-- the names' values at the entry -/
def start (N : List Str) (vs : List V) : St := vs.map some ++ List.replicate (N.length - vs.length) none

/-- the context of a def's body, at its entry; an exception leaves the frame, then lies as CX says -/
def cxOf (CX : CXT) (P : Program) (w : World) (K : PySem.W.Frag) (mg : Str → Option Value) (base : Heap) (N : List Str) (qual : Str) (scope : Scope) (f : Addr) (cd : Value) (A : Around) (outer : List Env) (s : Shared) (H : Hp) (E : XK) : Cx where
  prog := P
  w := w
  K := K
  mg := mg
  base := base
  A := A.deeper (envOfC qual scope s.heap.objs.size f cd)
  N := N
  s₀ := s
  H₀ := H
  env := envOfC qual scope s.heap.objs.size f cd
  outer := outer
  stack := envOfC qual scope s.heap.objs.size f cd :: outer
  ex := []
  calm := true
  fn := fun _ => true
  pn := []
  xe := fun e s' => wpAny (model P w) (A.deeper (envOfC qual scope s.heap.objs.size f cd)) (leaving (envOfC qual scope s.heap.objs.size f cd) e) (fun _ s'' => CX outer H s E e s'') (fun e' s'' => CX outer H s E e' s'') s'

theorem cell_has {sc : Scope} {n : Nat} {x : Str} (h : sc.names.lookup x = some .cell) : ∃ c, (cellsFrom n sc.names []).lookup x = some c := by
  have q := PySem.W.cellsFrom_some sc.names n [] (.inl h)
  exact Option.isSome_iff_exists.mp q

theorem inv_start {CX : CXT} {P : Program} {w : World} {K : PySem.W.Frag} {mg : Str → Option Value} {base : Heap} {N ps : List Str} {qual : Str} {scope : Scope} {f : Addr} {cd : Value} {A : Around} {outer : List Env} {s s1 : Shared} {H : Hp} {E : XK} {us : List Value} {vs : List V}
    (S : FnScope N ps scope) (hd : A.handled = none) (e0 : Env0 P w K mg base A outer s H) (hl : vs.length = ps.length) (r : Vals vs us)
    (x : InCallC s s.heap.objs.size (bindL (envOfC qual scope s.heap.objs.size f cd).kindOf (ps.zip us) fun _ => none) (cellsFrom (s.heap.objs.size + 1) scope.names []) (bindC (envOfC qual scope s.heap.objs.size f cd).kindOf (ps.zip us) fun _ => none) s1) :
    Inv (cxOf CX P w K mg base N qual scope f cd A outer s H E) [] (start N vs) H s1 := by
  have hpl : ps.length ≤ N.length := by have := congrArg List.length S.pre; rw [List.length_take] at this; omega
  obtain ⟨h1, tk, rfl, hk⟩ := x.done
  have noA : ∀ b : Addr, b ∉ (cxOf CX P w K mg base N qual scope f cd A outer s H E).ex := fun b z => absurd (show b ∈ ([] : List Addr) from z) (by simp)
  refine ⟨⟨e0.mod, S.kind, rfl, rfl, Nat.le_refl _, fun y z c h1 h2 => ?_, fun y hy => ?_, fun y c _ h => ?_, fun _ => hd, Around.frames_deeper e0.frames, .inr ⟨rfl, rfl⟩, fun b z => absurd z (noA b), e0.bs, e0.bsz, fun b _ _ => noA b, fun b z => absurd z (noA b), e0.funs, e0.frf⟩,
    rfl, e0.bare, Un.kept hk, ⟨_, x.toInCall.ns, fun i y v h1 h2 h3 => ?_⟩, fun y c h => ⟨_, x.cell y c h⟩, e0.hok.fresh (Nat.le_refl _), fun y c h => ?_, fun p hp => absurd (show p ∈ ([] : List (Addr × Obj)) from hp) (by simp), e0.hok.kept hk, ?_⟩
  · exact name_of_addr x.apart (PySem.mem_of_lookup h1) (PySem.mem_of_lookup h2)
  · have hy : scope.names.lookup y = some .cell ∨ scope.names.lookup y = some .free := hy
    rcases hy with hy | hy
    · exact cell_has hy
    · exact absurd rfl (S.nofree _ (PySem.mem_of_lookup hy))
  · exact Nat.le_of_lt (x.above y c (PySem.mem_of_lookup h))
  · have hi : i < vs.length := by
      unfold start at h2
      by_cases hi : i < vs.length
      · exact hi
      · rw [List.getElem?_append_right (by simpa using hi)] at h2
        rw [List.getElem?_replicate] at h2
        split at h2 <;> cases h2
    have ha : vs[i]? = some v := by
      unfold start at h2
      rw [List.getElem?_append_left (by simpa using hi), List.getElem?_map] at h2
      cases e : vs[i]? with
      | none => rw [e] at h2; cases h2
      | some a => rw [e] at h2; cases h2; rfl
    obtain ⟨u, hu, rv⟩ := r.get ha
    have hp : ps[i]? = some y := by
      rw [← S.pre, List.getElem?_take_of_lt (by omega)]; exact h1
    have ndP : ps.Nodup := by rw [← S.pre]; exact S.nd.sublist (List.take_sublist _ _)
    refine ⟨u, rv, ?_⟩
    rcases S.par y (List.mem_of_getElem? hp) with k | k
    · exact .inl ⟨k, bindL_get ndP hp hu k⟩
    · obtain ⟨c, e⟩ := cell_has (n := s.heap.objs.size + 1) k
      refine .inr ⟨.inl k, c, e, ?_⟩
      have q := x.cell y c e
      rw [bindC_get ndP hp hu (by show scope.names.lookup y ≠ _; rw [k]; decide)] at q
      exact q
  · exact e0.hok.fresh (Nat.le_of_lt (x.above y c (PySem.mem_of_lookup h)))
  · unfold start
    show _ = N.length
    rw [List.length_append, List.length_map, List.length_replicate]
    omega

/-- THE RULE: a def (or a method) of the text, by its body. The body's reading t is chosen for each entry; it is run at the parameters' values -/
theorem fn_of {CX : CXT} {P : Program} {w : World} {K : PySem.W.Frag} {mg : Str → Option Value} {base : Heap} {k : Nat} {f : Addr} {name qual : Str} {params : Arguments} {body : List Stmt} {scope : Scope} {dV kV doc pm cdv ct oc : Value} {an od : Option Addr}
    {osl : Array (Option Value)} {N ps : List Str} {sp : Sp} (lk : K.lookup f = some ⟨oc, od, .func (PySem.W.fnOf name qual params body scope dV kV doc pm an cdv ct), osl⟩) (hcd : PySem.W.codeIn K cdv qual = true) (S : FnScope N ps scope)
    (len : ∀ vs H Q E, sp vs H Q E → vs.length = ps.length)
    (hbody : ∀ (A : Around) (outer : List Env) (s : Shared) (H : Hp) (vs : List V) (Q : VK) (E : XK), Room k (A.deeper (envOfC qual scope s.heap.objs.size f cdv)) → sp vs H Q E →
      ∃ t, PSs (cxOf CX P w K mg base N qual scope f cdv A outer s H E) body t ∧ t { nx := fun _ H' => Q .non H', rt := Q } (start N vs) H) :
    FnOk P w K mg base CX (k + 1) f (PySem.W.fnOf name qual params body scope dV kV doc pm an cdv ct) ps sp := by
  refine ⟨len, fun A outer s H args us vs Q E hr e0 hb r hsp => ?_⟩
  have hl := len _ _ _ _ hsp
  have KX : K.In s.heap := e0.mod.kin.keeps fun b o e => (e0.bs b o e).1
  have lim : s.heap.NoLimit := e0.mod.nolimit.keeps fun b o e => (e0.bs b o e).1
  have hkind : ∀ y ∈ ps.zip us, scope.names.lookup y.1 = some .local ∨ (scope.names.lookup y.1 = some .cell ∧ ((cellsFrom (s.heap.objs.size + 1) scope.names []).lookup y.1).isSome = true) := fun ⟨n, v⟩ hy => by
    rcases S.par n (List.of_mem_zip hy).1 with q | q
    · exact .inl q
    · exact .inr ⟨q, PySem.W.cellsFrom_some _ _ _ (.inl q)⟩
  refine codeAny_call_function hr.depth (KX _ _ lk) rfl S.co S.gen rfl (PySem.W.codeRec_of KX hcd) (hb _ _ _ _ ?_)
  refine wpAny_newFunctionEnv_cells S.kind hkind fun env he s1 x => ?_
  subst he
  refine ⟨lim.keeps x.toInCall.keep, codeAny_func ?_⟩
  obtain ⟨t, ht, hq⟩ := hbody A outer s H vs Q E (hr.deeper _) hsp
  have I : Inv (cxOf CX P w K mg base N qual scope f cdv A outer s H E) [] (start N vs) H s1 := inv_start S hr.hd e0 hl r x
  refine wpAny_mono (ht [] s1 (start N vs) H _ I hq) (fun fl s' hs => ?_) fun e s' hs => hs
  have fin : ∀ {σ' : St} {H' : Hp} {v : V} {u : Value}, Inv (cxOf CX P w K mg base N qual scope f cdv A outer s H E) [] σ' H' s' → RelV v u → Q v H' → CE outer P w H s Q u s' :=
    fun {σ' H' v u} J rv q => ⟨v, H', J.os, J.bare, J.base, J.hok, rv, q⟩
  cases fl with
  | ret u =>
    obtain ⟨v, σ', H', J, rv, q⟩ := hs
    exact fin J rv q
  | next =>
    obtain ⟨σ', H', J, q⟩ := hs
    exact fin (v := V.non) (u := Value.none) J rfl q
  | brk =>
    obtain ⟨_, _, _, q⟩ := hs
    exact False.elim q
  | cont =>
    obtain ⟨_, _, _, q⟩ := hs
    exact False.elim q
end L2

namespace L2
open PySem PySem.Spec PyProof.Rows
section
variable {X : Cx} {x : Str} {p pos : Pos} {e : Expr} {es : List Expr} {t : TA} {id T : String} {r : List V → Hp → VK → Prop}

def tCB (r : List V → Hp → VK → Prop) (t : TA) : TE := fun σ H Q => t σ H fun vs H1 => r vs H1 Q
/-- f(e, ..), f a built-in function -/
theorem pe_callB (hc : CallR X (.builtin id) r) (hg : Gl X x) (hm : X.mg x = none) (hv : bootBuiltins x = some (.builtin id)) (ha : PA X (e :: es) t) (hn : x ≠ "__name__" := by decide) (hdb : (x == ("__debug__" : Str)) = false := by decide)
    (he : starEach (e :: es) X.env = (false, eval e X.env) :: starEach es X.env := by rfl) (hpl : (backTo pos (starEach es X.env)).any (·.1) = false := by rfl) : PE X (.Call (.Name x p) (e :: es) [] pos) (tCB r t) := by
  intro pins s σ H Q I h
  refine wpAny_Call_Name_kw (ld_blt I hg hm hv ?_ hn hdb)
  exact PyProof.Rows.callWith_builtin1 (thn (ha pos pins s σ H _ I h) fun us s1 ⟨vs, H1, I1, r1, q1⟩ => hc pins s1 σ H1 vs us Q I1 r1 q1) he hpl
/-- T(e, ..), T a built-in type -/
theorem pe_callTy (hc : CallR X (.type T) r) (hg : Gl X x) (hm : X.mg x = none) (hv : bootBuiltins x = some (.type T)) (ha : PA X (e :: es) t) (hn : x ≠ "__name__" := by decide) (hdb : (x == ("__debug__" : Str)) = false := by decide)
    (he : starEach (e :: es) X.env = (false, eval e X.env) :: starEach es X.env := by rfl) (hpl : (backTo pos (starEach es X.env)).any (·.1) = false := by rfl) : PE X (.Call (.Name x p) (e :: es) [] pos) (tCB r t) := by
  intro pins s σ H Q I h
  refine wpAny_Call_Name_kw (ld_blt I hg hm hv ?_ hn hdb)
  exact PyProof.Rows.callWith_type1 (thn (ha pos pins s σ H _ I h) fun us s1 ⟨vs, H1, I1, r1, q1⟩ => hc pins s1 σ H1 vs us Q I1 r1 q1) he hpl
end
end L2

namespace L2
open PySem PySem.Spec PyProof.Rows

section
variable {κ : Type} [DecidableEq κ]
def valV (kvs : List (κ × V)) (k : κ) : Option V := (kvs.find? fun kv => decide (kv.1 = k)).map (·.2)
/-- in its place, or at the end -/
def putK (kvs : List (κ × V)) (k : κ) (v : V) : List (κ × V) :=
  if (kvs.any fun kv => decide (kv.1 = k)) = true then kvs.map (fun kv => if kv.1 = k then (kv.1, v) else kv) else kvs ++ [(k, v)]
def dropK (kvs : List (κ × V)) (k : κ) : List (κ × V) := kvs.filter fun kv => decide (kv.1 ≠ k)

theorem valV_pos {p : κ × V} {r : List (κ × V)} {k : κ} (e : p.1 = k) : valV (p :: r) k = some p.2 := by simp [valV, List.find?_cons, e]
theorem valV_neg {p : κ × V} {r : List (κ × V)} {k : κ} (e : ¬ p.1 = k) : valV (p :: r) k = valV r k := by simp [valV, List.find?_cons, e]
theorem valV_any (k : κ) : ∀ kvs : List (κ × V), (kvs.any fun kv => decide (kv.1 = k)) = (valV kvs k).isSome
  | [] => rfl
  | p :: r => by
    rw [List.any_cons]
    by_cases e : p.1 = k
    · simp only [valV_pos e, decide_eq_true e, Bool.true_or, Option.isSome_some]
    · rw [valV_neg e, decide_eq_false e, Bool.false_or]; exact valV_any k r
theorem RelO.isSome_eq {o : Option V} {u : Option Value} (r : RelO o u) : o.isSome = u.isSome := by
  cases o with
  | none => cases u with
    | none => rfl
    | some _ => exact (show False from r).elim
  | some _ => cases u with
    | none => exact (show False from r).elim
    | some _ => rfl
theorem RelO.getD {o : Option V} {u : Option Value} {d : V} {d' : Value} (r : RelO o u) (rd : RelV d d') : RelV (o.getD d) (u.getD d') := by
  cases o with
  | none => cases u with
    | none => exact rd
    | some _ => exact (show False from r).elim
  | some _ => cases u with
    | none => exact (show False from r).elim
    | some _ => exact r

/-- raw tables of the same keys -/
theorem KV.val {kvs : List (κ × V)} {vs : List (κ × Value)} (r : KV kvs vs) (k : κ) : RelO (valV kvs k) (valueAt vs k) := by
  unfold KV at r
  induction r with
  | nil => exact True.intro
  | @cons p q ps qs h t ih =>
    obtain ⟨h1, h2⟩ := h
    by_cases e : p.1 = k
    · have e' : q.1 = k := h1.symm.trans e
      have b : valueAt (q :: qs) k = some q.2 := by simp [valueAt, List.find?_cons, e']
      rw [valV_pos e, b]; exact h2
    · have e' : ¬ q.1 = k := fun z => e (h1.trans z)
      have b : valueAt (q :: qs) k = valueAt qs k := by simp [valueAt, List.find?_cons, e']
      rw [valV_neg e, b]; exact ih
theorem KV.any {kvs : List (κ × V)} {vs : List (κ × Value)} (r : KV kvs vs) (k : κ) : (kvs.any fun kv => decide (kv.1 = k)) = vs.any fun kv => decide (kv.1 = k) := by
  unfold KV at r
  induction r with
  | nil => rfl
  | cons h t ih => rw [List.any_cons, List.any_cons, ih, h.1]
theorem KV.repl {kvs : List (κ × V)} {vs : List (κ × Value)} (r : KV kvs vs) (k : κ) {y : V} {u : Value} (ry : RelV y u) :
    KV (kvs.map fun kv => if kv.1 = k then (kv.1, y) else kv) (vs.map fun kv => if kv.1 = k then (kv.1, u) else kv) := by
  unfold KV at r ⊢
  induction r with
  | nil => exact .nil
  | @cons p q ps qs h t ih =>
    rw [List.map_cons, List.map_cons]
    refine .cons ?_ ih
    obtain ⟨h1, h2⟩ := h
    by_cases e : p.1 = k
    · rw [if_pos e, if_pos (h1.symm.trans e)]; exact ⟨h1, ry⟩
    · rw [if_neg e, if_neg (fun z => e (h1.trans z))]; exact ⟨h1, h2⟩
theorem KV.put {kvs : List (κ × V)} {vs : List (κ × Value)} (r : KV kvs vs) (k : κ) {y : V} {u : Value} (ry : RelV y u) : KV (putK kvs k y) (stored vs k u) := by
  unfold putK stored
  rw [r.any k]
  by_cases e : (vs.any fun kv => decide (kv.1 = k)) = true
  · rw [if_pos e, if_pos e]; exact r.repl k ry
  · rw [if_neg e, if_neg e]; exact Paired.snoc r ⟨rfl, ry⟩
theorem KV.drop {kvs : List (κ × V)} {vs : List (κ × Value)} (r : KV kvs vs) (k : κ) : KV (dropK kvs k) (without vs k) := by
  unfold KV at r ⊢
  unfold dropK without
  induction r with
  | nil => exact .nil
  | @cons p q ps qs h t ih =>
    obtain ⟨h1, h2⟩ := h
    rw [List.filter_cons, List.filter_cons]
    by_cases e : p.1 = k
    · have a : ¬ decide (p.1 ≠ k) = true := by simp [e]
      have b : ¬ decide (q.1 ≠ k) = true := by simp [h1.symm.trans e]
      rw [if_neg a, if_neg b]; exact ih
    · have e' : ¬ q.1 = k := fun z => e (h1.trans z)
      have a : decide (p.1 ≠ k) = true := by simp [e]
      have b : decide (q.1 ≠ k) = true := by simp [e']
      rw [if_pos a, if_pos b]; exact .cons ⟨h1, h2⟩ ih
theorem KV.keys {kvs : List (κ × V)} {vs : List (κ × Value)} (r : KV kvs vs) : kvs.map (·.1) = vs.map (·.1) := by
  unfold KV at r
  induction r with
  | nil => rfl
  | cons h t ih => rw [List.map_cons, List.map_cons, ih, h.1]
theorem KV.length {kvs : List (κ × V)} {vs : List (κ × Value)} (r : KV kvs vs) : kvs.length = vs.length := Paired.length r
end


theorem kV_is {P : Program} {w : World} {k : Key} {u : Value} (r : RelV (kV k) u) : (mixKind P w).is k u = true := by
  cases k with
  | inl i => obtain ⟨t, e⟩ := (show ∃ t, u = Value.int i t from r); subst e; exact mixKind_int P w i t
  | inr x => obtain ⟨t, e⟩ := (show ∃ t, u = Value.str x t from r); subst e; exact mixKind_str P w x t
/-- raw entries of a dict with tuple keys -/
abbrev KT (H : Hp) : List (List Key × V) → List (List Key × Addr × Value) → Prop := Paired fun p q => p.1 = q.1 ∧ H q.2.1 = some (.tup (p.1.map kV)) ∧ RelV p.2 q.2.2
theorem KT.val {H : Hp} {kvs : List (List Key × V)} {xs : List (List Key × Addr × Value)} (r : KT H kvs xs) (k : List Key) : RelO (valV kvs k) ((atKey xs k).map (·.2)) := by
  induction r with
  | nil => exact True.intro
  | @cons p q ps qs h t ih =>
    obtain ⟨h1, _, h2⟩ := h
    by_cases e : p.1 = k
    · have e' : q.1 = k := h1.symm.trans e
      have b : atKey (q :: qs) k = some q.2 := by simp [atKey, List.find?_cons, e']
      rw [valV_pos e, b]; exact h2
    · have e' : ¬ q.1 = k := fun z => e (h1.trans z)
      have b : atKey (q :: qs) k = atKey qs k := by simp [atKey, List.find?_cons, e']
      rw [valV_neg e, b]; exact ih
theorem KT.repl {H : Hp} {kvs : List (List Key × V)} {xs : List (List Key × Addr × Value)} (r : KT H kvs xs) (k : List Key) {y : V} {u : Value} (ry : RelV y u) :
    KT H (kvs.map fun kv => if kv.1 = k then (kv.1, y) else kv) (xs.map (putAt k u)) := by
  induction r with
  | nil => exact .nil
  | @cons p q ps qs h t ih =>
    rw [List.map_cons, List.map_cons]
    refine .cons ?_ ih
    obtain ⟨h1, h2, h3⟩ := h
    unfold putAt
    by_cases e : p.1 = k
    · rw [if_pos e, if_pos (h1.symm.trans e)]; exact ⟨h1, h2, ry⟩
    · rw [if_neg e, if_neg (fun z => e (h1.trans z))]; exact ⟨h1, h2, h3⟩
theorem KT.put {H : Hp} {kvs : List (List Key × V)} {xs : List (List Key × Addr × Value)} (r : KT H kvs xs) (k : List Key) {b : Addr} {y : V} {u : Value} (hb : H b = some (.tup (k.map kV))) (ry : RelV y u) :
    KT H (putK kvs k y) (storedH xs k b u) := by
  have e : (kvs.any fun kv => decide (kv.1 = k)) = (atKey xs k).isSome := by
    rw [valV_any, (r.val k).isSome_eq, Option.isSome_map]
  unfold putK storedH
  rw [e]
  by_cases q : (atKey xs k).isSome = true
  · rw [if_pos q, if_pos q]; exact r.repl k ry
  · rw [if_neg q, if_neg q]; exact Paired.snoc r ⟨rfl, hb, ry⟩
theorem KT.keeps {H H' : Hp} {kvs : List (List Key × V)} {xs : List (List Key × Addr × Value)} (r : KT H kvs xs) (ht : ∀ b ys, H b = some (.tup ys) → H' b = some (.tup ys)) : KT H' kvs xs :=
  Paired.mapP r fun _ _ z => ⟨z.1, ht _ _ z.2.1, z.2.2⟩

section
variable {P : Program} {w : World} {H : Hp} {h : Heap} {a : Addr}
end

/-- what the dict at a holds at the key y -/
def DGet (H : Hp) (a : Addr) (y : V) (r : Option V) : Prop :=
  (∃ kvs k, Rd H a (.dK kvs) ∧ y = kV k ∧ r = valV kvs k) ∨ ∃ kvs k b, Rd H a (.dT kvs) ∧ y = .ref b ∧ H b = some (.tup (k.map kV)) ∧ r = valV kvs k
/-- the heap behind a[y] = v -/
def DPut (H : Hp) (a : Addr) (y v : V) (H' : Hp) : Prop :=
  (∃ kvs k, H a = some (.dK kvs) ∧ y = kV k ∧ kvs.length < sizeLine ∧ H' = upd H a (.dK (putK kvs k v))) ∨
  ∃ kvs k b, H a = some (.dT kvs) ∧ y = .ref b ∧ H b = some (.tup (k.map kV)) ∧ kvs.length < sizeLine ∧ H' = upd H a (.dT (putK kvs k v))
theorem DGet.k {H : Hp} {a : Addr} {kvs : List (Key × V)} {k : Key} (e : H a = some (.dK kvs)) : DGet H a (kV k) (valV kvs k) := .inl ⟨kvs, k, .inl e, rfl, rfl⟩
theorem DGet.t {H : Hp} {a b : Addr} {kvs : List (List Key × V)} {k : List Key} (e : H a = some (.dT kvs)) (eb : H b = some (.tup (k.map kV))) : DGet H a (.ref b) (valV kvs k) := .inr ⟨kvs, k, b, .inl e, rfl, eb, rfl⟩
theorem DPut.k {H : Hp} {a : Addr} {kvs : List (Key × V)} {k : Key} {v : V} (e : H a = some (.dK kvs)) (hl : kvs.length < sizeLine) : DPut H a (kV k) v (upd H a (.dK (putK kvs k v))) := .inl ⟨kvs, k, e, rfl, hl, rfl⟩
theorem DPut.t {H : Hp} {a b : Addr} {kvs : List (List Key × V)} {k : List Key} {v : V} (e : H a = some (.dT kvs)) (eb : H b = some (.tup (k.map kV))) (hl : kvs.length < sizeLine) :
    DPut H a (.ref b) v (upd H a (.dT (putK kvs k v))) := .inr ⟨kvs, k, b, e, rfl, eb, hl, rfl⟩


section
variable {X : Cx} {pins : List (Addr × Obj)} {σ : St} {H : Hp} {s : Shared} {a : Addr} {y v : V} {u r : Value} {o : Option V} {A : Around} {E : Value → Shared → Prop}

end

section
variable {X : Cx} {pins : List (Addr × Obj)} {σ : St} {H : Hp} {s : Shared} {a : Addr} {kvs : List (Key × V)} {k : Key} {u : Value} {A : Around} {E : Value → Shared → Prop}
end


section
variable {X : Cx} {o i e value : Expr} {pos pos' tpos : Pos} {td ty tv : TE}
end


section
variable {X : Cx} {pos : Pos}
end

section
variable {X : Cx} {pins : List (Addr × Obj)} {σ : St} {H : Hp} {s : Shared} {a : Addr} {y d : V} {u r : Value} {o : Option V} {A : Around} {E : Value → Shared → Prop}
end

section
variable {X : Cx} {o e f : Expr} {apos cpos : Pos} {td ty tx : TE}
end

section
variable {X : Cx} {pins : List (Addr × Obj)} {σ : St} {H : Hp} {s : Shared} {a : Addr} {kvs : List (Key × V)} {A : Around} {E : Value → Shared → Prop}
end


section
variable {X : Cx} {pins : List (Addr × Obj)} {σ : St} {H : Hp} {s : Shared} {a : Addr} {y : V} {u : Value} {A : Around} {E : Value → Shared → Prop}
end
end L2

namespace HT
open PySem PyProof.Rows

section
open PySem.SeqAt
open PySem.AutoSeq1 (wpAny_loadPart')
open PySem.MeetsSeq PySem.MeetsSeq2 PySem.MeetsSeq3

end

section
variable {prog : Program} {w : World} {A : Around} {E : Value → Shared → Prop} {s : Shared}

/-- t + u, t not empty -/
theorem cat_tup {t b : Addr} {vs ws : List Value} {Q : Value → Shared → Prop} (ht : IsTup s.heap t vs.toArray) (hb : IsTup s.heap b ws.toArray) (hv : vs ≠ [])
    (h1 : ws = [] → Q (.ref t) s) (h2 : ws ≠ [] → Q (.ref s.heap.objs.size) { s with heap := s.heap.push { cls := .type "tuple", data := .seq (vs ++ ws).toArray } })
    (hsz : vs.length + ws.length ≤ sizeLine) : wpAny (model prog w) A (binaryOp .Add (.ref t) (.ref b)) Q E s := by
  obtain ⟨⟨cls, dd, data, sl⟩, ho, hc, n, hd⟩ := id ht
  obtain ⟨⟨cls2, dd2, data2, sl2⟩, ho2, hc2, n2, hd2⟩ := id hb
  simp only at hc hd hc2 hd2
  subst hc hd hc2 hd2
  have e : vs.toArray ++ ws.toArray = (vs ++ ws).toArray := by simp
  by_cases hw : ws = []
  · exact concat_meets ⟨_, ho, rfl⟩ ⟨_, ho2, rfl⟩ noFill_tuple_add seq_tuple_add PySem.F.slot_tuple_add PySem.F.entry_tuple_add (PySem.F.args_tuple_add_2 _ _)
      (tuple_addW1 t b vs.toArray ws.toArray n n2 dd dd2 sl sl2 (by simpa using hv) (by simp [hw])) ⟨ho, ho2, h1 hw⟩
  · refine concat_meets ⟨_, ho, rfl⟩ ⟨_, ho2, rfl⟩ noFill_tuple_add seq_tuple_add PySem.F.slot_tuple_add PySem.F.entry_tuple_add (PySem.F.args_tuple_add_2 _ _)
      (tuple_addW2 t b vs.toArray ws.toArray n n2 dd dd2 sl sl2 (by simpa using hv) (by simpa using hw) (by rw [List.size_toArray, List.size_toArray]; exact hsz)) ⟨ho, ho2, ?_⟩
    rw [e]
    exact h2 hw

/-- a slice's bound as a place among n (d where it is left out) -/
def sIx (n d : Nat) : Option Int → Nat
  | none => d
  | some v => if v < 0 then (v + (n : Int)).toNat else min v.toNat n
theorem sIx_nat (n d k : Nat) : sIx n d (some (k : Int)) = min k n := by
  show (if (k : Int) < 0 then ((k : Int) + (n : Int)).toNat else min (k : Int).toNat n) = min k n
  rw [if_neg (by omega), Int.toNat_natCast]
theorem sIx_le (n d : Nat) (hd : d ≤ n) (o : Option Int) : sIx n d o ≤ n := by
  cases o with
  | none => exact hd
  | some v =>
    show (if v < 0 then (v + (n : Int)).toNat else min v.toNat n) ≤ n
    by_cases hv : v < 0
    · rw [if_pos hv]; omega
    · rw [if_neg hv]; exact Nat.min_le_right _ _
theorem clip_eq (v : Int) (n d : Nat) : (if v < 0 then max (v + (n : Int)) 0 else min v (n : Int)) = ((sIx n d (some v) : Nat) : Int) := by
  show (if v < 0 then max (v + (n : Int)) 0 else min v (n : Int)) = (((if v < 0 then (v + (n : Int)).toNat else min v.toNat n) : Nat) : Int)
  by_cases hv : v < 0
  · simp only [if_pos hv]; omega
  · simp only [if_neg hv]; omega
theorem adjust_gen (lo hi : Option Int) (n : Nat) : Builtin.Slice.sliceAdjust lo hi 1 (n : Int) = (((sIx n 0 lo : Nat) : Int), ((sIx n n hi : Nat) : Int)) := by
  have h1 : ¬ ((1 : Int) < 0) := by omega
  unfold Builtin.Slice.sliceAdjust
  simp only [h1, if_false]
  refine Prod.ext ?_ ?_
  · cases lo with
    | none => rfl
    | some v => exact clip_eq v n 0
  · cases hi with
    | none => rfl
    | some v => exact clip_eq v n n
theorem places_gen (i j : Nat) : Builtin.Slice.slicePlaces (i : Int) (j : Int) 1 = j - i := by
  unfold Builtin.Slice.slicePlaces
  have h1 : (1 : Int) > 0 := by omega
  simp only [h1, if_true, Int.ediv_one]
  split <;> omega
theorem slicePart_ {v : Value} {o : Option Int} {Q : Option Int → Shared → Prop} (p : IsPart v o) (h : Q o s) : wpAny (model prog w) A (Builtin.Slice.slicePartIndex v) Q E s := by
  cases p with
  | none => exact slicePart_none h
  | int i t => exact slicePart_int h
theorem sliceApplied_gen {sl : Addr} {vl vu : Value} {lo hi : Option Int} {n : Nat} {Q : Int × Int × Nat → Shared → Prop} (hs : s.heap.IsSliceOf sl vl vu .none) (pl : IsPart vl lo) (pu : IsPart vu hi)
    (h : Q (((sIx n 0 lo : Nat) : Int), 1, sIx n n hi - sIx n 0 lo) s) : wpAny (model prog w) A (Builtin.Slice.sliceApplied (.ref sl) (pure (n : Int))) Q E s := by
  obtain ⟨os, hos, hcs, hds⟩ := id hs
  unfold Builtin.Slice.sliceApplied Builtin.Slice.sliceFields
  refine wpAny_bind (wpAny_bind (wpAny_field hos hds (x := vl) rfl (wpAny_bind (wpAny_field hos hds (x := vu) rfl (wpAny_bind (wpAny_field hos hds (x := .none) rfl (wpAny_pure ?_)))))))
  refine wpAny_bind (slicePart_none ?_)
  show wpAny _ _ (if ((1 : Int) == 0) = true then _ else _) _ _ s
  rw [if_neg (by decide)]
  refine wpAny_bind (slicePart_ pl (wpAny_bind (slicePart_ pu (wpAny_bind (wpAny_pure ?_)))))
  show wpAny _ _ (match Builtin.Slice.sliceAdjust lo hi 1 (n : Int) with | (lo, hi) => pure (lo, (1 : Int), Builtin.Slice.slicePlaces lo hi 1)) _ _ s
  rw [adjust_gen lo hi n]
  show wpAny _ _ (pure (((sIx n 0 lo : Nat) : Int), (1 : Int), Builtin.Slice.slicePlaces ((sIx n 0 lo : Nat) : Int) ((sIx n n hi : Nat) : Int) 1)) _ _ s
  rw [places_gen]
  exact wpAny_pure h
theorem pick_gen (xs : Array Value) (i k : Nat) : ((List.range k).filterMap fun (m : Nat) => xs[((i : Int) + (m : Int) * 1).toNat]?).toArray = ((xs.toList.drop i).take k).toArray := by
  have e : (fun (m : Nat) => xs[((i : Int) + (m : Int) * 1).toNat]?) = fun m => xs[i + m]? := by
    funext m
    have : ((i : Int) + (m : Int) * 1).toNat = i + m := by omega
    rw [this]
  rw [e]
  have := pick_run xs i k
  rw [List.filterMap_map] at this
  have e2 : ((fun x => xs[x]?) ∘ fun x => i + x) = fun m => xs[i + m]? := rfl
  rw [e2] at this
  rw [this]

theorem getItem_tuple_cut {t sl : Addr} {items : Array Value} {vl vu : Value} {lo hi : Option Int} {Q : Value → Shared → Prop} (ht : IsTup s.heap t items) (hs : s.heap.IsSliceOf sl vl vu .none) (pl : IsPart vl lo) (pu : IsPart vu hi)
    (hw : ¬ (sIx items.size 0 lo = 0 ∧ sIx items.size items.size hi = items.size))
    (h : Q (.ref s.heap.objs.size) { s with heap := s.heap.push { cls := .type "tuple", data := .seq ((items.toList.drop (sIx items.size 0 lo)).take (sIx items.size items.size hi - sIx items.size 0 lo)).toArray } })
    (hsz : items.size ≤ sizeLine) : wpAny (model prog w) A (getItem (.ref t) (.ref sl)) Q E s := by
  have htake : sizeOk (.seq ((items.toList.drop (sIx items.size 0 lo)).take (sIx items.size items.size hi - sIx items.size 0 lo)).toArray) := by
    show ((items.toList.drop (sIx items.size 0 lo)).take (sIx items.size items.size hi - sIx items.size 0 lo)).toArray.size ≤ sizeLine
    rw [List.size_toArray, List.length_take, List.length_drop, Array.length_toList]
    omega
  have hj : sIx items.size items.size hi ≤ items.size := sIx_le _ _ (Nat.le_refl _) hi
  obtain ⟨os, hos, hcs, hds⟩ := id hs
  have hTs : s.TypeIs (.ref sl) "slice" := ⟨os, hos, hcs⟩
  unfold getItem
  try with_reducible refine wpAny_holding ?_
  first | refine wpAny_bind (wpAny_pure ?_) | skip
  refine wpAny_bind (wpAny_sequenceKey ht.typeIs (by decide) ?_)
  refine wpAny_bind (wpAny_callSpecial?_slot (name := Str.ofString "__getitem__") ht.typeIs PyProof.Rows.slot_tuple_getitem
    (wpAny_call_entry PyProof.Rows.slot_tuple_getitem ht.typeIs entry_tuple_getitem ?_ (args_tuple_getitem _ _)))
  show wpAny _ _ (Builtin.Tuple.tupleItemsOf (.ref t) >>= _) _ _ s
  refine wpAny_bind (tupleItemsOf_ ht ?_)
  refine wpAny_bind (wpAny_typeOf hTs ?_)
  rw [if_pos (by decide)]
  refine wpAny_bind (sliceApplied_gen hs pl pu ?_)
  have hno : ¬ ((((sIx items.size 0 lo : Nat) : Int) == 0 && (1 : Int) == 1 && (sIx items.size items.size hi - sIx items.size 0 lo) == items.size) = true) := by
    intro q
    rw [Bool.and_eq_true, Bool.and_eq_true] at q
    have q1 : ((sIx items.size 0 lo : Nat) : Int) = 0 := eq_of_beq q.1.1
    have q2 : sIx items.size items.size hi - sIx items.size 0 lo = items.size := eq_of_beq q.2
    exact hw ⟨by omega, by omega⟩
  show wpAny _ _ (if (((sIx items.size 0 lo : Nat) : Int) == 0 && (1 : Int) == 1 && (sIx items.size items.size hi - sIx items.size 0 lo) == items.size) = true then _ else _) _ _ s
  rw [if_neg hno, pick_gen]
  first
    | exact wpAny_bind (m := Builtin.Tuple.tupleExact _) (wpAny_newObj_type (wpAny_pure ⟨_, rfl, wpAny_pure h⟩) htake)
    | exact wpAny_bind (m := Builtin.Tuple.tupleExact _) (wpAny_newObj_type (wpAny_bind (wpAny_pure (wpAny_pure ⟨_, rfl, wpAny_pure h⟩))) htake)
    | exact wpAny_bind (wpAny_bind (m := Builtin.Tuple.tupleExact _) (wpAny_newObj_type (wpAny_pure (wpAny_pure ⟨_, rfl, wpAny_pure h⟩)) htake))
    | exact wpAny_bind (wpAny_bind (m := Builtin.Tuple.tupleExact _) (wpAny_newObj_type (wpAny_pure ⟨_, rfl, wpAny_pure h⟩) htake))
end
end HT

namespace L2
open PySem PySem.Spec PyProof.Rows

abbrev TO := St → Hp → (Option Int → Hp → Prop) → Prop
/-- a slice's part (left out, or an int) -/
def PO (X : Cx) (e : Option Expr) (t : TO) : Prop :=
  ∀ (pins : List (Addr × Obj)) (s : Shared) (σ : St) (H : Hp) (Q : Option Int → Hp → Prop), Inv X pins σ H s → t σ H Q →
    wpAny (model X.prog X.w) X.A (evalPart e X.env) (fun u s' => ∃ o H', Inv X pins σ H' s' ∧ IsPart u o ∧ Q o H') X.xe s
def tNoPart : TO := fun _ H Q => Q none H
def tPart (t : TE) : TO := fun σ H Q => t σ H fun x H1 => ∃ i, x = .int i ∧ Q (some i) H1

section
variable {X : Cx} {e : Expr} {te : TE} {lo hi : Option Expr} {tl th : TO} {pos p2 : Pos}

theorem po_none : PO X none tNoPart := by
  intro pins s σ H Q I h
  rw [evalPart_none]
  exact wpAny_pure ⟨none, H, I, .none, h⟩
theorem po_some (h : PE X e te) : PO X (some e) (tPart te) := by
  intro pins s σ H Q I hw
  rw [evalPart_some]
  refine thn (h pins s σ H _ I hw) fun u s1 ⟨x, H1, I1, r1, q1⟩ => ?_
  obtain ⟨i, rfl, q⟩ := q1
  obtain ⟨t, rfl⟩ := r1
  exact ⟨some i, H1, I1, .int i t, q⟩

/-- what a slice of a value is, by values: the slice object stands at sl -/
def SlR (X : Cx) (r : V → Option Int → Option Int → Hp → VK → Prop) : Prop :=
  ∀ (pins : List (Addr × Obj)) (s : Shared) (σ : St) (H : Hp) (x : V) (v vl vu : Value) (lo hi : Option Int) (sl : Addr) (Q : VK), Inv X pins σ H s → RelV x v → s.heap.IsSliceOf sl vl vu .none → IsPart vl lo → IsPart vu hi → r x lo hi H Q →
    ∃ T id, typeLookup (.type T) "__getitem__" = pure (some (.builtin id)) ∧ s.TypeIs v T ∧ wpAny (model X.prog X.w) X.A (getItem v (.ref sl)) (EP X pins σ Q) X.xe s
theorem SlR.or {r r' : V → Option Int → Option Int → Hp → VK → Prop} (h : SlR X r) (h' : SlR X r') : SlR X (fun x lo hi H Q => r x lo hi H Q ∨ r' x lo hi H Q) := by
  intro pins s σ H x v vl vu lo hi sl Q I rx hs pl pu q
  rcases q with q | q
  · exact h pins s σ H x v vl vu lo hi sl Q I rx hs pl pu q
  · exact h' pins s σ H x v vl vu lo hi sl Q I rx hs pl pu q
def tSl (r : V → Option Int → Option Int → Hp → VK → Prop) (te : TE) (tl th : TO) : TE := fun σ H Q => te σ H fun x H1 => tl σ H1 fun l H2 => th σ H2 fun u H3 => r x l u H3 Q
/-- a[lo:hi], any a -/
theorem pe_slice {r : V → Option Int → Option Int → Hp → VK → Prop} (hr : SlR X r) (he : PE X e te) (hl : PO X lo tl) (hu : PO X hi th) : PE X (.Subscript e (.Slice lo hi none p2) pos) (tSl r te tl th) := by
  intro pins s σ H Q I h
  refine Subscript_ (thn (he pins s σ H _ I h) fun v s1 ⟨x, H1, I1, r1, q1⟩ => ?_)
  refine wpAny_Slice (thn (hl pins s1 σ H1 _ I1 q1) fun vl s2 ⟨l, H2, I2, pl, q2⟩ => thn (hu pins s2 σ H2 _ I2 q2) fun vu s3 ⟨u, H3, I3, pu, q3⟩ => ?_)
  rw [evalPart_none]
  refine wpAny_pure ?_
  have I4 : Inv X pins σ H3 { s3 with heap := s3.heap.push { cls := .type "slice", data := .fields #[vl, vu, .none] } } := I3.kept (t' := s3.toks) fun b ob q => Heap.get?_push_of_some _ q
  obtain ⟨T, id, hT, ht, hg⟩ := hr pins { s3 with heap := s3.heap.push { cls := .type "slice", data := .fields #[vl, vu, .none] } } σ H3 x v vl vu l u s3.heap.objs.size Q I4 r1 (Heap.IsSliceOf.new ..) pl pu q3
  show wpAny (model X.prog X.w) X.A (subscriptTail e (.Slice lo hi none p2) v (.ref s3.heap.objs.size)) (EP X pins σ Q) X.xe { s3 with heap := s3.heap.push { cls := .type "slice", data := .fields #[vl, vu, .none] } }
  exact tail_any (ops := [.ref s3.heap.objs.size, v]) ht hT hg (by with_unfolding_all rfl)

/-- the items of xs[lo:hi] -/
def cutV (xs : List V) (lo hi : Option Int) : List V := (xs.drop (HT.sIx xs.length 0 lo)).take (HT.sIx xs.length xs.length hi - HT.sIx xs.length 0 lo)
theorem cutV_length (xs : List V) (lo hi : Option Int) : (cutV xs lo hi).length ≤ xs.length := by
  unfold cutV
  rw [List.length_take, List.length_drop]
  omega
/-- t[lo:hi], not the whole of it (the whole would be t itself) -/
def rSlT (K : PySem.W.Frag) : V → Option Int → Option Int → Hp → VK → Prop := fun x lo hi H Q => ∃ a xs, x = .ref a ∧ SqT K H a xs ∧
  ¬ (HT.sIx xs.length 0 lo = 0 ∧ HT.sIx xs.length xs.length hi = xs.length) ∧ ∀ p, H p = none → Q (.ref p) (upd H p (.tup (cutV xs lo hi)))
theorem sl_tup : SlR X (rSlT X.K) := by
  intro pins s σ H x v vl vu lo hi sl Q I rx hs pl pu h
  obtain ⟨a, xs, rfl, hx, hw, q⟩ := h
  cases rx
  obtain ⟨its, r, ht, hz⟩ := I.tuple hx
  have hlen : its.toArray.size = xs.length := by rw [List.size_toArray]; exact r.length.symm
  refine ⟨"tuple", _, PyProof.Rows.slot_tuple_getitem.lookup, ht.typeIs, ?_⟩
  refine HT.getItem_tuple_cut ht hs pl pu (by rw [hlen]; exact hw) ?_ (by rw [hlen]; exact hz)
  rw [hlen]
  refine ⟨.ref s.heap.objs.size, _, I.laid (t' := s.toks) (o := .tup (cutV xs lo hi)) (fun b ob q => Heap.get?_push_of_some _ q) (Nat.le_refl _) ?_, rfl, q _ (I.hok.fresh (Nat.le_refl _))⟩
  exact ⟨Nat.le_trans (cutV_length xs lo hi) hz, _, (r.drop (HT.sIx xs.length 0 lo)).take (HT.sIx xs.length xs.length hi - HT.sIx xs.length 0 lo), IsTup.new _ _⟩

/-- t + u, t not empty: u empty gives t itself -/
def rCatT (K : PySem.W.Frag) : R2 := fun x y H Q => ∃ a b xs ys, x = .ref a ∧ y = .ref b ∧ SqT K H a xs ∧ SqT K H b ys ∧ xs ≠ [] ∧ xs.length + ys.length ≤ sizeLine ∧
  (ys = [] → Q (.ref a) H) ∧ (ys ≠ [] → ∀ p, H p = none → Q (.ref p) (upd H p (.tup (xs ++ ys))))
theorem Vals.nil_iff {xs : List V} {us : List Value} (r : Vals xs us) : us = [] ↔ xs = [] := by
  cases r with
  | nil => simp
  | cons _ _ => simp
theorem op_catT : OpR X (binaryOp .Add) (rCatT X.K) := by
  intro pins s σ H x y v u Q I rx ry h
  obtain ⟨a, b, xs, ys, rfl, rfl, ha, hb, hx, hz, q1, q2⟩ := h
  cases rx
  cases ry
  obtain ⟨its, r1, p1, _⟩ := I.tuple ha
  obtain ⟨its2, r2, p2, _⟩ := I.tuple hb
  refine HT.cat_tup p1 p2 (fun z => hx (r1.nil_iff.mp z)) (fun z => ⟨.ref a, H, I, rfl, q1 (r2.nil_iff.mp z)⟩) (fun z => ?_) (by rw [← r1.length, ← r2.length]; exact hz)
  refine ⟨.ref s.heap.objs.size, _, I.laid (t' := s.toks) (o := .tup (xs ++ ys)) (fun b ob q => Heap.get?_push_of_some _ q) (Nat.le_refl _) ?_, rfl, q2 (fun w => z (r2.nil_iff.mpr w)) _ (I.hok.fresh (Nat.le_refl _))⟩
  exact ⟨by rw [List.length_append]; exact hz, _, r1.append r2, IsTup.new _ _⟩
end
end L2

namespace L2
open PySem PySem.Spec PyProof.Rows

/-- the place that an index of any sign means -/
def ixN (n : Nat) (i : Int) : Option Nat := if 0 ≤ i then (if i < n then some i.toNat else none) else if -(n : Int) ≤ i then some (i + n).toNat else none
def atI {α : Type} (xs : List α) (i : Int) : Option α := (ixN xs.length i).bind fun j => xs[j]?
theorem ixN_seq {n : Nat} {i : Int} {j : Nat} (h : ixN n i = some j) : seqIndex? i n = some j ∧ j < n ∧ -(n : Int) ≤ i ∧ i < n := by
  unfold ixN at h
  by_cases h0 : 0 ≤ i
  · rw [if_pos h0] at h
    by_cases h1 : i < n
    · rw [if_pos h1] at h
      have e : i.toNat = j := Option.some.inj h
      exact ⟨by rw [seqIndex_of h0 h1, e], by omega, by omega, h1⟩
    · rw [if_neg h1] at h; cases h
  · rw [if_neg h0] at h
    by_cases h1 : -(n : Int) ≤ i
    · rw [if_pos h1] at h
      have e : (i + n).toNat = j := Option.some.inj h
      exact ⟨by rw [seqIndex_neg (by omega) h1, e], by omega, h1, by omega⟩
    · rw [if_neg h1] at h; cases h
theorem atI_get {α : Type} {xs : List α} {i : Int} {v : α} (h : atI xs i = some v) : ∃ j, seqIndex? i xs.length = some j ∧ xs[j]? = some v ∧ j < xs.length ∧ -(xs.length : Int) ≤ i ∧ i < xs.length := by
  unfold atI at h
  cases e : ixN xs.length i with
  | none => rw [e] at h; cases h
  | some j =>
    rw [e] at h
    obtain ⟨h1, h2, h3, h4⟩ := ixN_seq e
    exact ⟨j, h1, h, h2, h3, h4⟩
theorem atI_nat {α : Type} {xs : List α} {j : Nat} {v : α} (h : xs[j]? = some v) : atI xs (j : Int) = some v := by
  have hj : j < xs.length := (List.getElem?_eq_some_iff.mp h).1
  have e : ixN xs.length (j : Int) = some j := by
    unfold ixN
    rw [if_pos (by omega), if_pos (by omega)]; simp
  unfold atI; rw [e]; exact h
/-- what stands as an index of a plain subscript -/
def PlainIx (b : Expr) : Prop := ∀ o i, subscripted b false o i = operate [o, i] (getItem o i)
/-- a subscript by values -/
def IxR (X : Cx) (r : R2) : Prop :=
  ∀ (value slice : Expr) (pins : List (Addr × Obj)) (s : Shared) (σ : St) (H : Hp) (x y : V) (v u : Value) (Q : VK), Inv X pins σ H s → RelV x v → RelV y u → r x y H Q →
    subscripted slice false v u = operate [v, u] (getItem v u) → wpAny (model X.prog X.w) X.A (subscriptTail value slice v u) (EP X pins σ Q) X.xe s
/-- a call of a builtin's method by values: the receiver, the arguments -/
def MtR (X : Cx) (id : String) (r : V → List V → Hp → VK → Prop) : Prop :=
  ∀ (pins : List (Addr × Obj)) (s : Shared) (σ : St) (H : Hp) (x : V) (xs : List V) (v : Value) (us : List Value) (Q : VK), Inv X pins σ H s → RelV x v → Vals xs us → r x xs H Q →
    wpAny (model X.prog X.w) X.A (call (.builtin id) (v :: us)) (EP X pins σ Q) X.xe s
section
variable {X : Cx} {a b : Expr} {ta tb : TE} {pos : Pos}
theorem IxR.or {r r' : R2} (h : IxR X r) (h' : IxR X r') : IxR X (fun x y H Q => r x y H Q ∨ r' x y H Q) := by
  intro value slice pins s σ H x y v u Q I rx ry q hs
  rcases q with q | q
  · exact h value slice pins s σ H x y v u Q I rx ry q hs
  · exact h' value slice pins s σ H x y v u Q I rx ry q hs
theorem MtR.or {id : String} {r r' : V → List V → Hp → VK → Prop} (h : MtR X id r) (h' : MtR X id r') : MtR X id (fun x xs H Q => r x xs H Q ∨ r' x xs H Q) := by
  intro pins s σ H x xs v us Q I rx rs q
  rcases q with q | q
  · exact h pins s σ H x xs v us Q I rx rs q
  · exact h' pins s σ H x xs v us Q I rx rs q
/-- a[b] -/
theorem pe_ix {r : R2} (hr : IxR X r) (ha : PE X a ta) (hb : PE X b tb) (hs : PlainIx b) : PE X (.Subscript a b pos) (tOp r ta tb) := by
  intro pins s σ H Q I h
  exact Subscript_ (binT ha hb I h fun v u s2 x y H2 I2 rx ry q => hr a b pins s2 σ H2 x y v u Q I2 rx ry q (hs _ _))

def rIxL (K : PySem.W.Frag) : R2 := fun x y H Q => ∃ p xs i v, x = .ref p ∧ y = .int i ∧ SqL K H p xs ∧ atI xs i = some v ∧ Q v H
def rIxT (K : PySem.W.Frag) : R2 := fun x y H Q => ∃ p xs i v, x = .ref p ∧ y = .int i ∧ SqT K H p xs ∧ atI xs i = some v ∧ Q v H
def rIxS : R2 := fun x y H Q => ∃ z i c, x = .str z ∧ y = .int i ∧ z.length ≤ sizeLine ∧ atI z.cps.toList i = some c ∧ Q (.str ⟨#[c]⟩) H
theorem ix_list : IxR X (rIxL X.K) := by
  intro value slice pins s σ H x y v u Q I rx ry h hs
  obtain ⟨p, xs, i, z, rfl, rfl, hq, he, q⟩ := h
  cases rx
  obtain ⟨t, rfl⟩ := ry
  obtain ⟨its, r, pl, hz⟩ := I.list hq
  obtain ⟨j, h1, h2, h3, h4, h5⟩ := atI_get he
  obtain ⟨w, ew, rw'⟩ := r.get h2
  have hl := r.length
  have hn := line63
  have fin : EP X pins σ Q w s := ⟨z, H, I, rw', q⟩
  by_cases h0 : 0 ≤ i
  · have hj : i.toNat = j := by
      rw [seqIndex_of h0 h5] at h1
      exact Option.some.inj h1
    exact item_listR pl.isList h0 (by omega) (by rw [hj]; simpa using ew) fin hs
  · have hj : (i + (its.toArray.size : Int)).toNat = j := by
      rw [seqIndex_neg (by omega) h4] at h1
      rw [List.size_toArray, ← hl]
      exact Option.some.inj h1
    exact subscriptTail_builtinR (x := w) pl.isList.typeIs slot_list_getitem.lookup
      (wpAny_getItem_list_neg (Q := fun r s' => r = w ∧ EP X pins σ Q r s') pl.isList (by omega) (by rw [List.size_toArray] <;> omega) (by omega) (by rw [hj]; simpa using ew) ⟨rfl, fin⟩) hs
theorem ix_tup : IxR X (rIxT X.K) := by
  intro value slice pins s σ H x y v u Q I rx ry h hs
  obtain ⟨p, xs, i, z, rfl, rfl, hq, he, q⟩ := h
  cases rx
  obtain ⟨t, rfl⟩ := ry
  obtain ⟨its, r, pl, hz⟩ := I.tuple hq
  obtain ⟨j, h1, h2, h3, h4, h5⟩ := atI_get he
  obtain ⟨w, ew, rw'⟩ := r.get h2
  have hl := r.length
  have hn := line63
  have fin : EP X pins σ Q w s := ⟨z, H, I, rw', q⟩
  exact subscriptTail_builtinR (x := w) pl.typeIs slot_tuple_getitem.lookup
    (getItem_tuple (j := j) (Q := fun r s' => r = w ∧ EP X pins σ Q r s') pl (by omega) (by omega) (by rw [List.size_toArray, ← hl]; exact h1) (by simpa using ew) ⟨rfl, fin⟩) hs
theorem ix_str : IxR X rIxS := by
  intro value slice pins s σ H x y v u Q I rx ry h hs
  obtain ⟨z, i, c, rfl, rfl, hz, he, q⟩ := h
  obtain ⟨t, rfl⟩ := rx
  obtain ⟨t', rfl⟩ := ry
  obtain ⟨j, h1, h2, h3, h4, h5⟩ := atI_get he
  have hl : z.cps.toList.length = z.length := by simp [Str.length]
  rw [hl] at h1 h4 h5
  have hn := line63
  exact tail_any (typeIs_str s z t) slot_str_getitem.lookup (getItem_str (c := c) (by
    have e1 : decide (i < -(2 ^ 63 : Int)) = false := decide_eq_false (by omega)
    have e2 : decide (i ≥ 2 ^ 63) = false := decide_eq_false (by omega)
    rw [e1, e2, Bool.or_false]) (by rw [h1]; simpa using h2) ⟨.str ⟨#[c]⟩, H, I.tok _, ⟨_, rfl⟩, q⟩) hs
/-- list, tuple or str -/
def rIx (K : PySem.W.Frag) : R2 := fun x y H Q => rIxL K x y H Q ∨ rIxT K x y H Q ∨ rIxS x y H Q
theorem ix_seq : IxR X (rIx X.K) := ix_list.or (ix_tup.or ix_str)

/-- the list's object behind a store -/
theorem mapSeq_set (its : List Value) (n j : Nat) (u : Value) : Obj.mapSeq (·.setIfInBounds j u) { cls := .type "list", data := .seq its.toArray n } = { cls := .type "list", data := .seq (its.set j u).toArray n } := by
  simp [Obj.mapSeq]
theorem Inv.lst {pins : List (Addr × Obj)} {σ : St} {H : Hp} {s : Shared} {p : Addr} {xs : List V} (I : Inv X pins σ H s) (h : H p = some (.lst xs)) :
    ∃ (its : List Value) (n : Nat), Vals xs its ∧ s.heap.get? p = some { cls := .type "list", data := .seq its.toArray n } ∧ xs.length ≤ sizeLine := by
  obtain ⟨z, its, n, r, e⟩ := I.hok p _ h
  exact ⟨its, n, r, e, z⟩
/-- the list at p is written by an update of its object -/
theorem Inv.lstUpd {pins : List (Addr × Obj)} {σ : St} {H : Hp} {s : Shared} {p : Addr} {xs ys : List V} {its its' : List Value} {n n' : Nat} {f : Obj → Obj} (I : Inv X pins σ H s) (h : H p = some (.lst xs))
    (ho : s.heap.get? p = some { cls := .type "list", data := .seq its.toArray n }) (hf : f { cls := .type "list", data := .seq its.toArray n } = { cls := .type "list", data := .seq its'.toArray n' }) (r : Vals ys its') (hz : ys.length ≤ sizeLine) (t : Nat) :
    Inv X pins σ (upd H p (.lst ys)) { s with heap := s.heap.update p f, toks := t } := by
  have e : (s.heap.update p f).get? p = some { cls := .type "list", data := .seq its'.toArray n' } := by
    rw [Heap.get?_update_self f ho (by rw [hf] <;> rfl), hf]
  refine I.write (x := p) (e := p) (by rw [h]; trivial) (.inl rfl) (fun b u hb q => (Heap.get?_update_other _ _ (Ne.symm hb)).trans q) ⟨_, e⟩ ?_
  exact ⟨hz, its', n', r, e⟩
def rSetL : V → V → V → Hp → (Hp → Prop) → Prop := fun o i v H Q => ∃ p xs k j, o = .ref p ∧ i = .int k ∧ H p = some (.lst xs) ∧ ixN xs.length k = some j ∧ Q (upd H p (.lst (xs.set j v)))
theorem set_list : PSet X rSetL := by
  intro pins s σ H o i v ov iv u Q I ro ri rv h
  obtain ⟨p, xs, k, j, rfl, rfl, hp, hj, q⟩ := h
  cases ro
  obtain ⟨t, rfl⟩ := ri
  obtain ⟨its, n, r, ho, hz⟩ := I.lst hp
  obtain ⟨h1, h2, h3, h4⟩ := ixN_seq hj
  have hl := r.length
  have hn := line63
  have I' : Inv X pins σ (upd H p (.lst (xs.set j v))) { s with heap := s.heap.update p (Obj.mapSeq (·.setIfInBounds j u)) } :=
    I.lstUpd hp ho (mapSeq_set its n j u) (r.set rv j) (by rw [List.length_set]; exact hz) s.toks
  by_cases h0 : 0 ≤ k
  · have hk : k.toNat = j := by
      rw [seqIndex_of h0 h4] at h1
      exact Option.some.inj h1
    exact PySem.W.ki_setAt ho h0 (by omega) (by rw [List.size_toArray, ← hl]; exact h4) (by rw [hk]; exact ⟨_, I', q⟩)
  · have hk : (k + (its.toArray.size : Int)).toNat = j := by
      rw [seqIndex_neg (by omega) h3] at h1
      rw [List.size_toArray, ← hl]
      exact Option.some.inj h1
    exact PySem.W.ki_setBack ho (by omega) (by rw [List.size_toArray, ← hl]; exact h3) (by omega) (by rw [hk]; exact ⟨_, I', q⟩)

theorem slice_bounds (lo hi : Option Int) (n : Nat) : (sliceBounds lo hi none n).1 = ((HT.sIx n 0 lo : Nat) : Int) ∧ (sliceBounds lo hi none n).2.1 = ((HT.sIx n n hi : Nat) : Int) ∧ (sliceBounds lo hi none n).2.2 = 1 := by
  refine ⟨?_, ?_, rfl⟩
  · cases lo with
    | none => simp [sliceBounds, HT.sIx]
    | some i =>
      simp only [sliceBounds, HT.sIx, Option.getD_none, show (1 : Int) > 0 by decide, if_true]
      by_cases h : i < 0
      · simp only [h, if_true] <;> omega
      · simp only [h, if_false] <;> omega
  · cases hi with
    | none => simp [sliceBounds, HT.sIx]
    | some i =>
      simp only [sliceBounds, HT.sIx, Option.getD_none, show (1 : Int) > 0 by decide, if_true]
      by_cases h : i < 0
      · simp only [h, if_true] <;> omega
      · simp only [h, if_false] <;> omega
theorem slicePick_cut (its : List Value) (lo hi : Option Int) : slicePick its.toArray lo hi none = ((its.drop (HT.sIx its.length 0 lo)).take (HT.sIx its.length its.length hi - HT.sIx its.length 0 lo)).toArray := by
  obtain ⟨h1, h2, h3⟩ := slice_bounds lo hi its.toArray.size
  unfold slicePick
  rw [h1, h2, h3]
  simp only [sliceRange_one, pick_run, List.size_toArray] <;> rfl
/-- xs[lo:hi] of a list: a new list -/
def rSlL (K : PySem.W.Frag) : V → Option Int → Option Int → Hp → VK → Prop := fun x lo hi H Q => ∃ a xs, x = .ref a ∧ SqL K H a xs ∧ ∀ p, H p = none → Q (.ref p) (upd H p (.lst (cutV xs lo hi)))
theorem sl_list : SlR X (rSlL X.K) := by
  intro pins s σ H x v vl vu lo hi sl Q I rx hs pl pu h
  obtain ⟨a, xs, rfl, hx, q⟩ := h
  cases rx
  obtain ⟨its, r, ht, hz⟩ := I.list hx
  have hlen := r.length
  refine ⟨"list", _, slot_list_getitem.lookup, ht.isList.typeIs, ?_⟩
  refine wpAny_getItem_list_slice ht.isList hs pl pu .none (by simp) ?_ (by rw [List.size_toArray] <;> omega)
  rw [slicePick_cut, ← hlen]
  refine ⟨.ref s.heap.objs.size, _, I.laid (t' := s.toks) (o := .lst (cutV xs lo hi)) (fun b ob q => Heap.get?_push_of_some _ q) (Nat.le_refl _) ?_, rfl, q _ (I.hok.fresh (Nat.le_refl _))⟩
  exact ⟨Nat.le_trans (cutV_length xs lo hi) hz, _, 0, (r.drop (HT.sIx xs.length 0 lo)).take (HT.sIx xs.length xs.length hi - HT.sIx xs.length 0 lo), Heap.get?_push_size _ rfl⟩

def flatV : V → Bool
  | .non => true
  | .bl _ => true
  | .int _ => true
  | .str _ => true
  | _ => false
/-- == of flat values -/
def eqV : V → V → Bool
  | .non, .non => true
  | .bl a, .bl b => a == b
  | .bl a, .int b => (if a then 1 else 0) == b
  | .int a, .bl b => a == (if b then 1 else 0)
  | .int a, .int b => a == b
  | .str a, .str b => a == b
  | _, _ => false
theorem eqAt_V {A : Around} {s : Shared} {y x : V} {u v : Value} (ry : RelV y u) (rx : RelV x v) (fy : flatV y = true) (fx : flatV x = true) : SeqAt.EqAt A s u v (eqV y x) := by
  cases y with
  | non =>
    cases ry
    cases x with
    | non => cases rx; exact SeqAt.EqAt.same _
    | bl b => cases rx; exact SeqAt.EqAt.none_bool b
    | int b => obtain ⟨t, rfl⟩ := rx; exact SeqAt.EqAt.none_int b t
    | str b => obtain ⟨t, rfl⟩ := rx; exact SeqAt.EqAt.none_str b t
    | _ => exact absurd (show false = true from fx) Bool.false_ne_true
  | bl a =>
    cases ry
    cases x with
    | non => cases rx; exact SeqAt.EqAt.bool_none a
    | bl b => cases rx; exact SeqAt.EqAt.bool_bool a b
    | int b => obtain ⟨t, rfl⟩ := rx; exact SeqAt.EqAt.bool_int a b t
    | str b => obtain ⟨t, rfl⟩ := rx; exact SeqAt.EqAt.bool_str a b t
    | _ => exact absurd (show false = true from fx) Bool.false_ne_true
  | int a =>
    obtain ⟨t', rfl⟩ := ry
    cases x with
    | non => cases rx; exact SeqAt.EqAt.int_none a t'
    | bl b => cases rx; exact SeqAt.EqAt.int_bool a t' b
    | int b => obtain ⟨t, rfl⟩ := rx; exact SeqAt.EqAt.int_int a t' b t
    | str b => obtain ⟨t, rfl⟩ := rx; exact SeqAt.EqAt.int_str a t' b t
    | _ => exact absurd (show false = true from fx) Bool.false_ne_true
  | str a =>
    obtain ⟨t', rfl⟩ := ry
    cases x with
    | non => cases rx; exact SeqAt.EqAt.str_none a t'
    | bl b => cases rx; exact SeqAt.EqAt.str_bool a t' b
    | int b => obtain ⟨t, rfl⟩ := rx; exact SeqAt.EqAt.str_int a t' b t
    | str b => obtain ⟨t, rfl⟩ := rx; exact SeqAt.EqAt.str_str a t' b t
    | _ => exact absurd (show false = true from fx) Bool.false_ne_true
  | _ => exact absurd (show false = true from fy) Bool.false_ne_true
/-- the items' answers, read off the values (a value's own answer does not lean on its token) -/
def eqU (x : V) (u : Value) : Bool := match u with
  | .none => eqV .non x
  | .bool b => eqV (.bl b) x
  | .int i _ => eqV (.int i) x
  | .str z _ => eqV (.str z) x
  | _ => false
theorem eqU_of {x y : V} {u : Value} (r : RelV y u) (f : flatV y = true) : eqU x u = eqV y x := by
  cases y with
  | non => cases r; rfl
  | bl b => cases r; rfl
  | int i => obtain ⟨t, rfl⟩ := r; rfl
  | str z => obtain ⟨t, rfl⟩ := r; rfl
  | _ => exact absurd (show false = true from f) Bool.false_ne_true
theorem any_eqU {x : V} : ∀ {xs : List V} {us : List Value}, Vals xs us → xs.all flatV = true → us.any (eqU x) = xs.any fun y => eqV y x
  | _, _, .nil, _ => rfl
  | y :: xs, u :: us, .cons r t, f => by
    rw [List.all_cons, Bool.and_eq_true] at f
    rw [List.any_cons, List.any_cons, eqU_of r f.1, any_eqU t f.2]
theorem mem_eqAt {A : Around} {s : Shared} {x : V} {v : Value} (rx : RelV x v) (fx : flatV x = true) : ∀ {xs : List V} {us : List Value}, Vals xs us → xs.all flatV = true → ∀ u ∈ us, SeqAt.EqAt A s u v (eqU x u)
  | _, _, .nil, _ => fun u hu => by cases hu
  | y :: xs, u :: us, .cons r t, f => fun u' hu => by
    rw [List.all_cons, Bool.and_eq_true] at f
    rcases List.mem_cons.mp hu with rfl | hu
    · rw [eqU_of r f.1]; exact eqAt_V r rx f.1 fx
    · exact mem_eqAt rx fx t f.2 u' hu
def inV (x : V) (xs : List V) : Bool := xs.any fun y => eqV y x
/-- x in a list or tuple of flat items -/
def rIn (K : PySem.W.Frag) (neg : Bool) : R2 := fun x y H Q => ∃ p xs, y = .ref p ∧ (SqL K H p xs ∨ SqT K H p xs) ∧ flatV x = true ∧ xs.all flatV = true ∧ Q (.bl (if neg then !inV x xs else inV x xs)) H
theorem op_in_seq : OpR X (compareOp .In) (rIn X.K false) := by
  intro pins s σ H x y v u Q I rx ry h
  obtain ⟨p, xs, rfl, hq, fx, fs, q⟩ := h
  cases ry
  rcases hq with hq | hq
  · obtain ⟨its, r, pl, hz⟩ := I.list hq
    refine SeqAt.in_listAt (eqU x) pl.isList (fun w hw => mem_eqAt rx fx r fs w (by simpa using hw)) ⟨.bl _, H, I, rfl, ?_⟩
    rw [show its.toArray.any (eqU x) = its.any (eqU x) by simp, any_eqU r fs]
    exact q
  · obtain ⟨its, r, pl, hz⟩ := I.tuple hq
    refine SeqAt.in_tupleAt (eqU x) pl (fun w hw => mem_eqAt rx fx r fs w (by simpa using hw)) ⟨.bl _, H, I, rfl, ?_⟩
    rw [show its.toArray.any (eqU x) = its.any (eqU x) by simp, any_eqU r fs]
    exact q
theorem call_len_seq : CallR X (.builtin "len") (fun xs H Q => ∃ p ys, xs = [.ref p] ∧ (SqL X.K H p ys ∨ SqT X.K H p ys) ∧ Q (.int ys.length) H) := by
  intro pins s σ H xs us Q I r h
  obtain ⟨p, ys, rfl, hq, q⟩ := h
  obtain ⟨u, rfl, rx⟩ := vals1 r
  cases rx
  have hn := line63
  rcases hq with hq | hq
  · obtain ⟨its, r', pl, hz⟩ := I.list hq
    have hlen := r'.length
    exact Calls.call_len_list pl.isList (by simp only [List.size_toArray] <;> omega) ⟨.int ys.length, H, I.tok _, ⟨s.toks + 1, by rw [List.size_toArray, hlen]⟩, q⟩
  · obtain ⟨its, r', pl, hz⟩ := I.tuple hq
    have hlen := r'.length
    exact len_tuple pl (by simp only [List.size_toArray] <;> omega) ⟨.int ys.length, H, I.tok _, ⟨s.toks + 1, by rw [List.size_toArray, hlen]⟩, q⟩
theorem call_len_str : CallR X (.builtin "len") (fun xs H Q => ∃ z, xs = [.str z] ∧ z.length ≤ sizeLine ∧ Q (.int z.length) H) := by
  intro pins s σ H xs us Q I r h
  obtain ⟨z, rfl, hz, q⟩ := h
  obtain ⟨u, rfl, t, rfl⟩ := vals1 r
  have hn := line63
  exact len_str (by omega) ⟨.int z.length, H, I.tok _, ⟨_, rfl⟩, q⟩
theorem CallR.or {f : Value} {r r' : List V → Hp → VK → Prop} (h : CallR X f r) (h' : CallR X f r') : CallR X f (fun xs H Q => r xs H Q ∨ r' xs H Q) := by
  intro pins s σ H xs us Q I rs q
  rcases q with q | q
  · exact h pins s σ H xs us Q I rs q
  · exact h' pins s σ H xs us Q I rs q
theorem call_tuple_of : CallR X (.type "tuple") (fun xs H Q => ∃ p ys, xs = [.ref p] ∧ ((SqL X.K H p ys ∧ ∀ l, H l = none → Q (.ref l) (upd H l (.tup ys))) ∨ (SqT X.K H p ys ∧ Q (.ref p) H))) := by
  intro pins s σ H xs us Q I r h
  obtain ⟨p, ys, rfl, h⟩ := h
  obtain ⟨u, rfl, rx⟩ := vals1 r
  cases rx
  rcases h with ⟨hq, q⟩ | ⟨hq, q⟩
  · obtain ⟨its, r', pl, hz⟩ := I.list hq
    have hlen := r'.length
    refine call_tuple_list pl.isList (fun h' kp => ?_) (by simp only [List.size_toArray] <;> omega)
    have I1 : Inv X pins σ H { s with heap := h' } := I.kept (t' := s.toks) kp
    have I2 : Inv X pins σ (upd H h'.objs.size (.tup ys)) { s with heap := h'.push { cls := .type "tuple", data := .seq its.toArray } } :=
      I1.laid (t' := s.toks) (fun b o e => Heap.get?_push_of_some _ e) (Nat.le_refl _) (show ObjOk X.prog X.w _ _ _ (.tup ys) from ⟨hz, its, r', IsTup.new _ _⟩)
    exact ⟨.ref h'.objs.size, _, I2, rfl, q _ (I1.hok.fresh (Nat.le_refl _))⟩
  · obtain ⟨its, r', pl, hz⟩ := I.tuple hq
    exact call_tuple_same pl ⟨.ref p, H, I, rfl, q⟩

/-- the value is of that builtin type -/
def tyV (K : PySem.W.Frag) (T : String) (x : V) (H : Hp) : Prop := match x with
  | .str _ => T = "str"
  | .int _ => T = "int"
  | .ref p => (T = "list" ∧ ∃ xs, SqL K H p xs) ∨ (T = "tuple" ∧ ∃ o, K.lookup p = some o ∧ o.cls = .type "tuple" ∧ o.dict = none) ∨
      (T = "dict" ∧ ((∃ kvs, H p = some (.dK kvs)) ∨ ∃ kvs, H p = some (.dT kvs))) ∨ (T = "set" ∧ ∃ S n, H p = some (.set S n))
  | _ => False
theorem tyV_is {pins : List (Addr × Obj)} {σ : St} {H : Hp} {s : Shared} {T : String} {x : V} {v : Value} (I : Inv X pins σ H s) (r : RelV x v) (ty : tyV X.K T x H) :
    s.TypeIs v T ∧ ∀ a, v = .ref a → ∃ ob, s.heap.get? a = some ob ∧ ob.dict = none := by
  cases x with
  | str z =>
    obtain ⟨t, rfl⟩ := r
    cases (show T = "str" from ty)
    exact ⟨typeIs_str s z t, fun _ e => nomatch e⟩
  | int i =>
    obtain ⟨t, rfl⟩ := r
    cases (show T = "int" from ty)
    exact ⟨typeIs_int s i t, fun _ e => nomatch e⟩
  | ref p =>
    cases r
    rcases ty with ⟨rfl, xs, hq⟩ | ⟨rfl, o, hk, hc, hd⟩ | ⟨rfl, hk⟩ | ⟨rfl, S, n, hk⟩
    · obtain ⟨its, _, pl, _⟩ := I.list hq
      refine ⟨pl.isList.typeIs, fun a e => ?_⟩
      cases e
      obtain ⟨o, n, e, c, hd, _⟩ := pl
      exact ⟨o, e, hd⟩
    · refine ⟨⟨o, I.kIn p o hk, hc⟩, fun a e => ?_⟩
      cases e
      exact ⟨o, I.kIn _ o hk, hd⟩
    · have z : ∃ o, s.heap.get? p = some o ∧ o.ExactDict := by
        rcases hk with ⟨kvs, hk⟩ | ⟨kvs, hk⟩
        · obtain ⟨_, _, _, _, o, _, _, e, ex, _⟩ := I.hok p _ hk
          exact ⟨o, e, ex⟩
        · obtain ⟨_, _, _, _, o, _, _, e, ex, _⟩ := I.hok p _ hk
          exact ⟨o, e, ex⟩
      obtain ⟨o, e, ex⟩ := z
      refine ⟨⟨o, e, ex.1⟩, fun a e2 => ?_⟩
      cases e2
      exact ⟨o, e, ex.2.1⟩
    · obtain ⟨o, _, _, _, e, ex, _⟩ := I.hok p _ hk
      refine ⟨⟨o, e, ex.1⟩, fun a e2 => ?_⟩
      cases e2
      exact ⟨o, e, ex.2.1⟩
  | _ => exact False.elim ty
def tBM (K : PySem.W.Frag) (T : String) (r : V → List V → Hp → VK → Prop) (to : TE) (t : TA) : TE := fun σ H Q => to σ H fun x H1 => tyV K T x H1 ∧ t σ H1 fun xs H2 => r x xs H2 Q
variable {o e : Expr} {es : List Expr} {to : TE} {t : TA} {name : Str} {apos cpos : Pos} {T id : String} {r : V → List V → Hp → VK → Prop}
theorem pe_bm (pa : PlainAttrs T) (slot : Slot T name id) (hty : typeOf (.builtin id) = pure (.type "method_descriptor")) (hm : MtR X id r) (ho : PE X o to) (ha : PA X (e :: es) t)
    (hbase : attributeBase o name X.env (eval o X.env) = eval o X.env := by rfl)
    (hfew : ((backTo cpos (starEach (e :: es) X.env)).all (fun x => !x.1) && (backToKw cpos (keywordEach [] X.env)).all (fun x => x.1.isSome)
      && decide ((e :: es).length + ([] : List Keyword).length + (if ([] : List Keyword).isEmpty then 0 else 1) < 30)) = true := by rfl)
    (hline : (apos.endLine == cpos.line) = true := by rfl) (hs : starEach (e :: es) X.env = (false, eval e X.env) :: starEach es X.env := by rfl) (hplain : (backTo cpos (starEach es X.env)).any (·.1) = false := by rfl) :
    PE X (.Call (.Attribute o name apos) (e :: es) [] cpos) (tBM X.K T r to t) := by
  intro pins s σ H Q I h
  refine wpAny_Call_method_late hbase hfew hline rfl (thn (ho pins s σ H _ I h) fun v s1 ⟨x, H1, I1, r1, ty, q1⟩ => ?_)
  obtain ⟨h1, h2⟩ := tyV_is I1 r1 ty
  refine ⟨T, id, pa, slot, hty, h1, h2, ?_⟩
  have hA := ha cpos pins s1 σ H1 _ I1 q1
  rw [hs] at hA ⊢
  refine Calls.callWith_builtin (by show (false || (backTo cpos (starEach es X.env)).any (·.1)) = false; rw [hplain] <;> rfl) (Calls.evalArgs_plain ?_)
  exact thn hA fun us s2 ⟨vs, H2, I2, r2, q2⟩ => hm pins s2 σ H2 x vs v us Q I2 r1 r2 q2
/- xs.append(e), list.index on a module's tuple .. are MtR facts of 06m -/
end
end L2

namespace L2
open PySem PySem.Spec PyProof.Rows

def MtM (X : Cx) (id : String) (r : V → List V → Hp → VK → Prop) : Prop :=
  ∀ (pins : List (Addr × Obj)) (s : Shared) (σ : St) (H : Hp) (x : V) (xs : List V) (v : Value) (us : List Value) (Q : VK), Inv X pins σ H s → RelV x v → Vals xs us → r x xs H Q →
    wpAny (model X.prog X.w) X.A (call (.builtin id) (v :: us)) (EP X pins σ Q) X.xe s

theorem Vals.one : ∀ {x : V} {us : List Value}, Vals [x] us → ∃ u, us = [u] ∧ RelV x u
  | _, _, .cons r .nil => ⟨_, rfl, r⟩
theorem Vals.two : ∀ {x y : V} {us : List Value}, Vals [x, y] us → ∃ u v, us = [u, v] ∧ RelV x u ∧ RelV y v
  | _, _, _, .cons r (.cons q .nil) => ⟨_, _, rfl, r, q⟩
theorem Vals.zero : ∀ {us : List Value}, Vals [] us → us = []
  | _, .nil => rfl
theorem Vals.reverse {xs : List V} {us : List Value} (h : Vals xs us) : Vals xs.reverse us.reverse := by
  induction h with
  | nil => exact .nil
  | cons r t ih => rw [List.reverse_cons, List.reverse_cons]; exact Vals.append ih (.cons r .nil)
theorem Vals.rep {xs : List V} {us : List Value} (h : Vals xs us) : ∀ k : Nat, Vals (List.replicate k xs).flatten (List.replicate k us).flatten
  | 0 => .nil
  | k + 1 => by
    rw [List.replicate_succ, List.replicate_succ, List.flatten_cons, List.flatten_cons]
    exact Vals.append h (Vals.rep h k)
theorem foldl_rep (its : List Value) : ∀ (k : Nat) (acc : List Value),
    List.foldl (fun x1 x2 => x1 ++ x2) acc.toArray (List.replicate k its.toArray) = (acc ++ (List.replicate k its).flatten).toArray
  | 0, acc => by simp
  | k + 1, acc => by
    have e : acc.toArray ++ its.toArray = (acc ++ its).toArray := by simp
    have e2 : (acc ++ its) ++ (List.replicate k its).flatten = acc ++ (List.replicate (k + 1) its).flatten := by
      rw [List.replicate_succ, List.flatten_cons, List.append_assoc]
    rw [← e2, ← foldl_rep its k (acc ++ its), ← e, List.replicate_succ, List.foldl_cons]

section
variable {X : Cx} {pins : List (Addr × Obj)} {σ : St} {H : Hp} {s : Shared} {l b : Addr} {xs ys zs : List V}

theorem Inv.lset {its its' : List Value} {n : Nat} {f : Array Value → Array Value} {t' : Nat} (I : Inv X pins σ H s) (hH : H l = some (.lst xs))
    (e : s.heap.get? l = some { cls := .type "list", data := .seq its.toArray n }) (hf : f its.toArray = its'.toArray) (hv : Vals ys its') (hz : ys.length ≤ sizeLine) :
    Inv X pins σ (upd H l (.lst ys)) { s with heap := s.heap.update l (Obj.mapSeq f), toks := t' } := by
  have q := PySem.IsL.update e f
  rw [hf] at q
  refine I.write (x := l) (e := l) (by rw [hH]; exact trivial) (.inl rfl) (fun b' u hb hu => (Heap.get?_update_other s.heap (Obj.mapSeq f) (Ne.symm hb)).trans hu) ⟨_, q⟩ ?_
  exact ⟨hz, its', _, hv, q⟩
theorem Inv.lnew {its : List Value} {t' : Nat} (I : Inv X pins σ H s) (hv : Vals ys its) (hz : ys.length ≤ sizeLine) :
    Inv X pins σ (upd H s.heap.objs.size (.lst ys)) { s with heap := s.heap.push { cls := .type "list", data := .seq its.toArray }, toks := t' } :=
  I.laid (fun _ _ q => Heap.get?_push_of_some _ q) (Nat.le_refl _) ⟨hz, its, 0, hv, Heap.get?_push_size _ rfl⟩
theorem Inv.fresh (I : Inv X pins σ H s) : H s.heap.objs.size = none := I.hok.fresh (Nat.le_refl _)
theorem Inv.lstM (I : Inv X pins σ H s) (hH : H l = some (.lst xs)) : xs.length ≤ sizeLine ∧ ∃ (its : List Value) (n : Nat), Vals xs its ∧ xs.length = its.length ∧ s.heap.get? l = some { cls := .type "list", data := .seq its.toArray n } := by
  obtain ⟨z, its, n, r, e⟩ := I.hok l _ hH
  exact ⟨z, its, n, r, r.length, e⟩

theorem notLongL {n : Nat} (h : n ≤ sizeLine) : Builtin.List.listTooLong n = false := by
  unfold Builtin.List.listTooLong
  exact decide_eq_false (by omega)
end

section
variable {X : Cx}

def rAppend : V → List V → Hp → VK → Prop := fun x vs H Q => ∃ l xs y, x = .ref l ∧ vs = [y] ∧ H l = some (.lst xs) ∧ xs.length < sizeLine ∧ Q .non (upd H l (.lst (xs ++ [y])))
theorem mt_append : MtM X "list.append" rAppend := by
  intro pins s σ H x vs v us Q I rx rv h
  obtain ⟨l, xs, y, rfl, rfl, hH, hz, q⟩ := h
  cases rx
  obtain ⟨u, rfl, ru⟩ := rv.one
  obtain ⟨z, its, n, r, hl, e⟩ := I.lstM hH
  refine call_meets F.slot_list_append ⟨_, e, rfl⟩ F.entry_list_append (F.args_list_append_2 _ _) (PySem.list_append l its.toArray n u (by rw [List.size_toArray]; omega)) ⟨e, ?_⟩
  refine ⟨.non, _, I.lset (its' := its ++ [u]) hH e (by simp) (r.append (.cons ru .nil)) ?_, rfl, q⟩
  rw [List.length_append, List.length_singleton]
  omega

def rCat : R2 := fun x y H Q => ∃ l b xs zs, x = .ref l ∧ y = .ref b ∧ H l = some (.lst xs) ∧ H b = some (.lst zs) ∧ xs.length + zs.length ≤ sizeLine ∧ ∀ p, H p = none → Q (.ref p) (upd H p (.lst (xs ++ zs)))
theorem op_cat : OpR X (binaryOp .Add) rCat := by
  intro pins s σ H x y v u Q I rx ry h
  obtain ⟨l, b, xs, zs, rfl, rfl, hH, hB, hz, q⟩ := h
  cases rx
  cases ry
  obtain ⟨z, its, n, r, hl, e⟩ := I.lstM hH
  obtain ⟨z2, its2, n2, r2, hl2, e2⟩ := I.lstM hB
  refine PySem.P.add_list e e2 ?_ (by rw [List.size_toArray, List.size_toArray]; omega)
  have ea : its.toArray ++ its2.toArray = (its ++ its2).toArray := by simp
  rw [ea]
  exact ⟨.ref _, _, I.lnew (t' := s.toks) (r.append r2) (by rw [List.length_append]; omega), rfl, q _ I.fresh⟩
/-- a list times an int (a negative one is nothing) -/
def rRep : R2 := fun x y H Q => ∃ l k xs, x = .ref l ∧ y = .int k ∧ H l = some (.lst xs) ∧ -(2 ^ 63) ≤ k ∧ k < 2 ^ 63 ∧ xs.length * k.toNat ≤ sizeLine ∧
  ∀ p, H p = none → Q (.ref p) (upd H p (.lst (List.replicate k.toNat xs).flatten))
theorem len_rep {α : Type} (xs : List α) (k : Nat) : (List.replicate k xs).flatten.length = k * xs.length := by
  induction k with
  | zero => simp
  | succ k ih => rw [List.replicate_succ, List.flatten_cons, List.length_append, ih, Nat.succ_mul, Nat.add_comm]
theorem op_rep : OpR X (binaryOp .Mult) rRep := by
  intro pins s σ H x y v u Q I rx ry h
  obtain ⟨l, k, xs, rfl, rfl, hH, h1, h2, hz, q⟩ := h
  cases rx
  obtain ⟨t, rfl⟩ := ry
  obtain ⟨z, its, n, r, hl, e⟩ := I.lstM hH
  have hlen : its.toArray.size * k.toNat ≤ sizeLine := by rw [List.size_toArray, ← hl]; exact hz
  have hcap : ¬ its.toArray.size * k.toNat > (2 ^ 63 - 1) / 8 := by
    have : (sizeLine : Nat) ≤ (2 ^ 63 - 1) / 8 := by decide
    omega
  have hfit : ¬ (!Builtin.List.listFitsIndex k) = true := by
    rw [fitsIndex_both h1 h2]
    exact Bool.false_ne_true
  have hlong : ¬ Builtin.List.listTooLong (its.toArray.size * k.toNat) = true := by
    rw [notLongL hlen]
    exact Bool.false_ne_true
  have hnew : List.foldl (fun x1 x2 => x1 ++ x2) #[] (List.replicate (if its.toArray.isEmpty = true then 0 else k.toNat) its.toArray) = (List.replicate k.toNat its).flatten.toArray := by
    have f0 : ∀ m : Nat, List.foldl (fun x1 x2 => x1 ++ x2) #[] (List.replicate m its.toArray) = (List.replicate m its).flatten.toArray := fun m => by
      have := foldl_rep its m []
      rw [List.nil_append] at this
      exact this
    rw [f0]
    cases its with
    | nil => simp
    | cons a r' => rw [if_neg (by simp)]
  refine wpAny_binaryOp_repeat_ref (T := "list") (U := "int") (by decide) ⟨_, e, rfl⟩ (fun s' => typeIs_int s' k t) noFill_list_mul F.fills_int_mul F.slot_int_rmul repeat_list F.slot_int_index.lookup
    (call_meets F.slot_int_rmul (typeIs_int s k t) F.entry_int_rmul (F.args_int_rmul_2 _ _) (int___rmul___int_list k t l its.toArray n)
      ⟨e, rfl, ⟨_, e, rfl⟩, call_meets F.slot_list_mul ⟨_, e, rfl⟩ F.entry_list_mul (F.args_list_mul_2 _ _) (AutoListH.list___mul___list_int_3 l its.toArray n k t hfit hcap hlong) ⟨e, ?_⟩⟩)
  rw [hnew]
  exact ⟨.ref _, _, I.lnew (t' := s.toks) (r.rep k.toNat) (by rw [len_rep, Nat.mul_comm]; exact hz), rfl, q _ I.fresh⟩

end

section
variable {prog : Program} {w : World} {A : Around} {E : Value → Shared → Prop} {s : Shared}
end

section
variable {X : Cx}
end
end L2

namespace Att
open PySem PySem.W PySem.Calls PyProof.Rows

theorem ints_of_wellAll {P : Params} {h : Heap} : ∀ (ns : List Int) (vs : List Value), WellAll P h vs (ns.map WData.int) → IntsAre vs ns := by
  intro ns
  induction ns with
  | nil =>
    intro vs w
    rw [List.map_nil] at w
    cases w
    exact .nil
  | cons n ns ih =>
    intro vs w
    rw [List.map_cons] at w
    cases w with
    | cons a b =>
      cases a
      exact .cons _ _ (ih _ b)

theorem script_of {l : OpenLaw} {n : Nat} (hn : l.most = some n) {P : Params} {h : Heap} {args : List WData} {vals : List Value}
    (hpre : l.row.toRowW.claim.pre args = true) (hwl : WellAll P h vals args) :
    ∃ a vs ns, vals = [Value.ref a] ∧ args = [WData.list (ns.map WData.int)] ∧ h.get? a = some { cls := .type "list", data := .seq vs.toArray } ∧ IntsAre vs ns ∧ ns.length ≤ n := by
  have hsh : WShape.hasAll [] args [.list .int] = true := (pre_splitW hpre).1
  have hc : l.pre.holds [] { args := args } = true := (pre_splitW hpre).2
  obtain ⟨d, r, rfl, h1, h2⟩ := hasAllW_cons hsh
  obtain rfl := hasAllW_nil h2
  obtain ⟨xs, rfl, h3⟩ := hasW_list h1
  obtain ⟨ns, rfl⟩ := items_int h3
  have hlen : ns.length ≤ n := by
    unfold OpenLaw.pre at hc
    have h4 : (WTm.not (.lt (.lit (.int (n : Int))) (.len (.arg 0)))).holds [] { args := [.list (ns.map .int)] } = true := by
      have h4 := (holds_andW hc).1
      rw [hn] at h4
      exact h4
    have h5 := condW_of h4 (w_not (w_lt w_lit (w_len_list (w_arg rfl))))
    rw [List.length_map] at h5
    refine Nat.le_of_not_lt fun q => ?_
    have q' : (n : Int) < ((ns.length : Nat) : Int) := by omega
    first
      | (rw [decide_eq_true q'] at h5; exact absurd h5 (by decide))
      | (simp at h5; omega)
  cases hwl with
  | cons w1 w2 =>
    cases w2
    cases w1 with
    | list ho hall => exact ⟨_, _, ns, rfl, rfl, ho, ints_of_wellAll ns _ hall, hlen⟩

theorem post_true (l : OpenLaw) (args : List WData) : l.row.toRowW.claim.post args (.bool true) args = true :=
  postW_of (r := l.row.toRowW) (X := (true == true))
    (show WShape.has [] (.bool true) .bool = true by first | rfl | decide | simp [WShape.has, WShape.arms, WShape.armsAll])
    (show (WTm.eq .res (.lit (.bool true))).value [] { args := args, res := some (.bool true), after := args } = some (.bool (true == true)) from w_eq_bool (w_res rfl) w_lit) rfl

/-- the same from a codeAny of the CALL (for a layer whose function contracts speak of calls) -/
theorem attach_call {l : OpenLaw} {n : Nat} {q : Program} {loose : List Str} {XP : (Str → Option Value) → Heap → Prop} {YP : World → Heap → Prop} {d : DefRec}
    (hn : l.most = some n) (hdf : d.params.defaults = [])
    (call : ∀ (w : World) (s₀ s₁ : Shared) (mg mb : Str → Option Value) (fa : Addr) (o : Obj) (pm cd doc : Value) (a : Addr) (vs : List Value) (ns : List Int),
      Ground q loose [] XP w s₀ mg mb s₁.heap → YP w s₁.heap →
      s₁.heap.get? fa = some o → o.data = .func (docDef d.name d.params d.body d.scope pm cd doc) → s₁.heap.CodeRec cd d.name → mg d.name = some (.ref fa) →
      s₁.heap.get? a = some { cls := .type "list", data := .seq vs.toArray } → IntsAre vs ns → ns.length ≤ n → s₁.gens = #[] →
      codeAny (model l.prog w) callerA (.call (.ref fa) ⟨[.ref a], []⟩) (fun r s' => r = .ok (.ret (.bool true)) ∧ OldK s₁.heap s'.heap ∧ s'.os = s₁.os ∧ AllBare s'.gens) s₁) :
    WalkO q loose XP YP l.row.toRowW d [] (fun f vs => PySem.call f vs) := by
  intro w s₀ s₁ mg mb G Y fa o pm cd doc dV kV ho hd hcd hD hmg hg args vals as hpre hlay hrd hwl hlo
  obtain rfl : dV = .none := Dflts.none hD hdf
  obtain rfl : kV = .none := Dflts.noKw hD
  obtain ⟨a, vs, ns, rfl, rfl, hobj, hints, hlen⟩ := script_of hn hpre hwl
  refine enter_call (codeAny_mono (call w s₀ s₁ mg mb fa o pm cd doc a vs ns G Y ho (fd_plain hd) hcd hmg hobj hints hlen hg) fun r s' hq => ?_)
  obtain ⟨rfl, h2, h3, h4⟩ := hq
  exact ⟨.inl ⟨.bool true, .bool true, [], rfl, fun _ => rfl, .bool true, post_true l _, fun _ => ⟨List.Pairwise.nil, fun _ hm => (nomatch hm)⟩⟩, h2, h3, h4⟩

section
variable {prog : Program} {w : World} {A : Around} {E : Value → Shared → Prop} {s : Shared} {K : Frag}

end
end Att

namespace L2
open PySem PySem.Spec PyProof.Rows

theorem vals_ints : ∀ {vs : List Value} {ns : List Int}, IntsAre vs ns → Vals (ns.map V.int) vs
  | _, _, .nil => .nil
  | _, _, .cons n t h => .cons ⟨t, rfl⟩ (vals_ints h)

/-- nothing is tracked but the script, known to the object (or it is an object of the module) -/
def Only (H : Hp) : Prop := ∀ b, H b = none ∨ ∃ o xs, H b = some (.frz o (.lst xs))

/-- THE HEAD: the law's promise, at the heap behind the top. F, the promise of the law's def, may use that base is part of the heap (so K.In base, base.Ns mainGlobals mg stand in Mod) -/
theorem law_call {P : Program} {w : World} {K : PySem.W.Frag} {mg mb : Str → Option Value} {CX : CXT} {k : Nat} {fa a : Addr} {fd : FuncData} {x : Str} {sp : Sp} {s₁ : Shared} {vs : List Value} {ns : List Int}
    (KX : K.In s₁.heap) (hns : s₁.heap.Ns mainGlobals mg) (hb : s₁.heap.Ns builtinsNs mb) (hbb : ∀ x : Str, x ≠ "__name__" → mb x = bootBuiltins x) (hlim : s₁.heap.NoLimit) (hg : s₁.gens = #[])
    (ha : s₁.heap.get? a = some { cls := .type "list", data := .seq vs.toArray }) (hi : IntsAre vs ns) (hl : ns.length ≤ sizeLine) (hr : Room k callerA)
    (F : ∀ base : Heap, K.In base → base.Ns mainGlobals mg → FnOk P w K mg base CX k fa fd [x] sp) (hbind : ∀ (s : Shared) (u : Value), BindsTo s fd ⟨[u], []⟩ [(x, u)])
    (hsp : ∀ H : Hp, Only H → SqL K H a (ns.map V.int) → sp [.ref a] H (fun v _ => v = .bl true) fun _ _ _ => False)
    (hCX : ∀ H e s', CX [] H s₁ (fun _ _ _ => False) e s' → False) :
    codeAny (model P w) callerA (.call (.ref fa) ⟨[.ref a], []⟩) (fun r s' => r = .ok (.ret (.bool true)) ∧ OldK s₁.heap s'.heap ∧ s'.os = s₁.os ∧ AllBare s'.gens) s₁ := by
  have rv := vals_ints hi
  have lenV := hi.length
  -- from an abstract heap in which nothing but the script may be tracked
  have core : ∀ H : Hp, Only H → SqL K H a (ns.map V.int) → HOk P w H s₁.heap → (∀ b, H b ≠ none → b = a) → (H a ≠ none → K.lookup a = none) →
      codeAny (model P w) callerA (.call (.ref fa) ⟨[.ref a], []⟩) (fun r s' => r = .ok (.ret (.bool true)) ∧ OldK s₁.heap s'.heap ∧ s'.os = s₁.os ∧ AllBare s'.gens) s₁ := by
    intro H hO hS hok hA hK
    have base_of : ∀ {b : Addr} {o : Obj}, s₁.heap.get? b = some o → H b = none → (hidT s₁.heap H).get? b = some o := fun e n => hidT_get e n
    have noA : ∀ {b : Addr} {o : Obj} {es : Array DictEntry} {ep : Nat}, s₁.heap.get? b = some o → o.data = .dict es ep → H b = none := fun {b o es ep} e d => by
      cases q : H b with
      | none => rfl
      | some u =>
        have e' : b = a := hA b (by rw [q]; simp)
        subst e'
        rw [ha] at e; cases e
        have d' : Data.seq vs.toArray _ = Data.dict es ep := d
        cases d'
    have nsK : ∀ {b : Addr} {m : Str → Option Value}, s₁.heap.Ns b m → (hidT s₁.heap H).Ns b m := fun {b m} ⟨o, es, ep, e, d, r⟩ => ⟨o, es, ep, base_of e (noA e d), d, r⟩
    have hKb : K.In (hidT s₁.heap H) := fun b o e => base_of (KX b o e) (by
      cases q : H b with
      | none => rfl
      | some u =>
        have e' : b = a := hA b (by rw [q]; simp)
        subst e'
        rw [hK (by rw [q]; simp)] at e; cases e)
    have hM : Mod K mg (hidT s₁.heap H) := ⟨hKb, nsK hns, ⟨mb, nsK hb, hbb⟩, let ⟨mc, h1, h2⟩ := hlim; ⟨mc, nsK h1, h2⟩⟩
    have e0 : Env0 P w K mg (hidT s₁.heap H) callerA [] s₁ H := ⟨rfl, hM, fun b o e => of_hidT e, Nat.le_of_eq (hidT_size _ _), trivial, fun b hb => absurd (show b ∈ ([] : List Addr) from hb) (by simp), hok, .of_eq hg⟩
    refine codeAny_mono ((F _ hKb (nsK hns)).run callerA [] s₁ H ⟨[.ref a], []⟩ [.ref a] [.ref a] _ _ hr e0 (hbind s₁ (.ref a)) (.cons rfl .nil) (hsp H hO hS)) fun r s' h => ?_
    cases r with
    | error e => exact (hCX H e s' h).elim
    | ok fl =>
      cases fl with
      | next => exact False.elim h
      | brk => exact False.elim h
      | cont => exact False.elim h
      | ret u =>
        obtain ⟨v, H', os, bare, un, hok', r', q⟩ := h
        have q' : v = .bl true := q
        subst q'
        obtain rfl : u = Value.bool true := r'
        refine ⟨rfl, OldK.of_keep fun b o e => ?_, os, bare⟩
        cases q : H b with
        | none => exact un.keep b o e q (by intro z; exact absurd (show b ∈ ([] : List Addr) from z) (by simp)) (by simp)
        | some u =>
          rcases hO b with z | ⟨ob, xs, z⟩
          · rw [q] at z; cases z
          · have z2 := un.frzs b ob _ z
            obtain ⟨e1, _⟩ := hok b _ z
            obtain ⟨e2, _⟩ := hok' b _ z2
            rw [e] at e1; cases e1
            exact e2
  cases hk : K.lookup a with
  | some o =>
    -- the script is one of the module's own objects
    have e := KX a o hk
    rw [ha] at e
    cases e
    refine core (fun _ => none) (fun _ => .inl rfl) (.inr ⟨_, vs.toArray, _, hk, rfl, rfl, rfl, by rw [List.size_toArray, lenV]; exact hl, by simpa using rv⟩) (fun b u z => by have z' : (none : Option HO) = some u := z; cases z') (fun b z => absurd rfl z) fun z => absurd rfl z
  | none =>
    refine core (fun b => if b = a then some (.frz { cls := .type "list", data := .seq vs.toArray } (.lst (ns.map V.int))) else none) (fun b => ?_) (.inl (.inr ⟨{ cls := .type "list", data := .seq vs.toArray }, if_pos rfl⟩)) (fun b u z => ?_) (fun b z => ?_) fun _ => hk
    · by_cases hb : b = a
      · exact .inr ⟨_, _, if_pos hb⟩
      · exact .inl (if_neg hb)
    · by_cases hb : b = a
      · have z' := (if_pos hb).symm.trans z
        cases z'
        subst hb
        exact ⟨ha, by rw [List.length_map]; exact hl, vs, _, rv, ha⟩
      · have z' := (if_neg hb).symm.trans z
        cases z'
    · by_cases hb : b = a
      · exact hb
      · exact absurd (if_neg hb) z
end L2

namespace L2
open PySem PySem.Spec PyProof.Rows

abbrev KOf {K : PySem.W.Frag} {h : Heap} (_ : K.In h) : PySem.W.Frag := K

/-- the goal that k_head leaves (case hc), from the law's promise. F gives the function object fd (K's own) once, then the promise over every base -/
theorem walk_of {l : PySem.W.OpenLaw} {n k : Nat} {q : Program} {loose : List Str} {XP : (Str → Option Value) → Heap → Prop} {YP : World → Heap → Prop} {d : DefRec} {K : Params → PySem.W.Frag} {CX : World → CXT} {sp : World → Sp} {x : Str}
    (hn : l.most = some n) (hn2 : n ≤ sizeLine) (hdf : d.params.defaults = []) (hr : Room k callerA)
    (hY : ∀ (w : World) (h : Heap), YP w h → (K w.params).In h)
    (F : ∀ (w : World) (mg : Str → Option Value) (fa : Addr) (h : Heap), (K w.params).In h → h.Ns mainGlobals mg → mg d.name = some (.ref fa) →
      ∃ fd : FuncData, (∀ (s : Shared) (u : Value), BindsTo s fd ⟨[u], []⟩ [(x, u)]) ∧
        ∀ base : Heap, (K w.params).In base → base.Ns mainGlobals mg → FnOk l.prog w (K w.params) mg base (CX w) k fa fd [x] (sp w))
    (hsp : ∀ (w : World) (H : Hp) (a : Addr) (ns : List Int), ns.length ≤ n → Only H → SqL (K w.params) H a (ns.map V.int) → sp w [.ref a] H (fun v _ => v = .bl true) fun _ _ _ => False)
    (hCX : ∀ (w : World) (H : Hp) (s : Shared) (e : Value) (s' : Shared), CX w [] H s (fun _ _ _ => False) e s' → False) :
    PySem.W.WalkO q loose XP YP l.row.toRowW d [] (fun f vs => PySem.call f vs) := by
  refine Att.attach_call hn hdf fun w s₀ s₁ mg mb fa o pm cd doc a vs ns G Y ho hd hcd hmg hobj hints hlen hg => ?_
  have KX := hY w _ Y
  obtain ⟨fd, hb, hF⟩ := F w mg fa _ KX G.T.g hmg
  exact law_call KX G.T.g G.T.b G.T.builtins G.T.nolimit hg hobj hints (Nat.le_trans hlen hn2) hr hF hb (fun H hO hS => hsp w H a ns hlen hO hS) fun H e s' => hCX w H s₁ e s'
/-- the same where the promise hangs on the written part alone: (sp := My.sp_law), no hole under a binder -/
theorem walk_ofK {l : PySem.W.OpenLaw} {n k : Nat} {q : Program} {loose : List Str} {XP : (Str → Option Value) → Heap → Prop} {YP : World → Heap → Prop} {d : DefRec} {K : Params → PySem.W.Frag} {CX : CXT} {sp : PySem.W.Frag → Sp} {x : Str}
    (hn : l.most = some n) (hn2 : n ≤ sizeLine) (hdf : d.params.defaults = []) (hr : Room k callerA)
    (hY : ∀ (w : World) (h : Heap), YP w h → (K w.params).In h)
    (F : ∀ (w : World) (mg : Str → Option Value) (fa : Addr) (h : Heap), (K w.params).In h → h.Ns mainGlobals mg → mg d.name = some (.ref fa) →
      ∃ fd : FuncData, (∀ (s : Shared) (u : Value), BindsTo s fd ⟨[u], []⟩ [(x, u)]) ∧
        ∀ base : Heap, (K w.params).In base → base.Ns mainGlobals mg → FnOk l.prog w (K w.params) mg base CX k fa fd [x] (sp (K w.params)))
    (hsp : ∀ (K : PySem.W.Frag) (H : Hp) (a : Addr) (ns : List Int), ns.length ≤ n → Only H → SqL K H a (ns.map V.int) → sp K [.ref a] H (fun v _ => v = .bl true) fun _ _ _ => False)
    (hCX : ∀ (H : Hp) (s : Shared) (e : Value) (s' : Shared), CX [] H s (fun _ _ _ => False) e s' → False) :
    PySem.W.WalkO q loose XP YP l.row.toRowW d [] (fun f vs => PySem.call f vs) :=
  walk_of (K := K) (CX := fun _ => CX) (sp := fun w => sp (K w.params)) hn hn2 hdf hr hY F (fun w H a ns h1 h2 h3 => hsp (K w.params) H a ns h1 h2 h3) fun _ H s e s' => hCX H s e s'
end L2

/- THE LAST THEOREM (shape; LID, My.* are yours):
   My.Adr: a structure of the addresses that your layer names (classes, functions); My.Txt K t: a structure (Prop) of the equations over K;
   My.txt_mk : {K} {implicit addresses ..} (e1 : nsIn K mainGlobals "law" = some (some (.ref f))) (e2 : K.lookup f = some ⟨oc, od, .func (fnOf "law" "law" params body scope dV kV doc pm an cdv ct), sl⟩) (e3 : codeIn K cdv "law" = true) .. : ∃ t, My.Txt K t

set_option maxRecDepth 100000 in
set_option maxHeartbeats 0 in
theorem PySem.Challenge.cw_LID_holds : PySem.Challenge.rw_LID.Holds := by
  w_on; o_law; k_head; (case hw => w_witness2)
  k_fill
  refine L2.walk_of (l := PySem.Challenge.rw_LID) (n := 63) (k := 40) (x := "script") (CX := fun w => ..) (sp := fun _ => My.sp_law) rfl (by decide) rfl ⟨rfl, by decide, by decide⟩ (fun w h Y => PySem.W.kIn_of Y) ?F ?S ?C
  case F =>
    intro w mg fa h KX G hmg
    have T : ∃ t, My.Txt (L2.KOf KX) t := by
      dsimp only [L2.KOf]                          -- K must stand as «<heap const> w.params» for k_is
      refine' My.txt_mk ?e1 ?e2 ?e3 ..
      (case e1 => PySem.W.k_is)                    -- in the order: a name -> its address -> its object -> its parts
      (case e2 => PySem.W.k_is)
      ..
    obtain ⟨t, T⟩ := T
    have e0 := hmg.symm.trans (PySem.W.mg_of KX G T.law)
    cases e0                                       -- fa is the law's own address
    exact ⟨_, fun s u => .of_eq rfl, fun base kb nb => My.law_fn T kb nb⟩     -- if «.of_eq rfl» comes too early: refine' ⟨_, ?b, fun base kb nb => My.law_fn T kb nb⟩; exact fun s u => .of_eq rfl
  case S => exact fun w H a ns hl hO hS => ..
  case C => exact ..
(the tactic k_is has no namespace: write k_is) -/

namespace L2
open PySem PySem.Spec PyProof.Rows

def defArgs (s : Stmt) : Arguments := match s with
  | .FunctionDef _ a _ _ _ _ _ _ _ _ => a
  | _ => { posonlyargs := [], args := [], vararg := none, kwonlyargs := [], kw_defaults := [], kwarg := none, defaults := [] }
def defBody (s : Stmt) : List Stmt := match s with
  | .FunctionDef _ _ b _ _ _ _ _ _ _ => b
  | _ => []
def defScope (s : Stmt) : Scope := match s with
  | .FunctionDef _ _ _ _ _ _ sc _ _ _ => sc
  | _ => { kind := .function, names := [], isGenerator := false, isCoroutine := false }

abbrev CX0 : CXT := fun _ _ _ _ _ _ => False
abbrev E0 : XK := fun _ _ _ => False
theorem pass0 {X : Cx} : Passes CX0 X E0 := fun _ _ _ _ _ _ _ h => h.elim

structure Fun (K : PySem.W.Frag) (x qual : Str) (st : Stmt) (f : Addr) (fd : FuncData) : Prop where
  ex : ∃ (oc : Value) (od : Option Addr) (kV doc pm : Value) (an : Option Addr) (cdv ct : Value) (osl : Array (Option Value)),
    fd = PySem.W.fnOf x qual (defArgs st) (defBody st) (defScope st) .none kV doc pm an cdv ct ∧ K.lookup f = some ⟨oc, od, .func fd, osl⟩ ∧ PySem.W.codeIn K cdv qual = true
  kp : PySem.W.keepIn K (.ref f) = true
section
variable {P : Program} {w : World} {K : PySem.W.Frag} {mg : Str → Option Value} {base : Heap}
/-- THE RULE for a def: its body as a term of rules, and the reading of that term -/
theorem Fun.ok {x qual : Str} {st : Stmt} {f : Addr} {fd : FuncData} {N ps : List Str} {k : Nat} {sp : Sp} (F : Fun K x qual st f fd) (S : FnScope N ps (defScope st)) (len : ∀ vs H Q E, sp vs H Q E → vs.length = ps.length)
    (hbody : ∀ (cdv : Value) (A : Around) (outer : List Env) (s : Shared) (H : Hp) (vs : List V) (Q : VK) (E : XK), Room k (A.deeper (envOfC qual (defScope st) s.heap.objs.size f cdv)) → sp vs H Q E →
      ∃ t, PSs (cxOf CX0 P w K mg base N qual (defScope st) f cdv A outer s H E).nox (defBody st) t ∧ t { nx := fun _ H' => Q .non H', rt := Q } (start N vs) H) : FnOk P w K mg base CX0 (k + 1) f fd ps sp := by
  obtain ⟨oc, od, kV, doc, pm, an, cdv, ct, osl, rfl, lk, hcd⟩ := F.ex
  refine fn_of lk hcd S len fun A outer s H vs Q E hr hsp => ?_
  obtain ⟨t, h, q⟩ := hbody cdv A outer s H vs Q E hr hsp
  exact ⟨t, h.nox, q⟩
/-- how its arguments bind (no defaults): h is «fun _ _ _ _ _ _ us hl => match us, hl with | [_, _], _ => rfl», one _ a parameter -/
theorem Fun.binds {x qual : Str} {st : Stmt} {f : Addr} {fd : FuncData} {ps : List Str} (F : Fun K x qual st f fd)
    (h : ∀ (kV doc pm : Value) (an : Option Addr) (cdv ct : Value) (us : List Value), us.length = ps.length → bindArgs (PySem.W.fnOf x qual (defArgs st) (defBody st) (defScope st) .none kV doc pm an cdv ct) ⟨us, []⟩ = pure (ps.zip us)) : Binds K fd ps [] := by
  obtain ⟨oc, od, kV, doc, pm, an, cdv, ct, osl, rfl, lk, hcd⟩ := F.ex
  exact .all (h kV doc pm an cdv ct)
theorem fun_mk {x qual : Str} {st : Stmt} {f : Addr} {oc : Value} {od an : Option Addr} {osl : Array (Option Value)} {kV doc pm cdv ct : Value} (l : K.lookup f = some ⟨oc, od, .func (PySem.W.fnOf x qual (defArgs st) (defBody st) (defScope st) .none kV doc pm an cdv ct), osl⟩)
    (c : PySem.W.codeIn K cdv qual = true) (k : PySem.W.keepIn K (.ref f) = true) : Fun K x qual st f (PySem.W.fnOf x qual (defArgs st) (defBody st) (defScope st) .none kV doc pm an cdv ct) := ⟨⟨oc, od, kV, doc, pm, an, cdv, ct, osl, rfl, l, c⟩, k⟩
end
theorem small1000 {n : Nat} (h : n ≤ 1000) : n < sizeLine := Nat.lt_of_le_of_lt h (by decide)

section
variable {X : Cx}
theorem pv (i : Nat) {x : Str} {pos : Pos} (hN : X.N[i]? = some x := by rfl) (hv : Vis X.env.scope x := by first | exact Or.inl rfl | exact Or.inr (Or.inl rfl) | exact Or.inr (Or.inr rfl)) (hd : (x == ("__debug__" : Str)) = false := by decide)
    (hcd : (x == ("__classdict__" : Str)) = false := by decide) : PE X (.Name x pos) (tVar i) := pe_var hN hv hd hcd
end

/-- all that was tracked is as it was -/
def Same (H H' : Hp) : Prop := ∀ b o, H b = some o → H' b = some o
theorem Same.refl (H : Hp) : Same H H := fun _ _ h => h
theorem Same.trans {H H1 H2 : Hp} (a : Same H H1) (b : Same H1 H2) : Same H H2 := fun c o h => b c o (a c o h)
theorem Same.free {H H' : Hp} (e : Same H H') {l : Addr} (h : H' l = Option.none) : H l = Option.none := by
  cases q : H l with
  | none => rfl
  | some o =>
    rw [e l o q] at h
    cases h
theorem Same.seq {K : PySem.W.Frag} {H H' : Hp} {a : Addr} {xs : List V} (e : Same H H') (h : SqL K H a xs) : SqL K H' a xs := by
  rcases h with (h | ⟨o, h⟩) | h
  · exact .inl (.inl (e _ _ h))
  · exact .inl (.inr ⟨o, e _ _ h⟩)
  · exact .inr h

end L2

namespace L2
open PySem PySem.Spec PyProof.Rows
section
variable {κ : Type} [DecidableEq κ]
theorem nd_snoc : ∀ {l : List κ} {k : κ}, l.Nodup → ¬ k ∈ l → (l ++ [k]).Nodup
  | [], k, _, _ => by simp
  | a :: r, k, h, hk => by
    obtain ⟨h1, h2⟩ := List.nodup_cons.mp h
    show (a :: (r ++ [k])).Nodup
    refine List.nodup_cons.mpr ⟨fun m => ?_, nd_snoc h2 fun m => hk (List.mem_cons.mpr (Or.inr m))⟩
    rcases List.mem_append.mp m with q | q
    · exact h1 q
    · exact hk (List.mem_cons.mpr (Or.inl (List.mem_singleton.mp q).symm))
end
end L2
end
section
set_option Elab.async false
set_option linter.all false
set_option maxRecDepth 100000
set_option maxHeartbeats 4000000
namespace L2
open PySem PySem.Spec PyProof.Rows

def clOf (names : List (Str × NameKind)) (cells : List (Str × Addr)) (acc : List (Str × Addr)) : List (Str × Addr) :=
  match names with
  | [] => acc
  | (n, k) :: r => clOf r cells (if k == .free then (n, (cells.lookup n).getD 0) :: acc else acc)

def cxComp (X : Cx) (N : List Str) (scope : Scope) (C : Addr) (s : Shared) (H : Hp) (fp : List Addr) (pins : List (Addr × Obj)) : Cx where
  prog := X.prog
  w := X.w
  K := X.K
  mg := X.mg
  base := X.base
  A := X.A
  N := N
  s₀ := s
  H₀ := H
  env := compEnvC scope (clOf scope.names X.env.cells []) C X.env
  outer := X.stack
  stack := X.stack
  ex := fp
  fn := fun _ => false
  calm := X.calm
  pn := X.pn ++ pins
  xe := fun _ _ => False

/-- what stands free within is a cell (or free) without; nothing is a cell within; locals are once -/
def scopeOk (on : List (Str × NameKind)) (cn : List (Str × NameKind)) : Bool :=
  cn.all fun y => y.2 != .cell && (y.2 != .free || (on.lookup y.1 == some .cell || on.lookup y.1 == some .free)) && (y.2 != .local || cn.lookup y.1 == some .local) && (y.2 != .free || cn.lookup y.1 == some .free)
def pickOk (XN : List Str) (cn : List (Str × NameKind)) (N : List Str) (pick : List (Option Nat)) : Bool :=
  N.length == pick.length && (N.zip pick).all fun y => match y.2 with
    | none => true
    | some j => XN[j]? == some y.1 && cn.lookup y.1 == some .free
def slotsOf (pick : List (Option Nat)) (σ : St) : St := pick.map fun o => match o with
  | none => none
  | some j => match σ[j]? with
    | some (some v) => some v
    | _ => none

theorem kind_ne {k l : NameKind} (h : (k != l) = true) : k ≠ l := by
  intro e; subst e; cases k <;> cases h
theorem kind_eq {k l : NameKind} (h : (k == l) = true) : k = l := by
  cases k <;> cases l <;> first | rfl | cases h
theorem okind_eq {k : Option NameKind} {l : NameKind} (h : (k == some l) = true) : k = some l := by
  cases k with
  | none => cases h
  | some k => exact congrArg some (kind_eq h)

section
variable {on cn : List (Str × NameKind)}
theorem scopeOk.cell (h : scopeOk on cn = true) : ∀ y ∈ cn, y.2 ≠ .cell := fun y hy => by
  have q := List.all_eq_true.mp h y hy
  simp only [Bool.and_eq_true] at q
  exact kind_ne q.1.1.1
theorem scopeOk.out (h : scopeOk on cn = true) : ∀ y ∈ cn, y.2 = .free → on.lookup y.1 = some .cell ∨ on.lookup y.1 = some .free := fun y hy e => by
  have q := List.all_eq_true.mp h y hy
  simp only [Bool.and_eq_true, Bool.or_eq_true] at q
  rcases q.1.1.2 with z | z
  · exact absurd e (kind_ne z)
  · rcases z with z | z
    · exact .inl (okind_eq z)
    · exact .inr (okind_eq z)
theorem scopeOk.loc (h : scopeOk on cn = true) : ∀ y ∈ cn, y.2 = .local → cn.lookup y.1 = some .local := fun y hy e => by
  have q := List.all_eq_true.mp h y hy
  simp only [Bool.and_eq_true, Bool.or_eq_true] at q
  rcases q.1.2 with z | z
  · exact absurd e (kind_ne z)
  · exact okind_eq z
end

/-- the cells within are cells without -/
theorem clOf_sub {cells : List (Str × Addr)} {x : Str} {c : Addr} : ∀ {names : List (Str × NameKind)} {acc : List (Str × Addr)}, (∀ y ∈ names, y.2 = NameKind.free → (cells.lookup y.1).isSome = true) →
    (acc.lookup x = some c → cells.lookup x = some c) → (clOf names cells acc).lookup x = some c → cells.lookup x = some c
  | [], acc, _, ha, h => ha h
  | (n, k) :: r, acc, hf, ha, h => by
    refine clOf_sub (names := r) (fun y hy e => hf y (List.mem_cons_of_mem _ hy) e) ?_ h
    intro h'
    by_cases hk : (k == NameKind.free) = true
    · rw [if_pos hk, List.lookup_cons] at h'
      cases e : (x == n) with
      | true =>
        rw [e] at h'
        have en : x = n := by simpa using e
        subst en
        have q := hf (x, k) List.mem_cons_self (kind_eq hk)
        obtain ⟨d, hd⟩ := Option.isSome_iff_exists.mp q
        have hd' : cells.lookup x = some d := hd
        rw [hd'] at h' ⊢
        exact h'
      | false =>
        rw [e] at h'
        exact ha h'
    · rw [if_neg hk] at h'
      exact ha h'
theorem clOf_has {cells : List (Str × Addr)} {x : Str} : ∀ {names : List (Str × NameKind)} {acc : List (Str × Addr)}, ((acc.lookup x).isSome = true ∨ ∃ y ∈ names, y.1 = x ∧ y.2 = NameKind.free) → ((clOf names cells acc).lookup x).isSome = true
  | [], acc, h => by
    rcases h with h | ⟨y, hy, _⟩
    · exact h
    · cases hy
  | (n, k) :: r, acc, h => by
    refine clOf_has (names := r) ?_
    by_cases hk : (k == NameKind.free) = true
    · rw [if_pos hk, List.lookup_cons]
      rcases h with h | ⟨y, hy, e1, e2⟩
      · cases e : (x == n) with
        | true => exact .inl rfl
        | false => exact .inl h
      · rcases List.mem_cons.mp hy with z | z
        · subst z
          have : (x == n) = true := by simpa using e1.symm
          rw [this]
          exact .inl rfl
        · exact .inr ⟨y, z, e1, e2⟩
    · rw [if_neg hk]
      rcases h with h | ⟨y, hy, e1, e2⟩
      · exact .inl h
      · rcases List.mem_cons.mp hy with z | z
        · subst z
          exfalso
          apply hk
          have e2' : k = NameKind.free := e2
          rw [e2']
          rfl
        · exact .inr ⟨y, z, e1, e2⟩

/-- a name's kind within: relabelled -/
structure Relab (f : Str × NameKind → Str × NameKind) : Prop where
  nm : ∀ y, (f y).1 = y.1
  kd : ∀ y, (f y).2 = y.2 ∨ (y.2 = .free ∧ (f y).2 = .cell)
theorem Relab.lookup {f : Str × NameKind → Str × NameKind} (R : Relab f) {x : Str} : ∀ names : List (Str × NameKind), (names.map f).lookup x = names.lookup x ∨ (names.lookup x = some .free ∧ (names.map f).lookup x = some .cell)
  | [] => .inl rfl
  | y :: r => by
    obtain ⟨n, k⟩ := y
    have h1 := R.nm (n, k)
    have h2 := R.kd (n, k)
    rw [List.map_cons]
    generalize f (n, k) = z at h1 h2
    obtain ⟨n', k'⟩ := z
    have h1 : n' = n := h1
    have h2 : k' = k ∨ (k = .free ∧ k' = .cell) := h2
    subst h1
    rw [List.lookup_cons, List.lookup_cons]
    cases e : (x == n') with
    | true =>
      rcases h2 with h2 | ⟨h2, h3⟩
      · subst h2; exact .inl rfl
      · subst h2; subst h3; exact .inr ⟨rfl, rfl⟩
    | false => exact R.lookup r
theorem relab (env : Env) : Relab (fun y : Str × NameKind => if (y.2 == NameKind.free && env.scope.kind == .function && env.kindOf y.1 == some .cell) = true then (y.1, NameKind.cell) else (y.1, y.2)) where
  nm := fun y => by
    by_cases h : (y.2 == NameKind.free && env.scope.kind == .function && env.kindOf y.1 == some .cell) = true
    · rw [if_pos h]
    · rw [if_neg h]
  kd := fun y => by
    by_cases h : (y.2 == NameKind.free && env.scope.kind == .function && env.kindOf y.1 == some .cell) = true
    · rw [if_pos h]
      simp only [Bool.and_eq_true] at h
      exact .inr ⟨kind_eq h.1.1, rfl⟩
    · rw [if_neg h]
      exact .inl rfl
theorem relabel_names (scope : Scope) (env : Env) : (relabel scope env).names = scope.names.map (fun y : Str × NameKind => if (y.2 == NameKind.free && env.scope.kind == .function && env.kindOf y.1 == some .cell) = true then (y.1, NameKind.cell) else (y.1, y.2)) := rfl
theorem relabel_lookup {scope : Scope} {env : Env} {x : Str} {k : NameKind} (h : (relabel scope env).names.lookup x = some k) :
    scope.names.lookup x = some k ∨ (k = .cell ∧ scope.names.lookup x = some .free) := by
  rw [relabel_names] at h
  rcases (relab env).lookup (x := x) scope.names with q | ⟨q1, q2⟩
  · rw [q] at h; exact .inl h
  · rw [q2] at h; cases h; exact .inr ⟨rfl, q1⟩
theorem relabel_free {scope : Scope} {env : Env} {x : Str} (h : scope.names.lookup x = some .free) : (relabel scope env).names.lookup x = some .cell ∨ (relabel scope env).names.lookup x = some .free := by
  rw [relabel_names]
  rcases (relab env).lookup (x := x) scope.names with q | ⟨q1, q2⟩
  · rw [q]; exact .inr h
  · exact .inl q2
end L2
end
section
set_option Elab.async false
set_option linter.all false
set_option maxRecDepth 100000
set_option maxHeartbeats 4000000
namespace L2
open PySem PySem.Spec PyProof.Rows

theorem closure_is (env : Env) : ∀ (names : List (Str × NameKind)) (acc : List (Str × Addr)), (∀ y ∈ names, y.2 = NameKind.free → (env.cells.lookup y.1).isSome = true) →
    (forIn names acc (fun (x : Str × NameKind) (cs : List (Str × Addr)) => if (x.2 == NameKind.free) = true then (do let a ← cellOf env x.1; pure (ForInStep.yield ((x.1, a) :: cs))) else pure (ForInStep.yield cs)) : Sem (List (Str × Addr))) = pure (clOf names env.cells acc)
  | [], acc, _ => rfl
  | (n, k) :: r, acc, h => by
    rw [List.forIn_cons]
    by_cases hk : (k == NameKind.free) = true
    · obtain ⟨c, hc⟩ := Option.isSome_iff_exists.mp (h (n, k) List.mem_cons_self (kind_eq hk))
      have hc' : env.cells.lookup n = some c := hc
      have e : cellOf env n = pure c := by unfold cellOf; rw [hc']
      simp only [hk, if_true]
      rw [e]
      have ih := closure_is env r ((n, c) :: acc) fun y hy z => h y (List.mem_cons_of_mem _ hy) z
      have e2 : clOf ((n, k) :: r) env.cells acc = clOf r env.cells ((n, c) :: acc) := by
        show clOf r env.cells (if (k == NameKind.free) = true then (n, (env.cells.lookup n).getD 0) :: acc else acc) = _
        rw [if_pos hk, hc']
        rfl
      rw [e2, ← ih]
      rfl
    · have hk' : (k == NameKind.free) = false := by cases q : (k == NameKind.free) with
        | true => exact absurd q hk
        | false => rfl
      simp only [hk']
      have ih := closure_is env r acc fun y hy z => h y (List.mem_cons_of_mem _ hy) z
      have e2 : clOf ((n, k) :: r) env.cells acc = clOf r env.cells acc := by
        show clOf r env.cells (if (k == NameKind.free) = true then (n, (env.cells.lookup n).getD 0) :: acc else acc) = _
        rw [if_neg hk]
      rw [e2, ← ih]
      rfl
theorem closureFor_is {scope : Scope} {env : Env} (h : ∀ y ∈ scope.names, y.2 = NameKind.free → (env.cells.lookup y.1).isSome = true) : closureFor scope env = pure (clOf scope.names env.cells []) := by
  have e := closure_is env scope.names [] h
  have b : closureFor scope env = ((forIn scope.names ([] : List (Str × Addr)) (fun (x : Str × NameKind) (cs : List (Str × Addr)) => if (x.2 == NameKind.free) = true then (do let a ← cellOf env x.1; pure (ForInStep.yield ((x.1, a) :: cs))) else pure (ForInStep.yield cs)) : Sem (List (Str × Addr))) >>= fun r => pure r) := rfl
  rw [b, e]
  rfl

section
variable {X : Cx} {pins : List (Addr × Obj)} {σ : St} {H : Hp} {s : Shared}

theorem cells_of (I : Inv X pins σ H s) {scope : Scope} (hs : scopeOk X.env.scope.names scope.names = true) : ∀ y ∈ scope.names, y.2 = NameKind.free → (X.env.cells.lookup y.1).isSome = true := fun y hy e => by
  obtain ⟨c, hc⟩ := I.ok.has y.1 (scopeOk.out hs y hy e)
  rw [hc]; rfl

theorem inv_comp (I : Inv X pins σ H s) {N : List Str} {scope : Scope} {pick : List (Option Nat)} {fp : List Addr} {C D : Addr} {h₁ : Heap} {tk : Nat} {ob : Obj}
    (hs : scopeOk X.env.scope.names scope.names = true) (hp : pickOk X.N scope.names N pick = true) (hk : scope.kind = .function)
    (hf : ∀ b ∈ fp, FpOk X pins H b) (ho : ∀ b ∈ fp, ∃ o, s.heap.get? b = some o ∧ ∀ v, o.data ≠ .cell v)
    (hC : s.heap.objs.size ≤ C) (hD : s.heap.objs.size ≤ D) (hDC : D ≠ C) (keep : ∀ b o, s.heap.get? b = some o → h₁.get? b = some o)
    (ns : h₁.Ns C fun _ => none) (hl : h₁.get? D = some ob) (hob : ∀ v, ob.data ≠ .cell v) :
    Inv (cxComp X N scope C s H fp pins) [(D, ob)] (slotsOf pick σ) H { s with heap := h₁, toks := tk } := by
  have cells := cells_of I hs
  have sub : ∀ x c, (clOf scope.names X.env.cells []).lookup x = some c → X.env.cells.lookup x = some c := fun x c e => clOf_sub cells (fun z => by cases z) e
  have lt : ∀ {b o}, s.heap.get? b = some o → b < s.heap.objs.size := fun e => Heap.lt_size e
  simp only [pickOk, Bool.and_eq_true] at hp
  obtain ⟨hpl, hpa⟩ := hp
  have hpl : N.length = pick.length := by simpa using hpl
  have ok : (cxComp X N scope C s H fp pins).Ok := by
    refine ⟨I.ok.mod, hk, I.ok.glob, I.ok.blt, hC, fun x y c e1 e2 => I.ok.inj x y c (sub x c e1) (sub y c e2), fun x hx => ?_, fun x c e _ => ?_, I.ok.hd, I.ok.frames, .inl rfl, fun b hb => ⟨?_, fun x c e => ?_⟩, I.bs, Nat.le_trans I.ok.bsz I.sz, fun b o e hb => ?_, fun b hb hb' => ?_, I.stack, I.stkFree⟩
    · have hfree : scope.names.lookup x = some .free := by
        rcases hx with z | z
        · rcases relabel_lookup z with q | ⟨_, q⟩
          · exact absurd rfl (scopeOk.cell hs _ (PySem.mem_of_lookup q))
          · exact q
        · rcases relabel_lookup z with q | ⟨q, _⟩
          · exact q
          · cases q
      exact Option.isSome_iff_exists.mp (clOf_has (.inr ⟨_, PySem.mem_of_lookup hfree, rfl, rfl⟩))
    · cases e
    · obtain ⟨o, e, _⟩ := ho b hb
      exact Nat.ne_of_lt (Nat.lt_of_lt_of_le (lt e) hC)
    · exact (hf b hb).2.2.2.2.1 x c (sub x c e)
    · rcases (hf b hb).2.2.2.1 with z | z
      · exact I.ok.noex b o e z
      · exact absurd (Nat.lt_of_lt_of_le (Heap.lt_size (I.ok.bs b o e).1) z) (Nat.lt_irrefl _)
    · rcases List.mem_cons.mp (I.stkSub b hb') with z | z
      · exact (hf b hb).2.1 z
      · exact (hf b hb).2.2.1 z
  have fresh : ∀ {a : Addr}, s.heap.objs.size ≤ a → H a = none := fun h => I.hok.fresh h
  have nst : ∀ {a : Addr}, s.heap.objs.size ≤ a → a ∉ frs X.stack := fun {a} h hb => by
    rcases List.mem_cons.mp (I.stkSub _ hb) with z | z
    · rw [z] at h
      exact absurd (Nat.lt_of_lt_of_le I.lt h) (Nat.lt_irrefl _)
    · exact I.nofs h z
  refine ⟨ok, rfl, I.bare, Un.kept keep, ⟨_, ns, fun i x v e1 e2 e3 => ?_⟩, fun x c e => ?_, fresh hC, fun x c e => I.freeC x c (sub x c e), fun p hp => ?_, I.hok.kept keep, ?_⟩
  · -- a free name's value is the cell's
    have e2 : (slotsOf pick σ)[i]? = some (some v) := e2
    have e1 : N[i]? = some x := e1
    unfold slotsOf at e2
    rw [List.getElem?_map] at e2
    cases ep : pick[i]? with
    | none => rw [ep] at e2; cases e2
    | some o =>
      rw [ep] at e2
      cases o with
      | none => cases e2
      | some j =>
        have hz : (x, some j) ∈ N.zip pick := by
          have := List.getElem?_zip_eq_some (l₁ := N) (l₂ := pick) (i := i) (z := (x, some j))
          exact List.mem_of_getElem? (this.mpr ⟨e1, ep⟩)
        have q := List.all_eq_true.mp hpa _ hz
        simp only [Bool.and_eq_true] at q
        have qN : X.N[j]? = some x := by simpa using q.1
        have qF : scope.names.lookup x = some .free := okind_eq q.2
        have eσ : σ[j]? = some (some v) := by
          cases eo : σ[j]? with
          | none => simp only [eo, Option.map_some, Option.some.injEq] at e2; cases e2
          | some ov =>
            cases ov with
            | none => simp only [eo, Option.map_some, Option.some.injEq] at e2; cases e2
            | some v' => simp only [eo, Option.map_some, Option.some.injEq] at e2; rw [e2]
        have ok' := scopeOk.out hs _ (PySem.mem_of_lookup qF) rfl
        obtain ⟨m, hn, hl'⟩ := I.loc
        obtain ⟨u, r, l⟩ := hl' j x v qN eσ (.inr ok')
        refine ⟨u, r, ?_⟩
        rcases l with ⟨k, _⟩ | ⟨k, c, hc, hcell⟩
        · have k' : X.env.scope.names.lookup x = some .local := k
          rcases ok' with z | z
          · rw [z] at k'; cases k'
          · rw [z] at k'; cases k'
        · obtain ⟨c', hc'⟩ := Option.isSome_iff_exists.mp (clOf_has (cells := X.env.cells) (x := x) (acc := []) (.inr ⟨_, PySem.mem_of_lookup qF, rfl, rfl⟩))
          have e' := sub x c' hc'
          rw [hc] at e'; cases e'
          obtain ⟨o, ho', hd'⟩ := hcell
          exact .inr ⟨relabel_free qF, c, hc', ⟨o, keep c o ho', hd'⟩⟩
  · obtain ⟨v, o, ho', hd'⟩ := I.cell x c (sub x c e)
    exact ⟨v, o, keep c o ho', hd'⟩
  · have hp : p ∈ (X.pn ++ pins) ++ [(D, ob)] := hp
    rcases List.mem_append.mp hp with z | z
    · obtain ⟨a1, a2, a3, a4, a5⟩ := I.pin p z
      refine ⟨keep _ _ a1, a2, Nat.ne_of_lt (Nat.lt_of_lt_of_le (lt a1) hC), fun hb => ?_, a5⟩
      rcases List.mem_cons.mp (I.stkSub _ hb) with y | y
      · exact a3 y
      · exact a4 y
    · have z : p = (D, ob) := List.mem_singleton.mp z
      subst z
      exact ⟨hl, fresh hD, hDC, nst hD, hob⟩
  · show (slotsOf pick σ).length = N.length
    unfold slotsOf
    rw [List.length_map, hpl]
end

/-- the loop of a comprehension that raises nothing -/
theorem comp_turns {prog : Program} {w : World} {A : Around} {R : Result → Shared → Prop} {s : Shared} {elt tg iter : Expr} {ifs : List Expr} {scope : Scope} {pos : Pos} {it acc : Value} {env : Env} (J : Nat → Shared → Prop)
    (turn : ∀ n s, J n s → wpAny (model prog w) A (pyNext it) (fun r s₁ => match r with
      | none => R (.ok .next) s₁
      | some v => wpAny (model prog w) A (letOwnedTupleGo tg it v) (fun _ s₂ => wpAny (model prog w) A (assign tg env v) (fun _ s₃ =>
          wpAny (model prog w) A (forIn ifs true fun c r => if r = true then do let ok ← isTrue c env (eval c env); pure (ForInStep.yield ok) else pure (ForInStep.yield r)) (fun ok s₄ =>
            if ok = true then wpAny (model prog w) A (eval elt env) (fun x s₅ => wpAny (model prog w) A (call (.builtin "list.append") [acc, x]) (fun _ s₆ => ∃ m, m < n ∧ J m s₆) (fun _ _ => False) s₅) (fun _ _ => False) s₄
            else ∃ m, m < n ∧ J m s₄) (fun _ _ => False) s₃) (fun _ _ => False) s₂) (fun _ _ => False) s₁) (fun _ _ => False) s)
    (n : Nat) (h : J n s) : codeAny (model prog w) A (.compLoop (.ListComp elt [⟨tg, iter, ifs, 0⟩] scope pos) 0 it acc env) R s := by
  have no : ∀ {E : Value → Shared → Prop} (x : Value) (s' : Shared), False → E x s' := fun _ _ z => z.elim
  refine codeAny_loop rfl J (fun k s' hJ => ?_) n h
  show wpAny (model prog w) A ((compTurn (.ListComp elt [⟨tg, iter, ifs, 0⟩] scope pos) 0 it acc env).onRaise (fun e => do noteFrame e env; theTreesLotGoes e)) _ _ s'
  refine wpAny_noted ?_
  rw [compTurn_list]
  refine wpAny_bind (wpAny_standAt (wpAny_bind (wpAny_mono (turn k s' hJ) (fun r s₁ h₁ => ?_) no)))
  cases r with
  | none => exact wpAny_pure h₁
  | some v =>
    refine wpAny_bind (wpAny_mono h₁ (fun _ s₂ h₂ => ?_) no)
    refine wpAny_bind (wpAny_mono h₂ (fun _ s₃ h₃ => ?_) no)
    refine wpAny_bind (wpAny_mono h₃ (fun ok s₄ h₄ => ?_) no)
    cases ok with
    | true =>
      simp only [if_true] at h₄ ⊢
      exact wpAny_bind (wpAny_bind (wpAny_mono h₄ (fun x s₅ h₅ => wpAny_bind (wpAny_mono h₅ (fun _ s₆ h₆ => wpAny_pure (wpAny_pure ⟨rfl, h₆⟩)) no)) no))
    | false =>
      simp only [Bool.false_eq_true, if_false] at h₄ ⊢
      exact wpAny_bind (wpAny_pure (wpAny_pure ⟨rfl, h₄⟩))

/-- an untracked object is tracked from now on -/
theorem HOk.track {P : Program} {w : World} {H : Hp} {h : Heap} {a : Addr} {o : HO} (x : HOk P w H h) (hn : H a = none) (new : ObjOk P w (upd H a o) h a o) : HOk P w (upd H a o) h := fun b u e => by
  by_cases hb : b = a
  · subst hb; rw [upd_same] at e; cases e; exact new
  · rw [upd_ne hb] at e
    exact (x b u e).stay (fun c v _ q => q) (fun c q => by rw [upd_ne (ne_of_none q hn)]; exact q) fun c xs q => by rw [upd_ne (ne_of_none q hn)]; exact q
end L2
end
section
set_option Elab.async false
set_option linter.all false
set_option maxRecDepth 100000
set_option maxHeartbeats 4000000
namespace L2
open PySem PySem.Spec PyProof.Rows

/-- the tests of a clause -/
def PTs (X : Cx) (ifs : List Expr) (t : TT) : Prop :=
  ∀ (pins : List (Addr × Obj)) (s : Shared) (σ : St) (H : Hp) (Q : Bool → Hp → Prop), Inv X pins σ H s → t σ H Q →
    wpAny (model X.prog X.w) X.A (forIn ifs true fun c r => if r = true then do let ok ← isTrue c X.env (eval c X.env); pure (ForInStep.yield ok) else pure (ForInStep.yield r)) (TP X pins σ Q) X.xe s
def tYes : TT := fun _ H Q => Q true H
theorem pts_nil {X : Cx} : PTs X [] tYes := fun _ _ _ H _ I h => wpAny_tests_nil ⟨H, I, h⟩
/-- what was known of the slots is known still -/
def Keep (σ σ' : St) : Prop := σ'.length = σ.length ∧ ∀ (i : Nat) v, σ[i]? = some (some v) → σ'[i]? = some (some v)
/-- pick: for each name within its slot without -/
def tComp (pick : List (Option Nat)) (wi : TI) (g : TG) (tc : TT) (te : TE) : TE := fun σ H Q => wi σ H fun J H1 => ∃ W : Nat → Nat → List V → Hp → Prop, (∃ m, W 0 m [] H1) ∧ ∀ i m acc H, W i m acc H →
  (J.stop i H ∧ acc.length ≤ sizeLine ∧ ∀ p, H p = none → Q (.ref p) (upd H p (.lst acc))) ∨
  (J.go i H ∧ acc.length < sizeLine ∧ ∃ Nx : List V → Hp → Prop, (∀ acc' H', Nx acc' H' → ∃ m', m' < m ∧ W (i + 1) m' acc' H') ∧
    ∀ x H', J.yld i H x H' → g x (slotsOf pick σ) H' fun σ2 H2 => Keep (slotsOf pick σ) σ2 ∧ tc σ2 H2 fun b H3 => if b = true then te σ2 H3 fun y H4 => Nx (acc ++ [y]) H4 else Nx acc H3)

/-- the block of a comprehension: fin tells what is done with its list -/
theorem comp_gen {X : Cx} {N : List Str} {pick : List (Option Nat)} {elt tg iter : Expr} {ifs : List Expr} {scope : Scope} {pos p0 : Pos} {wi : TI} {g : TG} {tc : TT} {te : TE} {use : Option (Value → Sem Unit)} {Q' : Value → Shared → Prop} {pins : List (Addr × Obj)} {s : Shared} {σ : St} {H : Hp} {Q : VK} (hc : X.calm = true)
    (hs : scopeOk X.env.scope.names scope.names = true) (hp : pickOk X.N scope.names N pick = true) (hk : scope.kind = .function) (hi : PI X tg iter wi)
    (hg : ∀ C s H fp pins, PG (cxComp X N scope C s H fp pins) tg g) (ht : ∀ C s H fp pins, PTs (cxComp X N scope C s H fp pins) ifs tc) (he : ∀ C s H fp pins, PE (cxComp X N scope C s H fp pins) elt te)
    (hfs : ∀ x, foldedSetIterable iter X.env x = pure x) (I : Inv X pins σ H s) (h : tComp pick wi g tc te σ H Q)
    (fin : ∀ (D C : Addr) (Hx : Hp) (s4 : Shared), (∃ m, s4.heap.Ns C m) → (∀ h', Heap.SameBut C s4.heap h' → Inv X pins σ Hx { s4 with heap := h' }) → Hx C = none → C ≠ X.env.locals → X.s₀.heap.objs.size ≤ C → (∀ x c, X.env.cells.lookup x = some c → c ≠ C) → (∀ p ∈ X.pn ++ pins, p.1 ≠ C) → Q (.ref D) Hx →
      compPost (model X.prog X.w) X.A X.xe use Q' (.ref D) C (.ok .next) s4) :
    wpAny (model X.prog X.w) X.A (comprehension (.ListComp elt [⟨tg, iter, ifs, 0⟩] scope pos) scope X.env p0 (newList []) false (eval iter X.env) use) Q' X.xe s := by
  have no : ∀ {E : Value → Shared → Prop} (x : Value) (s' : Shared), False → E x s' := fun _ _ z => z.elim
  refine wpAny_comprehension_free rfl hfs (closureFor_is (cells_of I hs)) hk (scopeOk.loc hs) (thn (hi pins s σ H _ I h) fun v s1 h1 => thn h1 fun itv s2 h2 => ?_)
  obtain ⟨it, fp, tn, J, H2, e, I2, Tn, st2, f2, W, ⟨m0, w0⟩, turn⟩ := h2
  subst e
  refine wpAny_newObj_type (wpAny_newFunctionEnv (scopeOk.cell hs) (by intro y hy; simp at hy) (fun h₁ hns hsb => ?_) hk)
  dsimp only at hns hsb ⊢
  generalize hG : s2.heap.push { cls := .type "list", dict := none, data := .seq ([] : List Value).toArray } = G at hns hsb ⊢
  have hC : G.objs.size = s2.heap.objs.size + 1 := by rw [← hG, Heap.size_push]
  have hDC : s2.heap.objs.size ≠ G.objs.size := by rw [hC]; exact Nat.ne_of_lt (Nat.lt_succ_self _)
  have hCl : s2.heap.objs.size ≤ G.objs.size := by rw [hC]; exact Nat.le_succ _
  have low : ∀ {b o}, s2.heap.get? b = some o → b ≠ G.objs.size := fun e => by rw [hC]; exact Nat.ne_of_lt (Nat.lt_succ_of_lt (Heap.lt_size e))
  have low2 : ∀ {b o}, s2.heap.get? b = some o → b ≠ s2.heap.objs.size := fun e => Nat.ne_of_lt (Heap.lt_size e)
  have old : ∀ b o, s2.heap.get? b = some o → h₁.get? b = some o := fun b o e => hsb.extBut b o (low e) (Heap.get?_push_of_some _ (hG ▸ Heap.get?_push_of_some _ e))
  have hD : h₁.get? s2.heap.objs.size = some { cls := .type "list", data := .seq ([] : List Value).toArray } := hsb.extBut _ _ hDC (Heap.get?_push_of_some _ (hG ▸ Heap.get?_push_size _ rfl))
  have I3 : Inv (cxComp X N scope G.objs.size s2 H2 fp pins) [(s2.heap.objs.size, { cls := .type "list", data := .seq ([] : List Value).toArray })] (slotsOf pick σ) H2 { s2 with heap := h₁, toks := s2.toks + ([] : List (Str × Value)).length } :=
    inv_comp I2 hs hp hk f2 (Tn.obj 0 _ st2) hCl (Nat.le_refl _) hDC old hns hD (fun v z => by cases z)
  have cellLt : ∀ x c, (clOf scope.names X.env.cells []).lookup x = some c → c < s2.heap.objs.size := fun x c e => by
    obtain ⟨v, q⟩ := I2.cell x c (clOf_sub (cells_of I2 hs) (fun z => by cases z) e)
    exact q.lt
  have fpLt : ∀ b ∈ fp, b < s2.heap.objs.size := fun b hb => by
    obtain ⟨o, e, _⟩ := Tn.obj 0 _ st2 b hb
    exact Heap.lt_size e
  have pinLt : ∀ p ∈ X.pn ++ pins, p.1 < s2.heap.objs.size := fun p hp' => Heap.lt_size (I2.pin p hp').1
  have stat : ∀ {H' : Hp} {ob : Obj}, (∀ b ∈ fp, H' b = none) → ∀ b ∈ fp, FpOk (cxComp X N scope G.objs.size s2 H2 fp pins) [(s2.heap.objs.size, ob)] H' b := fun {H' ob} hn b hb => by
    refine ⟨hn b hb, ?_, fun z => ?_, .inl hb, fun x c e => ?_, fun p hp' => ?_⟩
    · show b ≠ G.objs.size
      rw [hC]; exact Nat.ne_of_lt (Nat.lt_succ_of_lt (fpLt b hb))
    · have z : b ∈ frs X.stack := z
      rcases List.mem_cons.mp (I2.stkSub b z) with y | y
      · exact (f2 b hb).2.1 y
      · exact (f2 b hb).2.2.1 y
    · exact (f2 b hb).2.2.2.2.1 x c (clOf_sub (cells_of I2 hs) (fun z => by cases z) e)
    · have hp' : p ∈ (X.pn ++ pins) ++ [(s2.heap.objs.size, ob)] := hp'
      rcases List.mem_append.mp hp' with z | z
      · exact (f2 b hb).2.2.2.2.2 p z
      · have z : p = (s2.heap.objs.size, ob) := List.mem_singleton.mp z
        subst z
        exact Nat.ne_of_gt (fpLt b hb)
  have loop : ∀ s3 : Shared, s3 = { s2 with heap := h₁, toks := s2.toks + ([] : List (Str × Value)).length } →
      codeAny (model X.prog X.w) X.A (.compLoop (.ListComp elt [⟨tg, iter, ifs, 0⟩] scope pos) 0 (.ref it) (.ref s2.heap.objs.size) (compEnvC scope (clOf scope.names X.env.cells []) G.objs.size X.env))
        (compPost (model X.prog X.w) X.A X.xe use Q' (.ref s2.heap.objs.size) G.objs.size) s3 := by
    rintro s3 rfl
    refine comp_turns (fun n s' => ∃ i acc its k H', Inv (cxComp X N scope G.objs.size s2 H2 fp pins) [(s2.heap.objs.size, { cls := .type "list", data := .seq (its : List Value).toArray k })] (slotsOf pick σ) H' s' ∧ Vals acc its ∧ tn i s'.heap ∧ (∀ b ∈ fp, H' b = none) ∧ W i n acc H') ?_ m0
      ⟨0, [], [], 0, H2, I3, .nil, Tn.keep _ _ _ st2 fun b hb o e => old b o e, fun b hb => (f2 b hb).1, w0⟩
    rintro n s3 ⟨i, acc, its, k, H3, I3, rv, st3, fr3, w3⟩
    rcases turn i n acc H3 w3 with ⟨stop, hz, fin0⟩ | ⟨go, hz, Nx, hN, step⟩
    · refine wpAny_mono (Tn.done (cxComp X N scope G.objs.size s2 H2 fp pins) rfl rfl rfl hc i _ s3 _ H3 (fun _ _ => False) I3 (stat fr3) st3 stop) (fun r s4 hr => ?_) no
      obtain ⟨hr, I4⟩ := hr
      subst hr
      obtain ⟨m, hnC, _⟩ := I4.loc
      obtain ⟨p1, p2, p3, p4, p5⟩ := I4.pin (s2.heap.objs.size, _) (List.mem_append_right _ (List.mem_singleton.mpr rfl))
      have nC : H3 G.objs.size = none := I4.free
      have low3 : ∀ {b o}, X.s₀.heap.get? b = some o → b ≠ G.objs.size := fun e => by
        rw [hC]; exact Nat.ne_of_lt (Nat.lt_of_lt_of_le (Heap.lt_size e) (Nat.le_succ_of_le I2.sz))
      refine fin s2.heap.objs.size G.objs.size (upd H3 s2.heap.objs.size (.lst acc)) s4 ⟨m, hnC⟩ (fun h' sb => ?_) (by rw [upd_ne (Ne.symm hDC)]; exact nC) (fun z => ?_) (Nat.le_trans I2.sz hCl) (fun x c e => ?_) (fun p hp' => by rw [hC]; exact Nat.ne_of_lt (Nat.lt_succ_of_lt (pinLt p hp'))) (fin0 _ p2)
      rotate_left
      · obtain ⟨m', ⟨o', _, _, ho', _⟩, _⟩ := I2.loc
        exact low ho' z.symm
      · obtain ⟨v', o', ho', _⟩ := I2.cell x c e
        exact low ho'
      have kp : ∀ b o, b ≠ G.objs.size → s4.heap.get? b = some o → h'.get? b = some o := fun b o hb e => sb.extBut b o hb e
      have hok : HOk X.prog X.w H3 h' := fun b u e => by
        refine (I4.hok b u e).stay (fun c v hc' q => kp c v ?_ q) (fun _ q => q) fun _ _ q => q
        rcases hc' with z | z
        · rw [z]; exact ne_of_none e nC
        · exact ne_of_none z nC
      have hok' : HOk X.prog X.w (upd H3 s2.heap.objs.size (.lst acc)) h' := hok.track p2 ⟨hz, its, k, rv, kp _ _ hDC p1⟩
      have un := I4.base
      have un' : Un (frs X.stack) fp H2 (upd H3 s2.heap.objs.size (.lst acc)) s2.heap h' := by
        have f0 : H2 s2.heap.objs.size = none := I2.fresh
        refine ⟨fun b o e n' hb hx => kp b o (low e) (un.keep b o e n' hb hx), fun b o e n' hb hx => ?_, fun b o e n' hx => ?_, fun b o e hx => ?_, fun b xs e => ?_, fun b o u e => ?_, fun b ps e => ?_⟩
        · obtain ⟨sl, q⟩ := un.slot b o e n' hb hx
          exact ⟨sl, kp b _ (low e) q⟩
        · rw [upd_ne (low2 e)]; exact un.free b o e n' hx
        · obtain ⟨o', q⟩ := un.there b o e hx
          exact ⟨o', kp b o' (low e) q⟩
        · rw [upd_ne (ne_of_none e f0)]; exact un.tups b xs e
        · rw [upd_ne (ne_of_none e f0)]; exact un.frzs b o u e
        · obtain ⟨more, q⟩ := un.tbls b ps e
          exact ⟨more, by rw [upd_ne (ne_of_none e f0)]; exact q⟩
      have hos : s4.os = s2.os := I4.os
      refine I2.call' (s' := { s4 with heap := h' }) hos un' hok' I4.bare (fun b hb => ?_)
      exact ⟨(f2 b hb).2.2.2.1, (f2 b hb).2.1, (f2 b hb).2.2.2.2.1, (f2 b hb).2.2.2.2.2⟩
    · refine wpAny_mono (Tn.item (cxComp X N scope G.objs.size s2 H2 fp pins) rfl rfl rfl hc i _ s3 _ H3 (fun _ _ => False) I3 (stat fr3) st3 go) (fun r s4 hr => ?_) no
      obtain ⟨u, hr, h4⟩ := hr
      subst hr
      refine wpAny_mono h4 (fun _ s5 h5 => ?_) no
      obtain ⟨x, H5, I5, r5, y5, st5, fr5⟩ := h5
      have I5' := I5.pinned (stat fr5) (Tn.obj _ _ st5)
      refine wpAny_mono (hg _ _ _ _ _ _ s5 _ H5 x u _ I5' r5 (step x H5 y5)) (fun _ s6 h6 => ?_) no
      obtain ⟨σ6, H6, I6, kp6, q6⟩ := h6
      refine wpAny_mono (ht _ _ _ _ _ _ s6 σ6 H6 _ I6 q6) (fun ok s7 h7 => ?_) no
      obtain ⟨H7, I7, q7⟩ := h7
      -- the iterator's records behind the body
      have tnOf : ∀ {σ' : St} {H' : Hp} {s' : Shared} {pl : List (Addr × Obj)}, (∀ p ∈ pinsAt fp s5.heap, p ∈ pl) → Inv (cxComp X N scope G.objs.size s2 H2 fp pins) pl σ' H' s' → tn (i + 1) s'.heap ∧ ∀ b ∈ fp, H' b = none := fun {σ' H' s' pl} hpl I' => by
        refine ⟨Tn.keep _ _ _ st5 fun b hb o e => (I'.pin (b, o) (List.mem_append_right _ (hpl _ (mem_pinsAt hb e)))).1, fun b hb => ?_⟩
        obtain ⟨o, e, _⟩ := Tn.obj _ _ st5 b hb
        exact (I'.pin (b, o) (List.mem_append_right _ (hpl _ (mem_pinsAt hb e)))).2.1
      cases ok with
      | false =>
        rw [if_neg Bool.false_ne_true] at q7 ⊢
        obtain ⟨m', hm, w7⟩ := hN _ _ q7
        obtain ⟨t7, f7⟩ := tnOf (fun p hp' => List.mem_append_right _ hp') I7
        exact ⟨m', hm, i + 1, acc, its, k, H7, (I7.unpinned).weak (kp6.1.symm) (fun j v e => kp6.2 j v e), rv, t7, f7, w7⟩
      | true =>
        rw [if_pos rfl] at q7 ⊢
        refine wpAny_mono (he _ _ _ _ _ _ s7 σ6 H7 _ I7 q7) (fun xv s8 h8 => ?_) no
        obtain ⟨y, H8, I8, r8, q8⟩ := h8
        obtain ⟨p1, p2, p3, p4, p5⟩ := I8.pin (s2.heap.objs.size, _) (List.mem_append_right _ (List.mem_append_left _ (List.mem_singleton.mpr rfl)))
        have hl := rv.length
        refine wpAny_list_append_plain (items := its.toArray) ⟨k, p1⟩ (fun h' il sb => ?_) (by rw [List.size_toArray]; omega)
        obtain ⟨k', e'⟩ := il
        obtain ⟨t8, f8⟩ := tnOf (fun p hp' => List.mem_append_right _ hp') I8
        have I8' : Inv (cxComp X N scope G.objs.size s2 H2 fp pins) [] σ6 H8 s8 := I8.pins_of fun p hp' => by cases hp'
        have I9 : Inv (cxComp X N scope G.objs.size s2 H2 fp pins) [] σ6 H8 { s8 with heap := h' } := I8'.turned (t' := s8.toks) (it := s2.heap.objs.size) (fun b o hb e => sb.extBut b o hb e) p2 hDC (.inr (Nat.le_refl _)) (fun x c e => Nat.ne_of_lt (cellLt x c e)) (fun p hp' => by
          have hp' : p ∈ (X.pn ++ pins) ++ [] := hp'
          rw [List.append_nil] at hp'
          exact Nat.ne_of_lt (pinLt p hp'))
        have e'' : h'.get? s2.heap.objs.size = some { cls := .type "list", data := .seq (its ++ [xv]).toArray k' } := by rw [e']; simp
        have I10 : Inv (cxComp X N scope G.objs.size s2 H2 fp pins) [(s2.heap.objs.size, { cls := .type "list", data := .seq (its ++ [xv]).toArray k' })] σ6 H8 { s8 with heap := h' } := I9.pins_of fun p hp' => by
          have hp' : p = (s2.heap.objs.size, _) := List.mem_singleton.mp hp'
          subst hp'
          exact ⟨e'', p2, p3, p4, fun v z => by cases z⟩
        obtain ⟨m', hm, w8⟩ := hN _ _ q8
        refine ⟨m', hm, i + 1, acc ++ [y], its ++ [xv], k', H8, I10.weak (kp6.1.symm) (fun j v e => kp6.2 j v e), rv.append (.cons r8 .nil), ?_, f8, w8⟩
        refine Tn.keep _ _ _ t8 fun b hb o e => sb.extBut b o (Nat.ne_of_lt (fpLt b hb)) e
  exact codeAny_compStart_list (loop _ rfl) (Tn.self _ 0 _ _ _ (Tn.keep _ _ _ st2 fun b hb o e => old b o e) (loop _ rfl))

theorem pe_comp {X : Cx} {N : List Str} {pick : List (Option Nat)} {elt tg iter : Expr} {ifs : List Expr} {scope : Scope} {pos : Pos} {wi : TI} {g : TG} {tc : TT} {te : TE} (hc : X.calm = true)
    (hs : scopeOk X.env.scope.names scope.names = true) (hp : pickOk X.N scope.names N pick = true) (hk : scope.kind = .function) (hi : PI X tg iter wi)
    (hg : ∀ C s H fp pins, PG (cxComp X N scope C s H fp pins) tg g) (ht : ∀ C s H fp pins, PTs (cxComp X N scope C s H fp pins) ifs tc) (he : ∀ C s H fp pins, PE (cxComp X N scope C s H fp pins) elt te)
    (hfs : ∀ x, foldedSetIterable iter X.env x = pure x := by intro _; rfl) : PE X (.ListComp elt [⟨tg, iter, ifs, 0⟩] scope pos) (tComp pick wi g tc te) := by
  intro pins s σ H Q I h
  rw [eval_ListComp]
  exact comp_gen hc hs hp hk hi hg ht he hfs I h fun D C Hx s4 ⟨m, hn⟩ hI _ _ _ _ _ q => ⟨m, hn, fun h' sb => ⟨.ref D, Hx, hI h' sb, rfl, q⟩⟩
/-- name = [..] -/
theorem ps_setComp {X : Cx} {N : List Str} {pick : List (Option Nat)} {elt tg iter : Expr} {ifs : List Expr} {scope : Scope} {pos spos : Pos} {wi : TI} {g : TG} {tc : TT} {te : TE} {i : Nat} {y : Str} {py : Pos} (hc : X.calm = true)
    (hs : scopeOk X.env.scope.names scope.names = true) (hp : pickOk X.N scope.names N pick = true) (hk : scope.kind = .function) (hi : PI X tg iter wi)
    (hg : ∀ C s H fp pins, PG (cxComp X N scope C s H fp pins) tg g) (ht : ∀ C s H fp pins, PTs (cxComp X N scope C s H fp pins) ifs tc) (he : ∀ C s H fp pins, PE (cxComp X N scope C s H fp pins) elt te)
    (hN : X.N.Nodup) (hy : X.N[i]? = some y) (hx : Loc X.env.scope y) (hsw : swapsWith (.ListComp elt [⟨tg, iter, ifs, 0⟩] scope pos) (some (.Name y py)) spos.line X.env = pure true) (hf : X.fn y = true ∨ X.env.scope.names.lookup y = some .local)
    (hfs : ∀ x, foldedSetIterable iter X.env x = pure x := by intro _; rfl) : PS X (.Assign [.Name y py] (.ListComp elt [⟨tg, iter, ifs, 0⟩] scope pos) spos) (tAsg (tComp pick wi g tc te) (gName i)) := by
  intro pins s σ H D I h
  rw [exec_Assign_Name_used _ _ _ _ hsw]
  refine wpAny_bind (wpAny_standAt (wpAny_bind ?_))
  show wpAny _ X.A (do let _ ← comprehension (.ListComp elt [⟨tg, iter, ifs, 0⟩] scope pos) scope X.env _ (newList []) false (eval iter X.env) (some (assign (.Name y py) X.env))) _ _ s
  refine wpAny_bind (wpAny_mono (comp_gen (Q' := fun _ s' => ∃ σ' H', Inv X pins σ' H' s' ∧ D.nx σ' H') hc hs hp hk hi hg ht he hfs I h fun L C Hx s4 hn hI nC nL sz cs ps q => ?_) (fun _ s' hq => wpAny_pure (wpAny_pure hq)) fun _ _ e => e)
  obtain ⟨m, hn⟩ := hn
  have I4 : Inv X pins σ Hx s4 := hI s4.heap ⟨rfl, fun _ _ => rfl⟩
  show wpAny _ X.A (assign (.Name y py) X.env (.ref L)) _ _ s4
  refine wpAny_assign_Name (store_ok2 I4 hN hy hx (v := .ref L) rfl (fun s5 I5 ⟨a, sb, ha⟩ => ?_) hf)
  have na : C ≠ a := by
    rcases ha with rfl | ha
    · exact nL
    · exact fun z => cs y a ha z.symm
  refine ⟨m, hn.sameBut sb na, fun h' sb' => ⟨_, _, I5.turned (t' := s5.toks) (it := C) (fun b o hb e => sb'.extBut b o hb e) nC nL (.inr sz) cs ps, q⟩⟩
end L2
end
section
set_option Elab.async false
set_option linter.all false
set_option maxRecDepth 100000
set_option maxHeartbeats 4000000
namespace L2
open PySem PySem.Spec PyProof.Rows
section
variable {X : Cx}
def Its (x : Str) : It := ⟨fun i _ => i < x.cps.size, fun i H v H' => H' = H ∧ ∃ c, x.cps[i]? = some c ∧ v = .str ⟨#[c]⟩, fun i _ => i = x.cps.size⟩
theorem go_str {M : Model} {A : Around} {E : Value → Shared → Prop} {s : Shared} {tg : Expr} {it : Addr} {x : Str} {t : Tok} {Q : Unit → Shared → Prop} (hQ : Q () s) : wpAny M A (letOwnedTupleGo tg (.ref it) (.str x t)) Q E s := by
  unfold letOwnedTupleGo
  cases tg <;> exact wpAny_pure hQ
theorem turn_str {P : Program} {w : World} {K : PySem.W.Frag} {tg : Expr} {it : Addr} {x : Str} {t : Tok} {nm : String}
    (W : ∀ A' : Around, A'.handled = none → Walks P w A' it [it] [it] x.cps.size (SignAt x) (fun i h => h.IsStrIter it nm x t i))
    (hself : ∀ (A : Around) (i : Nat) (s : Shared) (Q : Value → Shared → Prop) (E : Value → Shared → Prop), s.heap.IsStrIter it nm x t i → Q (.ref it) s → wpAny (model P w) A (pyIter (.ref it)) Q E s) : Turn P w K tg (Its x) [it] it (fun i h => h.IsStrIter it nm x t i) where
  mem := by simp
  obj := fun i h st b hb => by
    have e : b = it := by simpa using hb
    subst e
    obtain ⟨o, e, c, d⟩ := st
    exact ⟨o, e, fun v z => by rw [d] at z; cases z⟩
  keep := fun i h h' st k => by
    obtain ⟨o, e, r⟩ := st
    exact ⟨o, k it (by simp) o e, r⟩
  item := by
    intro X hP hw hK hc i pins s σ H E I hf st hg
    subst hP hw hK
    obtain ⟨f0, f1, f2, f3, f4, f5⟩ := hf it (by simp)
    refine (W X.A (I.ok.hd hc)).item i s _ _ hg st fun v h' tk hv st' kk => ?_
    obtain ⟨c, u, hcu, rfl⟩ := hv
    have I1 : Inv X pins σ H { s with heap := h', toks := tk } := I.turned (fun b o hb e => kk b o (by simpa using hb) e) f0 f1 f3 f4 f5
    exact ⟨_, rfl, go_str ⟨.str ⟨#[c]⟩, H, I1, ⟨u, rfl⟩, ⟨rfl, c, hcu, rfl⟩, st', fun b hb => (hf b hb).1⟩⟩
  done := by
    intro X hP hw hK hc i pins s σ H E I hf st hg
    subst hP hw hK
    obtain ⟨f0, f1, f2, f3, f4, f5⟩ := hf it (by simp)
    have hg : i = x.cps.size := hg
    subst hg
    refine (W X.A (I.ok.hd hc)).done s _ _ st fun h' tk kk => ⟨rfl, I.turned (fun b o hb e => kk b o (by simpa using hb) e) f0 f1 f3 f4 f5⟩
  self := hself
/-- what a loop walks: a list, a tuple, a text -/
def iAny (K : PySem.W.Frag) (tl : TE) : TI := fun σ H R => tl σ H fun x H1 => (∃ a, x = .ref a ∧ (((∃ xs, SqL K H1 a xs) ∧ R (Itl K a) H1) ∨ ((∃ xs, SqT K H1 a xs) ∧ R (Itt K a) H1))) ∨ ∃ z, x = .str z ∧ R (Its z) H1
theorem pi_any {tg iter : Expr} {tl : TE} (hl : PE X iter tl) : PI X tg iter (iAny X.K tl) := by
  intro pins s σ H R I h
  refine thn (hl pins s σ H _ I h) fun v s1 hv => ?_
  obtain ⟨x, H1, I1, r1, q1⟩ := hv
  have fresh : ∀ b ∈ [s1.heap.objs.size], FpOk X pins H1 b := fun b hb => by rw [List.mem_singleton.mp hb]; exact I1.fpOk (Nat.le_refl _) (I1.hok.fresh (Nat.le_refl _))
  rcases q1 with ⟨l, e, q⟩ | ⟨z, e, q⟩
  · subst e
    cases r1
    rcases q with ⟨⟨xs, hq⟩, q⟩ | ⟨⟨xs, hq⟩, q⟩
    · obtain ⟨its, rv, p, hz⟩ := I1.list hq
      exact wpAny_pyIter_list p.isList ⟨s1.heap.objs.size, [s1.heap.objs.size], _, _, H1, rfl, I1.kept (t' := s1.toks) (fun b o e => Heap.get?_push_of_some _ e), turn_list l _, ⟨_, Heap.get?_push_size _ rfl, rfl, rfl⟩, fresh, q⟩
    · obtain ⟨its, rv, p, hz⟩ := I1.tuple hq
      exact wpAny_pyIter_tuple (show s1.heap.IsTuple l its.toArray from p) ⟨s1.heap.objs.size, [s1.heap.objs.size], _, _, H1, rfl, I1.kept (t' := s1.toks) (fun b o e => Heap.get?_push_of_some _ e), turn_tuple l _, ⟨_, Heap.get?_push_size _ rfl, rfl, rfl⟩, fresh, q⟩
  · subst e
    obtain ⟨t, rfl⟩ := r1
    cases ha : z.cps.all (· < 128)
    · exact wpAny_pyIter_wide ha ⟨s1.heap.objs.size, [s1.heap.objs.size], _, _, H1, rfl, I1.kept (t' := s1.toks) (fun b o e => Heap.get?_push_of_some _ e), turn_str (x := z) (t := t) (fun A' hA => Walks.strWide hA _ z t) (fun _ _ _ _ _ st h => wpAny_pyIter_striter_wide st h), ⟨_, Heap.get?_push_size _ rfl, rfl, rfl⟩, fresh, q⟩
    · exact wpAny_pyIter_ascii ha ⟨s1.heap.objs.size, [s1.heap.objs.size], _, _, H1, rfl, I1.kept (t' := s1.toks) (fun b o e => Heap.get?_push_of_some _ e), turn_str (x := z) (t := t) (fun A' hA => Walks.strAscii hA _ z t) (fun _ _ _ _ _ st h => wpAny_pyIter_striter_ascii st h), ⟨_, Heap.get?_push_size _ rfl, rfl, rfl⟩, fresh, q⟩

/-- x[lo:hi] of a text -/
def rSlS : V → Option Int → Option Int → Hp → VK → Prop := fun x lo hi H Q => ∃ z, x = .str z ∧ z.length ≤ sizeLine ∧ Q (.str (Txt.slice z lo hi)) H
theorem sl_str : SlR X rSlS := by
  intro pins s σ H x v vl vu lo hi sl Q I rx hs pl pu h
  obtain ⟨z, rfl, hz, q⟩ := h
  obtain ⟨t, rfl⟩ := rx
  have fin : ∀ t' k, EP X pins σ Q (.str (Txt.slice z lo hi) t') { s with toks := k } := fun t' k => ⟨.str _, H, I.tok k, ⟨_, rfl⟩, q⟩
  refine ⟨"str", _, F.slot_str_getitem.lookup, typeIs_str _ _ _, ?_⟩
  cases pl with
  | none =>
    cases pu with
    | none => exact wpAny_getItem_str_slice (l := none) (u := none) (st := none) hs rfl (post_val_or_str ⟨Nat.le_trans (Txt.slice_le z _ _) hz, fin⟩)
    | int j uj => exact wpAny_getItem_str_slice (l := none) (u := some (j, uj)) (st := none) hs rfl (post_val_or_str ⟨Nat.le_trans (Txt.slice_le z _ _) hz, fin⟩)
  | int i ui =>
    cases pu with
    | none => exact wpAny_getItem_str_slice (l := some (i, ui)) (u := none) (st := none) hs rfl (post_val_or_str ⟨Nat.le_trans (Txt.slice_le z _ _) hz, fin⟩)
    | int j uj => exact wpAny_getItem_str_slice (l := some (i, ui)) (u := some (j, uj)) (st := none) hs rfl (post_val_or_str ⟨Nat.le_trans (Txt.slice_le z _ _) hz, fin⟩)
end
end L2
end
section
set_option Elab.async false
set_option linter.all false
set_option maxRecDepth 100000
set_option maxHeartbeats 4000000
namespace L2
open PySem PySem.Spec PyProof.Rows
section
variable {X : Cx} {pins : List (Addr × Obj)} {σ : St} {H : Hp} {s : Shared} {h' : Heap}
/-- several untracked records of ours have turned -/
theorem Inv.turns {t' : Nat} {ch : List Addr} (I : Inv X pins σ H s) (k : ∀ b o, b ∉ ch → s.heap.get? b = some o → h'.get? b = some o) (hf : ∀ b ∈ ch, FpOk X pins H b) : Inv X pins σ H { s with heap := h', toks := t' } := by
  have nch : ∀ b u, H b = some u → b ∉ ch := fun b u e z => by rw [(hf b z).1] at e; cases e
  refine I.step (g' := s.gens) (d' := s.drawn) (ch := ch) (fun b hb => ⟨(hf b hb).2.2.2.1, (hf b hb).2.1, (hf b hb).2.2.2.2.1, (hf b hb).2.2.2.2.2⟩) (fun b o _ _ hc e _ => k b o hc e) (fun b o _ _ hc e _ => ⟨o.slots, k b o hc e⟩) (fun _ _ _ _ n => n)
    (fun b o hc e => ⟨o, k b o hc e⟩) (fun _ _ e => e) (fun _ _ _ e => e) (fun b ps e => ⟨#[], by rw [e]; simp⟩) (fun m hm => ?_) (fun b u e => ?_) I.bare
  · obtain ⟨o, es, ep, ho, r⟩ := hm
    exact ⟨o, es, ep, k _ o (fun z => (hf _ z).2.1 rfl) ho, r⟩
  · refine (I.hok b u e).stay (fun c v hc q => k c v ?_ q) (fun _ q => q) fun _ _ q => q
    rcases hc with z | z
    · rw [z]; exact nch b u e
    · exact nch c _ z
/-- a record of ours is tracked from now on -/
theorem Inv.track {a : Addr} {o : HO} (I : Inv X pins σ H s) (f : FpOk X pins H a) (new : ObjOk X.prog X.w (upd H a o) s.heap a o) : Inv X pins σ (upd H a o) s := by
  obtain ⟨f0, f1, f2, f3, f4, f5⟩ := f
  have nb : ∀ b ob, X.s₀.heap.get? b = some ob → b ∉ X.ex → b ≠ a := fun b ob e hx z => by
    subst z
    rcases f3 with q | q
    · exact hx q
    · exact absurd (Nat.lt_of_lt_of_le (Heap.lt_size e) q) (Nat.lt_irrefl _)
  refine ⟨I.ok, I.os, I.bare, ⟨I.base.keep, I.base.slot, fun b ob e n hx => ?_, I.base.there, fun b xs e => ?_, fun b ob u e => ?_, fun b ps e => ?_⟩, I.loc, I.cell, ?_, fun x c e => ?_, fun p hp => ?_, I.hok.track f0 new, I.len⟩
  · rw [upd_ne (nb b ob e hx)]; exact I.base.free b ob e n hx
  · have q := I.base.tups b xs e; rw [upd_ne (ne_of_none q f0)]; exact q
  · have q := I.base.frzs b ob u e; rw [upd_ne (ne_of_none q f0)]; exact q
  · obtain ⟨more, q⟩ := I.base.tbls b ps e
    exact ⟨more, by rw [upd_ne (ne_of_none q f0)]; exact q⟩
  · rw [upd_ne (Ne.symm f1)]; exact I.free
  · rw [upd_ne (f4 x c e)]; exact I.freeC x c e
  · obtain ⟨a1, a2, a3⟩ := I.pin p hp
    exact ⟨a1, by rw [upd_ne (f5 p hp)]; exact a2, a3⟩
end

section
variable {prog : Program} {w : World} {A : Around} {E : Value → Shared → Prop} {s : Shared}
end
end L2
end
section
set_option Elab.async false
set_option linter.all false
set_option maxRecDepth 100000
set_option maxHeartbeats 4000000
namespace L2
open PySem PySem.Spec PyProof.Rows
section
variable {prog : Program} {w : World} {A : Around} {E : Value → Shared → Prop} {s : Shared}
end
end L2
end
section
set_option Elab.async false
set_option linter.all false
set_option maxRecDepth 100000
set_option maxHeartbeats 4000000
namespace L2
open PySem PySem.Spec PyProof.Rows
end L2
end
section
set_option Elab.async false
set_option linter.all false
set_option maxRecDepth 100000
set_option maxHeartbeats 4000000
namespace L2
open PySem PySem.Spec PyProof.Rows
section
variable {X : Cx}
theorem kit_of {pins : List (Addr × Obj)} {σ : St} {H : Hp} {s : Shared} {x : V} {u t : Value} (I : Inv X pins σ H s) (rx : RelV x u) (ty : TyOf X.K H x t) : ∃ Hh : Heap → Prop, PySem.W.KitX X.K u t Hh ∧ Hh s.heap ∧ u ≠ .builtin "__main__.__loader__#opaque" := by
  cases ty with
  | non => cases (show u = Value.none from rx); exact ⟨_, PySem.W.kitx_none, True.intro, fun z => nomatch z⟩
  | bl y => cases (show u = Value.bool y from rx); exact ⟨_, PySem.W.kitx_bool, True.intro, fun z => nomatch z⟩
  | int i => obtain ⟨t, q⟩ := (show ∃ t, u = Value.int i t from rx); cases q; exact ⟨_, PySem.W.kitx_int, True.intro, fun z => nomatch z⟩
  | str y => obtain ⟨t, q⟩ := (show ∃ t, u = Value.str y t from rx); cases q; exact ⟨_, PySem.W.kitx_str, True.intro, fun z => nomatch z⟩
  | flt y => obtain ⟨t, q⟩ := (show ∃ t, u = Value.float y t from rx); cases q; exact ⟨_, PySem.W.kitx_float, True.intro, fun z => nomatch z⟩
  | @lst a xs ea =>
    cases (show u = Value.ref a from rx)
    obtain ⟨_, _, n, _, h1⟩ := (show ObjOk X.prog X.w H s.heap a (.lst xs) from I.hok a _ ea)
    exact ⟨_, PySem.W.kitx_list, ⟨_, h1, rfl⟩, fun z => nomatch z⟩
  | @frz a ob xs ea =>
    cases (show u = Value.ref a from rx)
    obtain ⟨_, _, _, n, _, h1⟩ := (show ObjOk X.prog X.w H s.heap a (.frz ob (.lst xs)) from I.hok a _ ea)
    exact ⟨_, PySem.W.kitx_list, ⟨_, h1, rfl⟩, fun z => nomatch z⟩
  | @tup a xs ea =>
    cases (show u = Value.ref a from rx)
    obtain ⟨_, _, _, p⟩ := (show ObjOk X.prog X.w H s.heap a (.tup xs) from I.hok a _ ea)
    obtain ⟨o, h1, h2, _⟩ := p
    exact ⟨_, PySem.W.kitx_tuple, ⟨o, h1, h2⟩, fun z => nomatch z⟩
  | @dK a kvs ea =>
    cases (show u = Value.ref a from rx)
    obtain ⟨_, _, vs, _, p⟩ := (show ObjOk X.prog X.w H s.heap a (.dK kvs) from I.hok a _ ea)
    obtain ⟨o, es, ep, h1, h2, _⟩ := p
    exact ⟨_, PySem.W.kitx_dict, ⟨o, h1, h2.1⟩, fun z => nomatch z⟩
  | @dT a kvs ea =>
    cases (show u = Value.ref a from rx)
    obtain ⟨_, _, xs, _, o, es, ep, h1, h2, _⟩ := (show ObjOk X.prog X.w H s.heap a (.dT kvs) from I.hok a _ ea)
    exact ⟨_, PySem.W.kitx_dict, ⟨o, h1, h2.1⟩, fun z => nomatch z⟩
  | @ins a C dx fs ea cl ha hn htk hm =>
    cases (show u = Value.ref a from rx)
    obtain ⟨mA, O, _⟩ := ins_get I.hok ea
    obtain ⟨od, J, _⟩ := O.look
    exact ⟨_, PySem.W.kitx_own (cl.get _) cl.hd ha hn htk hm, J, fun z => nomatch z⟩
/-- a value's type, the module's tuples too -/
def TyV (K : PySem.W.Frag) (H : Hp) (x : V) (t : Value) : Prop := TyOf K H x t ∨ (t = .type "tuple" ∧ ∃ a o, x = .ref a ∧ K.lookup a = some o ∧ o.cls = .type "tuple")
theorem kit_ofV {pins : List (Addr × Obj)} {σ : St} {H : Hp} {s : Shared} {x : V} {u t : Value} (I : Inv X pins σ H s) (rx : RelV x u) (ty : TyV X.K H x t) : ∃ Hh : Heap → Prop, PySem.W.KitX X.K u t Hh ∧ Hh s.heap ∧ u ≠ .builtin "__main__.__loader__#opaque" := by
  rcases ty with ty | ⟨rfl, a, o, rfl, hk, hc⟩
  · exact kit_of I rx ty
  · cases (show u = Value.ref a from rx)
    exact ⟨_, PySem.W.kitx_tuple, ⟨o, I.kIn a o hk, hc⟩, fun z => nomatch z⟩
def rIsi (K : PySem.W.Frag) : List V → Hp → VK → Prop := fun xs H Q => ∃ x t b, TyV K H x t ∧ ((∃ c, xs = [x, .ty c] ∧ PySem.W.kitOne K t (.type c) = some b) ∨ ∃ p c d, xs = [x, .ref p] ∧ SqT K H p [.ty c, .ty d] ∧ PySem.W.kitAny K t [.type c, .type d] = some b) ∧ Q (.bl b) H
theorem call_isiV : CallR X (.builtin "isinstance") (rIsi X.K) := by
  intro pins s σ H xs us Q I r h
  obtain ⟨x, t, b, ty, h, q⟩ := h
  have fin : ∀ tk, EP X pins σ Q (.bool b) { s with toks := tk } := fun tk => ⟨.bl b, H, I.tok tk, rfl, q⟩
  rcases h with ⟨c, rfl, e⟩ | ⟨p, c, d, rfl, hp, e⟩
  · obtain ⟨u, u2, rfl, r1, r2⟩ := vals2 r
    cases (show u2 = Value.type c from r2)
    obtain ⟨Hh, Z, hh, hne⟩ := kit_ofV I r1 ty
    exact PySem.W.kia_one Z I.kIn hh e hne fin
  · obtain ⟨u, u2, rfl, r1, r2⟩ := vals2 r
    cases (show u2 = Value.ref p from r2)
    obtain ⟨Hh, Z, hh, hne⟩ := kit_ofV I r1 ty
    obtain ⟨its, rv, pt, _⟩ := I.tuple hp
    obtain ⟨u, w', rfl, ru, rw'⟩ := rv.two
    cases (show u = Value.type c from ru)
    cases (show w' = Value.type d from rw')
    obtain ⟨⟨cls, dd, data, sl⟩, ho, hc, n, hd⟩ := pt
    simp only at hc hd
    subst hc hd
    exact PySem.W.kia_tup Z I.kIn hh ho e hne fin

def rCatU (K : PySem.W.Frag) : R2 := fun x y H Q => ∃ a b xs ys, x = .ref a ∧ y = .ref b ∧ SqT K H a xs ∧ SqT K H b ys ∧ xs.length + ys.length ≤ sizeLine ∧
  (xs = [] → Q (.ref b) H) ∧ (xs ≠ [] → ys = [] → Q (.ref a) H) ∧ (xs ≠ [] → ys ≠ [] → ∀ p, H p = none → Q (.ref p) (upd H p (.tup (xs ++ ys))))
theorem op_catU : OpR X (binaryOp .Add) (rCatU X.K) := by
  intro pins s σ H x y v u Q I rx ry h
  obtain ⟨a, b, xs, ys, rfl, rfl, ha, hb, hz, q0, q1, q2⟩ := h
  by_cases hx : xs = []
  · subst hx
    cases rx
    cases ry
    obtain ⟨its, r1, p1, _⟩ := I.tuple ha
    obtain ⟨its2, r2, p2, _⟩ := I.tuple hb
    obtain ⟨⟨cls, dd, data, sl⟩, ho, hc, n, hd⟩ := p1
    obtain ⟨⟨cls2, dd2, data2, sl2⟩, ho2, hc2, n2, hd2⟩ := p2
    simp only at hc hd hc2 hd2
    subst hc hd hc2 hd2
    exact concat_meets ⟨_, ho, rfl⟩ ⟨_, ho2, rfl⟩ noFill_tuple_add seq_tuple_add PySem.F.slot_tuple_add PySem.F.entry_tuple_add (PySem.F.args_tuple_add_2 _ _)
      (tuple_addW0 a b its.toArray its2.toArray n n2 dd dd2 sl sl2 (by rw [r1.nil_iff.mpr rfl]; rfl)) ⟨ho, ho2, ⟨.ref b, H, I, rfl, q0 rfl⟩⟩
  · exact op_catT pins s σ H _ _ v u Q I rx ry ⟨a, b, xs, ys, rfl, rfl, ha, hb, hx, hz, fun e => q1 hx e, fun e => q2 hx e⟩

theorem Vals.pick {xs : List V} {us : List Value} (r : Vals xs us) : ∀ ix : List Nat, Vals (ix.filterMap fun (i : Nat) => xs[i]?) (ix.filterMap fun (i : Nat) => us[i]?)
  | [] => .nil
  | i :: ix => by
    cases e : xs[i]? with
    | none => simp only [List.filterMap_cons, e, r.none_of e]; exact Vals.pick r ix
    | some x =>
      obtain ⟨u, hu, ru⟩ := r.get e
      simp only [List.filterMap_cons, e, hu]
      exact .cons ru (Vals.pick r ix)
section
variable {prog : Program} {w : World} {A : Around} {E : Value → Shared → Prop} {s : Shared}
end
end
end L2
end
section
set_option Elab.async false
set_option linter.all false
set_option maxRecDepth 100000
set_option maxHeartbeats 4000000
namespace L2
open PySem PySem.Spec PyProof.Rows
section
variable {X : Cx}
def rEqN (K : PySem.W.Frag) (neg : Bool) : R2 := fun x y H Q => ∃ a b xs, x = .ref a ∧ y = .ref b ∧ SqL K H a xs ∧ SqL K H b [] ∧ Q (.bl (Bool.xor neg xs.isEmpty)) H
theorem op_eqN (hu : X.A.units < cLine) : OpR X (compareOp .Eq) (rEqN X.K false) := by
  intro pins s σ H x y v u Q I rx ry h
  obtain ⟨a, b, xs, rfl, rfl, ha, hb, q⟩ := h
  cases rx
  cases ry
  obtain ⟨its, r1, p1, _⟩ := I.list ha
  obtain ⟨its2, r2, p2, _⟩ := I.list hb
  have e2 : its2 = [] := r2.nil_iff.mpr rfl
  subst e2
  by_cases hx : xs = []
  · subst hx
    have e1 : its = [] := r1.nil_iff.mpr rfl
    subst e1
    exact SeqAt.eq_listAt (e := fun _ => true) p1.isList p2.isList rfl hu (fun j h1 _ => absurd h1 (by simp)) ⟨.bl true, H, I, rfl, q⟩
  · have e1 : its ≠ [] := fun z => hx (r1.nil_iff.mp z)
    have e : xs.isEmpty = false := by cases xs with
      | nil => exact absurd rfl hx
      | cons => rfl
    refine SeqAt.eq_list_lengthsAt p1.isList p2.isList ?_ hu ⟨.bl false, H, I, rfl, by rw [e] at q; exact q⟩
    cases its with
    | nil => exact absurd rfl e1
    | cons => simp
theorem op_neN (hu : X.A.units < cLine) : OpR X (compareOp .NotEq) (rEqN X.K true) := by
  intro pins s σ H x y v u Q I rx ry h
  obtain ⟨a, b, xs, rfl, rfl, ha, hb, q⟩ := h
  cases rx
  cases ry
  obtain ⟨its, r1, p1, _⟩ := I.list ha
  obtain ⟨its2, r2, p2, _⟩ := I.list hb
  have e2 : its2 = [] := r2.nil_iff.mpr rfl
  subst e2
  by_cases hx : xs = []
  · subst hx
    have e1 : its = [] := r1.nil_iff.mpr rfl
    subst e1
    exact SeqAt.RcNeAt.lists (e := fun _ => true) p1.isList p2.isList rfl hu (fun j h1 _ => absurd h1 (by simp)) X.prog X.w _ _ ⟨.bl false, H, I, rfl, q⟩
  · have e1 : its ≠ [] := fun z => hx (r1.nil_iff.mp z)
    have e : xs.isEmpty = false := by cases xs with
      | nil => exact absurd rfl hx
      | cons => rfl
    refine SeqAt.RcNeAt.lists_lengths p1.isList p2.isList ?_ hu X.prog X.w _ _ ⟨.bl true, H, I, rfl, by rw [e] at q; exact q⟩
    cases its with
    | nil => exact absurd rfl e1
    | cons => simp

end
end L2
end
section
set_option Elab.async false
set_option linter.all false
set_option maxRecDepth 100000
set_option maxHeartbeats 4000000
namespace TL
open PySem PySem.Spec PyProof.Rows L2

inductive T where
  | non | bl (b : Bool) | int (i : Int) | str (x : Str) | ty (n : String)
  | tup (ts : List T) | lst (ts : List T) | fls (ts : List T) | dct (kts : List (Key × T)) | ref (a : Addr)
inductive Cell where
  | lst (ts : List T) | dct (kts : List (Key × T)) | ins (C : Addr) (fs : List (Str × T))
abbrev TH := Addr → Option Cell
def updT (S : TH) (a : Addr) (c : Cell) : TH := fun b => if b = a then some c else S b
def delT (S : TH) (a : Addr) : TH := fun b => if b = a then none else S b
theorem updT_same {S : TH} {a : Addr} {c : Cell} : updT S a c a = some c := by unfold updT; rw [if_pos rfl]
theorem updT_ne {S : TH} {a b : Addr} {c : Cell} (h : b ≠ a) : updT S a c b = S b := by unfold updT; rw [if_neg h]
theorem delT_same {S : TH} {a : Addr} : delT S a a = none := by unfold delT; rw [if_pos rfl]
theorem delT_ne {S : TH} {a b : Addr} (h : b ≠ a) : delT S a b = S b := by unfold delT; rw [if_neg h]

def KL (K : PySem.W.Frag) (a : Addr) (vs : List V) : Prop := ∃ (o : Obj) (its : Array Value) (n : Nat), K.lookup a = some o ∧ o.cls = .type "list" ∧ o.dict = none ∧ o.data = .seq its n ∧ its.size ≤ sizeLine ∧ Vals vs its.toList
def KTu (K : PySem.W.Frag) (a : Addr) (vs : List V) : Prop := ∃ (o : Obj) (its : Array Value) (n : Nat), K.lookup a = some o ∧ o.cls = .type "tuple" ∧ o.data = .seq its n ∧ its.size ≤ sizeLine ∧ Vals vs its.toList
def FL (S : TH) (H : Hp) (a : Addr) (vs : List V) : Prop := S a = none ∧ H a = some (.lst vs)
/-- the script, or a list of the module's: only read -/
def FX (K : PySem.W.Frag) (S : TH) (H : Hp) (a : Addr) (vs : List V) : Prop := (S a = none ∧ ∃ o, H a = some (.frz o (.lst vs))) ∨ KL K a vs
def FT (K : PySem.W.Frag) (S : TH) (H : Hp) (a : Addr) (vs : List V) : Prop := (S a = none ∧ H a = some (.tup vs)) ∨ KTu K a vs
section
variable {K : PySem.W.Frag} {S S' : TH} {H H' : Hp} {a : Addr} {vs : List V}
theorem FL.sq (h : FL S H a vs) : SqL K H a vs := .inl (.inl h.2)
theorem FX.sq (h : FX K S H a vs) : SqL K H a vs := h.elim (fun z => .inl (.inr z.2)) .inr
theorem FT.sq (h : FT K S H a vs) : SqT K H a vs := h.elim (fun z => .inl (.inl z.2)) .inr
end

/-- V stands for the tree -/
inductive Rep (K : PySem.W.Frag) (S : TH) (H : Hp) : V → T → Prop where
  | non : Rep K S H .non .non
  | bl (b : Bool) : Rep K S H (.bl b) (.bl b)
  | int (i : Int) : Rep K S H (.int i) (.int i)
  | str (x : Str) : Rep K S H (.str x) (.str x)
  | ty (n : String) : Rep K S H (.ty n) (.ty n)
  | ref (a : Addr) : Rep K S H (.ref a) (.ref a)
  | tup {a : Addr} {vs : List V} {ts : List T} : FT K S H a vs → vs.length = ts.length → (∀ (i : Nat) v t, vs[i]? = some v → ts[i]? = some t → Rep K S H v t) → Rep K S H (.ref a) (.tup ts)
  | lst {a : Addr} {vs : List V} {ts : List T} : FL S H a vs → vs.length = ts.length → (∀ (i : Nat) v t, vs[i]? = some v → ts[i]? = some t → Rep K S H v t) → Rep K S H (.ref a) (.lst ts)
  | fls {a : Addr} {vs : List V} {ts : List T} : FX K S H a vs → vs.length = ts.length → (∀ (i : Nat) v t, vs[i]? = some v → ts[i]? = some t → Rep K S H v t) → Rep K S H (.ref a) (.fls ts)
  | dct {a : Addr} {kvs : List (Key × V)} {kts : List (Key × T)} : (S a = none ∧ H a = some (.dK kvs)) → kvs.length = kts.length → (∀ (i : Nat) v t, kvs[i]? = some v → kts[i]? = some t → v.1 = t.1) → (∀ (i : Nat) v t, kvs[i]? = some v → kts[i]? = some t → Rep K S H v.2 t.2) → Rep K S H (.ref a) (.dct kts)

def Reps (K : PySem.W.Frag) (S : TH) (H : Hp) (vs : List V) (ts : List T) : Prop := vs.length = ts.length ∧ ∀ (i : Nat) v t, vs[i]? = some v → ts[i]? = some t → Rep K S H v t
def RepK (K : PySem.W.Frag) (S : TH) (H : Hp) (kvs : List (Key × V)) (kts : List (Key × T)) : Prop := kvs.length = kts.length ∧ ∀ (i : Nat) v t, kvs[i]? = some v → kts[i]? = some t → v.1 = t.1 ∧ Rep K S H v.2 t.2
def RepF (K : PySem.W.Frag) (S : TH) (H : Hp) (fvs : List (Str × V)) (fts : List (Str × T)) : Prop := fvs.length = fts.length ∧ ∀ (i : Nat) v t, fvs[i]? = some v → fts[i]? = some t → v.1 = t.1 ∧ Rep K S H v.2 t.2
/-- frozen things stay -/
def Le (S : TH) (H : Hp) (S' : TH) (H' : Hp) : Prop := ∀ b o, S b = none → H b = some o → S' b = none ∧ H' b = some o
def CellOk (K : PySem.W.Frag) (S : TH) (H : Hp) (a : Addr) : Cell → Prop
  | .lst ts => ∃ vs, H a = some (.lst vs) ∧ Reps K S H vs ts
  | .dct kts => ∃ kvs, H a = some (.dK kvs) ∧ RepK K S H kvs kts
  | .ins C fts => ∃ dx fvs, H a = some (.ins C dx fvs) ∧ RepF K S H fvs fts
def Good (K : PySem.W.Frag) (S : TH) (H : Hp) : Prop := ∀ a c, S a = some c → CellOk K S H a c

section
variable {K : PySem.W.Frag} {S S' S'' : TH} {H H' H'' : Hp} {a : Addr} {v : V} {t : T} {vs ws : List V} {ts us : List T}
theorem Le.refl : Le S H S H := fun _ _ n e => ⟨n, e⟩
theorem Le.trans (x : Le S H S' H') (y : Le S' H' S'' H'') : Le S H S'' H'' := fun b o n e => let ⟨n', e'⟩ := x b o n e; y b o n' e'
theorem FL.mono (le : Le S H S' H') (h : FL S H a vs) : FL S' H' a vs := le _ _ h.1 h.2
theorem FX.mono (le : Le S H S' H') (h : FX K S H a vs) : FX K S' H' a vs := h.elim (fun ⟨n, o, e⟩ => .inl ⟨(le _ _ n e).1, o, (le _ _ n e).2⟩) .inr
theorem FT.mono (le : Le S H S' H') (h : FT K S H a vs) : FT K S' H' a vs := h.elim (fun z => .inl (le _ _ z.1 z.2)) .inr
theorem Rep.mono (le : Le S H S' H') (h : Rep K S H v t) : Rep K S' H' v t := by
  induction h with
  | non => exact .non
  | bl b => exact .bl b
  | int i => exact .int i
  | str x => exact .str x
  | ty n => exact .ty n
  | ref a => exact .ref a
  | tup f l _ ih => exact .tup (f.mono le) l ih
  | lst f l _ ih => exact .lst (f.mono le) l ih
  | fls f l _ ih => exact .fls (f.mono le) l ih
  | dct f l r _ ih => exact .dct (le _ _ f.1 f.2) l r ih
theorem Reps.mono (le : Le S H S' H') (h : Reps K S H vs ts) : Reps K S' H' vs ts := ⟨h.1, fun i v t e1 e2 => (h.2 i v t e1 e2).mono le⟩
theorem RepK.mono {kvs : List (Key × V)} {kts : List (Key × T)} (le : Le S H S' H') (h : RepK K S H kvs kts) : RepK K S' H' kvs kts := ⟨h.1, fun i v t e1 e2 => ⟨(h.2 i v t e1 e2).1, (h.2 i v t e1 e2).2.mono le⟩⟩
theorem RepF.mono {fvs : List (Str × V)} {fts : List (Str × T)} (le : Le S H S' H') (h : RepF K S H fvs fts) : RepF K S' H' fvs fts := ⟨h.1, fun i v t e1 e2 => ⟨(h.2 i v t e1 e2).1, (h.2 i v t e1 e2).2.mono le⟩⟩
theorem Reps.nil : Reps K S H [] [] := ⟨rfl, fun _ _ _ e => by simp at e⟩
theorem Reps.cons (h : Rep K S H v t) (r : Reps K S H vs ts) : Reps K S H (v :: vs) (t :: ts) := by
  refine ⟨by simp only [List.length_cons, r.1], fun i v' t' e1 e2 => ?_⟩
  cases i with
  | zero => simp at e1 e2; subst e1; subst e2; exact h
  | succ i => exact r.2 i v' t' (by simpa using e1) (by simpa using e2)
theorem Reps.head (h : Reps K S H (v :: vs) (t :: ts)) : Rep K S H v t := h.2 0 v t rfl rfl
theorem Reps.tail (h : Reps K S H (v :: vs) (t :: ts)) : Reps K S H vs ts := ⟨by simpa using h.1, fun i v' t' e1 e2 => h.2 (i + 1) v' t' (by simpa using e1) (by simpa using e2)⟩
theorem Reps.append : ∀ {vs : List V} {ts : List T}, Reps K S H vs ts → Reps K S H ws us → Reps K S H (vs ++ ws) (ts ++ us)
  | [], [], _, r => r
  | v :: vs, t :: ts, h, r => Reps.cons h.head (Reps.append h.tail r)
  | [], _ :: _, h, _ => by have := h.1; simp at this
  | _ :: _, [], h, _ => by have := h.1; simp at this
theorem Reps.get {i : Nat} (h : Reps K S H vs ts) (e : ts[i]? = some t) : ∃ v, vs[i]? = some v ∧ Rep K S H v t := by
  have hi : i < ts.length := (List.getElem?_eq_some_iff.mp e).1
  have hi' : i < vs.length := by rw [h.1]; exact hi
  exact ⟨vs[i], List.getElem?_eq_getElem hi', h.2 i _ t (List.getElem?_eq_getElem hi') e⟩
theorem Reps.get' {i : Nat} (h : Reps K S H vs ts) (e : vs[i]? = some v) : ∃ t, ts[i]? = some t ∧ Rep K S H v t := by
  have hi : i < vs.length := (List.getElem?_eq_some_iff.mp e).1
  have hi' : i < ts.length := by rw [← h.1]; exact hi
  exact ⟨ts[i], List.getElem?_eq_getElem hi', h.2 i v _ e (List.getElem?_eq_getElem hi')⟩
theorem Reps.drop (h : Reps K S H vs ts) (n : Nat) : Reps K S H (vs.drop n) (ts.drop n) :=
  ⟨by simp only [List.length_drop, h.1], fun i v t e1 e2 => h.2 (n + i) v t (by simpa using e1) (by simpa using e2)⟩
theorem Reps.take (h : Reps K S H vs ts) (n : Nat) : Reps K S H (vs.take n) (ts.take n) := by
  refine ⟨by simp only [List.length_take, h.1], fun i v t e1 e2 => ?_⟩
  by_cases hi : i < n
  · rw [List.getElem?_take_of_lt hi] at e1 e2; exact h.2 i v t e1 e2
  · rw [List.getElem?_take_eq_none (by omega)] at e1; cases e1
theorem Reps.set {i : Nat} (h : Reps K S H vs ts) (r : Rep K S H v t) : Reps K S H (vs.set i v) (ts.set i t) := by
  refine ⟨by simp only [List.length_set, h.1], fun j v' t' e1 e2 => ?_⟩
  by_cases hj : i = j
  · subst hj
    rw [List.getElem?_set] at e1 e2
    simp only [if_true] at e1 e2
    split at e1
    · split at e2
      · cases e1; cases e2; exact r
      · cases e2
    · cases e1
  · rw [List.getElem?_set_ne hj] at e1 e2; exact h.2 j v' t' e1 e2
theorem Rep.tupI {a : Addr} (f : FT K S H a vs) (r : Reps K S H vs ts) : Rep K S H (.ref a) (.tup ts) := .tup f r.1 r.2
theorem Rep.lstI {a : Addr} (f : FL S H a vs) (r : Reps K S H vs ts) : Rep K S H (.ref a) (.lst ts) := .lst f r.1 r.2
theorem Rep.tupE (h : Rep K S H v (.tup ts)) : ∃ a vs, v = .ref a ∧ FT K S H a vs ∧ Reps K S H vs ts := by
  cases h with
  | tup f l r => exact ⟨_, _, rfl, f, l, r⟩
theorem Rep.lstE (h : Rep K S H v (.lst ts)) : ∃ a vs, v = .ref a ∧ FL S H a vs ∧ Reps K S H vs ts := by
  cases h with
  | lst f l r => exact ⟨_, _, rfl, f, l, r⟩
theorem Rep.flsE (h : Rep K S H v (.fls ts)) : ∃ a vs, v = .ref a ∧ FX K S H a vs ∧ Reps K S H vs ts := by
  cases h with
  | fls f l r => exact ⟨_, _, rfl, f, l, r⟩
theorem Rep.dctE {kts : List (Key × T)} (h : Rep K S H v (.dct kts)) : ∃ a kvs, v = .ref a ∧ S a = none ∧ H a = some (.dK kvs) ∧ RepK K S H kvs kts := by
  cases h with
  | dct f l r1 r2 => exact ⟨_, _, rfl, f.1, f.2, l, fun i v t e1 e2 => ⟨r1 i v t e1 e2, r2 i v t e1 e2⟩⟩

/-- a new frozen object -/
theorem Le.new {p : Addr} {o : HO} (g : Good K S H) (hp : H p = none) : Le S H S (upd H p o) := fun b u n e => ⟨n, by rw [upd_ne (ne_of_none e hp)]; exact e⟩
theorem Good.free (g : Good K S H) {p : Addr} (hp : H p = none) : S p = none := by
  cases e : S p with
  | none => rfl
  | some c =>
    have := g p c e
    cases c with
    | lst ts => obtain ⟨vs, q, _⟩ := this; rw [hp] at q; cases q
    | dct ts => obtain ⟨vs, q, _⟩ := this; rw [hp] at q; cases q
    | ins C fs => obtain ⟨dx, vs, q, _⟩ := this; rw [hp] at q; cases q
theorem CellOk.mono {c : Cell} (le : Le S H S' H') (x : CellOk K S H a c) (e : H' a = H a) : CellOk K S' H' a c := by
  cases c with
  | lst ts => obtain ⟨vs, q, r⟩ := x; exact ⟨vs, by rw [e]; exact q, r.mono le⟩
  | dct ts => obtain ⟨vs, q, r⟩ := x; exact ⟨vs, by rw [e]; exact q, r.mono le⟩
  | ins C fs => obtain ⟨dx, vs, q, r⟩ := x; exact ⟨dx, vs, by rw [e]; exact q, r.mono le⟩
theorem Good.new {p : Addr} {o : HO} (g : Good K S H) (hp : H p = none) : Good K S (upd H p o) := fun a c e => by
  have ne : a ≠ p := fun z => by rw [z, g.free hp] at e; cases e
  exact (g a c e).mono (Le.new g hp) (upd_ne ne)
/-- a new cell -/
theorem Le.newC {p : Addr} {o : HO} {c : Cell} (hp : H p = none) : Le S H (updT S p c) (upd H p o) := fun b u n e => by
  have ne := ne_of_none e hp
  exact ⟨by rw [updT_ne ne]; exact n, by rw [upd_ne ne]; exact e⟩
theorem Good.newL {p : Addr} {vs : List V} {ts : List T} (g : Good K S H) (hp : H p = none) (r : Reps K S H vs ts) : Good K (updT S p (.lst ts)) (upd H p (.lst vs)) := fun a c e => by
  have le : Le S H (updT S p (.lst ts)) (upd H p (.lst vs)) := Le.newC hp
  by_cases ha : a = p
  · subst ha
    rw [updT_same] at e
    cases e
    exact ⟨vs, upd_same, r.mono le⟩
  · rw [updT_ne ha] at e
    exact (g a c e).mono le (upd_ne ha)
/-- a cell is written -/
theorem Le.write {p : Addr} {o : HO} {c c' : Cell} (e : S p = some c') : Le S H (updT S p c) (upd H p o) := fun b u n q => by
  have ne : b ≠ p := fun z => by rw [z, e] at n; cases n
  exact ⟨by rw [updT_ne ne]; exact n, by rw [upd_ne ne]; exact q⟩
theorem Good.writeL {p : Addr} {vs : List V} {ts : List T} {c : Cell} (g : Good K S H) (hp : S p = some c) (r : Reps K S H vs ts) : Good K (updT S p (.lst ts)) (upd H p (.lst vs)) := fun a c' e => by
  have le : Le S H (updT S p (.lst ts)) (upd H p (.lst vs)) := Le.write hp
  by_cases ha : a = p
  · subst ha
    rw [updT_same] at e
    cases e
    exact ⟨vs, upd_same, r.mono le⟩
  · rw [updT_ne ha] at e
    exact (g a c' e).mono le (upd_ne ha)
/-- a cell is frozen -/
theorem Le.del {p : Addr} : Le S H (delT S p) H := fun b u n q => by
  by_cases hb : b = p
  · subst hb; exact ⟨delT_same, q⟩
  · exact ⟨by rw [delT_ne hb]; exact n, q⟩
theorem Good.del {p : Addr} (g : Good K S H) : Good K (delT S p) H := fun a c e => by
  by_cases ha : a = p
  · subst ha; rw [delT_same] at e; cases e
  · rw [delT_ne ha] at e
    exact (g a c e).mono Le.del rfl
end

abbrev Ev := List (Option T)
abbrev UX := T → TH → Prop
abbrev UTE := Ev → TH → UX → Prop
abbrev UTT := Ev → TH → (Bool → TH → Prop) → Prop
abbrev UTA := Ev → TH → (List T → TH → Prop) → Prop
structure UEnds where
  nx : Ev → TH → Prop
  rt : UX
  bk : Ev → TH → Prop := fun _ _ => False
  ct : Ev → TH → Prop := fun _ _ => False
abbrev UTS := UEnds → Ev → TH → Prop
def REnv (K : PySem.W.Frag) (S : TH) (H : Hp) (σ : L2.St) (env : Ev) : Prop := env.length = σ.length ∧ ∀ (i : Nat) t, env[i]? = some (some t) → ∃ v, σ[i]? = some (some v) ∧ Rep K S H v t
def Fin (K : PySem.W.Frag) (S : TH) (H : Hp) (P : UX) (Q : VK) : Prop := ∀ v r S' H', Le S H S' H' → Good K S' H' → Rep K S' H' v r → P r S' → Q v H'
def lf (K : PySem.W.Frag) (t : UTE) : TE := fun σ H Q => ∃ S env P, Good K S H ∧ REnv K S H σ env ∧ t env S P ∧ Fin K S H P Q
def lfT (K : PySem.W.Frag) (t : UTT) : TT := fun σ H Q => ∃ S env P, Good K S H ∧ REnv K S H σ env ∧ t env S P ∧ ∀ b S' H', Le S H S' H' → Good K S' H' → P b S' → Q b H'
def lfA (K : PySem.W.Frag) (t : UTA) : TA := fun σ H Q => ∃ S env P, Good K S H ∧ REnv K S H σ env ∧ t env S P ∧ ∀ vs rs S' H', Le S H S' H' → Good K S' H' → Reps K S' H' vs rs → P rs S' → Q vs H'
structure FinS (K : PySem.W.Frag) (S : TH) (H : Hp) (E : UEnds) (D : Ends) : Prop where
  nx : ∀ σ' env' S' H', Le S H S' H' → Good K S' H' → REnv K S' H' σ' env' → E.nx env' S' → D.nx σ' H'
  rt : ∀ v r S' H', Le S H S' H' → Good K S' H' → Rep K S' H' v r → E.rt r S' → D.rt v H'
  bk : ∀ σ' env' S' H', Le S H S' H' → Good K S' H' → REnv K S' H' σ' env' → E.bk env' S' → D.bk σ' H'
  ct : ∀ σ' env' S' H', Le S H S' H' → Good K S' H' → REnv K S' H' σ' env' → E.ct env' S' → D.ct σ' H'
def lfS (K : PySem.W.Frag) (t : UTS) : TS := fun D σ H => ∃ S env E, Good K S H ∧ REnv K S H σ env ∧ t E env S ∧ FinS K S H E D
def UE (X : Cx) (e : Expr) (t : UTE) : Prop := PE X e (lf X.K t)
def UT (X : Cx) (e : Expr) (t : UTT) : Prop := PT X e (lfT X.K t)
def UA (X : Cx) (es : List Expr) (t : UTA) : Prop := PA X es (lfA X.K t)
def US (X : Cx) (st : Stmt) (t : UTS) : Prop := PS X st (lfS X.K t)
def USs (X : Cx) (st : List Stmt) (t : UTS) : Prop := PSs X st (lfS X.K t)

section
variable {K : PySem.W.Frag} {S S' S'' : TH} {H H' H'' : Hp} {σ : L2.St} {env : Ev} {P : UX} {Q Q' : VK}
theorem REnv.mono (h : REnv K S H σ env) (le : Le S H S' H') : REnv K S' H' σ env := ⟨h.1, fun i t e => let ⟨v, e', r⟩ := h.2 i t e; ⟨v, e', r.mono le⟩⟩
theorem REnv.set {i : Nat} {v : V} {t : T} (h : REnv K S H σ env) (r : Rep K S H v t) : REnv K S H (σ.set i (some v)) (env.set i (some t)) := by
  refine ⟨by simp only [List.length_set, h.1], fun j t' e => ?_⟩
  rw [List.getElem?_set] at e
  by_cases hj : i = j
  · subst hj
    simp only [if_true] at e
    split at e
    · cases e
      rename_i hl
      exact ⟨v, by rw [List.getElem?_set]; simp; rw [← h.1]; exact hl, r⟩
    · cases e
  · rw [if_neg hj] at e
    obtain ⟨v', e', r'⟩ := h.2 j t' e
    exact ⟨v', by rw [List.getElem?_set_ne hj]; exact e', r'⟩
theorem Fin.le (f : Fin K S H P Q) (le : Le S H S' H') : Fin K S' H' P Q := fun v r S2 H2 l g rp hp => f v r S2 H2 (le.trans l) g rp hp
theorem FinS.le {E : UEnds} {D : Ends} (f : FinS K S H E D) (le : Le S H S' H') : FinS K S' H' E D :=
  ⟨fun a b c d l => f.nx a b c d (le.trans l), fun a b c d l => f.rt a b c d (le.trans l), fun a b c d l => f.bk a b c d (le.trans l), fun a b c d l => f.ct a b c d (le.trans l)⟩
/-- behind a first expression -/
structure Mid (K : PySem.W.Frag) (σ : L2.St) (H : Hp) (S : TH) (env : Ev) : Prop where
  g : Good K S H
  re : REnv K S H σ env
theorem lf_bind {t : UTE} {S : TH} {env : Ev} {k : T → TH → Prop} (m : Mid K σ H S env) (h : t env S k)
    (q : ∀ v r S1 H1, Le S H S1 H1 → Mid K σ H1 S1 env → Rep K S1 H1 v r → k r S1 → Q v H1) : lf K t σ H Q :=
  ⟨S, env, k, m.g, m.re, h, fun v r S1 H1 le g1 rp hk => q v r S1 H1 le ⟨g1, m.re.mono le⟩ rp hk⟩
theorem lfA_bind {t : UTA} {S : TH} {env : Ev} {k : List T → TH → Prop} {Q : List V → Hp → Prop} (m : Mid K σ H S env) (h : t env S k)
    (q : ∀ v r S1 H1, Le S H S1 H1 → Mid K σ H1 S1 env → Reps K S1 H1 v r → k r S1 → Q v H1) : lfA K t σ H Q :=
  ⟨S, env, k, m.g, m.re, h, fun v r S1 H1 le g1 rp hk => q v r S1 H1 le ⟨g1, m.re.mono le⟩ rp hk⟩
theorem lfT_bind {t : UTT} {S : TH} {env : Ev} {k : Bool → TH → Prop} {Q : Bool → Hp → Prop} (m : Mid K σ H S env) (h : t env S k)
    (q : ∀ b S1 H1, Le S H S1 H1 → Mid K σ H1 S1 env → k b S1 → Q b H1) : lfT K t σ H Q :=
  ⟨S, env, k, m.g, m.re, h, fun b S1 H1 le g1 hk => q b S1 H1 le ⟨g1, m.re.mono le⟩ hk⟩
end
theorem PE.imp {X : Cx} {e : Expr} {t t' : TE} (h : PE X e t) (i : ∀ σ H Q, t' σ H Q → t σ H Q) : PE X e t' := fun pins s σ H Q I q => h pins s σ H Q I (i σ H Q q)
theorem PT.imp {X : Cx} {e : Expr} {t t' : TT} (h : PT X e t) (i : ∀ σ H Q, t' σ H Q → t σ H Q) : PT X e t' := fun pins s σ H Q I q => h pins s σ H Q I (i σ H Q q)
theorem PA.imp {X : Cx} {e : List Expr} {t t' : TA} (h : PA X e t) (i : ∀ σ H Q, t' σ H Q → t σ H Q) : PA X e t' := fun pos pins s σ H Q I q => h pos pins s σ H Q I (i σ H Q q)
theorem PS.imp {X : Cx} {e : Stmt} {t t' : TS} (h : PS X e t) (i : ∀ D σ H, t' D σ H → t D σ H) : PS X e t' := fun pins s σ H D I q => h pins s σ H D I (i D σ H q)
theorem PSs.imp {X : Cx} {e : List Stmt} {t t' : TS} (h : PSs X e t) (i : ∀ D σ H, t' D σ H → t D σ H) : PSs X e t' := fun pins s σ H D I q => h pins s σ H D I (i D σ H q)
end TL
end
section
set_option Elab.async false
set_option linter.all false
set_option maxRecDepth 100000
set_option maxHeartbeats 4000000
namespace TL
open PySem PySem.Spec PyProof.Rows L2
section
variable {X : Cx} {a b c e : Expr} {es : List Expr} {ta tb tc te : UTE} {pos : Pos}

def uVar (i : Nat) : UTE := fun env S P => match env[i]? with
  | some (some t) => P t S
  | _ => False
def uC (t : T) : UTE := fun _ S P => P t S
theorem uv (i : Nat) {x : Str} {pos : Pos} (hN : X.N[i]? = some x := by rfl) (hv : Vis X.env.scope x := by first | exact Or.inl rfl | exact Or.inr (Or.inl rfl) | exact Or.inr (Or.inr rfl)) (hd : (x == ("__debug__" : Str)) = false := by decide)
    (hcd : (x == ("__classdict__" : Str)) = false := by decide) : UE X (.Name x pos) (uVar i) := PE.imp (pe_var hN hv hd hcd) fun σ H Q ⟨S, env, P, g, re, h, fin⟩ => by
  unfold uVar at h
  split at h
  · rename_i t e
    obtain ⟨v, ev, r⟩ := re.2 i t e
    exact ⟨v, ev, fin v t S H .refl g r h⟩
  · exact h.elim
theorem ue_c {v : V} {t : T} (h : PE X e (tC v)) (r : ∀ S H, Rep X.K S H v t) : UE X e (uC t) := PE.imp h fun σ H Q ⟨S, env, P, g, re, h, fin⟩ => fin v t S H .refl g (r S H) h
theorem ue_int {i : Int} {j} : UE X (.Constant (.int i) j pos) (uC (.int i)) := ue_c pe_int fun _ _ => .int i
theorem ue_bl {i : Bool} {j} : UE X (.Constant (.bool i) j pos) (uC (.bl i)) := ue_c pe_bl fun _ _ => .bl i
theorem ue_non {j} : UE X (.Constant .none j pos) (uC .non) := ue_c pe_non fun _ _ => .non
theorem ue_str {x : Str} {j} : UE X (.Constant (.str x) j pos) (uC (.str x)) := ue_c pe_str fun _ _ => .str x
theorem ue_bty {x : Str} {n : String} (hg : Gl X x) (hm : X.mg x = none) (hv : bootBuiltins x = some (.type n)) (hn : x ≠ "__name__" := by decide) (hd : (x == ("__debug__" : Str)) = false := by decide) : UE X (.Name x pos) (uC (.ty n)) :=
  ue_c (pe_bltn (v := .ty n) hg hm hv rfl hn hd) fun _ _ => .ty n
def uBin (o : T → T → TH → UX → Prop) (ta tb : UTE) : UTE := fun env S P => ta env S fun x S1 => tb env S1 fun y S2 => o x y S2 P
def LOp (K : PySem.W.Frag) (r : R2) (o : T → T → TH → UX → Prop) : Prop := ∀ S H v w x y P Q, Good K S H → Rep K S H v x → Rep K S H w y → o x y S P → Fin K S H P Q → r v w H Q
theorem u_bin {r : R2} {o : T → T → TH → UX → Prop} {σ : L2.St} {H : Hp} {Q : VK} {K : PySem.W.Frag} (l : LOp K r o) (h : lf K (uBin o ta tb) σ H Q) : lf K ta σ H fun v H1 => lf K tb σ H1 fun w H2 => r v w H2 Q := by
  obtain ⟨S, env, P, g, re, h, fin⟩ := h
  exact lf_bind ⟨g, re⟩ h fun v x S1 H1 le1 m1 rx h1 => lf_bind m1 h1 fun w y S2 H2 le2 m2 ry h2 => l S2 H2 v w x y P Q m2.g (rx.mono le2) ry h2 (fin.le (le1.trans le2))
theorem ue_bin {op : Operator} {r : R2} {o : T → T → TH → UX → Prop} (ho : OpR X (binaryOp op) r) (l : LOp X.K r o) (ha : UE X a ta) (hb : UE X b tb) : UE X (.BinOp a op b pos) (uBin o ta tb) := PE.imp (pe_op ho ha hb) fun _ _ _ h => u_bin l h
def uTest (t : UTE) : UTT := fun env S P => t env S fun x S1 => match x with
  | .bl k => P k S1
  | _ => False
theorem u_test {t : UTE} {σ : L2.St} {H : Hp} {Q : Bool → Hp → Prop} {K : PySem.W.Frag} (h : lfT K (uTest t) σ H Q) : lf K t σ H fun x H1 => ∃ k, x = .bl k ∧ Q k H1 := by
  obtain ⟨S, env, P, g, re, h, fin⟩ := h
  refine lf_bind ⟨g, re⟩ h fun v x S1 H1 le1 m1 rx h1 => ?_
  cases x with
  | bl k => cases rx; exact ⟨k, rfl, fin k S1 H1 le1 m1.g h1⟩
  | _ => exact h1.elim
theorem u_test2 {r : R2} {o : T → T → TH → UX → Prop} {σ : L2.St} {H : Hp} {Q : Bool → Hp → Prop} {K : PySem.W.Frag} (l : LOp K r o) (h : lfT K (uTest (uBin o ta tb)) σ H Q) : tTest (tOp r (lf K ta) (lf K tb)) σ H Q := u_bin l (u_test h)
theorem ut_cmp {op : CmpOp} {r : R2} {o : T → T → TH → UX → Prop} (ho : OpR X (compareOp op) r) (l : LOp X.K r o) (ha : UE X a ta) (hb : UE X b tb) (hm : behindInMarks op b = false) : UT X (.Compare a [op] [b] pos) (uTest (uBin o ta tb)) :=
  PT.imp (pt_cmpR ho ha hb hm) fun _ _ _ h => u_test2 l h
theorem ut_val {t : UTE} (h : UE X e t) (he : ∀ whole, isTrue e X.env whole = (do let v ← whole; standAt e.pos; holding [v] (truthy v)) := by intro _; rfl) : UT X e (uTest t) := PT.imp (pt_val h he) fun _ _ _ h => u_test h

def oII (g : Int → Int → T) : T → T → TH → UX → Prop := fun x y S P => match x, y with
  | .int i, .int j => P (g i j) S
  | _, _ => False
def oIC (C : Int → Int → Prop) (g : Int → Int → T) : T → T → TH → UX → Prop := fun x y S P => match x, y with
  | .int i, .int j => C i j ∧ P (g i j) S
  | _, _ => False
theorem lop_II {K : PySem.W.Frag} {g : Int → Int → V} {g' : Int → Int → T} (h : ∀ i j S H, Rep K S H (g i j) (g' i j)) : LOp K (rI0 g) (oII g') := fun S H v w x y P Q gd rx ry ho fin => by
  cases x with
  | int i =>
    cases y with
    | int j => cases rx; cases ry; exact ⟨i, j, rfl, rfl, fin _ _ S H .refl gd (h i j S H) ho⟩
    | _ => exact ho.elim
  | _ => exact ho.elim
theorem lop_IC {K : PySem.W.Frag} {C : Int → Int → Prop} {g : Int → Int → V} {g' : Int → Int → T} (h : ∀ i j S H, Rep K S H (g i j) (g' i j)) : LOp K (rI C g) (oIC C g') := fun S H v w x y P Q gd rx ry ho fin => by
  cases x with
  | int i =>
    cases y with
    | int j => cases rx; cases ry; exact ⟨i, j, rfl, rfl, ho.1, fin _ _ S H .refl gd (h i j S H) ho.2⟩
    | _ => exact ho.elim
  | _ => exact ho.elim
abbrev oSub := oII fun i j => .int (i - j)
abbrev oMul := oIC CMul fun i j => .int (i * j)
abbrev oDiv := oIC CDiv fun i j => .int (i / j)
abbrev oMod := oIC (fun _ j => 0 < j) fun i j => .int (i % j)
theorem ue_sub (ha : UE X a ta) (hb : UE X b tb) : UE X (.BinOp a .Sub b pos) (uBin oSub ta tb) := ue_bin op_sub (lop_II fun _ _ _ _ => .int _) ha hb
theorem ue_mul (ha : UE X a ta) (hb : UE X b tb) : UE X (.BinOp a .Mult b pos) (uBin oMul ta tb) := ue_bin op_mul (lop_IC fun _ _ _ _ => .int _) ha hb
theorem ue_div (ha : UE X a ta) (hb : UE X b tb) : UE X (.BinOp a .FloorDiv b pos) (uBin oDiv ta tb) := ue_bin op_fdiv (lop_IC fun _ _ _ _ => .int _) ha hb
theorem ue_mod (ha : UE X a ta) (hb : UE X b tb) : UE X (.BinOp a .Mod b pos) (uBin oMod ta tb) := ue_bin op_mod (lop_IC fun _ _ _ _ => .int _) ha hb
abbrev oLt := oII fun i j => .bl (decide (i < j))
abbrev oGt := oII fun i j => .bl (decide (j < i))
theorem lLt {K : PySem.W.Frag} : LOp K (rI0 fun i j => .bl (decide (i < j))) oLt := lop_II fun _ _ _ _ => .bl _
theorem lGt {K : PySem.W.Frag} : LOp K (rI0 fun i j => .bl (decide (j < i))) oGt := lop_II fun _ _ _ _ => .bl _
/-- == of two scalars of a kind -/
def oEq (neg : Bool) : T → T → TH → UX → Prop := fun x y S P => match x, y with
  | .int i, .int j => P (.bl (Bool.xor neg (decide (i = j)))) S
  | .str i, .str j => P (.bl (Bool.xor neg (decide (i = j)))) S
  | .bl i, .bl j => P (.bl (Bool.xor neg (decide (i = j)))) S
  | _, _ => False
theorem dV_int {i j : Int} : decide (V.int i = V.int j) = decide (i = j) := by rw [dec_int]; exact Bool.beq_eq_decide_eq i j
theorem dV_str {i j : Str} : decide (V.str i = V.str j) = decide (i = j) := by
  by_cases h : i = j
  · subst h; simp
  · rw [decide_eq_false h, decide_eq_false]; intro z; exact h (V.str.inj z)
theorem dV_bl {i j : Bool} : decide (V.bl i = V.bl j) = decide (i = j) := by
  by_cases h : i = j
  · subst h; simp
  · rw [decide_eq_false h, decide_eq_false]; intro z; exact h (V.bl.inj z)
theorem lEq {K : PySem.W.Frag} : LOp K rEq (oEq false) := fun S H v w x y P Q gd rx ry ho fin => by
  cases x with
  | int i =>
    cases y with
    | int j => cases rx; cases ry; refine ⟨rfl, ?_⟩; rw [dV_int]; exact fin _ _ S H .refl gd (.bl _) (by simpa [oEq] using ho)
    | _ => exact ho.elim
  | str i =>
    cases y with
    | str j => cases rx; cases ry; refine ⟨rfl, ?_⟩; rw [dV_str]; exact fin _ _ S H .refl gd (.bl _) (by simpa [oEq] using ho)
    | _ => exact ho.elim
  | bl i =>
    cases y with
    | bl j => cases rx; cases ry; refine ⟨rfl, ?_⟩; rw [dV_bl]; exact fin _ _ S H .refl gd (.bl _) (by simpa [oEq] using ho)
    | _ => exact ho.elim
  | _ => exact ho.elim
theorem lNe {K : PySem.W.Frag} : LOp K rNe (oEq true) := fun S H v w x y P Q gd rx ry ho fin => by
  cases x with
  | int i =>
    cases y with
    | int j => cases rx; cases ry; refine ⟨rfl, ?_⟩; rw [dV_int]; exact fin _ _ S H .refl gd (.bl _) (by simpa [oEq] using ho)
    | _ => exact ho.elim
  | str i =>
    cases y with
    | str j => cases rx; cases ry; refine ⟨rfl, ?_⟩; rw [dV_str]; exact fin _ _ S H .refl gd (.bl _) (by simpa [oEq] using ho)
    | _ => exact ho.elim
  | bl i =>
    cases y with
    | bl j => cases rx; cases ry; refine ⟨rfl, ?_⟩; rw [dV_bl]; exact fin _ _ S H .refl gd (.bl _) (by simpa [oEq] using ho)
    | _ => exact ho.elim
  | _ => exact ho.elim

def uUn (o : T → TH → UX → Prop) (ta : UTE) : UTE := fun env S P => ta env S fun x S1 => o x S1 P
def oNeg : T → TH → UX → Prop := fun x S P => match x with
  | .int i => P (.int (-i)) S
  | _ => False
def uAnd (t u : UTT) : UTT := fun env S P => t env S fun k S1 => (k = true → u env S1 P) ∧ (k = false → P false S1)
def uOr (t u : UTT) : UTT := fun env S P => t env S fun k S1 => (k = true → P true S1) ∧ (k = false → u env S1 P)
def uNot (t : UTT) : UTT := fun env S P => t env S fun k S1 => P (!k) S1
def UW (X : Cx) (e : Expr) (t : UTT) : Prop := PW X e (lfT X.K t)
theorem UW.ut {t : UTT} (h : UW X e t) : UT X e t := h.pt
variable {tA tB : UTT} {rest : List Expr}
theorem uw_and1 (ha : UT X a tA) : UW X (.BoolOp .And [a] pos) tA := pw_and1 ha
theorem uw_or1 (ha : UT X a tA) : UW X (.BoolOp .Or [a] pos) tA := pw_or1 ha
theorem uw_and (ha : UT X a tA) (hb : UW X (.BoolOp .And (b :: rest) pos) tB) : UW X (.BoolOp .And (a :: b :: rest) pos) (uAnd tA tB) := fun wh pins s σ H Q I h => by
  refine pw_and ha hb wh pins s σ H Q I ?_
  obtain ⟨S, env, P, g, re, h, fin⟩ := h
  refine lfT_bind ⟨g, re⟩ h fun k S1 H1 le1 m1 hk => ?_
  cases k with
  | true => rw [if_pos rfl]; exact ⟨S1, env, P, m1.g, m1.re, hk.1 rfl, fun b S' H' le => fin b S' H' (le1.trans le)⟩
  | false => rw [if_neg Bool.false_ne_true]; exact fin false S1 H1 le1 m1.g (hk.2 rfl)
theorem uw_or (ha : UT X a tA) (hb : UW X (.BoolOp .Or (b :: rest) pos) tB) : UW X (.BoolOp .Or (a :: b :: rest) pos) (uOr tA tB) := fun wh pins s σ H Q I h => by
  refine pw_or ha hb wh pins s σ H Q I ?_
  obtain ⟨S, env, P, g, re, h, fin⟩ := h
  refine lfT_bind ⟨g, re⟩ h fun k S1 H1 le1 m1 hk => ?_
  cases k with
  | true => rw [if_pos rfl]; exact fin true S1 H1 le1 m1.g (hk.1 rfl)
  | false => rw [if_neg Bool.false_ne_true]; exact ⟨S1, env, P, m1.g, m1.re, hk.2 rfl, fun b S' H' le => fin b S' H' (le1.trans le)⟩
theorem ut_not (ha : UT X a tA) : UT X (.UnaryOp .Not a pos) (uNot tA) := PT.imp (pt_not ha) fun σ H Q ⟨S, env, P, g, re, h, fin⟩ =>
  lfT_bind ⟨g, re⟩ h fun k S1 H1 le1 m1 hk => fin (!k) S1 H1 le1 m1.g hk
/-- values of and, or: bools on the left -/
def uAndV (ta tb : UTE) : UTE := fun env S P => ta env S fun x S1 => match x with
  | .bl k => (k = true → tb env S1 P) ∧ (k = false → P (.bl false) S1)
  | _ => False
def uOrV (ta tb : UTE) : UTE := fun env S P => ta env S fun x S1 => match x with
  | .bl k => (k = true → P (.bl true) S1) ∧ (k = false → tb env S1 P)
  | _ => False
def uNotV (ta : UTE) : UTE := fun env S P => ta env S fun x S1 => match x with
  | .bl k => P (.bl (!k)) S1
  | _ => False
def uIfE (t : UTT) (ta tb : UTE) : UTE := fun env S P => t env S fun k S1 => (k = true → ta env S1 P) ∧ (k = false → tb env S1 P)
def uNil : UTA := fun _ S P => P [] S
def uCons (ta : UTE) (tr : UTA) : UTA := fun env S P => ta env S fun x S1 => tr env S1 fun xs S2 => P (x :: xs) S2
variable {tr : UTA}
theorem ua_nil : UA X [] uNil := PA.imp pa_nil fun σ H Q ⟨S, env, P, g, re, h, fin⟩ => fin [] [] S H .refl g .nil h
theorem ua_cons (ha : UE X e te) (hr : UA X es tr) (hs : starEach (e :: es) X.env = (false, eval e X.env) :: starEach es X.env := by rfl) : UA X (e :: es) (uCons te tr) := PA.imp (pa_cons ha hr hs) fun σ H Q ⟨S, env, P, g, re, h, fin⟩ =>
  lf_bind ⟨g, re⟩ h fun v x S1 H1 le1 m1 rx h1 => lfA_bind m1 h1 fun vs xs S2 H2 le2 m2 rxs h2 => fin (v :: vs) (x :: xs) S2 H2 (le1.trans le2) m2.g (.cons (rx.mono le2) rxs) h2
def uTup (t : UTA) : UTE := fun env S P => t env S fun ts S1 => ts.length ≤ sizeLine ∧ P (.tup ts) S1
def uLst (t : UTA) : UTE := fun env S P => t env S fun ts S1 => ts.length ≤ sizeLine ∧ P (.lst ts) S1
/-- a list that will change -/
def uLstC (t : UTA) : UTE := fun env S P => t env S fun ts S1 => ts.length ≤ sizeLine ∧ ∀ p, S1 p = none → P (.ref p) (updT S1 p (.lst ts))
section
variable {K : PySem.W.Frag} {S S1 : TH} {H H1 : Hp} {P : UX} {Q : VK} {vs : List V} {ts : List T}
theorem fin_tup {p : Addr} (fin : Fin K S H P Q) (g : Good K S H) (hp : H p = none) (r : Reps K S H vs ts) (h : P (.tup ts) S) : Q (.ref p) (upd H p (.tup vs)) :=
  fin _ _ S _ (Le.new g hp) (g.new hp) (.tupI (.inl ⟨g.free hp, upd_same⟩) (r.mono (Le.new g hp))) h
theorem fin_lst {p : Addr} (fin : Fin K S H P Q) (g : Good K S H) (hp : H p = none) (r : Reps K S H vs ts) (h : P (.lst ts) S) : Q (.ref p) (upd H p (.lst vs)) :=
  fin _ _ S _ (Le.new g hp) (g.new hp) (.lstI ⟨g.free hp, upd_same⟩ (r.mono (Le.new g hp))) h
end
theorem ue_tup {x1} (h : UA X es tr) : UE X (.Tuple es x1 pos) (uTup tr) := PE.imp (pe_tup h) fun σ H Q ⟨S, env, P, g, re, h, fin⟩ =>
  lfA_bind ⟨g, re⟩ h fun vs xs S1 H1 le1 m1 rx h1 => ⟨by rw [rx.1]; exact h1.1, fun p hp => fin_tup (fin.le le1) m1.g hp rx h1.2⟩
theorem ue_lst (h : UA X es tr) : UE X (.List es pos) (uLst tr) := PE.imp (pe_lst h) fun σ H Q ⟨S, env, P, g, re, h, fin⟩ =>
  lfA_bind ⟨g, re⟩ h fun vs xs S1 H1 le1 m1 rx h1 => ⟨by rw [rx.1]; exact h1.1, fun p hp => fin_lst (fin.le le1) m1.g hp rx h1.2⟩
theorem ue_lstC (h : UA X es tr) : UE X (.List es pos) (uLstC tr) := PE.imp (pe_lst h) fun σ H Q ⟨S, env, P, g, re, h, fin⟩ =>
  lfA_bind ⟨g, re⟩ h fun vs xs S1 H1 le1 m1 rx h1 => ⟨by rw [rx.1]; exact h1.1, fun p hp => fin _ _ _ _ (le1.trans (Le.newC hp)) (m1.g.newL hp rx) (.ref p) (h1.2 p (m1.g.free hp))⟩

def spU (K : PySem.W.Frag) (t : List T → TH → UX → Prop) : Sp := fun vs H Q _ => ∃ S ts P, Good K S H ∧ Reps K S H vs ts ∧ t ts S P ∧ Fin K S H P Q
def uCall (t : List T → TH → UX → Prop) (ta : UTA) : UTE := fun env S P => ta env S fun ts S1 => t ts S1 P
theorem ue_call {k : Nat} {f : Addr} {fd : FuncData} {ps : List Str} {t : List T → TH → UX → Prop} {x : Str} {p : Pos} (F : FnOk X.prog X.w X.K X.mg X.base CX0 k f fd ps (spU X.K t)) (hr : Room k X.A) (hg : Gl X x) (hm : X.mg x = some (.ref f))
    (hk : PySem.W.keepIn X.K (.ref f) = true) (hb : Binds X.K fd ps []) (ha : UA X (e :: es) tr) (hdb : (x == ("__debug__" : Str)) = false := by decide) (he : starEach (e :: es) X.env = (false, eval e X.env) :: starEach es X.env := by rfl)
    (hpl : (backTo pos (starEach es X.env)).any (·.1) = false := by rfl) : UE X (.Call (.Name x p) (e :: es) [] pos) (uCall t tr) :=
  PE.imp (pe_call F hr hg hm hk hb .nil pass0 ha hdb he hpl) fun σ H Q ⟨S, env, P, g, re, h, fin⟩ => lfA_bind ⟨g, re⟩ h fun vs xs S1 H1 le1 m1 rx h1 => by
    rw [List.append_nil]
    exact ⟨S1, xs, P, m1.g, rx, h1, fin.le le1⟩
def LCall (K : PySem.W.Frag) (r : List V → Hp → VK → Prop) (o : List T → TH → UX → Prop) : Prop := ∀ S H vs ts P Q, Good K S H → Reps K S H vs ts → o ts S P → Fin K S H P Q → r vs H Q
theorem ue_callB {x : Str} {id : String} {p : Pos} {r : List V → Hp → VK → Prop} {o : List T → TH → UX → Prop} (hc : CallR X (.builtin id) r) (l : LCall X.K r o) (hg : Gl X x) (hm : X.mg x = none) (hv : bootBuiltins x = some (.builtin id)) (ha : UA X (e :: es) tr)
    (hn : x ≠ "__name__" := by decide) (hdb : (x == ("__debug__" : Str)) = false := by decide) (he : starEach (e :: es) X.env = (false, eval e X.env) :: starEach es X.env := by rfl) (hpl : (backTo pos (starEach es X.env)).any (·.1) = false := by rfl) :
    UE X (.Call (.Name x p) (e :: es) [] pos) (uCall o tr) := PE.imp (pe_callB hc hg hm hv ha hn hdb he hpl) fun σ H Q ⟨S, env, P, g, re, h, fin⟩ =>
  lfA_bind ⟨g, re⟩ h fun vs xs S1 H1 le1 m1 rx h1 => l S1 H1 vs xs P Q m1.g rx h1 (fin.le le1)
theorem ue_callTy {x : Str} {n : String} {p : Pos} {r : List V → Hp → VK → Prop} {o : List T → TH → UX → Prop} (hc : CallR X (.type n) r) (l : LCall X.K r o) (hg : Gl X x) (hm : X.mg x = none) (hv : bootBuiltins x = some (.type n)) (ha : UA X (e :: es) tr)
    (hn : x ≠ "__name__" := by decide) (hdb : (x == ("__debug__" : Str)) = false := by decide) (he : starEach (e :: es) X.env = (false, eval e X.env) :: starEach es X.env := by rfl) (hpl : (backTo pos (starEach es X.env)).any (·.1) = false := by rfl) :
    UE X (.Call (.Name x p) (e :: es) [] pos) (uCall o tr) := PE.imp (pe_callTy hc hg hm hv ha hn hdb he hpl) fun σ H Q ⟨S, env, P, g, re, h, fin⟩ =>
  lfA_bind ⟨g, re⟩ h fun vs xs S1 H1 le1 m1 rx h1 => l S1 H1 vs xs P Q m1.g rx h1 (fin.le le1)

variable {st : Stmt} {sts : List Stmt} {t u : UTS}
def uNext : UTS := fun E env S => E.nx env S
def uSeq (t u : UTS) : UTS := fun E env S => t { E with nx := u E } env S
theorem uss_nil : USs X [] uNext := PSs.imp pss_nil fun D σ H ⟨S, env, E, g, re, h, fin⟩ => fin.nx σ env S H .refl g re h
theorem uss_cons (h1 : US X st t) (h2 : USs X sts u) : USs X (st :: sts) (uSeq t u) := PSs.imp (pss_cons h1 h2) fun D σ H ⟨S, env, E, g, re, h, fin⟩ =>
  ⟨S, env, _, g, re, h, ⟨fun σ' env' S' H' le g' re' hn => ⟨S', env', E, g', re', hn, fin.le le⟩, fin.rt, fin.bk, fin.ct⟩⟩
theorem uss_one (h1 : US X st t) : USs X [st] t := PSs.imp (pss_one h1) fun _ _ _ h => h
def uDrop (te : UTE) : UTS := fun E env S => te env S fun _ S1 => E.nx env S1
theorem us_expr (he : UE X e te) (hs : swapsWith e none pos.line X.env = pure false := by rfl) : US X (.Expr e pos) (uDrop te) := PS.imp (ps_expr he hs) fun D σ H ⟨S, env, E, g, re, h, fin⟩ =>
  lf_bind ⟨g, re⟩ h fun v x S1 H1 le1 m1 rx h1 => fin.nx σ env S1 H1 le1 m1.g m1.re h1
def uRet (te : UTE) : UTS := fun E env S => te env S E.rt
theorem us_ret (he : UE X e te) : US X (.Return (some e) pos) (uRet te) := PS.imp (ps_ret he) fun D σ H ⟨S, env, E, g, re, h, fin⟩ =>
  lf_bind ⟨g, re⟩ h fun v x S1 H1 le1 m1 rx h1 => fin.rt v x S1 H1 le1 m1.g rx h1
def uIf (k : UTT) (t u : UTS) : UTS := fun E env S => k env S fun b S1 => (b = true → t E env S1) ∧ (b = false → u E env S1)
theorem us_if {aa bb : List Stmt} (hc : UT X c tA) (ha : USs X aa t) (hb : USs X bb u) : US X (.If c aa bb pos) (uIf tA t u) := PS.imp (ps_if hc ha hb) fun D σ H ⟨S, env, E, g, re, h, fin⟩ =>
  lfT_bind ⟨g, re⟩ h fun k S1 H1 le1 m1 hk => by
    cases k with
    | true => rw [if_pos rfl]; exact ⟨S1, env, E, m1.g, m1.re, hk.1 rfl, fin.le le1⟩
    | false => rw [if_neg Bool.false_ne_true]; exact ⟨S1, env, E, m1.g, m1.re, hk.2 rfl, fin.le le1⟩
def uSet (i : Nat) (te : UTE) : UTS := fun E env S => te env S fun x S1 => E.nx (env.set i (some x)) S1
theorem us_set (i : Nat) {x : Str} {pos' : Pos} (hN : X.N.Nodup) (he : UE X e te) (hi : X.N[i]? = some x := by rfl) (hx : Loc X.env.scope x := by first | exact Or.inl rfl | exact Or.inr rfl) (hs : swapsWith e (some (.Name x pos')) pos.line X.env = pure false := by rfl)
    (hf : X.fn x = true ∨ X.env.scope.names.lookup x = some .local := by first | exact .inl rfl | exact .inr rfl) : US X (.Assign [.Name x pos'] e pos) (uSet i te) := PS.imp (ps_set hN hi hx he hs hf) fun D σ H ⟨S, env, E, g, re, h, fin⟩ =>
  lf_bind ⟨g, re⟩ h fun v y S1 H1 le1 m1 ry h1 => fin.nx _ _ S1 H1 le1 m1.g (m1.re.set ry) h1
/-- xs[i] = e of a cell -/
def uSetIx (te to ti : UTE) : UTS := fun E env S => te env S fun x S1 => to env S1 fun o S2 => ti env S2 fun i S3 => match o, i with
  | .ref p, .int k => ∃ ts j, S3 p = some (.lst ts) ∧ ixN ts.length k = some j ∧ E.nx env (updT S3 p (.lst (ts.set j x)))
  | _, _ => False
theorem us_setIx {o i : Expr} {to ti : UTE} {pos' : Pos} (he : UE X e te) (ho : UE X o to) (hi : UE X i ti)
    (ha : ∀ v, assign (.Subscript o i pos') X.env v = (do
      let ov ← holding [v] (eval o X.env)
      let iv ← holding [v, ov] (eval i X.env)
      standAt pos'
      holding [v, ov, iv] (setItem ov iv v)
      release [v, ov, iv] []) := by intro _; rfl) (hs : swapsWithSole [.Subscript o i pos'] e pos.line X.env = pure false := by rfl) (hw : swappedStores [.Subscript o i pos'] e X.env = pure none := by rfl)
    (h1 : (assignEach [.Subscript o i pos'] X.env).map (·.2) = [assign (.Subscript o i pos') X.env] := by rfl) : US X (.Assign [.Subscript o i pos'] e pos) (uSetIx te to ti) :=
  PS.imp (ps_asg he (pg_sub ho hi set_list ha) hs hw h1) fun D σ H ⟨S, env, E, g, re, h, fin⟩ =>
  lf_bind ⟨g, re⟩ h fun v x S1 H1 le1 m1 rx h1 => lf_bind m1 h1 fun ov o S2 H2 le2 m2 ro h2 => lf_bind m2 h2 fun iv i S3 H3 le3 m3 ri h3 => by
    cases o with
    | ref p =>
      cases i with
      | int k =>
        obtain ⟨ts, j, e1, e2, e3⟩ := h3
        obtain ⟨vs, q, rv⟩ := m3.g p _ e1
        cases ro
        cases ri
        have rx3 := rx.mono (le2.trans le3)
        refine ⟨p, vs, k, j, rfl, rfl, q, by rw [rv.1]; exact e2, ?_⟩
        exact fin.nx σ env _ _ (le1.trans (le2.trans (le3.trans (Le.write e1)))) (m3.g.writeL e1 (rv.set rx3)) (m3.re.mono (Le.write e1)) e3
      | _ => exact h3.elim
    | _ => exact h3.elim
end
end TL
end
section
set_option Elab.async false
set_option linter.all false
set_option maxRecDepth 100000
set_option maxHeartbeats 4000000
namespace TL
open PySem PySem.Spec PyProof.Rows L2

structure Ylds (K : PySem.W.Frag) (J : It) (ts : List T) (S1 : TH) (H1 : Hp) : Prop where
  go : ∀ (i : Nat) S2 H2, Le S1 H1 S2 H2 → Good K S2 H2 → i < ts.length → J.go i H2
  stop : ∀ S2 H2, Le S1 H1 S2 H2 → Good K S2 H2 → J.stop ts.length H2
  yld : ∀ (i : Nat) S2 H2 x H3, Le S1 H1 S2 H2 → Good K S2 H2 → i < ts.length → J.yld i H2 x H3 → Le S2 H2 S2 H3 ∧ Good K S2 H3 ∧ ∃ t, ts[i]? = some t ∧ Rep K S2 H3 x t
def lfI (K : PySem.W.Frag) (t : UTA) : TI := fun σ H R => ∃ S env P, Good K S H ∧ REnv K S H σ env ∧ t env S P ∧ ∀ ts J S1 H1, Le S H S1 H1 → Good K S1 H1 → P ts S1 → Ylds K J ts S1 H1 → R J H1
def UI (X : Cx) (tg iter : Expr) (t : UTA) : Prop := PI X tg iter (lfI X.K t)
abbrev UTG := T → Ev → TH → (Ev → TH → Prop) → Prop
def lfG (K : PySem.W.Frag) (g : UTG) : TG := fun v σ H Q => ∃ S env x P, Good K S H ∧ REnv K S H σ env ∧ Rep K S H v x ∧ g x env S P ∧ ∀ σ' env' S' H', Le S H S' H' → Good K S' H' → REnv K S' H' σ' env' → P env' S' → Q σ' H'
def UG (X : Cx) (tg : Expr) (g : UTG) : Prop := PG X tg (lfG X.K g)
theorem PI.imp {X : Cx} {tg e : Expr} {t t' : TI} (h : PI X tg e t) (i : ∀ σ H R, t' σ H R → t σ H R) : PI X tg e t' := fun pins s σ H R I q => h pins s σ H R I (i σ H R q)
theorem PG.imp {X : Cx} {tg : Expr} {t t' : TG} (h : PG X tg t) (i : ∀ v σ H Q, t' v σ H Q → t v σ H Q) : PG X tg t' := fun pins s σ H v u Q I r q => h pins s σ H v u Q I r (i v σ H Q q)

section
variable {K : PySem.W.Frag} {S : TH} {H : Hp} {a : Addr} {vs : List V} {ts : List T}
theorem ylds_list (f : ∀ S2 H2, Le S H S2 H2 → SqL K H2 a vs) (r : Reps K S H vs ts) : Ylds K (Itl K a) ts S H where
  go := fun i S2 H2 le g hi => ⟨vs, vs[i]'(by rw [r.1]; exact hi), (f S2 H2 le), List.getElem?_eq_getElem _⟩
  stop := fun S2 H2 le g => ⟨vs, f S2 H2 le, by rw [r.1]; exact Nat.le_refl _⟩
  yld := fun i S2 H2 x H3 le g hi y => by
    obtain ⟨rfl, y⟩ := y
    obtain ⟨t, et, rt⟩ := r.get' (y vs (f _ _ le))
    exact ⟨.refl, g, t, et, rt.mono le⟩
theorem ylds_tup (f : FT K S H a vs) (r : Reps K S H vs ts) : Ylds K (Itt K a) ts S H where
  go := fun i S2 H2 le g hi => ⟨vs, vs[i]'(by rw [r.1]; exact hi), (f.mono le).sq, List.getElem?_eq_getElem _⟩
  stop := fun S2 H2 le g => ⟨vs, (f.mono le).sq, by rw [r.1]; exact Nat.le_refl _⟩
  yld := fun i S2 H2 x H3 le g hi y => by
    obtain ⟨rfl, y⟩ := y
    obtain ⟨t, et, rt⟩ := r.get' (y vs (f.mono le).sq)
    exact ⟨.refl, g, t, et, rt.mono le⟩
def rngT (n : Nat) : List T := (List.range n).map fun (k : Nat) => T.int (k : Int)
theorem rngT_length (n : Nat) : (rngT n).length = n := by simp [rngT]
theorem rngT_get {n i : Nat} (h : i < n) : (rngT n)[i]? = some (.int i) := by simp [rngT, h]
theorem ylds_rng {n : Nat} : Ylds K (Itr 0 n) (rngT n) S H where
  go := fun i S2 H2 le g hi => by rw [rngT_length] at hi; exact hi
  stop := fun S2 H2 le g => by rw [rngT_length]; exact Nat.le_refl n
  yld := fun i S2 H2 x H3 le g hi y => by
    obtain ⟨rfl, rfl⟩ := y
    rw [rngT_length] at hi
    refine ⟨.refl, g, .int i, rngT_get hi, ?_⟩
    rw [Int.zero_add]
    exact .int _
end

section
variable {X : Cx} {a b c e tg iter : Expr} {es : List Expr} {ta tb te : UTE} {tr : UTA} {pos : Pos}
def uRng1 (t : UTA) : UTA := fun env S P => t env S fun ts S1 => match ts with
  | [.int j] => -(2 ^ 62) ≤ j ∧ j < 2 ^ 62 ∧ P (rngT j.toNat) S1
  | _ => False
theorem ui_range1 {p : Pos} (hg : Gl X "range") (hm : X.mg "range" = none) (ha : UA X [a] tr) (hs : starEach [a] X.env = [(false, eval a X.env)] := by rfl) : UI X tg (.Call (.Name "range" p) [a] [] pos) (uRng1 tr) :=
  PI.imp (pi_range1 hg hm ha hs) fun σ H R ⟨S, env, P, g, re, h, fin⟩ => lfA_bind ⟨g, re⟩ h fun vs xs S1 H1 le1 m1 rx h1 => by
    match xs, vs, rx, h1 with
    | [.int j], [v], rx, h1 =>
      have r0 := rx.head
      cases r0
      exact ⟨j, rfl, h1.1, h1.2.1, fin _ _ S1 H1 le1 m1.g h1.2.2 ylds_rng⟩
    | [.int j], [], rx, _ => exact absurd rx.1 (by simp)
    | [.int j], _ :: _ :: _, rx, _ => exact absurd rx.1 (by simp)
def gNm (i : Nat) : UTG := fun x env S P => P (env.set i (some x)) S
theorem ug_name (i : Nat) {x : Str} (hN : X.N.Nodup) (hi : X.N[i]? = some x := by rfl) (hx : Loc X.env.scope x := by first | exact Or.inl rfl | exact Or.inr rfl) (hf : X.fn x = true ∨ X.env.scope.names.lookup x = some .local := by first | exact .inl rfl | exact .inr rfl) :
    UG X (.Name x pos) (gNm i) := PG.imp (pg_name hN hi hx hf) fun v σ H Q ⟨S, env, x, P, g, re, rx, h, fin⟩ => fin _ _ S H .refl g (re.set rx) h
/-- two names at a pair -/
def gPr (i j : Nat) : UTG := fun x env S P => match x with
  | .tup [x, y] => P ((env.set i (some x)).set j (some y)) S
  | _ => False
variable {t : UTS} {body : List Stmt} {ti : UTA} {gg : UTG}
def uFor (ti : UTA) (gg : UTG) (tb : UTS) : UTS := fun E env S => ti env S fun ts S1 => ∃ Iv : Nat → Ev → TH → Prop, Iv 0 env S1 ∧
  (∀ k x env S, ts[k]? = some x → Iv k env S → gg x env S fun env' S' => tb { E with nx := Iv (k + 1), ct := Iv (k + 1), bk := E.nx } env' S') ∧ ∀ env S, Iv ts.length env S → E.nx env S
theorem us_for (hp : PassesOwn (model X.prog X.w) X.A X.env X.xe) (hc : X.calm = true) (hi : UI X tg iter ti) (hg : UG X tg gg) (hb : USs X body t) (hs : ∀ x, foldedSetIterable iter X.env x = pure x := by intro _; rfl) :
    US X (.For tg iter body [] pos) (uFor ti gg t) := PS.imp (ps_for hp hc hi hg hb hs) fun D σ H h => by
  obtain ⟨S, env, E, g, re, h, fin⟩ := h
  refine ⟨S, env, _, g, re, h, fun ts J S1 H1 le1 g1 hq yl => ?_⟩
  obtain ⟨Iv, i0, step, done⟩ := hq
  refine ⟨fun i m σ' H' => m = ts.length - i ∧ i ≤ ts.length ∧ ∃ S' env', Le S1 H1 S' H' ∧ Good X.K S' H' ∧ REnv X.K S' H' σ' env' ∧ Iv i env' S', ⟨ts.length, rfl, Nat.zero_le _, S1, env, .refl, g1, re.mono le1, i0⟩, ?_⟩
  rintro i m σ' H' ⟨rfl, hi, S', env', le', g', re', iv⟩
  by_cases hlt : i < ts.length
  · refine .inr ⟨yl.go i S' H' le' g' hlt, fun σ2 H2 => ∃ S2 env2, Le S1 H1 S2 H2 ∧ Good X.K S2 H2 ∧ REnv X.K S2 H2 σ2 env2 ∧ Iv (i + 1) env2 S2, fun σ2 H2 z => ?_, fun x H2 y => ?_⟩
    · exact ⟨ts.length - (i + 1), by omega, rfl, hlt, z⟩
    · obtain ⟨le2, g2, tt, et, rt⟩ := yl.yld i S' H' x H2 le' g' hlt y
      refine ⟨S', env', tt, _, g2, re'.mono le2, rt, step i tt env' S' et iv, fun σ3 env3 S3 H3 le3 g3 re3 hb3 => ?_⟩
      have l03 : Le S H S3 H3 := le1.trans (le'.trans (le2.trans le3))
      have l13 : Le S1 H1 S3 H3 := le'.trans (le2.trans le3)
      refine ⟨S3, env3, _, g3, re3, hb3, ⟨fun σ4 env4 S4 H4 le4 g4 re4 q => ⟨S4, env4, l13.trans le4, g4, re4, q⟩, fun v r S4 H4 le4 g4 rp q => fin.rt v r S4 H4 (l03.trans le4) g4 rp q, fun σ4 env4 S4 H4 le4 g4 re4 q => fin.nx σ4 env4 S4 H4 (l03.trans le4) g4 re4 q, fun σ4 env4 S4 H4 le4 g4 re4 q => ⟨S4, env4, l13.trans le4, g4, re4, q⟩⟩⟩
  · have ei : i = ts.length := by omega
    subst ei
    exact .inl ⟨yl.stop S' H' le' g', fin.nx σ' env' S' H' (le1.trans le') g' re' (done env' S' iv)⟩
def evOf (pick : List (Option Nat)) (env : Ev) : Ev := pick.map fun o => match o with
  | none => none
  | some j => match env[j]? with
    | some (some v) => some v
    | _ => none
/-- the names within by their slots without; Iv: what is told after k turns -/
def uComp (pick : List (Option Nat)) (ti : UTA) (gg : UTG) (tc : UTT) (te : UTE) : UTE := fun env S P => ti env S fun ts S1 => ts.length ≤ sizeLine ∧ ∃ Iv : Nat → List T → TH → Prop, Iv 0 [] S1 ∧
  (∀ k x acc S, ts[k]? = some x → Iv k acc S → gg x (evOf pick env) S fun env' S' => tc env' S' fun b S2 => (b = true → te env' S2 fun r S3 => Iv (k + 1) (acc ++ [r]) S3) ∧ (b = false → Iv (k + 1) acc S2)) ∧
  ∀ acc S, Iv ts.length acc S → P (.lst acc) S
end

theorem REnv.pick {K : PySem.W.Frag} {S : TH} {H : Hp} {σ : L2.St} {env : Ev} (h : REnv K S H σ env) (pick : List (Option Nat)) : REnv K S H (slotsOf pick σ) (evOf pick env) := by
  refine ⟨by simp [slotsOf, evOf], fun i t e => ?_⟩
  unfold evOf at e
  unfold slotsOf
  rw [List.getElem?_map] at e ⊢
  cases ep : pick[i]? with
  | none => rw [ep] at e; cases e
  | some o =>
    rw [ep] at e
    cases o with
    | none => cases e
    | some j =>
      cases ev : env[j]? with
      | none => simp only [ev, Option.map_some, Option.some.injEq] at e; cases e
      | some ov =>
        cases ov with
        | none => simp only [ev, Option.map_some, Option.some.injEq] at e; cases e
        | some t' =>
          simp only [ev, Option.map_some, Option.some.injEq] at e
          subst e
          obtain ⟨v, e', r⟩ := h.2 j _ ev
          exact ⟨v, by simp only [Option.map_some, e'], r⟩
theorem keep_set {pick : List (Option Nat)} {σ : L2.St} {i : Nat} {v : V} (h : pick[i]? = some none) : Keep (slotsOf pick σ) ((slotsOf pick σ).set i (some v)) := by
  refine ⟨by simp, fun j w e => ?_⟩
  by_cases hj : i = j
  · subst hj
    unfold slotsOf at e
    rw [List.getElem?_map, h] at e
    cases e
  · rw [List.getElem?_set_ne hj]; exact e
theorem keep_set2 {pick : List (Option Nat)} {σ : L2.St} {i j : Nat} {v w : V} (h : pick[i]? = some none) (h' : pick[j]? = some none) : Keep (slotsOf pick σ) (((slotsOf pick σ).set i (some v)).set j (some w)) := by
  obtain ⟨a1, a2⟩ := keep_set (σ := σ) (v := v) h
  refine ⟨by simp, fun k x e => ?_⟩
  by_cases hj : j = k
  · subst hj
    unfold slotsOf at e
    rw [List.getElem?_map, h'] at e
    cases e
  · rw [List.getElem?_set_ne hj]; exact a2 k x e

section
variable {X : Cx} {elt iter : Expr} {ti : UTA} {tc : UTT} {te : UTE} {pos : Pos} {scope : Scope} {ifs : List Expr} {N : List Str} {pick : List (Option Nat)}
/-- the turns of a comprehension: from trees to values; set is what the target does to the slots -/
theorem comp_read {K : PySem.W.Frag} {g : TG} {gg : UTG} {σ : L2.St} {H : Hp} {Q : VK}
    (hg : ∀ x tt S1 H1 env (k : Ev → TH → Prop) (R : L2.St → Hp → Prop), Good K S1 H1 → REnv K S1 H1 (slotsOf pick σ) (evOf pick env) → Rep K S1 H1 x tt → gg tt (evOf pick env) S1 k →
      (∀ σ2 env2, REnv K S1 H1 σ2 env2 → k env2 S1 → R σ2 H1) → g x (slotsOf pick σ) H1 fun σ2 H2 => Keep (slotsOf pick σ) σ2 ∧ R σ2 H2)
    (h : lf K (uComp pick ti gg tc te) σ H Q) : tComp pick (lfI K ti) g (lfT K tc) (lf K te) σ H Q := by
  obtain ⟨S, env, P, gd, re, h, fin⟩ := h
  refine ⟨S, env, _, gd, re, h, fun ts J S1 H1 le1 g1 hq yl => ?_⟩
  obtain ⟨hz, Iv, i0, step, done⟩ := hq
  refine ⟨fun k m acc H' => m = ts.length - k ∧ k ≤ ts.length ∧ acc.length ≤ k ∧ ∃ S' racc, Le S1 H1 S' H' ∧ Good K S' H' ∧ Reps K S' H' acc racc ∧ Iv k racc S', ⟨ts.length, rfl, Nat.zero_le _, Nat.le_refl _, S1, [], .refl, g1, .nil, i0⟩, ?_⟩
  rintro k m acc H' ⟨rfl, hk, ha, S', racc, le', g', ra, iv⟩
  by_cases hlt : k < ts.length
  · refine .inr ⟨yl.go k S' H' le' g' hlt, by omega, fun acc' H2 => acc'.length ≤ k + 1 ∧ ∃ S2 racc', Le S1 H1 S2 H2 ∧ Good K S2 H2 ∧ Reps K S2 H2 acc' racc' ∧ Iv (k + 1) racc' S2, fun acc' H2 z => ⟨ts.length - (k + 1), by omega, rfl, hlt, z.1, z.2⟩, fun x H2 y => ?_⟩
    obtain ⟨le2, g2, tt, et, rt⟩ := yl.yld k S' H' x H2 le' g' hlt y
    have l02 : Le S H S' H2 := le1.trans (le'.trans le2)
    refine hg x tt S' H2 env _ _ g2 ((re.mono l02).pick pick) rt (step k tt racc S' et iv) fun σ2 env2 re2 h2 => ?_
    refine lfT_bind ⟨g2, re2⟩ h2 fun b S3 H3 le3 m3 hb => ?_
    have l13 : Le S1 H1 S3 H3 := le'.trans (le2.trans le3)
    have r3 := ra.mono (le2.trans le3)
    cases b with
    | false => rw [if_neg Bool.false_ne_true]; exact ⟨by omega, S3, racc, l13, m3.g, r3, hb.2 rfl⟩
    | true =>
      rw [if_pos rfl]
      refine lf_bind m3 (hb.1 rfl) fun w r S4 H4 le4 m4 rw4 h4 => ?_
      exact ⟨by rw [List.length_append, List.length_singleton]; omega, S4, racc ++ [r], l13.trans le4, m4.g, (r3.mono le4).append (.cons rw4 .nil), h4⟩
  · have ek : k = ts.length := by omega
    subst ek
    exact .inl ⟨yl.stop S' H' le' g', by omega, fun p hp => fin_lst (fin.le (le1.trans le')) g' hp ra (done racc S' iv)⟩
theorem ue_comp1 (i : Nat) (N : List Str) (pick : List (Option Nat)) {x : Str} {px : Pos} (hc : X.calm = true) (hi : UI X (.Name x px) iter ti) (ht : ∀ C s H fp pins, PTs (cxComp X N scope C s H fp pins) ifs (lfT X.K tc)) (he : ∀ C s H fp pins, UE (cxComp X N scope C s H fp pins) elt te)
    (hs : scopeOk X.env.scope.names scope.names = true := by rfl) (hp : pickOk X.N scope.names N pick = true := by rfl) (hk : scope.kind = .function := by rfl) (hN : N.Nodup := by decide +kernel)
    (hiN : N[i]? = some x := by rfl) (hpi : pick[i]? = some none := by rfl) (hloc : scope.names.lookup x = some .local := by rfl) (hfs : ∀ x, foldedSetIterable iter X.env x = pure x := by intro _; rfl) :
    UE X (.ListComp elt [⟨.Name x px, iter, ifs, 0⟩] scope pos) (uComp pick ti (gNm i) tc te) :=
  PE.imp (pe_comp hc hs hp hk hi (fun C s H fp pins => pg_name (i := i) hN hiN (.inl (lookup_relabel_local hloc)) (.inr (lookup_relabel_local hloc))) ht (te := lf X.K te) he hfs) fun σ H Q h =>
    comp_read (fun y tt S1 H1 env k R gd re rt hg hR => ⟨keep_set hpi, hR _ _ (re.set rt) hg⟩) h
theorem ue_comp2 (i j : Nat) (N : List Str) (pick : List (Option Nat)) {x y : Str} {p1 p2 p3 : Pos} {kk : Nat} (hc : X.calm = true) (hi : UI X (.Tuple [.Name x p1, .Name y p2] kk p3) iter ti) (ht : ∀ C s H fp pins, PTs (cxComp X N scope C s H fp pins) ifs (lfT X.K tc))
    (he : ∀ C s H fp pins, UE (cxComp X N scope C s H fp pins) elt te)
    (hs : scopeOk X.env.scope.names scope.names = true := by rfl) (hp : pickOk X.N scope.names N pick = true := by rfl) (hk : scope.kind = .function := by rfl) (hN : N.Nodup := by decide +kernel)
    (hiN : N[i]? = some x := by rfl) (hpi : pick[i]? = some none := by rfl) (hloc : scope.names.lookup x = some .local := by rfl) (hjN : N[j]? = some y := by rfl) (hpj : pick[j]? = some none := by rfl) (hloc' : scope.names.lookup y = some .local := by rfl)
    (hfs : ∀ x, foldedSetIterable iter X.env x = pure x := by intro _; rfl) :
    UE X (.ListComp elt [⟨.Tuple [.Name x p1, .Name y p2] kk p3, iter, ifs, 0⟩] scope pos) (uComp pick ti (gPr i j) tc te) :=
  PE.imp (pe_comp (g := gTup X.K 2 (gCons (gName i) (gCons (gName j) gNil))) hc hs hp hk hi (fun C s H fp pins => pg_tup (X := cxComp X N scope C s H fp pins) (n := 2) hc (pgs_cons (pg_name (X := cxComp X N scope C s H fp pins) (i := i) hN hiN (.inl (lookup_relabel_local hloc)) (.inr (lookup_relabel_local hloc))) (pgs_cons (pg_name (X := cxComp X N scope C s H fp pins) (i := j) hN hjN (.inl (lookup_relabel_local hloc')) (.inr (lookup_relabel_local hloc'))) pgs_nil))) ht (te := lf X.K te) he hfs) fun σ H Q h =>
    comp_read (fun v tt S1 H1 env k R gd re rt hg hR => by
      cases tt with
      | tup ts =>
        match ts, hg with
        | [a, b], hg =>
          obtain ⟨l, vs, rfl, f, r⟩ := rt.tupE
          match vs, f, r with
          | [v, w], f, r => exact ⟨l, [v, w], rfl, f.sq, rfl, v, [w], rfl, w, [], rfl, rfl, keep_set2 hpi hpj, hR _ _ ((re.set r.head).set r.tail.head) hg⟩
          | [], _, r => exact absurd r.1 (by simp)
          | [_], _, r => exact absurd r.1 (by simp)
          | _ :: _ :: _ :: _, _, r => exact absurd r.1 (by simp)
      | _ => exact hg.elim) h
def uYes : UTT := fun _ S P => P true S
theorem uts_nil : PTs X [] (lfT X.K uYes) := fun pins s σ H Q I h => pts_nil pins s σ H Q I (by
  obtain ⟨S, env, P, g, re, h, fin⟩ := h
  exact fin true S H .refl g h)
end

def startT (N : List Str) (ts : List T) : Ev := ts.map some ++ List.replicate (N.length - ts.length) none
section
variable {P : Program} {w : World} {K : PySem.W.Frag} {mg : Str → Option Value} {base : Heap}
theorem renv_start {S : TH} {H : Hp} {N : List Str} {vs : List V} {ts : List T} (r : Reps K S H vs ts) : REnv K S H (L2.start N vs) (startT N ts) := by
  refine ⟨by simp [L2.start, startT, r.1], fun i t e => ?_⟩
  unfold startT at e
  unfold L2.start
  by_cases hi : i < ts.length
  · rw [List.getElem?_append_left (by simpa using hi), List.getElem?_map] at e
    cases et : ts[i]? with
    | none => rw [et] at e; cases e
    | some t' =>
      rw [et] at e
      cases e
      obtain ⟨v, ev, rv⟩ := r.get et
      refine ⟨v, ?_, rv⟩
      rw [List.getElem?_append_left (by simp [r.1]; exact hi), List.getElem?_map, ev]
      rfl
  · rw [List.getElem?_append_right (by simpa using hi), List.getElem?_replicate] at e
    split at e <;> cases e
theorem def_u {x qual : Str} {st : Stmt} {f : Addr} {fd : FuncData} {N ps : List Str} {k : Nat} {t : List T → TH → UX → Prop} (F : Fun K x qual st f fd) (Sc : FnScope N ps (defScope st)) (hl : ∀ ts S Pp, t ts S Pp → ts.length = ps.length)
    (hb : ∀ (cdv : Value) (A : Around) (outer : List Env) (s : Shared) (H : Hp) (E : XK), Room k (A.deeper (envOfC qual (defScope st) s.heap.objs.size f cdv)) →
      ∃ tb, USs (cxOf CX0 P w K mg base N qual (defScope st) f cdv A outer s H E).nox (defBody st) tb ∧ ∀ ts S Pp, t ts S Pp → tb { nx := fun _ S' => Pp .non S', rt := Pp } (startT N ts) S) :
    FnOk P w K mg base CX0 (k + 1) f fd ps (spU K t) := by
  refine F.ok Sc (fun vs H Q E h => ?_) (fun cdv A outer s H vs Q E hr h => ?_)
  · obtain ⟨S, ts, Pp, _, r, h, _⟩ := h
    rw [r.1]
    exact hl ts S Pp h
  · obtain ⟨S, ts, Pp, g, r, h, fin⟩ := h
    obtain ⟨tb, hu, hq⟩ := hb cdv A outer s H E hr
    refine ⟨_, hu, S, startT N ts, _, g, renv_start r, hq ts S Pp h, ⟨fun σ' env' S' H' le g' re' q => fin .non .non S' H' le g' .non q, fun v r' S' H' le g' rp q => fin v r' S' H' le g' rp q, fun _ _ _ _ _ _ _ z => z.elim, fun _ _ _ _ _ _ _ z => z.elim⟩⟩
/-- a promise of a def, at every number of calls it needs -/
theorem none_u {f : Addr} {fd : FuncData} {ps : List Str} {k : Nat} {t : List T → TH → UX → Prop} (h : ∀ ts S Pp, ¬ t ts S Pp) : FnOk P w K mg base CX0 k f fd ps (spU K t) := by
  have no : ∀ vs H Q E, ¬ spU K t vs H Q E := fun vs H Q E z => by
    obtain ⟨S, ts, Pp, _, _, z, _⟩ := z
    exact h ts S Pp z
  exact ⟨fun vs H Q E z => absurd z (no vs H Q E), fun A outer s H args us vs Q E _ _ _ _ z => absurd z (no vs H Q E)⟩
end
end TL
end
section
set_option Elab.async false
set_option linter.all false
set_option maxRecDepth 100000
set_option maxHeartbeats 4000000
namespace L2
open PySem PySem.Spec PyProof.Rows
section
variable {X : Cx}
end
end L2
namespace TL
open PySem PySem.Spec PyProof.Rows L2
section
variable {K : PySem.W.Frag} {S : TH} {H : Hp} {vs : List V} {ts : List T} {t : T} {i : Int}
theorem Reps.at (h : Reps K S H vs ts) (e : atI ts i = some t) : ∃ v, atI vs i = some v ∧ Rep K S H v t := by
  unfold atI at e ⊢
  rw [h.1]
  cases q : ixN ts.length i with
  | none => rw [q] at e; cases e
  | some j =>
    rw [q] at e
    exact h.get e
/-- an item by its place -/
def oIx : T → T → TH → UX → Prop := fun x y S P => match x, y with
  | .lst ts, .int i => ∃ t, atI ts i = some t ∧ P t S
  | .fls ts, .int i => ∃ t, atI ts i = some t ∧ P t S
  | .tup ts, .int i => ∃ t, atI ts i = some t ∧ P t S
  | .str z, .int i => z.length ≤ sizeLine ∧ ∃ c, atI z.cps.toList i = some c ∧ P (.str ⟨#[c]⟩) S
  | .ref p, .int i => ∃ ts, S p = some (.lst ts) ∧ ∃ t, atI ts i = some t ∧ P t S
  | _, _ => False
theorem lIx : LOp K (rIx K) oIx := fun S H v w x y P Q g rx ry ho fin => by
  have go : ∀ {ts : List T} {vs : List V} {i : Int} {a : Addr}, Reps K S H vs ts → (∃ t, atI ts i = some t ∧ P t S) → ∃ v t, atI vs i = some v ∧ Rep K S H v t ∧ P t S := fun {ts vs i a} r h => by
    obtain ⟨t, e, h⟩ := h
    obtain ⟨v, ev, rv⟩ := r.at e
    exact ⟨v, t, ev, rv, h⟩
  cases y with
  | int i =>
    cases ry
    cases x with
    | lst ts =>
      obtain ⟨a, vs, rfl, f, r⟩ := rx.lstE
      obtain ⟨u, t, e, ru, hp⟩ := go (a := a) r ho
      exact .inl ⟨a, vs, i, u, rfl, rfl, f.sq, e, fin u t S H .refl g ru hp⟩
    | fls ts =>
      obtain ⟨a, vs, rfl, f, r⟩ := rx.flsE
      obtain ⟨u, t, e, ru, hp⟩ := go (a := a) r ho
      exact .inl ⟨a, vs, i, u, rfl, rfl, f.sq, e, fin u t S H .refl g ru hp⟩
    | tup ts =>
      obtain ⟨a, vs, rfl, f, r⟩ := rx.tupE
      obtain ⟨u, t, e, ru, hp⟩ := go (a := a) r ho
      exact .inr (.inl ⟨a, vs, i, u, rfl, rfl, f.sq, e, fin u t S H .refl g ru hp⟩)
    | str z =>
      cases rx
      obtain ⟨hz, c, e, ho⟩ := ho
      exact .inr (.inr ⟨z, i, c, rfl, rfl, hz, e, fin _ _ S H .refl g (.str _) ho⟩)
    | ref p =>
      cases rx
      obtain ⟨ts, e, ho⟩ := ho
      obtain ⟨vs, q, r⟩ := g p _ e
      obtain ⟨u, t, e', ru, hp⟩ := go (a := p) r ho
      exact .inl ⟨p, vs, i, u, rfl, rfl, SqL.of q, e', fin u t S H .refl g ru hp⟩
    | _ => exact ho.elim
  | _ => cases x <;> exact ho.elim
end
section
variable {X : Cx} {a b c e : Expr} {es : List Expr} {ta tb te : UTE} {tr : UTA} {pos : Pos}
theorem ue_ix (ha : UE X a ta) (hb : UE X b tb) (hs : PlainIx b := by intro _ _; rfl) : UE X (.Subscript a b pos) (uBin oIx ta tb) := PE.imp (pe_ix ix_seq ha hb hs) fun _ _ _ h => u_bin lIx h

def keyT : T → Option Key
  | .int i => some (.inl i)
  | .str x => some (.inr x)
  | _ => none
def valT (kts : List (Key × T)) (k : Key) : Option T := (kts.find? fun kv => decide (kv.1 = k)).map (·.2)
theorem RepK.val {K : PySem.W.Frag} {S : TH} {H : Hp} {k : Key} : ∀ {kvs : List (Key × V)} {kts : List (Key × T)}, RepK K S H kvs kts → (∀ t, valT kts k = some t → ∃ v, valV kvs k = some v ∧ Rep K S H v t) ∧ (valT kts k = none → valV kvs k = none)
  | [], [], _ => ⟨fun t e => (by simp [valT] at e), fun _ => rfl⟩
  | [], _ :: _, h => by have := h.1; simp at this
  | _ :: _, [], h => by have := h.1; simp at this
  | v :: kvs, t :: kts, h => by
    have h0 := h.2 0 v t rfl rfl
    have ht : RepK K S H kvs kts := ⟨by simpa using h.1, fun i v' t' e1 e2 => h.2 (i + 1) v' t' (by simpa using e1) (by simpa using e2)⟩
    have ih := RepK.val (k := k) ht
    by_cases e : t.1 = k
    · have e' : v.1 = k := h0.1.trans e
      have q1 : valT (t :: kts) k = some t.2 := by simp [valT, List.find?_cons, e]
      have q2 : valV (v :: kvs) k = some v.2 := by simp [valV, List.find?_cons, e']
      rw [q1, q2]
      exact ⟨fun t' z => by cases z; exact ⟨_, rfl, h0.2⟩, fun z => by cases z⟩
    · have e' : ¬ v.1 = k := fun z => e (h0.1.symm.trans z)
      have q1 : valT (t :: kts) k = valT kts k := by simp [valT, List.find?_cons, e]
      have q2 : valV (v :: kvs) k = valV kvs k := by simp [valV, List.find?_cons, e']
      rw [q1, q2]
      exact ih
def oDx : T → T → TH → UX → Prop := fun x y S P => match x with
  | .dct kts => ∃ k t, keyT y = some k ∧ valT kts k = some t ∧ P t S
  | .ref p => ∃ kts, S p = some (.dct kts) ∧ ∃ k t, keyT y = some k ∧ valT kts k = some t ∧ P t S
  | _ => False
def cutA {α : Type} (xs : List α) (lo hi : Option Int) : List α := (xs.drop (HT.sIx xs.length 0 lo)).take (HT.sIx xs.length xs.length hi - HT.sIx xs.length 0 lo)
theorem Reps.cut {K : PySem.W.Frag} {S : TH} {H : Hp} {vs : List V} {ts : List T} (h : Reps K S H vs ts) (lo hi : Option Int) : Reps K S H (cutV vs lo hi) (cutA ts lo hi) := by
  unfold cutV cutA
  rw [h.1]
  exact (h.drop _).take _
abbrev UTO := Ev → TH → (Option Int → TH → Prop) → Prop
def lfO (K : PySem.W.Frag) (t : UTO) : TO := fun σ H Q => ∃ S env P, Good K S H ∧ REnv K S H σ env ∧ t env S P ∧ ∀ o S' H', Le S H S' H' → Good K S' H' → P o S' → Q o H'
def UO (X : Cx) (e : Option Expr) (t : UTO) : Prop := PO X e (lfO X.K t)
theorem PO.imp {X : Cx} {e : Option Expr} {t t' : TO} (h : PO X e t) (i : ∀ σ H Q, t' σ H Q → t σ H Q) : PO X e t' := fun pins s σ H Q I q => h pins s σ H Q I (i σ H Q q)
def uoN : UTO := fun _ S P => P none S
def uoS (t : UTE) : UTO := fun env S P => t env S fun x S1 => match x with
  | .int i => P (some i) S1
  | _ => False
theorem uo_none : UO X none uoN := PO.imp po_none fun σ H Q ⟨S, env, P, g, re, h, fin⟩ => fin none S H .refl g h
theorem uo_some (h : UE X e te) : UO X (some e) (uoS te) := PO.imp (po_some h) fun σ H Q ⟨S, env, P, g, re, h, fin⟩ => lf_bind ⟨g, re⟩ h fun v x S1 H1 le1 m1 rx h1 => by
  cases x with
  | int i => cases rx; exact ⟨i, rfl, fin _ S1 H1 le1 m1.g h1⟩
  | _ => exact h1.elim
def oLen (xs : List T) (S : TH) (P : UX) : Prop := match xs with
  | [.lst ts] => P (.int ts.length) S
  | [.fls ts] => P (.int ts.length) S
  | [.tup ts] => P (.int ts.length) S
  | [.str z] => z.length ≤ sizeLine ∧ P (.int z.length) S
  | [.ref p] => ∃ ts, S p = some (.lst ts) ∧ P (.int ts.length) S
  | _ => False
theorem Reps.one {K : PySem.W.Frag} {S : TH} {H : Hp} {vs : List V} {t : T} (h : Reps K S H vs [t]) : ∃ v, vs = [v] ∧ Rep K S H v t := by
  match vs, h with
  | [v], h => exact ⟨v, rfl, h.head⟩
  | [], h => exact absurd h.1 (by simp)
  | _ :: _ :: _, h => exact absurd h.1 (by simp)
theorem Reps.two {K : PySem.W.Frag} {S : TH} {H : Hp} {vs : List V} {t u : T} (h : Reps K S H vs [t, u]) : ∃ v w, vs = [v, w] ∧ Rep K S H v t ∧ Rep K S H w u := by
  match vs, h with
  | [v, w], h => exact ⟨v, w, rfl, h.head, h.tail.head⟩
  | [], h => exact absurd h.1 (by simp)
  | [_], h => exact absurd h.1 (by simp)
  | _ :: _ :: _ :: _, h => exact absurd h.1 (by simp)
theorem lLen {K : PySem.W.Frag} : LCall K (fun xs H Q => (∃ p ys, xs = [.ref p] ∧ (SqL K H p ys ∨ SqT K H p ys) ∧ Q (.int ys.length) H) ∨ (∃ z, xs = [.str z] ∧ z.length ≤ sizeLine ∧ Q (.int z.length) H)) oLen := fun S H vs xs P Q g r ho fin => by
  match xs, r, ho with
  | [x], r, ho =>
    obtain ⟨v, rfl, rx⟩ := r.one
    cases x with
    | lst ts =>
      obtain ⟨a, us, rfl, f, r⟩ := rx.lstE
      refine .inl ⟨a, us, rfl, .inl f.sq, ?_⟩
      rw [r.1]
      exact fin _ _ S H .refl g (.int _) ho
    | fls ts =>
      obtain ⟨a, us, rfl, f, r⟩ := rx.flsE
      refine .inl ⟨a, us, rfl, .inl f.sq, ?_⟩
      rw [r.1]
      exact fin _ _ S H .refl g (.int _) ho
    | tup ts =>
      obtain ⟨a, us, rfl, f, r⟩ := rx.tupE
      refine .inl ⟨a, us, rfl, .inr f.sq, ?_⟩
      rw [r.1]
      exact fin _ _ S H .refl g (.int _) ho
    | str z => cases rx; exact .inr ⟨z, rfl, ho.1, fin _ _ S H .refl g (.int _) ho.2⟩
    | ref p =>
      cases rx
      obtain ⟨ts, e, ho⟩ := ho
      obtain ⟨us, q, r⟩ := g p _ e
      refine .inl ⟨p, us, rfl, .inl (SqL.of q), ?_⟩
      rw [r.1]
      exact fin _ _ S H .refl g (.int _) ho
    | _ => exact ho.elim
  | [], _, ho => exact ho.elim
  | _ :: _ :: _, _, ho => exact (by revert ho; simp [oLen])
theorem ue_len {p : Pos} (hg : Gl X "len") (hm : X.mg "len" = none) (ha : UA X [e] tr) (he : starEach [e] X.env = (false, eval e X.env) :: starEach [] X.env := by rfl) : UE X (.Call (.Name "len" p) [e] [] pos) (uCall oLen tr) := ue_callB (call_len_seq.or call_len_str) lLen hg hm PySem.boot_len ha (he := he)
def oList (xs : List T) (S : TH) (P : UX) : Prop := match xs with
  | [.lst ts] => P (.lst ts) S
  | [.tup ts] => P (.lst ts) S
  | _ => False
def oInt (xs : List T) (S : TH) (P : UX) : Prop := match xs with
  | [.int i] => P (.int i) S
  | [.bl k] => P (.int (if k then 1 else 0)) S
  | _ => False
/-- texts among texts -/
def strsT : List T → Option (List Str)
  | [] => some []
  | .str x :: r => (strsT r).map (x :: ·)
  | _ => none
theorem strsT_rep {K : PySem.W.Frag} {S : TH} {H : Hp} : ∀ {vs : List V} {ts : List T} {zs : List Str}, Reps K S H vs ts → strsT ts = some zs → vs = zs.map V.str
  | [], [], zs, _, e => by cases e; rfl
  | [], _ :: _, _, h, _ => by have := h.1; simp at this
  | _ :: _, [], _, h, _ => by have := h.1; simp at this
  | v :: vs, t :: ts, zs, h, e => by
    cases t with
    | str x =>
      have r0 := h.head
      cases r0
      simp only [strsT] at e
      cases q : strsT ts with
      | none => rw [q] at e; cases e
      | some ys =>
        rw [q] at e
        cases e
        rw [strsT_rep h.tail q]
        rfl
    | _ => cases e
theorem flat_strs (zs : List Str) : (zs.map V.str).all flatV = true := by
  induction zs with
  | nil => rfl
  | cons z r ih => rw [List.map_cons, List.all_cons, ih]; rfl
theorem inV_strs (x : Str) (zs : List Str) : inV (.str x) (zs.map V.str) = decide (x ∈ zs) := by
  unfold inV
  rw [List.any_map]
  induction zs with
  | nil => rfl
  | cons z r ih =>
    rw [List.any_cons, ih]
    show (eqV (V.str z) (V.str x) || decide (x ∈ r)) = decide (x ∈ z :: r)
    have q : eqV (V.str z) (V.str x) = decide (z = x) := by
      show (z == x) = _
      exact Bool.beq_eq_decide_eq z x
    rw [q, Bool.eq_iff_iff]
    simp only [Bool.or_eq_true, decide_eq_true_eq, List.mem_cons]
    constructor
    · rintro (h | h)
      · exact .inl h.symm
      · exact .inr h
    · rintro (h | h)
      · exact .inl h.symm
      · exact .inr h
def oIn (neg : Bool) : T → T → TH → UX → Prop := fun x y S P => match x, y with
  | .str x, .lst ts => (∃ zs, strsT ts = some zs ∧ P (.bl (if neg then !decide (x ∈ zs) else decide (x ∈ zs))) S)
  | .str x, .tup ts => (∃ zs, strsT ts = some zs ∧ P (.bl (if neg then !decide (x ∈ zs) else decide (x ∈ zs))) S)
  | .str x, .ref p => ∃ ts, S p = some (.lst ts) ∧ ∃ zs, strsT ts = some zs ∧ P (.bl (if neg then !decide (x ∈ zs) else decide (x ∈ zs))) S
  | _, _ => False
theorem lIn {K : PySem.W.Frag} {neg : Bool} : LOp K (rIn K neg) (oIn neg) := fun S H v w x y P Q g rx ry ho fin => by
  cases x with
  | str x =>
    cases rx
    have go : ∀ {ts : List T} {vs : List V} {p : Addr}, Reps K S H vs ts → (SqL K H p vs ∨ SqT K H p vs) → (∃ zs, strsT ts = some zs ∧ P (.bl (if neg then !decide (x ∈ zs) else decide (x ∈ zs))) S) → rIn K neg (.str x) (.ref p) H Q := fun {ts vs p} r sq h => by
      obtain ⟨zs, e, h⟩ := h
      have ev := strsT_rep r e
      subst ev
      refine ⟨p, _, rfl, sq, rfl, flat_strs zs, ?_⟩
      rw [inV_strs]
      exact fin _ _ S H .refl g (.bl _) h
    cases y with
    | lst ts =>
      obtain ⟨a, vs, rfl, f, r⟩ := ry.lstE
      exact go r (.inl f.sq) ho
    | tup ts =>
      obtain ⟨a, vs, rfl, f, r⟩ := ry.tupE
      exact go r (.inr f.sq) ho
    | ref p =>
      cases ry
      obtain ⟨ts, e, ho⟩ := ho
      obtain ⟨vs, q, r⟩ := g p _ e
      exact go r (.inl (SqL.of q)) ho
    | _ => exact ho.elim
  | _ => exact ho.elim

def tyT : T → Option String
  | .non => some "NoneType" | .bl _ => some "bool" | .int _ => some "int" | .str _ => some "str" | .tup _ => some "tuple" | .lst _ => some "list" | .dct _ => some "dict"
  | _ => none
def isT (n c : String) : Bool := n == c || (n == "bool" && c == "int")
end
end TL
end
section
set_option Elab.async false
set_option linter.all false
set_option maxRecDepth 100000
set_option maxHeartbeats 4000000
namespace TL
open PySem PySem.Spec PyProof.Rows L2
def signsT (z : Str) : List T := z.cps.toList.map fun (c : Nat) => T.str ⟨#[c]⟩
section
variable {K : PySem.W.Frag} {S : TH} {H : Hp}
theorem ylds_str {z : Str} : Ylds K (Its z) (signsT z) S H where
  go := fun i S2 H2 le g hi => by
    have : (signsT z).length = z.cps.size := by simp [signsT]
    rw [this] at hi; exact hi
  stop := fun S2 H2 le g => by
    show (signsT z).length = z.cps.size
    simp [signsT]
  yld := fun i S2 H2 x H3 le g hi y => by
    obtain ⟨rfl, c, hc, rfl⟩ := y
    refine ⟨.refl, g, .str ⟨#[c]⟩, ?_, .str _⟩
    have hc' : z.cps.toList[i]? = some c := by simpa using hc
    simp [signsT, List.getElem?_map, hc']
end
section
variable {X : Cx} {a b c e tg iter : Expr} {es : List Expr} {ta tb tc te : UTE} {tr : UTA} {pos : Pos}
def uAnyOf (t : UTE) : UTA := fun env S P => t env S fun x S1 => match x with
  | .lst ts => P ts S1
  | .fls ts => P ts S1
  | .tup ts => P ts S1
  | .str z => P (signsT z) S1
  | _ => False
theorem ui_any (h : UE X iter te) : UI X tg iter (uAnyOf te) := PI.imp (pi_any h) fun σ H R ⟨S, env, P, g, re, h, fin⟩ => lf_bind ⟨g, re⟩ h fun v x S1 H1 le1 m1 rx h1 => by
  cases x with
  | lst ts =>
    obtain ⟨l, vs, rfl, f, r⟩ := rx.lstE
    exact .inl ⟨l, rfl, .inl ⟨⟨vs, f.sq⟩, fin ts _ S1 H1 le1 m1.g h1 (ylds_list (fun _ _ le => (f.mono le).sq) r)⟩⟩
  | fls ts =>
    obtain ⟨l, vs, rfl, f, r⟩ := rx.flsE
    exact .inl ⟨l, rfl, .inl ⟨⟨vs, f.sq⟩, fin ts _ S1 H1 le1 m1.g h1 (ylds_list (fun _ _ le => (f.mono le).sq) r)⟩⟩
  | tup ts =>
    obtain ⟨l, vs, rfl, f, r⟩ := rx.tupE
    exact .inl ⟨l, rfl, .inr ⟨⟨vs, f.sq⟩, fin ts _ S1 H1 le1 m1.g h1 (ylds_tup f r)⟩⟩
  | str z => cases rx; exact .inr ⟨z, rfl, fin _ _ S1 H1 le1 m1.g h1 ylds_str⟩
  | _ => exact h1.elim
def uChain (o o' : T → T → TH → UX → Prop) (ta tb tc : UTE) : UTE := fun env S P => ta env S fun x S1 => tb env S1 fun y S2 => o x y S2 fun z S3 => match z with
  | .bl k => (k = true → tc env S3 fun w S4 => o' y w S4 P) ∧ (k = false → P (.bl false) S3)
  | _ => False

def blsT : List T → Option (List Bool)
  | [] => some []
  | .bl b :: r => (blsT r).map (b :: ·)
  | _ => none
def oAll (xs : List T) (S : TH) (P : UX) : Prop := match xs with
  | [.lst ts] => (match blsT ts with | some bs => P (.bl (bs.all id)) S | none => False)
  | _ => False
def okC (c : String) : Bool := c == "int" || c == "str" || c == "bool" || c == "tuple" || c == "list"
theorem kit_one {K : PySem.W.Frag} {t : T} {n c : String} (h : tyT t = some n) (hc : okC c = true) : PySem.W.kitOne K (.type n) (.type c) = some (isT n c) := by
  simp only [okC, Bool.or_eq_true, beq_iff_eq] at hc
  cases t <;> simp only [tyT, Option.some.injEq, reduceCtorEq] at h <;> subst h <;> rcases hc with (((rfl | rfl) | rfl) | rfl) | rfl <;> rfl
theorem tyV_of {K : PySem.W.Frag} {S : TH} {H : Hp} {v : V} {t : T} {n : String} (r : Rep K S H v t) (h : tyT t = some n) : TyV K H v (.type n) := by
  cases t with
  | non => cases r; cases h; exact .inl .non
  | bl b => cases r; cases h; exact .inl (.bl b)
  | int i => cases r; cases h; exact .inl (.int i)
  | str x => cases r; cases h; exact .inl (.str x)
  | tup ts =>
    cases h
    obtain ⟨a, vs, rfl, f, _⟩ := r.tupE
    rcases f with f | f
    · exact .inl (.tup f.2)
    · obtain ⟨o, its, n, hk, hc, _⟩ := f
      exact .inr ⟨rfl, a, o, rfl, hk, hc⟩
  | lst ts =>
    cases h
    obtain ⟨a, vs, rfl, f, _⟩ := r.lstE
    exact .inl (.lst f.2)
  | dct ts =>
    cases h
    obtain ⟨a, vs, rfl, n, hH, _⟩ := r.dctE
    exact .inl (.dK hH)
  | _ => cases h
def oIsi (xs : List T) (S : TH) (P : UX) : Prop := match xs with
  | [x, .ty c] => (match tyT x with | some n => okC c = true ∧ P (.bl (isT n c)) S | none => False)
  | [x, .tup [.ty c, .ty d]] => (match tyT x with | some n => okC c = true ∧ okC d = true ∧ P (.bl (isT n c || isT n d)) S | none => False)
  | _ => False
theorem lIsi {K : PySem.W.Frag} : LCall K (rIsi K) oIsi := fun S H vs xs P Q g r ho fin => by
  match xs, r, ho with
  | [x, .ty c], r, ho =>
    obtain ⟨v, w, rfl, r1, r2⟩ := r.two
    cases r2
    simp only [oIsi] at ho
    cases q : tyT x with
    | none => rw [q] at ho; exact ho.elim
    | some n =>
      rw [q] at ho
      exact ⟨v, _, _, tyV_of r1 q, .inl ⟨c, rfl, kit_one q ho.1⟩, fin _ _ S H .refl g (.bl _) ho.2⟩
  | [x, .tup [.ty c, .ty d]], r, ho =>
    obtain ⟨v, w, rfl, r1, r2⟩ := r.two
    obtain ⟨p, us, rfl, f, r⟩ := r2.tupE
    obtain ⟨u1, u2, rfl, r3, r4⟩ := r.two
    cases r3
    cases r4
    simp only [oIsi] at ho
    cases q : tyT x with
    | none => rw [q] at ho; exact ho.elim
    | some n =>
      rw [q] at ho
      refine ⟨v, _, _, tyV_of r1 q, .inr ⟨p, c, d, rfl, f.sq, ?_⟩, fin _ _ S H .refl g (.bl _) ho.2.2⟩
      have k1 := kit_one (K := K) q ho.1
      have k2 := kit_one (K := K) q ho.2.1
      simp only [PySem.W.kitAny, k1, k2]
      cases isT n c <;> cases isT n d <;> rfl
  | [], _, ho => exact ho.elim
  | [x], _, ho => exact (by revert ho; simp [oIsi])
  | x :: y :: z :: r, _, ho => exact (by revert ho; simp [oIsi])
def oIsN : T → T → TH → UX → Prop := fun x y S P => match y with
  | .non => (match x with | .non => P (.bl true) S | _ => P (.bl false) S)
  | _ => False
def oPlus : T → T → TH → UX → Prop := fun x y S P => match x, y with
  | .int i, .int j => P (.int (i + j)) S
  | .str i, .str j => i.length + j.length ≤ sizeLine ∧ P (.str (i ++ j)) S
  | .lst xs, .lst ys => xs.length + ys.length ≤ sizeLine ∧ P (.lst (xs ++ ys)) S
  | .tup xs, .tup ys => xs.length + ys.length ≤ sizeLine ∧ P (.tup (xs ++ ys)) S
  | _, _ => False
theorem ue_plus (ha : UE X a ta) (hb : UE X b tb) : UE X (.BinOp a .Add b pos) (uBin oPlus ta tb) := ue_bin (op_add.or (op_add_str.or (op_cat.or op_catU))) (fun S H v w x y P Q g rx ry ho fin => by
  cases x with
  | int i =>
    cases y with
    | int j => cases rx; cases ry; exact .inl ⟨i, j, rfl, rfl, fin _ _ S H .refl g (.int _) ho⟩
    | _ => exact ho.elim
  | str i =>
    cases y with
    | str j => cases rx; cases ry; exact .inr (.inl ⟨i, j, rfl, rfl, ho.1, fin _ _ S H .refl g (.str _) ho.2⟩)
    | _ => exact ho.elim
  | lst xs =>
    cases y with
    | lst ys =>
      obtain ⟨a, vs, rfl, f, r⟩ := rx.lstE
      obtain ⟨b, us, rfl, f', r'⟩ := ry.lstE
      exact .inr (.inr (.inl ⟨a, b, vs, us, rfl, rfl, f.2, f'.2, by rw [r.1, r'.1]; exact ho.1, fun p hp => fin_lst fin g hp (r.append r') ho.2⟩))
    | _ => exact ho.elim
  | tup xs =>
    cases y with
    | tup ys =>
      obtain ⟨a, vs, rfl, f, r⟩ := rx.tupE
      obtain ⟨b, us, rfl, f', r'⟩ := ry.tupE
      refine .inr (.inr (.inr ⟨a, b, vs, us, rfl, rfl, f.sq, f'.sq, by rw [r.1, r'.1]; exact ho.1, fun e => ?_, fun _ e => ?_, fun _ _ p hp => fin_tup fin g hp (r.append r') ho.2⟩))
      · subst e
        have e0 : xs = [] := List.length_eq_zero_iff.mp (by rw [← r.1]; rfl)
        subst e0
        exact fin _ _ S H .refl g ry ho.2
      · subst e
        have e0 : ys = [] := List.length_eq_zero_iff.mp (by rw [← r'.1]; rfl)
        subst e0
        have h2 := ho.2
        rw [List.append_nil] at h2
        exact fin _ _ S H .refl g rx h2
    | _ => exact ho.elim
  | _ => exact ho.elim) ha hb

def oSl3 (x : T) (lo hi : Option Int) (S : TH) (P : UX) : Prop := match x with
  | .lst ts => P (.lst (cutA ts lo hi)) S
  | .tup ts => ¬ (HT.sIx ts.length 0 lo = 0 ∧ HT.sIx ts.length ts.length hi = ts.length) ∧ P (.tup (cutA ts lo hi)) S
  | .str z => z.length ≤ sizeLine ∧ P (.str (Txt.slice z lo hi)) S
  | .ref p => ∃ ts, S p = some (.lst ts) ∧ P (.lst (cutA ts lo hi)) S
  | _ => False
def uSl3 (te : UTE) (tl th : UTO) : UTE := fun env S P => te env S fun x S1 => tl env S1 fun l S2 => th env S2 fun u S3 => oSl3 x l u S3 P
theorem ue_sl {lo hi : Option Expr} {tl th : UTO} {p2 : Pos} (he : UE X e te) (hl : UO X lo tl) (hh : UO X hi th) : UE X (.Subscript e (.Slice lo hi none p2) pos) (uSl3 te tl th) :=
  PE.imp (pe_slice (sl_list.or (sl_tup.or sl_str)) he hl hh) fun σ H Q ⟨S, env, P, g, re, h, fin⟩ => lf_bind ⟨g, re⟩ h fun v x S1 H1 le1 m1 rx h1 =>
    ⟨S1, env, _, m1.g, m1.re, h1, fun l S2 H2 le2 g2 h2 => ⟨S2, env, _, g2, m1.re.mono le2, h2, fun u S3 H3 le3 g3 h3 => by
      have rx3 := rx.mono (le2.trans le3)
      have f3 := fin.le (le1.trans (le2.trans le3))
      cases x with
      | lst ts =>
        obtain ⟨a, vs, rfl, f, r⟩ := rx3.lstE
        exact .inl ⟨a, vs, rfl, f.sq, fun p hp => fin_lst f3 g3 hp (r.cut l u) h3⟩
      | tup ts =>
        obtain ⟨a, vs, rfl, f, r⟩ := rx3.tupE
        refine .inr (.inl ⟨a, vs, rfl, f.sq, ?_, fun p hp => fin_tup f3 g3 hp (r.cut l u) h3.2⟩)
        rw [r.1]
        exact h3.1
      | str z => cases rx3; exact .inr (.inr ⟨z, rfl, h3.1, f3 _ _ S3 H3 .refl g3 (.str _) h3.2⟩)
      | ref p =>
        cases rx3
        obtain ⟨ts, e3, h3⟩ := h3
        obtain ⟨vs, q, r⟩ := g3 p _ e3
        exact .inl ⟨p, vs, rfl, SqL.of q, fun b hb => fin_lst f3 g3 hb (r.cut l u) h3⟩
      | _ => exact h3.elim⟩⟩
theorem Reps.pick {K : PySem.W.Frag} {S : TH} {H : Hp} {vs : List V} {ts : List T} (r : Reps K S H vs ts) : ∀ ix : List Nat, Reps K S H (ix.filterMap fun (i : Nat) => vs[i]?) (ix.filterMap fun (i : Nat) => ts[i]?)
  | [] => .nil
  | i :: ix => by
    cases e : vs[i]? with
    | none =>
      have e' : ts[i]? = none := by
        rw [List.getElem?_eq_none_iff] at e ⊢
        rw [← r.1]; exact e
      simp only [List.filterMap_cons, e, e']
      exact Reps.pick r ix
    | some v =>
      obtain ⟨t, ht, rt⟩ := r.get' e
      simp only [List.filterMap_cons, e, ht]
      exact .cons rt (Reps.pick r ix)
/-- some of the items: which and in what order is not said -/
def uRev (te : UTE) : UTE := fun env S P => te env S fun x S1 => match x with
  | .lst ts => ∀ ix : List Nat, (ix.filterMap fun (i : Nat) => ts[i]?).length ≤ ts.length → P (.lst (ix.filterMap fun (i : Nat) => ts[i]?)) S1
  | .tup ts => ∀ ix : List Nat, (ix.filterMap fun (i : Nat) => ts[i]?).length ≤ ts.length → P (.tup (ix.filterMap fun (i : Nat) => ts[i]?)) S1
  | _ => False
def oEq2 (neg : Bool) : T → T → TH → UX → Prop := fun x y S P => match x, y with
  | .int i, .int j => P (.bl (Bool.xor neg (decide (i = j)))) S
  | .str i, .str j => P (.bl (Bool.xor neg (decide (i = j)))) S
  | .bl i, .bl j => P (.bl (Bool.xor neg (decide (i = j)))) S
  | .lst xs, .lst [] => P (.bl (Bool.xor neg xs.isEmpty)) S
  | _, _ => False
theorem lEq2 {K : PySem.W.Frag} {neg : Bool} {r : R2} (l : LOp K r (oEq neg)) : LOp K (fun x y H Q => r x y H Q ∨ rEqN K neg x y H Q) (oEq2 neg) := fun S H v w x y P Q g rx ry ho fin => by
  cases x with
  | int i => cases y with
    | int j => exact .inl (l S H v w _ _ P Q g rx ry ho fin)
    | _ => exact ho.elim
  | str i => cases y with
    | str j => exact .inl (l S H v w _ _ P Q g rx ry ho fin)
    | _ => exact ho.elim
  | bl i => cases y with
    | bl j => exact .inl (l S H v w _ _ P Q g rx ry ho fin)
    | _ => exact ho.elim
  | lst xs =>
    cases y with
    | lst ys =>
      cases ys with
      | nil =>
        obtain ⟨a, vs, rfl, f, r⟩ := rx.lstE
        obtain ⟨b, us, rfl, f', r'⟩ := ry.lstE
        have e0 : us = [] := List.length_eq_zero_iff.mp (by rw [r'.1]; rfl)
        subst e0
        refine .inr ⟨a, b, vs, rfl, rfl, f.sq, f'.sq, ?_⟩
        have e1 : vs.isEmpty = xs.isEmpty := by
          have := r.1
          cases vs <;> cases xs <;> simp at this ⊢
        rw [e1]
        exact fin _ _ S H .refl g (.bl _) ho
      | cons => exact ho.elim
    | _ => exact ho.elim
  | _ => exact ho.elim

end
end TL
end
section
set_option Elab.async false
set_option linter.all false
set_option maxRecDepth 100000
set_option maxHeartbeats 4000000
namespace TL
open PySem PySem.Spec PyProof.Rows L2
section
variable {X : Cx} {a b c e o : Expr} {es : List Expr} {ta tb tc te to : UTE} {tr : UTA} {pos apos cpos : Pos}
/-- <= of ints, of texts -/
def oLe2 : T → T → TH → UX → Prop := fun x y S P => match x, y with
  | .int i, .int j => P (.bl (decide (i ≤ j))) S
  | .str i, .str j => P (.bl (!decide (j.cps.toList < i.cps.toList))) S
  | _, _ => False
def uKGet (kts : List (Key × T)) (te : UTE) : UTE := fun env S P => te env S fun y S1 => match keyT y with
  | some k => P ((valT kts k).getD .non) S1
  | none => False
def uFind (to : UTE) (tr : UTA) : UTE := fun env S P => to env S fun x S1 => match x with
  | .str a => tr env S1 fun ys S2 => match ys with
    | [.str b] => P (.int (Txt.find a b)) S2
    | _ => False
  | _ => False
def uUpper (to : UTE) : UTE := fun env S P => to env S fun x S1 => match x with
  | .str a => Builtin.Str.tooLong (Txt.upper a).length = false ∧ P (.str (Txt.upper a)) S1
  | _ => False
/-- xs.append(e) of a cell -/
def uAppend (to : UTE) (tr : UTA) : UTE := fun env S P => to env S fun x S1 => match x with
  | .ref p => (∃ ts0, S1 p = some (.lst ts0)) ∧ tr env S1 fun ys S2 => match ys with
    | [y] => ∃ ts, S2 p = some (.lst ts) ∧ ts.length < sizeLine ∧ P .non (updT S2 p (.lst (ts ++ [y])))
    | _ => False
  | _ => False
theorem ue_append (ho : UE X o to) (ha : UA X [e] tr) (hbase : attributeBase o "append" X.env (eval o X.env) = eval o X.env := by rfl)
    (hfew : ((backTo cpos (starEach [e] X.env)).all (fun x => !x.1) && (backToKw cpos (keywordEach [] X.env)).all (fun x => x.1.isSome) && decide (([e] : List Expr).length + ([] : List Keyword).length + (if ([] : List Keyword).isEmpty then 0 else 1) < 30)) = true := by rfl)
    (hline : (apos.endLine == cpos.line) = true := by rfl) (hs : starEach [e] X.env = (false, eval e X.env) :: starEach [] X.env := by rfl) (hplain : (backTo cpos (starEach [] X.env)).any (·.1) = false := by rfl) :
    UE X (.Call (.Attribute o "append" apos) [e] [] cpos) (uAppend to tr) :=
  PE.imp (pe_bm PySem.F.plainAttrs_list PySem.F.slot_list_append PySem.F.type_list_append mt_append ho ha hbase hfew hline hs hplain) fun σ H Q ⟨S, env, P, g, re, h, fin⟩ =>
    lf_bind ⟨g, re⟩ h fun v x S1 H1 le1 m1 rx h1 => by
      cases x with
      | ref p =>
        cases rx
        obtain ⟨⟨ts0, e0⟩, h1⟩ := h1
        obtain ⟨vs0, q0, _⟩ := m1.g p _ e0
        refine ⟨.inl ⟨rfl, _, SqL.of q0⟩, lfA_bind m1 h1 fun vs rs S2 H2 le2 m2 rr h2 => ?_⟩
        match rs, rr, h2 with
        | [y], rr, h2 =>
          obtain ⟨w, rfl, rw'⟩ := rr.one
          obtain ⟨ts, e2, hl, hp⟩ := h2
          obtain ⟨us, q2, r2⟩ := m2.g p _ e2
          refine ⟨p, us, w, rfl, rfl, q2, by rw [r2.1]; exact hl, ?_⟩
          exact fin _ _ _ _ (le1.trans (le2.trans (Le.write e2))) (m2.g.writeL e2 (r2.append (.cons rw' .nil))) .non hp
      | _ => exact h1.elim
/-- a cell that will not change again -/
def uFrz (to : UTE) : UTE := fun env S P => to env S fun x S1 => match x with
  | .ref p => ∃ ts, S1 p = some (.lst ts) ∧ P (.lst ts) (delT S1 p)
  | _ => False
theorem ue_frz (ho : UE X o to) : UE X o (uFrz to) := PE.imp ho fun σ H Q ⟨S, env, P, g, re, h, fin⟩ => lf_bind ⟨g, re⟩ h fun v x S1 H1 le1 m1 rx h1 => by
  cases x with
  | ref p =>
    cases rx
    obtain ⟨ts, e, hp⟩ := h1
    obtain ⟨us, q, r⟩ := m1.g p _ e
    exact fin _ _ (delT S1 p) H1 (le1.trans Le.del) m1.g.del (.lstI ⟨delT_same, q⟩ (r.mono Le.del)) hp
  | _ => exact h1.elim
def oStr (xs : List T) (S : TH) (P : UX) : Prop := match xs with
  | [.int i] => i.natAbs.log2 < 1920 ∧ P (.str (toString i)) S
  | _ => False
theorem lStr {K : PySem.W.Frag} : LCall K (fun xs H Q => ∃ i, xs = [.int i] ∧ i.natAbs.log2 < 1920 ∧ Q (.str (toString i)) H) oStr := fun S H vs xs P Q g r ho fin => by
  match xs, r, ho with
  | [.int i], r, ho =>
    obtain ⟨v, rfl, rx⟩ := r.one
    cases rx
    exact ⟨i, rfl, ho.1, fin _ _ S H .refl g (.str _) ho.2⟩
theorem ut_eq (hu : X.A.units < cLine) (ha : UE X a ta) (hb : UE X b tb) : UT X (.Compare a [.Eq] [b] pos) (uTest (uBin (oEq2 false) ta tb)) := ut_cmp (op_eq.or (op_eqN hu)) (lEq2 lEq) ha hb (nomark _)
theorem ut_ne (hu : X.A.units < cLine) (ha : UE X a ta) (hb : UE X b tb) : UT X (.Compare a [.NotEq] [b] pos) (uTest (uBin (oEq2 true) ta tb)) := ut_cmp (op_ne.or (op_neN hu)) (lEq2 lNe) ha hb (nomark _)
theorem ut_lt (ha : UE X a ta) (hb : UE X b tb) : UT X (.Compare a [.Lt] [b] pos) (uTest (uBin oLt ta tb)) := ut_cmp op_lt lLt ha hb (nomark _)
theorem ut_gt (ha : UE X a ta) (hb : UE X b tb) : UT X (.Compare a [.Gt] [b] pos) (uTest (uBin oGt ta tb)) := ut_cmp op_gt lGt ha hb (nomark _)
theorem ut_in (ha : UE X a ta) (hb : UE X b tb) (hm : behindInMarks .In b = false := by with_unfolding_all rfl) : UT X (.Compare a [.In] [b] pos) (uTest (uBin (oIn false) ta tb)) := ut_cmp op_in_seq lIn ha hb hm
variable {p : Pos}
theorem ue_isi (hg : Gl X "isinstance") (hm : X.mg "isinstance" = none) (ha : UA X [a, b] tr) (he : starEach [a, b] X.env = (false, eval a X.env) :: starEach [b] X.env := by rfl) (hpl : (backTo pos (starEach [b] X.env)).any (·.1) = false := by rfl) :
    UE X (.Call (.Name "isinstance" p) [a, b] [] pos) (uCall oIsi tr) := ue_callB call_isiV lIsi hg hm boot_isinstance ha (he := he) (hpl := hpl)
theorem ue_strC (hg : Gl X "str") (hm : X.mg "str" = none) (ha : UA X [a] tr) (he : starEach [a] X.env = (false, eval a X.env) :: starEach [] X.env := by rfl) : UE X (.Call (.Name "str" p) [a] [] pos) (uCall oStr tr) := ue_callTy call_str_int lStr hg hm boot_str ha (he := he)
end
end TL
end
section
set_option Elab.async false
set_option linter.all false
set_option maxRecDepth 100000
set_option maxHeartbeats 4000000
namespace TL
open PySem PySem.Spec PyProof.Rows L2
/-- the text's def x keeps the promise t, with k calls' room -/
def Has (P : Program) (w : World) (K : PySem.W.Frag) (mg : Str → Option Value) (base : Heap) (k : Nat) (x : Str) (ps : List Str) (t : List T → TH → UX → Prop) : Prop :=
  ∃ f fd, FnOk P w K mg base CX0 k f fd ps (spU K t) ∧ Binds K fd ps [] ∧ PySem.W.keepIn K (.ref f) = true ∧ mg x = some (.ref f)
/-- the text's def x, as it stands -/
def Stands (K : PySem.W.Frag) (mg : Str → Option Value) (x : Str) (ps : List Str) (st : Stmt) : Prop := ∃ f fd, Fun K x x st f fd ∧ Binds K fd ps [] ∧ mg x = some (.ref f)
theorem Has.mono {P : Program} {w : World} {K : PySem.W.Frag} {mg : Str → Option Value} {base : Heap} {j k : Nat} {x : Str} {ps : List Str} {t : List T → TH → UX → Prop} (h : Has P w K mg base j x ps t) (hk : j ≤ k) : Has P w K mg base k x ps t := by
  obtain ⟨f, fd, h1, h2⟩ := h
  exact ⟨f, fd, h1.mono hk, h2⟩
theorem Has.imp {P : Program} {w : World} {K : PySem.W.Frag} {mg : Str → Option Value} {base : Heap} {k : Nat} {x : Str} {ps : List Str} {t t' : List T → TH → UX → Prop} (h : Has P w K mg base k x ps t) (i : ∀ ts S Pp, t' ts S Pp → t ts S Pp) : Has P w K mg base k x ps t' := by
  obtain ⟨f, fd, h1, h2⟩ := h
  exact ⟨f, fd, h1.imp fun vs H Q E ⟨S, ts, Pp, g, r, q, fin⟩ => ⟨S, ts, Pp, g, r, i ts S Pp q, fin⟩, h2⟩
theorem has_of {P : Program} {w : World} {K : PySem.W.Frag} {mg : Str → Option Value} {base : Heap} {k : Nat} {x : Str} {N ps : List Str} {st : Stmt} {t : List T → TH → UX → Prop} (d : Stands K mg x ps st) (Sc : FnScope N ps (defScope st)) (hl : ∀ ts S Pp, t ts S Pp → ts.length = ps.length)
    (hb : ∀ (cdv : Value) (f : Addr) (A : Around) (outer : List Env) (s : Shared) (H : Hp) (E : XK), Room k (A.deeper (envOfC x (defScope st) s.heap.objs.size f cdv)) →
      ∃ tb, USs (cxOf CX0 P w K mg base N x (defScope st) f cdv A outer s H E).nox (defBody st) tb ∧ ∀ ts S Pp, t ts S Pp → tb { nx := fun _ S' => Pp .non S', rt := Pp } (startT N ts) S) : Has P w K mg base (k + 1) x ps t := by
  obtain ⟨f, fd, F, b, hm⟩ := d
  exact ⟨f, fd, def_u F Sc hl fun cdv A outer s H E hr => hb cdv f A outer s H E hr, b, F.kp, hm⟩
theorem has_none {P : Program} {w : World} {K : PySem.W.Frag} {mg : Str → Option Value} {base : Heap} {k : Nat} {x : Str} {ps : List Str} {st : Stmt} {t : List T → TH → UX → Prop} (d : Stands K mg x ps st) (h : ∀ ts S Pp, ¬ t ts S Pp) : Has P w K mg base k x ps t := by
  obtain ⟨f, fd, F, b, hm⟩ := d
  exact ⟨f, fd, none_u h, b, F.kp, hm⟩
section
variable {X : Cx} {e : Expr} {es : List Expr} {te : UTE} {tr : UTA} {pos p apos cpos : Pos} {x : Str}
theorem ue_calln {k : Nat} {ps : List Str} {t : List T → TH → UX → Prop} (h : Has X.prog X.w X.K X.mg X.base k x ps t) (hr : Room k X.A) (hg : Gl X x) (ha : UA X (e :: es) tr) (hdb : (x == ("__debug__" : Str)) = false := by decide) (he : starEach (e :: es) X.env = (false, eval e X.env) :: starEach es X.env := by rfl)
    (hpl : (backTo pos (starEach es X.env)).any (·.1) = false := by rfl) : UE X (.Call (.Name x p) (e :: es) [] pos) (uCall t tr) := by
  obtain ⟨f, fd, F, b, kp, hm⟩ := h
  exact ue_call F hr hg hm kp b ha hdb he hpl
end
theorem hu0_of {A : Around} {k : Nat} (hr : Room k A) : A.units < cLine := hr.units0
/-- a plain thing -/
inductive Pl : T → Prop where
  | non : Pl .non
  | bl (b : Bool) : Pl (.bl b)
  | int (i : Int) : Pl (.int i)
  | str {x : Str} : x.length ≤ sizeLine → Pl (.str x)
  | tup {ts : List T} : (∀ t ∈ ts, Pl t) → Pl (.tup ts)
  | lst {ts : List T} : (∀ t ∈ ts, Pl t) → Pl (.lst ts)
theorem Pl.ty {t : T} (h : Pl t) : ∃ n, tyT t = some n := by cases h <;> exact ⟨_, rfl⟩
end TL
end
section
set_option Elab.async false
set_option linter.all false
set_option maxRecDepth 100000
set_option maxHeartbeats 4000000
namespace TL
open PySem PySem.Spec PyProof.Rows L2
/-- a comprehension whose turns change nothing: f tells the item, none where it is left out -/
theorem comp_pure {ts : List T} {S : TH} {gg : UTG} {tc : UTT} {te : UTE} {ev : Ev} {P : UX} (f : T → Option T) (hl : ts.length ≤ sizeLine)
    (turn : ∀ x ∈ ts, ∀ (A : UX) (B : TH → Prop), (∀ r, f x = some r → A r S) → (f x = none → B S) → gg x ev S fun env' S' => tc env' S' fun b S2 => (b = true → te env' S2 A) ∧ (b = false → B S2))
    (h : P (.lst (ts.filterMap f)) S) : ts.length ≤ sizeLine ∧ ∃ Iv : Nat → List T → TH → Prop, Iv 0 [] S ∧
      (∀ k x acc S, ts[k]? = some x → Iv k acc S → gg x ev S fun env' S' => tc env' S' fun b S2 => (b = true → te env' S2 fun r S3 => Iv (k + 1) (acc ++ [r]) S3) ∧ (b = false → Iv (k + 1) acc S2)) ∧
      ∀ acc S, Iv ts.length acc S → P (.lst acc) S := by
  refine ⟨hl, fun k acc S' => acc = (ts.take k).filterMap f ∧ S' = S, ⟨by simp, rfl⟩, fun k x acc S' e iv => ?_, fun acc S' iv => ?_⟩
  · obtain ⟨rfl, rfl⟩ := iv
    have hk : k < ts.length := (List.getElem?_eq_some_iff.mp e).1
    have et : ts.take (k + 1) = ts.take k ++ [x] := by rw [List.take_add_one, e]; rfl
    refine turn x (List.mem_of_getElem? e) _ _ (fun r er => ⟨?_, rfl⟩) (fun en => ⟨?_, rfl⟩)
    · rw [et, List.filterMap_append]; simp [er]
    · rw [et, List.filterMap_append]; simp [en]
  · obtain ⟨rfl, rfl⟩ := iv
    rw [List.take_length]
    exact h
theorem comp_u {pick : List (Option Nat)} {ti : UTA} {env : Ev} {ts : List T} {S : TH} {gg : UTG} {tc : UTT} {te : UTE} {P : UX} (f : T → Option T) (hti : ∀ k : List T → TH → Prop, k ts S → ti env S k) (hl : ts.length ≤ sizeLine)
    (turn : ∀ x ∈ ts, ∀ (A : UX) (B : TH → Prop), (∀ r, f x = some r → A r S) → (f x = none → B S) → gg x (evOf pick env) S fun env' S' => tc env' S' fun b S2 => (b = true → te env' S2 A) ∧ (b = false → B S2))
    (h : P (.lst (ts.filterMap f)) S) : uComp pick ti gg tc te env S P := hti _ (comp_pure f hl turn h)
theorem strsT_map (zs : List Str) : strsT (zs.map T.str) = some zs := by
  induction zs with
  | nil => rfl
  | cons z r ih => simp only [List.map_cons, strsT, ih, Option.map_some]
end TL
end
section
set_option Elab.async false
set_option linter.all false
set_option maxRecDepth 100000
set_option maxHeartbeats 4000000
namespace TL
open PySem PySem.Spec PyProof.Rows L2
inductive Cs : List Expr → List T → Prop where
  | nil : Cs [] []
  | s {x : Str} {j : Nat} {p : Pos} {es : List Expr} {ts : List T} : Cs es ts → Cs (.Constant (.str x) j p :: es) (.str x :: ts)
  | i {x : Int} {j : Nat} {p : Pos} {es : List Expr} {ts : List T} : Cs es ts → Cs (.Constant (.int x) j p :: es) (.int x :: ts)
  | b {x : Bool} {j : Nat} {p : Pos} {es : List Expr} {ts : List T} : Cs es ts → Cs (.Constant (.bool x) j p :: es) (.bl x :: ts)
  | n {j : Nat} {p : Pos} {es : List Expr} {ts : List T} : Cs es ts → Cs (.Constant .none j p :: es) (.non :: ts)
def uConsts (ts : List T) : UTA := fun _ S P => P ts S
theorem ua_consts {X : Cx} {es : List Expr} {ts : List T} (h : Cs es ts) : UA X es (uConsts ts) := by
  induction h with
  | nil => exact ua_nil
  | s _ ih => exact ua_cons ue_str ih rfl
  | i _ ih => exact ua_cons ue_int ih rfl
  | b _ ih => exact ua_cons ue_bl ih rfl
  | n _ ih => exact ua_cons ue_non ih rfl
end TL
end
section
set_option Elab.async false
set_option linter.all false
set_option maxRecDepth 100000
set_option maxHeartbeats 4000000
namespace TL
open PySem PySem.Spec PyProof.Rows L2
theorem or_pure {t u : UTT} {b1 b2 : Bool} {env : Ev} {S : TH} {P : Bool → TH → Prop} (ht : ∀ P : Bool → TH → Prop, P b1 S → t env S P) (hu : ∀ P : Bool → TH → Prop, P b2 S → u env S P) (h : P (b1 || b2) S) : uOr t u env S P :=
  ht _ ⟨fun e => by rw [e, Bool.true_or] at h; exact h, fun e => hu _ (by rw [e, Bool.false_or] at h; exact h)⟩
theorem and_pure {t u : UTT} {b1 b2 : Bool} {env : Ev} {S : TH} {P : Bool → TH → Prop} (ht : ∀ P : Bool → TH → Prop, P b1 S → t env S P) (hu : b1 = true → ∀ P : Bool → TH → Prop, P b2 S → u env S P) (h : P (b1 && b2) S) : uAnd t u env S P :=
  ht _ ⟨fun e => hu e _ (by rw [e, Bool.true_and] at h; exact h), fun e => by rw [e, Bool.false_and] at h; exact h⟩
/-- a test that may turn a cell: R holds behind it, whatever it says -/
theorem and_inv {t u : UTT} {b1 : Bool} {env : Ev} {S : TH} {P : Bool → TH → Prop} {R : TH → Prop} (ht : ∀ P : Bool → TH → Prop, P b1 S → t env S P) (h0 : R S)
    (hu : b1 = true → ∀ P : Bool → TH → Prop, (∀ b S', R S' → P b S') → u env S P) (h : ∀ b S', R S' → (b = true → b1 = true) → P b S') : uAnd t u env S P :=
  ht _ ⟨fun e => hu e _ fun b S' r => h b S' r fun _ => e, fun e => h false S h0 fun z => by cases z⟩
theorem at_mem {α : Type} {xs : List α} {i : Int} (h0 : 0 ≤ i) (h1 : i < xs.length) : ∃ x ∈ xs, atI xs i = some x := by
  have hl : i.toNat < xs.length := by omega
  refine ⟨xs[i.toNat], List.getElem_mem hl, ?_⟩
  have q : atI xs ((i.toNat : Nat) : Int) = some xs[i.toNat] := atI_nat (List.getElem?_eq_getElem hl)
  rw [Int.toNat_of_nonneg h0] at q
  exact q
end TL
end
section
set_option Elab.async false
set_option linter.all false
set_option maxRecDepth 100000
set_option maxHeartbeats 4000000
namespace TL
open PySem PySem.Spec PyProof.Rows L2
def toV : Value → V
  | .bool b => .bl b
  | .int i _ => .int i
  | .str x _ => .str x
  | .ref a => .ref a
  | _ => .non
inductive KR (K : PySem.W.Frag) : Value → T → Prop where
  | non : KR K .none .non
  | bl (b : Bool) : KR K (.bool b) (.bl b)
  | int (i : Int) (t : Tok) : KR K (.int i t) (.int i)
  | str (x : Str) (t : Tok) : KR K (.str x t) (.str x)
  | tup {a : Addr} {o : Obj} {its : Array Value} {n : Nat} {ts : List T} : K.lookup a = some o → o.cls = .type "tuple" → o.data = .seq its n → its.size ≤ sizeLine → its.toList.length = ts.length →
      (∀ (i : Nat) u t, its.toList[i]? = some u → ts[i]? = some t → KR K u t) → KR K (.ref a) (.tup ts)
section
variable {K : PySem.W.Frag}
def KRs (K : PySem.W.Frag) (us : List Value) (ts : List T) : Prop := us.length = ts.length ∧ ∀ (i : Nat) u t, us[i]? = some u → ts[i]? = some t → KR K u t
theorem KRs.nil : KRs K [] [] := ⟨rfl, fun _ _ _ e => by simp at e⟩
theorem KRs.cons {u : Value} {t : T} {us : List Value} {ts : List T} (h : KR K u t) (r : KRs K us ts) : KRs K (u :: us) (t :: ts) := by
  refine ⟨by simp only [List.length_cons, r.1], fun i u' t' e1 e2 => ?_⟩
  cases i with
  | zero => simp at e1 e2; subst e1; subst e2; exact h
  | succ i => exact r.2 i u' t' (by simpa using e1) (by simpa using e2)
theorem KR.tupI {a : Addr} {oc : Option Addr} {its : List Value} {n : Nat} {sl : Array (Option Value)} {ts : List T} (l : K.lookup a = some ⟨.type "tuple", oc, .seq its.toArray n, sl⟩) (hz : its.length ≤ 1000) (r : KRs K its ts) : KR K (.ref a) (.tup ts) :=
  .tup l rfl rfl (by simpa using Nat.le_of_lt (small1000 hz)) (by simpa using r.1) fun i u t e1 e2 => r.2 i u t (by simpa using e1) e2
theorem KR.rel {u : Value} {t : T} (h : KR K u t) : RelV (toV u) u ∧ ∀ S H, Rep K S H (toV u) t := by
  induction h with
  | non => exact ⟨rfl, fun _ _ => .non⟩
  | bl b => exact ⟨rfl, fun _ _ => .bl b⟩
  | int i t => exact ⟨⟨t, rfl⟩, fun _ _ => .int i⟩
  | str x t => exact ⟨⟨t, rfl⟩, fun _ _ => .str x⟩
  | @tup a o its n ts lk hc hd hz hl _ ih =>
    refine ⟨rfl, fun S H => ?_⟩
    have hv : Vals (its.toList.map toV) its.toList := by
      have : ∀ (us : List Value), (∀ u ∈ us, RelV (toV u) u) → Vals (us.map toV) us := by
        intro us
        induction us with
        | nil => exact fun _ => .nil
        | cons u us ihu => exact fun q => .cons (q u List.mem_cons_self) (ihu fun z hz => q z (List.mem_cons_of_mem _ hz))
      refine this _ fun u hu => ?_
      obtain ⟨i, hi, rfl⟩ := List.mem_iff_getElem.mp hu
      exact (ih i its.toList[i] (ts[i]'(by omega)) (List.getElem?_eq_getElem hi) (List.getElem?_eq_getElem (by omega))).1
    refine .tup (.inr ⟨o, its, n, lk, hc, hd, hz, hv⟩) (by rw [List.length_map]; exact hl) fun i v t e1 e2 => ?_
    rw [List.getElem?_map] at e1
    cases hu : its.toList[i]? with
    | none => rw [hu] at e1; cases e1
    | some u =>
      rw [hu] at e1
      cases e1
      exact (ih i u t hu e2).2 S H
/-- a dict of the module by its entries -/
inductive Ents (w : World) (K : PySem.W.Frag) : List DictEntry → List (Key × T) → Prop where
  | nil : Ents w K [] []
  | cons {x : Str} {tk : Tok} {u : Value} {t : T} {es : List DictEntry} {kts : List (Key × T)} : KR K u t → Ents w K es kts → Ents w K (⟨PyData.keyHash w.params x, .str x tk, u⟩ :: es) ((.inr x, t) :: kts)
theorem Ents.out {P : Program} {w : World} {es : List DictEntry} {kts : List (Key × T)} (h : Ents w K es kts) : ∃ (kvs : List (Key × V)) (vs : List (Key × Value)), KV kvs vs ∧ (∀ S H, RepK K S H kvs kts) ∧ (∀ e ∈ es, ∃ k, (mixKind P w).is k e.key = true ∧ e.hash = (mixKind P w).hash k) ∧ Pairs (mixKind P w) es vs ∧ vs.map (·.1) = kts.map (·.1) := by
  induction h with
  | nil => exact ⟨[], [], .nil, fun _ _ => ⟨rfl, fun _ _ _ e => by simp at e⟩, (fun _ h => by cases h), .nil, rfl⟩
  | @cons x tk u t es kts kr _ ih =>
    obtain ⟨kvs, vs, h1, h2, h3, h4, h5⟩ := ih
    obtain ⟨r1, r2⟩ := kr.rel
    refine ⟨(.inr x, toV u) :: kvs, (.inr x, u) :: vs, .cons ⟨rfl, r1⟩ h1, fun S H => ?_, fun e he => ?_, .cons (mixKind_str P w x tk) rfl h4, by simp only [List.map_cons, h5]⟩
    · refine ⟨by simp only [List.length_cons, (h2 S H).1], fun i v t e1 e2 => ?_⟩
      cases i with
      | zero => simp at e1 e2; subst e1; subst e2; exact ⟨rfl, r2 S H⟩
      | succ i => exact (h2 S H).2 i v t (by simpa using e1) (by simpa using e2)
    · rcases List.mem_cons.mp he with rfl | q
      · exact ⟨.inr x, mixKind_str P w x tk, rfl⟩
      · exact h3 e q
theorem stands_mk {h : Heap} {mg : Str → Option Value} {x : Str} {ps : List Str} {st : Stmt} {f : Addr} {oc : Value} {od an : Option Addr} {osl : Array (Option Value)} {kV doc pm cdv ct : Value} (X : K.In h) (G : h.Ns mainGlobals mg) (a : PySem.W.nsIn K mainGlobals x = some (some (.ref f)))
    (l : K.lookup f = some ⟨oc, od, .func (PySem.W.fnOf x x (defArgs st) (defBody st) (defScope st) .none kV doc pm an cdv ct), osl⟩) (c : PySem.W.codeIn K cdv x = true) (k : PySem.W.keepIn K (.ref f) = true)
    (b : ∀ (kV doc pm : Value) (an : Option Addr) (cdv ct : Value) (us : List Value), us.length = ps.length → bindArgs (PySem.W.fnOf x x (defArgs st) (defBody st) (defScope st) .none kV doc pm an cdv ct) ⟨us, []⟩ = pure (ps.zip us)) : Stands K mg x ps st :=
  ⟨f, _, fun_mk l c k, (fun_mk l c k).binds b, PySem.W.mg_of X G a⟩
/-- the script -/
theorem script_mk {H : Hp} {a : Addr} {ns : List Int} {t : List T → TH → UX → Prop} (hO : Only H) (hS : SqL K H a (ns.map V.int)) (h : t [.fls (ns.map T.int)] (fun _ => none) fun r _ => r = .bl true) : spU K t [.ref a] H (fun v _ => v = .bl true) fun _ _ _ => False := by
  refine ⟨fun _ => none, _, _, (fun _ _ e => by cases e), .cons (.fls (a := a) (vs := ns.map V.int) ?_ (by simp) fun i v t e1 e2 => ?_) .nil, h, fun v r S' H' _ _ rp q => ?_⟩
  · rcases hS with (q | ⟨o, q⟩) | q
    · rcases hO a with z | ⟨o, xs, z⟩
      · rw [z] at q; cases q
      · rw [z] at q; cases q
    · exact .inl ⟨rfl, o, q⟩
    · exact .inr q
  · rw [List.getElem?_map] at e1 e2
    cases hn : ns[i]? with
    | none => rw [hn] at e1; cases e1
    | some n => rw [hn] at e1 e2; cases e1; cases e2; exact .int n
  · have q : r = .bl true := q
    subst q
    cases rp
    rfl
end
end TL
end
section
set_option Elab.async false
set_option linter.all false
set_option maxRecDepth 100000
set_option maxHeartbeats 4000000
namespace TL
open PySem PySem.Spec PyProof.Rows L2
def putT (kts : List (Key × T)) (k : Key) (t : T) : List (Key × T) :=
  if (kts.any fun kv => decide (kv.1 = k)) = true then kts.map (fun kv => if kv.1 = k then (kv.1, t) else kv) else kts ++ [(k, t)]
section
variable {K : PySem.W.Frag} {S S' : TH} {H H' : Hp}
theorem RepK.nil : RepK K S H [] [] := ⟨rfl, fun _ _ _ e => by simp at e⟩
theorem RepK.cons {p : Key × V} {q : Key × T} {kvs : List (Key × V)} {kts : List (Key × T)} (h1 : p.1 = q.1) (h2 : Rep K S H p.2 q.2) (r : RepK K S H kvs kts) : RepK K S H (p :: kvs) (q :: kts) := by
  refine ⟨by simp only [List.length_cons, r.1], fun i v t e1 e2 => ?_⟩
  cases i with
  | zero => simp at e1 e2; subst e1; subst e2; exact ⟨h1, h2⟩
  | succ i => exact r.2 i v t (by simpa using e1) (by simpa using e2)
theorem RepK.head {p : Key × V} {q : Key × T} {kvs : List (Key × V)} {kts : List (Key × T)} (h : RepK K S H (p :: kvs) (q :: kts)) : p.1 = q.1 ∧ Rep K S H p.2 q.2 := h.2 0 p q rfl rfl
theorem RepK.tail {p : Key × V} {q : Key × T} {kvs : List (Key × V)} {kts : List (Key × T)} (h : RepK K S H (p :: kvs) (q :: kts)) : RepK K S H kvs kts := ⟨by simpa using h.1, fun i v t e1 e2 => h.2 (i + 1) v t (by simpa using e1) (by simpa using e2)⟩
theorem RepK.append : ∀ {kvs : List (Key × V)} {kts : List (Key × T)} {lvs : List (Key × V)} {lts : List (Key × T)}, RepK K S H kvs kts → RepK K S H lvs lts → RepK K S H (kvs ++ lvs) (kts ++ lts)
  | [], [], _, _, _, r => r
  | [], _ :: _, _, _, h, _ => by have := h.1; simp at this
  | _ :: _, [], _, _, h, _ => by have := h.1; simp at this
  | p :: kvs, q :: kts, _, _, h, r => RepK.cons h.head.1 h.head.2 (RepK.append h.tail r)
theorem RepK.any {k : Key} : ∀ {kvs : List (Key × V)} {kts : List (Key × T)}, RepK K S H kvs kts → (kvs.any fun kv => decide (kv.1 = k)) = kts.any fun kv => decide (kv.1 = k)
  | [], [], _ => rfl
  | [], _ :: _, h => by have := h.1; simp at this
  | _ :: _, [], h => by have := h.1; simp at this
  | p :: kvs, q :: kts, h => by rw [List.any_cons, List.any_cons, RepK.any h.tail, h.head.1]
theorem RepK.repl {k : Key} {v : V} {t : T} (r : Rep K S H v t) : ∀ {kvs : List (Key × V)} {kts : List (Key × T)}, RepK K S H kvs kts → RepK K S H (kvs.map fun kv => if kv.1 = k then (kv.1, v) else kv) (kts.map fun kv => if kv.1 = k then (kv.1, t) else kv)
  | [], [], _ => RepK.nil
  | [], _ :: _, h => by have := h.1; simp at this
  | _ :: _, [], h => by have := h.1; simp at this
  | p :: kvs, q :: kts, h => by
    rw [List.map_cons, List.map_cons]
    have e := h.head.1
    by_cases c : q.1 = k
    · rw [if_pos c, if_pos (e.trans c)]
      exact .cons e r (RepK.repl r h.tail)
    · rw [if_neg c, if_neg (fun z => c (e.symm.trans z))]
      exact .cons e h.head.2 (RepK.repl r h.tail)
theorem RepK.put {k : Key} {v : V} {t : T} {kvs : List (Key × V)} {kts : List (Key × T)} (h : RepK K S H kvs kts) (r : Rep K S H v t) : RepK K S H (putK kvs k v) (putT kts k t) := by
  unfold putK putT
  rw [h.any]
  split
  · exact h.repl r
  · exact h.append (.cons rfl r .nil)
end
theorem del_upd {S : TH} {p : Addr} {c : Cell} (h : S p = none) : delT (updT S p c) p = S := by
  funext b
  unfold delT updT
  by_cases e : b = p
  · rw [if_pos e, e, h]
  · rw [if_neg e, if_neg e]
section
variable {X : Cx} {pos : Pos}
def oTuple (xs : List T) (S : TH) (P : UX) : Prop := match xs with
  | [.lst ts] => P (.tup ts) S
  | [.tup ts] => P (.tup ts) S
  | [.ref p] => ∃ ts, S p = some (.lst ts) ∧ P (.tup ts) S
  | _ => False
theorem lTuple {K : PySem.W.Frag} : LCall K (fun xs H Q => ∃ p ys, xs = [.ref p] ∧ ((SqL K H p ys ∧ ∀ l, H l = none → Q (.ref l) (upd H l (.tup ys))) ∨ (SqT K H p ys ∧ Q (.ref p) H))) oTuple := fun S H vs xs P Q g r ho fin => by
  match xs, r, ho with
  | [.lst ts], r, ho =>
    obtain ⟨v, rfl⟩ : ∃ v, vs = [v] := List.length_eq_one_iff.mp r.1
    obtain ⟨a, ws, rfl, f, r'⟩ := r.head.lstE
    exact ⟨a, ws, rfl, .inl ⟨f.sq, fun l hl => fin_tup fin g hl r' ho⟩⟩
  | [.tup ts], r, ho =>
    obtain ⟨v, rfl⟩ : ∃ v, vs = [v] := List.length_eq_one_iff.mp r.1
    obtain ⟨a, ws, rfl, f, r'⟩ := r.head.tupE
    exact ⟨a, ws, rfl, .inr ⟨f.sq, fin _ _ S H .refl g (.tupI f r') ho⟩⟩
  | [.ref p], r, ho =>
    obtain ⟨v, rfl⟩ : ∃ v, vs = [v] := List.length_eq_one_iff.mp r.1
    have rp := r.head
    cases rp
    obtain ⟨ts, e, ho⟩ := ho
    obtain ⟨ws, q, r'⟩ := g p _ e
    exact ⟨p, ws, rfl, .inl ⟨SqL.of q, fun l hl => fin_tup fin g hl r' ho⟩⟩
section
variable {a b : Expr} {tr : UTA} {p : Pos}
theorem ue_tupleC (hg : Gl X "tuple") (hm : X.mg "tuple" = none) (ha : UA X [a] tr) (he : starEach [a] X.env = (false, eval a X.env) :: starEach [] X.env := by rfl) : UE X (.Call (.Name "tuple" p) [a] [] pos) (uCall oTuple tr) := ue_callTy call_tuple_of lTuple hg hm boot_tuple ha (he := he)
end
end
end TL
end
section
set_option Elab.async false
set_option linter.all false
set_option maxRecDepth 100000
set_option maxHeartbeats 4000000
namespace L2
open PySem PySem.Spec PyProof.Rows
section
variable {prog : Program} {w : World} {A : Around} {E : Value → Shared → Prop} {s : Shared}
end
section
variable {X : Cx}
end
end L2
end
section
set_option Elab.async false
set_option linter.all false
set_option maxRecDepth 100000
set_option maxHeartbeats 4000000
namespace TL
open PySem PySem.Spec PyProof.Rows L2
section
variable {X : Cx} {e : Expr} {pos : Pos} {te : UTE}
end
end TL
end
section
set_option Elab.async false
set_option linter.all false
set_option maxRecDepth 100000
set_option maxHeartbeats 4000000
namespace PySem
open Sem (wp)
section
variable {prog : Program} {w : World} {A : Around} {E : Value → Shared → Prop} {h : Heap} {g : Array GenState} {d : Drawn} {t : Nat} {os : OsState} {a : Addr} {o : Obj}
end
/-- the pairs that stand in the list from its i-th item on -/
inductive PairsAt {prog : Program} {w : World} {K : Type} [DecidableEq K] (knd : KeyKind prog w K) (h : Heap) : List Value → List (K × Value) → Prop
  | nil : PairsAt knd h [] []
  | cons {p : Addr} {k : K} {key v : Value} {vs : List Value} {kvs : List (K × Value)} : h.IsTuple p #[key, v] → knd.is k key = true → PairsAt knd h vs kvs → PairsAt knd h (.ref p :: vs) ((k, v) :: kvs)
section
variable {prog : Program} {w : World} {K : Type} [DecidableEq K] {knd : KeyKind prog w K} {A : Around} {E : Value → Shared → Prop} {s : Shared}
end
end PySem
end
section
set_option Elab.async false
set_option linter.all false
set_option maxRecDepth 100000
set_option maxHeartbeats 4000000
namespace PySem
section
variable {prog : Program} {w : World} {K : Type} [DecidableEq K] {knd : KeyKind prog w K} {A : Around} {E : Value → Shared → Prop} {s : Shared}
theorem PairsAt.keep {h h' : Heap} {vs : List Value} {more : List (K × Value)} (hp : PairsAt knd h vs more) (k : ∀ b o, h.get? b = some o → h'.get? b = some o) : PairsAt knd h' vs more := by
  induction hp with
  | nil => exact .nil
  | cons ht hk _ ih =>
    obtain ⟨o, e, r⟩ := ht
    exact .cons ⟨o, k _ _ e, r⟩ hk ih
end
end PySem
namespace L2
open PySem PySem.Spec PyProof.Rows
section
variable {X : Cx}
/-- the pairs of a list -/
inductive PrsV (K : PySem.W.Frag) (H : Hp) : List V → List (Key × V) → Prop where
  | nil : PrsV K H [] []
  | cons {p : Addr} {k : Key} {v : V} {vs : List V} {kvs : List (Key × V)} : SqT K H p [kV k, v] → PrsV K H vs kvs → PrsV K H (.ref p :: vs) ((k, v) :: kvs)
theorem PrsV.at {pins : List (Addr × Obj)} {σ : St} {H : Hp} {s : Shared} (I : Inv X pins σ H s) {vs : List V} {kvs : List (Key × V)} (h : PrsV X.K H vs kvs) : ∀ {us : List Value}, Vals vs us → ∃ more, PairsAt (mixKind X.prog X.w) s.heap us more ∧ KV kvs more := by
  induction h with
  | nil => intro us r; cases r; exact ⟨[], .nil, .nil⟩
  | @cons p k v vs kvs ht _ ih =>
    intro us r
    cases r with
    | @cons _ u _ us' ru rr =>
      obtain ⟨more, h1, h2⟩ := ih rr
      cases ru
      obtain ⟨its, r', pt, _⟩ := I.tuple ht
      obtain ⟨a, b, rfl, ra, rb⟩ := vals2 r'
      exact ⟨(k, b) :: more, .cons pt (kV_is ra) h1, .cons ⟨rfl, rb⟩ h2⟩
end
end L2
end
section
set_option Elab.async false
set_option linter.all false
set_option maxRecDepth 100000
set_option maxHeartbeats 4000000
namespace PySem
/-- the two are the same data: == says so -/
def EqP (prog : Program) (w : World) (A : Around) (s : Shared) (y x : Value) : Prop := ∀ (E : Value → Shared → Prop) (Q : Bool → Shared → Prop), Q true s → wpAny (model prog w) A (eqBool y x) Q E s
def RcP (prog : Program) (w : World) (A : Around) (s : Shared) (y x : Value) : Prop := ∀ (E : Value → Shared → Prop) (Q : Value → Shared → Prop), Q (.bool true) s → wpAny (model prog w) A (richCompare .Eq y x) Q E s
section
variable {prog : Program} {w : World} {A : Around} {s : Shared}
theorem EqP.same (v : Value) : EqP prog w A s v v := fun E Q q => SeqAt.EqAt.same v prog w E Q q
theorem eqP_loop {l b : Addr} {xs ys : Array Value} {n1 n2 : Nat} {d1 d2 : Option Addr} {s1 s2 : Array (Option Value)} (hs : xs.size = ys.size) : ∀ (k i : Nat), xs.size - i = k → MeetsIn prog w (Builtin.«list.__eq__.loop» ⟨[.ref l, .ref b, rawInt i, rawInt 2], []⟩)
    (fun A R s => s.heap.get? l = some ⟨.type "list", d1, .seq xs n1, s1⟩ ∧ s.heap.get? b = some ⟨.type "list", d2, .seq ys n2, s2⟩ ∧ (∀ (j : Nat) (a1 : j < xs.size) (a2 : j < ys.size), EqP prog w A.in1 s xs[j] ys[j]) ∧ R (.ok (.ret (.bool true))) s) := by
  intro k
  induction k with
  | zero =>
    intro i hk A R s h
    obtain ⟨hp, g, d, tk, os⟩ := s
    obtain ⟨g1, g2, he, h⟩ := h
    wp_walk using AutoSeq1.wpAny_loadPart' g1, AutoSeq1.wpAny_loadPart' g2
    have z1 : xs[((i : Nat) : Int).toNat]? = none := by simp; omega
    have z2 : ys[((i : Nat) : Int).toNat]? = none := by simp; omega
    rw [z1, z2]
    wp_walk using AutoSeq1.wpAny_loadPart' g1, AutoSeq1.wpAny_loadPart' g2
    show R (.ok (.ret (.bool (xs.size == ys.size)))) _
    rw [hs]
    simpa using h
  | succ k ih =>
    intro i hk A R s h
    obtain ⟨hp, g, d, tk, os⟩ := s
    obtain ⟨g1, g2, he, h⟩ := h
    wp_walk using AutoSeq1.wpAny_loadPart' g1, AutoSeq1.wpAny_loadPart' g2
    have l1 : i < xs.size := by omega
    have l2 : i < ys.size := by omega
    have z1 : xs[((i : Nat) : Int).toNat]? = some xs[i] := by simp [l1]
    have z2 : ys[((i : Nat) : Int).toNat]? = some ys[i] := by simp [l2]
    have hc : ((i : Int) + 1) = ((i + 1 : Nat) : Int) := by omega
    rw [z1, z2]
    refine wpAny_bind (he i l1 l2 _ _ ?_)
    wp_walk
    rw [hc]
    refine ⟨plainId_quiet MeetsSeq3.plain_eq_loop _, codeAny_builtin MeetsSeq3.entry_eq_loop ?_⟩
    rw [Around.under_plainId MeetsSeq3.plain_eq_loop _]
    exact ih (i + 1) (by omega) A R _ ⟨g1, g2, he, h⟩
theorem RcP.lists {l b : Addr} {xs ys : Array Value} (h1 : s.heap.IsList l xs) (h2 : s.heap.IsList b ys) (hs : xs.size = ys.size) (hu : A.units < cLine) (he : ∀ (j : Nat) (a1 : j < xs.size) (a2 : j < ys.size), EqP prog w A.in1 s xs[j] ys[j]) : RcP prog w A s (.ref l) (.ref b) := fun E Q q => by
  obtain ⟨⟨c1, d1, dt1, s1⟩, e1, e2, n1, e3⟩ := id h1
  obtain ⟨⟨c2, d2, dt2, s2⟩, f1, f2, n2, f3⟩ := id h2
  simp only at e2 e3 f2 f3
  subst e2 e3 f2 f3
  have M : MeetsIn prog w (Builtin.«list.__eq__» ⟨[.ref l, .ref b], []⟩) (fun A R s => s.heap.get? l = some ⟨.type "list", d1, .seq xs n1, s1⟩ ∧ s.heap.get? b = some ⟨.type "list", d2, .seq ys n2, s2⟩ ∧ (∀ (j : Nat) (a1 : j < xs.size) (a2 : j < ys.size), EqP prog w A.in1 s xs[j] ys[j]) ∧ R (.ok (.ret (.bool true))) s) := by
    intro A R s h
    obtain ⟨hp, g, d, tk, os⟩ := s
    obtain ⟨g1, g2, he, h⟩ := h
    have f := AutoSeq1.sub_list_list
    have ne : ¬ (xs.size != ys.size) = true := by simp [hs]
    wp_walk using AutoSeq1.wpAny_loadPart' g1, AutoSeq1.wpAny_loadPart' g2
    refine ⟨plainId_quiet MeetsSeq3.plain_eq_loop _, codeAny_builtin MeetsSeq3.entry_eq_loop ?_⟩
    rw [Around.under_plainId MeetsSeq3.plain_eq_loop _]
    exact eqP_loop hs _ 0 rfl A R _ ⟨g1, g2, he, h⟩
  exact wpAny_richCompare_same_room (op := .Eq) ⟨_, e1, rfl⟩ ⟨_, f1, rfl⟩ F.slot_list_eq (call_meetsIn F.slot_list_eq ⟨_, e1, rfl⟩ F.entry_list_eq (F.args_list_eq_2 _ _) M ⟨e1, f1, he, (fun z => nomatch z), q⟩) hu
end
end PySem
end
section
set_option Elab.async false
set_option linter.all false
set_option maxRecDepth 100000
set_option maxHeartbeats 4000000
namespace L2
open PySem PySem.Spec PyProof.Rows
/-- the same data, no dicts, at most n deep -/
inductive SameD (K : PySem.W.Frag) (H : Hp) : Nat → V → V → Prop where
  | non {n : Nat} : SameD K H n .non .non
  | bl {n : Nat} (b : Bool) : SameD K H n (.bl b) (.bl b)
  | int {n : Nat} (i : Int) : SameD K H n (.int i) (.int i)
  | str {n : Nat} (x : Str) : SameD K H n (.str x) (.str x)
  | lst {n : Nat} {a b : Addr} {xs ys : List V} : SqL K H a xs → SqL K H b ys → xs.length = ys.length → (∀ (i : Nat) x y, xs[i]? = some x → ys[i]? = some y → SameD K H n x y) → SameD K H (n + 1) (.ref a) (.ref b)
  | tup {n : Nat} {a b : Addr} {xs ys : List V} : SqT K H a xs → SqT K H b ys → xs.length = ys.length → (∀ (i : Nat) x y, xs[i]? = some x → ys[i]? = some y → SameD K H n x y) → SameD K H (n + 1) (.ref a) (.ref b)
/-- the same data, with dicts in lists -/
inductive SameP (K : PySem.W.Frag) (H : Hp) : Nat → V → V → Prop where
  | d {n : Nat} {x y : V} : SameD K H n x y → SameP K H n x y
  | lst {n : Nat} {a b : Addr} {xs ys : List V} : SqL K H a xs → SqL K H b ys → xs.length = ys.length → (∀ (i : Nat) x y, xs[i]? = some x → ys[i]? = some y → SameP K H n x y) → SameP K H (n + 1) (.ref a) (.ref b)
  | dct {n : Nat} {a b : Addr} {kxs kys : List (Key × V)} : Rd H a (.dK kxs) → Rd H b (.dK kys) → kxs.length = kys.length → (∀ (i : Nat) x y, kxs[i]? = some x → kys[i]? = some y → x.1 = y.1 ∧ SameD K H n x.2 y.2) → SameP K H (n + 1) (.ref a) (.ref b)
section
variable {X : Cx} {pins : List (Addr × Obj)} {σ : St} {H : Hp} {s : Shared}
end
end L2
end
section
set_option Elab.async false
set_option linter.all false
set_option maxRecDepth 100000
set_option maxHeartbeats 4000000
namespace L2
open PySem PySem.Spec PyProof.Rows
section
variable {X : Cx} {pins : List (Addr × Obj)} {σ : St} {H : Hp} {s : Shared}
end
end L2
namespace TL
open PySem PySem.Spec PyProof.Rows L2
/-- data without dicts -/
inductive DatD : Nat → T → Prop where
  | non {n : Nat} : DatD n .non
  | bl {n : Nat} (b : Bool) : DatD n (.bl b)
  | int {n : Nat} (i : Int) : DatD n (.int i)
  | str {n : Nat} (x : Str) : DatD n (.str x)
  | lst {n : Nat} {ts : List T} : (∀ t ∈ ts, DatD n t) → DatD (n + 1) (.lst ts)
  | tup {n : Nat} {ts : List T} : (∀ t ∈ ts, DatD n t) → DatD (n + 1) (.tup ts)
inductive DatP : Nat → T → Prop where
  | d {n : Nat} {t : T} : DatD n t → DatP n t
  | lst {n : Nat} {ts : List T} : (∀ t ∈ ts, DatP n t) → DatP (n + 1) (.lst ts)
  | dct {n : Nat} {kts : List (Key × T)} : (∀ t ∈ kts, DatD n t.2) → DatP (n + 1) (.dct kts)
section
variable {K : PySem.W.Frag} {S : TH} {H : Hp}
theorem DatD.same {n : Nat} {t : T} (h : DatD n t) : ∀ {v w : V}, Rep K S H v t → Rep K S H w t → SameD K H n v w := by
  induction h with
  | non => intro v w r1 r2; cases r1; cases r2; exact .non
  | bl b => intro v w r1 r2; cases r1; cases r2; exact .bl b
  | int i => intro v w r1 r2; cases r1; cases r2; exact .int i
  | str x => intro v w r1 r2; cases r1; cases r2; exact .str x
  | @lst n ts _ ih =>
    intro v w r1 r2
    obtain ⟨a, vs, rfl, f, r⟩ := r1.lstE
    obtain ⟨b, ws, rfl, f', r'⟩ := r2.lstE
    refine .lst f.sq f'.sq (by rw [r.1, r'.1]) fun i x y e1 e2 => ?_
    obtain ⟨t, et, rt⟩ := r.get' e1
    exact ih t (List.mem_of_getElem? et) rt (r'.2 i y t e2 et)
  | @tup n ts _ ih =>
    intro v w r1 r2
    obtain ⟨a, vs, rfl, f, r⟩ := r1.tupE
    obtain ⟨b, ws, rfl, f', r'⟩ := r2.tupE
    refine .tup f.sq f'.sq (by rw [r.1, r'.1]) fun i x y e1 e2 => ?_
    obtain ⟨t, et, rt⟩ := r.get' e1
    exact ih t (List.mem_of_getElem? et) rt (r'.2 i y t e2 et)
theorem DatP.same {n : Nat} {t : T} (h : DatP n t) : ∀ {v w : V}, Rep K S H v t → Rep K S H w t → SameP K H n v w := by
  induction h with
  | d h => intro v w r1 r2; exact .d (h.same r1 r2)
  | @lst n ts _ ih =>
    intro v w r1 r2
    obtain ⟨a, vs, rfl, f, r⟩ := r1.lstE
    obtain ⟨b, ws, rfl, f', r'⟩ := r2.lstE
    refine .lst f.sq f'.sq (by rw [r.1, r'.1]) fun i x y e1 e2 => ?_
    obtain ⟨t, et, rt⟩ := r.get' e1
    exact ih t (List.mem_of_getElem? et) rt (r'.2 i y t e2 et)
  | @dct n kts hd =>
    intro v w r1 r2
    obtain ⟨a, kvs, rfl, _, hH, r⟩ := r1.dctE
    obtain ⟨b, kws, rfl, _, hH', r'⟩ := r2.dctE
    refine .dct (.inl hH) (.inl hH') (by rw [r.1, r'.1]) fun i x y e1 e2 => ?_
    have hi : i < kts.length := by rw [← r.1]; exact (List.getElem?_eq_some_iff.mp e1).1
    have et : kts[i]? = some kts[i] := List.getElem?_eq_getElem hi
    obtain ⟨k1, q1⟩ := r.2 i x _ e1 et
    obtain ⟨k2, q2⟩ := r'.2 i y _ e2 et
    exact ⟨k1.trans k2.symm, (hd _ (List.getElem_mem hi)).same q1 q2⟩
end
def keyTree : Key → T
  | .inl i => .int i
  | .inr x => .str x
section
variable {K : PySem.W.Frag} {S : TH} {H : Hp}
end
section
variable {X : Cx} {a b : Expr} {ta tb : UTE} {tr : UTA} {p pos : Pos}
end
end TL
end
section
set_option Elab.async false
set_option linter.all false
set_option maxRecDepth 100000
set_option maxHeartbeats 4000000
namespace TL
open PySem PySem.Spec PyProof.Rows L2
section
variable {X : Cx} {elt iter : Expr} {ti : UTA} {tc : UTT} {te : UTE} {pos spos : Pos} {scope : Scope} {ifs : List Expr} {z : Str} {pz : Pos}
/-- name = [.. for x in ..] -/
theorem us_setComp1 (k : Nat) (hNd : X.N.Nodup) (i : Nat) (N : List Str) (pick : List (Option Nat)) {x : Str} {px : Pos} (hc : X.calm = true) (hi : UI X (.Name x px) iter ti) (ht : ∀ C s H fp pins, PTs (cxComp X N scope C s H fp pins) ifs (lfT X.K tc)) (he : ∀ C s H fp pins, UE (cxComp X N scope C s H fp pins) elt te)
    (hs : scopeOk X.env.scope.names scope.names = true := by rfl) (hp : pickOk X.N scope.names N pick = true := by rfl) (hk : scope.kind = .function := by rfl) (hN : N.Nodup := by decide +kernel)
    (hiN : N[i]? = some x := by rfl) (hpi : pick[i]? = some none := by rfl) (hloc : scope.names.lookup x = some .local := by rfl) (hfs : ∀ x, foldedSetIterable iter X.env x = pure x := by intro _; rfl)
    (hz : X.N[k]? = some z := by rfl) (hlz : Loc X.env.scope z := by first | exact Or.inl rfl | exact Or.inr rfl) (hsw : swapsWith (.ListComp elt [⟨.Name x px, iter, ifs, 0⟩] scope pos) (some (.Name z pz)) spos.line X.env = pure true := by rfl)
    (hf : X.fn z = true ∨ X.env.scope.names.lookup z = some .local := by first | exact .inl rfl | exact .inr rfl) :
    US X (.Assign [.Name z pz] (.ListComp elt [⟨.Name x px, iter, ifs, 0⟩] scope pos) spos) (uSet k (uComp pick ti (gNm i) tc te)) :=
  PS.imp (ps_setComp (i := k) hc hs hp hk hi (fun C s H fp pins => pg_name (i := i) hN hiN (.inl (lookup_relabel_local hloc)) (.inr (lookup_relabel_local hloc))) ht (te := lf X.K te) he hNd hz hlz hsw hf hfs) fun D σ H ⟨S, env, E, g, re, h, fin⟩ =>
    comp_read (fun y tt S1 H1 env k R gd re rt hg hR => ⟨keep_set hpi, hR _ _ (re.set rt) hg⟩) (lf_bind ⟨g, re⟩ h fun v y S1 H1 le1 m1 ry h1 => fin.nx _ _ S1 H1 le1 m1.g (m1.re.set ry) h1)
end
theorem comp_inv {pick : List (Option Nat)} {ti : UTA} {env : Ev} {S S1 : TH} {gg : UTG} {tc : UTT} {te : UTE} {P : UX} (ts : List T) (Iv : Nat → List T → TH → Prop) (hti : ∀ k : List T → TH → Prop, k ts S1 → ti env S k) (hl : ts.length ≤ sizeLine) (h0 : Iv 0 [] S1)
    (turn : ∀ k x acc S, ts[k]? = some x → Iv k acc S → gg x (evOf pick env) S fun env' S' => tc env' S' fun b S2 => (b = true → te env' S2 fun r S3 => Iv (k + 1) (acc ++ [r]) S3) ∧ (b = false → Iv (k + 1) acc S2))
    (done : ∀ acc S, Iv ts.length acc S → P (.lst acc) S) : uComp pick ti gg tc te env S P := hti _ ⟨hl, Iv, h0, turn, done⟩
theorem seq_join {t u : UTS} {E : UEnds} {env : Ev} {S : TH} (R : Ev → TH → Prop) (h : ∀ k : Ev → TH → Prop, (∀ env' S', R env' S' → k env' S') → t { E with nx := k } env S) (rest : ∀ env' S', R env' S' → u E env' S') : uSeq t u E env S := by
  unfold uSeq
  exact h _ rest
theorem or_skip {t u : UTT} {env : Ev} {S : TH} {P : Bool → TH → Prop} (ht : ∀ P : Bool → TH → Prop, P false S → t env S P) (h : u env S P) : uOr t u env S P := ht _ ⟨fun e => (by cases e), fun _ => h⟩
theorem al_nil {Q : T → Prop} : ∀ t ∈ ([] : List T), Q t := fun _ h => by cases h
theorem al_cons {Q : T → Prop} {a : T} {r : List T} (h : Q a) (hr : ∀ t ∈ r, Q t) : ∀ t ∈ a :: r, Q t := fun t ht => by
  rcases List.mem_cons.mp ht with rfl | q
  · exact h
  · exact hr t q
theorem al_app {Q : T → Prop} {a b : List T} (h : ∀ t ∈ a, Q t) (hr : ∀ t ∈ b, Q t) : ∀ t ∈ a ++ b, Q t := fun t ht => (List.mem_append.mp ht).elim (h t) (hr t)
theorem cut_map {α β : Type} (f : α → β) (zs : List α) (lo hi : Option Int) : cutA (zs.map f) lo hi = (cutA zs lo hi).map f := by
  unfold cutA
  rw [List.length_map, List.map_take, List.map_drop]
theorem cutN_len {α : Type} (a : List α) (lo hi : Option Int) : (cutA a lo hi).length ≤ a.length := by
  unfold cutA
  rw [List.length_take, List.length_drop]
  omega
theorem cutN_mem {α : Type} {a : List α} {lo hi : Option Int} {t : α} (ht : t ∈ cutA a lo hi) : t ∈ a := List.mem_of_mem_drop (List.mem_of_mem_take ht)
theorem cut_tail {α : Type} (a : α) (r : List α) : cutA (a :: r) (some 1) none = r := by
  simp [cutA, HT.sIx]
def NumD (kts : List (Key × T)) : Prop := ∀ p ∈ kts, ∃ (x : Str) (i : Int), p = (Sum.inr x, T.int i)
def keysS (kts : List (Key × T)) : List Str := kts.filterMap fun p => match p.1 with
  | .inr x => some x
  | _ => none
theorem NumD.keys : ∀ {kts : List (Key × T)}, NumD kts → (kts.map fun kt => keyTree kt.1) = (keysS kts).map T.str
  | [], _ => rfl
  | p :: r, h => by
    obtain ⟨x, i, rfl⟩ := h p List.mem_cons_self
    have ih := NumD.keys (kts := r) fun q hq => h q (List.mem_cons_of_mem _ hq)
    show keyTree (Sum.inr x) :: (r.map fun kt => keyTree kt.1) = T.str x :: (keysS r).map T.str
    rw [ih]
    rfl
theorem mem_keysS {kts : List (Key × T)} {x : Str} : x ∈ keysS kts ↔ ∃ p ∈ kts, p.1 = Sum.inr x := by
  unfold keysS
  rw [List.mem_filterMap]
  constructor
  · rintro ⟨p, hp, e⟩
    refine ⟨p, hp, ?_⟩
    cases q : p.1 with
    | inl i => rw [q] at e; cases e
    | inr y => rw [q] at e; cases e; rfl
  · rintro ⟨p, hp, e⟩
    exact ⟨p, hp, by rw [e]⟩
theorem NumD.val {kts : List (Key × T)} (h : NumD kts) {x : Str} (hx : x ∈ keysS kts) : ∃ i, valT kts (.inr x) = some (.int i) := by
  obtain ⟨p, hp, e⟩ := mem_keysS.mp hx
  unfold valT
  cases q : kts.find? fun kv => decide (kv.1 = Sum.inr x) with
  | none =>
    have := List.find?_eq_none.mp q p hp
    simp [e] at this
  | some r =>
    obtain ⟨y, i, rfl⟩ := h r (List.mem_of_find?_eq_some q)
    exact ⟨i, rfl⟩
end TL
end
section
set_option Elab.async false
set_option linter.all false
set_option maxRecDepth 100000
set_option maxHeartbeats 4000000
namespace L2
open PySem PySem.Spec PyProof.Rows
section
variable {X : Cx}
end
end L2
end
section
set_option Elab.async false
set_option linter.all false
set_option maxRecDepth 100000
set_option maxHeartbeats 4000000
namespace TL
open PySem PySem.Spec PyProof.Rows L2
section
variable {K : PySem.W.Frag} {S S' : TH} {H H' : Hp}
def cellT : Cell → T
  | .lst ts => .lst ts
  | .dct kts => .dct kts
  | .ins _ _ => .non
def isIns : Cell → Bool
  | .ins _ _ => true
  | _ => false
inductive Ml (p : Addr) (c : T) : T → T → Prop where
  | here : Ml p c (.ref p) c
  | keep (t : T) : Ml p c t t
  | lst {ts us : List T} : ts.length = us.length → (∀ (i : Nat) t u, ts[i]? = some t → us[i]? = some u → Ml p c t u) → Ml p c (.lst ts) (.lst us)
  | dct {ts us : List (Key × T)} : ts.length = us.length → (∀ (i : Nat) t u, ts[i]? = some t → us[i]? = some u → t.1 = u.1) → (∀ (i : Nat) t u, ts[i]? = some t → us[i]? = some u → Ml p c t.2 u.2) → Ml p c (.dct ts) (.dct us)
theorem Ml.rep {p : Addr} {c : Cell} (g : Good K S H) (e : S p = some c) (hc : isIns c = false) {x x' : T} (m : Ml p (cellT c) x x') : ∀ {v : V}, Rep K S H v x → Rep K (delT S p) H v x' := by
  induction m with
  | here =>
    intro v r
    cases r
    have q := g p c e
    cases c with
    | lst ts => obtain ⟨vs, q, r⟩ := q; exact .lstI ⟨delT_same, q⟩ (r.mono Le.del)
    | dct kts =>
      obtain ⟨kvs, q, r⟩ := q
      have r3 := r.mono (Le.del (S := S) (H := H) (p := p))
      exact .dct ⟨delT_same, q⟩ r3.1 (fun i v t a b => (r3.2 i v t a b).1) fun i v t a b => (r3.2 i v t a b).2
    | ins C fs => cases hc
  | keep t => intro v r; exact r.mono Le.del
  | @lst ts us hl _ ih =>
    intro v r
    obtain ⟨a, vs, rfl, f, r⟩ := r.lstE
    refine .lst (f.mono Le.del) (r.1.trans hl) fun i v u e1 e2 => ?_
    obtain ⟨t, et, rt⟩ := r.get' e1
    exact ih i t u et e2 rt
  | @dct ts us hl hk _ ih =>
    intro v r
    obtain ⟨a, kvs, rfl, h1, h2, r⟩ := r.dctE
    have q := Le.del (S := S) (H := H) (p := p) _ _ h1 h2
    have get : ∀ (i : Nat) v, kvs[i]? = some v → ∃ t, ts[i]? = some t ∧ v.1 = t.1 ∧ Rep K S H v.2 t.2 := fun i v e1 => by
      have hi : i < ts.length := by rw [← r.1]; exact (List.getElem?_eq_some_iff.mp e1).1
      exact ⟨ts[i], List.getElem?_eq_getElem hi, r.2 i v _ e1 (List.getElem?_eq_getElem hi)⟩
    refine .dct q (r.1.trans hl) (fun i v u e1 e2 => ?_) fun i v u e1 e2 => ?_
    · obtain ⟨t, et, k, _⟩ := get i v e1
      exact k.trans (hk i t u et e2)
    · obtain ⟨t, et, _, rt⟩ := get i v e1
      exact ih i t u et e2 rt
inductive Mls : TH → T → TH → T → Prop where
  | done {S : TH} {x : T} : Mls S x S x
  | step {S S' : TH} {x x1 x' : T} {p : Addr} {c : Cell} : S p = some c → Ml p (cellT c) x x1 → Mls (delT S p) x1 S' x' → (hc : isIns c = false := by rfl) → Mls S x S' x'
theorem Mls.rep {x x' : T} (m : Mls S x S' x') : ∀ {v : V}, Good K S H → Rep K S H v x → Le S H S' H ∧ Good K S' H ∧ Rep K S' H v x' := by
  induction m with
  | done => intro v g r; exact ⟨.refl, g, r⟩
  | step e m _ hc ih =>
    intro v g r
    obtain ⟨h1, h2, h3⟩ := ih g.del (m.rep g e hc r)
    exact ⟨Le.del.trans h1, h2, h3⟩
end
section
variable {X : Cx} {a b e o : Expr} {ta tb te to ti : UTE} {tr : UTA} {p pos : Pos} {x : Str}
end
end TL
end
section
set_option Elab.async false
set_option linter.all false
set_option maxRecDepth 100000
set_option maxHeartbeats 4000000
namespace PySem
section
variable {prog : Program} {w : World} {K : Type} [DecidableEq K] {knd : KeyKind prog w K} {A : Around} {E : Value → Shared → Prop} {s : Shared}
end
end PySem
end
section
set_option Elab.async false
set_option linter.all false
set_option maxRecDepth 100000
set_option maxHeartbeats 4000000
namespace PySem
section
variable {prog : Program} {w : World} {K : Type} [DecidableEq K] {knd : KeyKind prog w K} {A : Around} {E : Value → Shared → Prop} {s : Shared}
end
end PySem
namespace L2
open PySem PySem.Spec PyProof.Rows
section
variable {X : Cx} {p p' pos pos' : Pos} {e : Expr} {te : TE}
end
end L2
end
section
set_option Elab.async false
set_option linter.all false
set_option maxRecDepth 100000
set_option maxHeartbeats 4000000
namespace L2
open PySem PySem.Spec PyProof.Rows
open AutoSeq1 (wpAny_loadPart')
section
variable {prog : Program} {w : World} {A : Around} {E : Value → Shared → Prop} {s : Shared}
end
end L2
end
section
set_option Elab.async false
set_option linter.all false
set_option maxRecDepth 100000
set_option maxHeartbeats 4000000
namespace TL
open PySem PySem.Spec PyProof.Rows L2
section
variable {X : Cx} {e a : Expr} {te : UTE} {tr : UTA} {p p' pos pos' tp : Pos}
theorem reps_strs {K : PySem.W.Frag} {S : TH} {H : Hp} : ∀ {vs : List V} {zs : List Str}, Reps K S H vs (zs.map T.str) → vs = zs.map V.str
  | [], [], _ => rfl
  | [], _ :: _, r => absurd r.1 (by simp)
  | _ :: _, [], r => absurd r.1 (by simp)
  | v :: vs, z :: zs, r => by
    have h := r.head
    cases h
    rw [reps_strs r.tail]
    rfl
def gTr (i j k : Nat) : UTG := fun x env S P => match x with
  | .tup [x, y, z] => P (((env.set i (some x)).set j (some y)).set k (some z)) S
  | _ => False
theorem ug_triple (i j k : Nat) {x y z : Str} {p1 p2 p3 : Pos} {n : Nat} (hc : X.calm = true) (hN : X.N.Nodup) (hi : X.N[i]? = some x := by rfl) (hx : Loc X.env.scope x := by first | exact Or.inl rfl | exact Or.inr rfl) (hf : X.fn x = true ∨ X.env.scope.names.lookup x = some .local := by first | exact .inl rfl | exact .inr rfl)
    (hj : X.N[j]? = some y := by rfl) (hy : Loc X.env.scope y := by first | exact Or.inl rfl | exact Or.inr rfl) (hfy : X.fn y = true ∨ X.env.scope.names.lookup y = some .local := by first | exact .inl rfl | exact .inr rfl)
    (hk : X.N[k]? = some z := by rfl) (hz : Loc X.env.scope z := by first | exact Or.inl rfl | exact Or.inr rfl) (hfz : X.fn z = true ∨ X.env.scope.names.lookup z = some .local := by first | exact .inl rfl | exact .inr rfl) :
    UG X (.Tuple [.Name x p1, .Name y p2, .Name z p3] n pos) (gTr i j k) :=
  PG.imp (pg_tup (n := 3) hc (pgs_cons (pg_name hN hi hx hf) (pgs_cons (pg_name hN hj hy hfy) (pgs_cons (pg_name hN hk hz hfz) pgs_nil)))) fun v σ H Q ⟨S, env, x, P, g, re, rx, h, fin⟩ => by
    cases x with
    | tup ts =>
      match ts, h with
      | [x, y, z], h =>
        obtain ⟨l, vs, rfl, f, r⟩ := rx.tupE
        match vs, f, r with
        | [v, w, u], f, r => exact ⟨l, [v, w, u], rfl, f.sq, rfl, v, [w, u], rfl, w, [u], rfl, u, [], rfl, rfl, fin _ _ S H .refl g (((re.set r.head).set r.tail.head).set r.tail.tail.head) h⟩
        | [], _, r => exact absurd r.1 (by simp)
        | [_], _, r => exact absurd r.1 (by simp)
        | [_, _], _, r => exact absurd r.1 (by simp)
        | _ :: _ :: _ :: _ :: _, _, r => exact absurd r.1 (by simp)
    | _ => exact h.elim
def oRep : T → T → TH → UX → Prop := fun x y S P => match x, y with
  | .lst ts, .int n => 0 ≤ n ∧ n ≤ 1000 ∧ ts.length ≤ 1 ∧ P (.lst (List.replicate n.toNat ts).flatten) S
  | _, _ => False
theorem reps_rep {K : PySem.W.Frag} {S : TH} {H : Hp} {vs : List V} {ts : List T} (r : Reps K S H vs ts) : ∀ n : Nat, Reps K S H (List.replicate n vs).flatten (List.replicate n ts).flatten
  | 0 => .nil
  | n + 1 => by
    rw [List.replicate_succ, List.replicate_succ, List.flatten_cons, List.flatten_cons]
    exact r.append (reps_rep r n)
theorem lRep {K : PySem.W.Frag} : LOp K rRep oRep := fun S H v w x y P Q g rx ry ho fin => by
  cases x with
  | lst ts =>
    cases y with
    | int n =>
      obtain ⟨h0, h1, h2, h⟩ := ho
      obtain ⟨a, vs, rfl, f, r⟩ := rx.lstE
      cases ry
      refine ⟨a, n, vs, rfl, rfl, f.2, by omega, by omega, ?_, fun p hp => fin_lst fin g hp (reps_rep r _) h⟩
      rw [r.1]
      refine Nat.le_trans (Nat.mul_le_mul_right _ h2) ?_
      exact Nat.le_of_lt (small1000 (by omega))
    | _ => exact ho.elim
  | _ => exact ho.elim
theorem ue_rep {b : Expr} {ta tb : UTE} (ha : UE X a ta) (hb : UE X b tb) : UE X (.BinOp a .Mult b pos) (uBin oRep ta tb) := ue_bin op_rep lRep ha hb
theorem and_keep {t u : UTT} {b1 : Bool} {C : Prop} {env : Ev} {S : TH} {P : Bool → TH → Prop} {R : TH → Prop} (ht : ∀ P : Bool → TH → Prop, P b1 S → t env S P) (h0 : R S)
    (hu : b1 = true → ∀ P : Bool → TH → Prop, (∀ b S', R S' → (b = true → C) → P b S') → u env S P) (h : ∀ b S', R S' → (b = true → b1 = true ∧ C) → P b S') : uAnd t u env S P :=
  ht _ ⟨fun e => hu e _ fun b S' r q => h b S' r fun z => ⟨e, q z⟩, fun e => h false S h0 fun z => (by cases z)⟩
theorem comp_draw {pick : List (Option Nat)} {ti : UTA} {env : Ev} {S : TH} {gg : UTG} {tc : UTT} {te : UTE} {P : UX} (Qs : List T → TH → Prop) (hti : ∀ k : List T → TH → Prop, (∀ ts S1, Qs ts S1 → k ts S1) → ti env S k)
    (body : ∀ ts S1, Qs ts S1 → ts.length ≤ sizeLine ∧ ∃ Iv : Nat → List T → TH → Prop, Iv 0 [] S1 ∧
      (∀ k x acc S, ts[k]? = some x → Iv k acc S → gg x (evOf pick env) S fun env' S' => tc env' S' fun b S2 => (b = true → te env' S2 fun r S3 => Iv (k + 1) (acc ++ [r]) S3) ∧ (b = false → Iv (k + 1) acc S2)) ∧
      ∀ acc S, Iv ts.length acc S → P (.lst acc) S) : uComp pick ti gg tc te env S P := hti _ body
theorem rep_one {α : Type} (x : α) : ∀ n : Nat, (List.replicate n [x]).flatten = List.replicate n x
  | 0 => rfl
  | n + 1 => by rw [List.replicate_succ, List.flatten_cons, rep_one x n, List.replicate_succ]; rfl
end
end TL
end
section
set_option Elab.async false
set_option linter.all false
set_option maxRecDepth 100000
set_option maxHeartbeats 4000000
namespace L2
open PySem PySem.Spec PyProof.Rows
section
variable {X : Cx}
end
end L2
end
section
set_option Elab.async false
set_option linter.all false
set_option maxRecDepth 100000
set_option maxHeartbeats 4000000
namespace TL
open PySem PySem.Spec PyProof.Rows L2
def putFT (f : Str) (t : T) : List (Str × T) → List (Str × T)
  | [] => [(f, t)]
  | (g, x) :: r => if g = f then (g, t) :: r else (g, x) :: putFT f t r
section
variable {K : PySem.W.Frag} {S S' : TH} {H H' : Hp}
theorem RepF.nil : RepF K S H [] [] := ⟨rfl, fun _ _ _ e => by simp at e⟩
theorem RepF.cons {p : Str × V} {q : Str × T} {fvs : List (Str × V)} {fts : List (Str × T)} (h1 : p.1 = q.1) (h2 : Rep K S H p.2 q.2) (r : RepF K S H fvs fts) : RepF K S H (p :: fvs) (q :: fts) := by
  refine ⟨by simp only [List.length_cons, r.1], fun i v t e1 e2 => ?_⟩
  cases i with
  | zero => simp at e1 e2; subst e1; subst e2; exact ⟨h1, h2⟩
  | succ i => exact r.2 i v t (by simpa using e1) (by simpa using e2)
theorem RepF.head {p : Str × V} {q : Str × T} {fvs : List (Str × V)} {fts : List (Str × T)} (h : RepF K S H (p :: fvs) (q :: fts)) : p.1 = q.1 ∧ Rep K S H p.2 q.2 := h.2 0 p q rfl rfl
theorem RepF.tail {p : Str × V} {q : Str × T} {fvs : List (Str × V)} {fts : List (Str × T)} (h : RepF K S H (p :: fvs) (q :: fts)) : RepF K S H fvs fts := ⟨by simpa using h.1, fun i v t e1 e2 => h.2 (i + 1) v t (by simpa using e1) (by simpa using e2)⟩
theorem RepF.look : ∀ {fvs : List (Str × V)} {fts : List (Str × T)} {f : Str}, RepF K S H fvs fts → (∀ t, fts.lookup f = some t → ∃ v, fvs.lookup f = some v ∧ Rep K S H v t) ∧ (fts.lookup f = none → fvs.lookup f = none)
  | [], [], f, _ => ⟨fun _ e => (by cases e), fun _ => rfl⟩
  | [], _ :: _, _, h => by have := h.1; simp at this
  | _ :: _, [], _, h => by have := h.1; simp at this
  | (g, v) :: fvs, (g', t) :: fts, f, h => by
    have hg : g = g' := h.head.1
    subst hg
    obtain ⟨i1, i2⟩ := RepF.look (f := f) h.tail
    rw [List.lookup_cons, List.lookup_cons]
    cases f == g with
    | true => exact ⟨fun t' e => (by cases e; exact ⟨v, rfl, h.head.2⟩), fun e => (by cases e)⟩
    | false => exact ⟨i1, i2⟩
theorem RepF.put {f : Str} {v : V} {t : T} (r : Rep K S H v t) : ∀ {fvs : List (Str × V)} {fts : List (Str × T)}, RepF K S H fvs fts → RepF K S H (putF f v fvs) (putFT f t fts)
  | [], [], _ => .cons rfl r .nil
  | [], _ :: _, h => by have := h.1; simp at this
  | _ :: _, [], h => by have := h.1; simp at this
  | (g, x) :: fvs, (g', y) :: fts, h => by
    have hg : g = g' := h.head.1
    subst hg
    unfold putF putFT
    split
    · exact .cons rfl r h.tail
    · exact .cons rfl h.head.2 (RepF.put r h.tail)
end
/-- a method of a class keeps the promise t; the class's making does -/
def HasM (P : Program) (w : World) (K : PySem.W.Frag) (mg : Str → Option Value) (base : Heap) (k : Nat) (C : Addr) (m : Str) (ps : List Str) (t : List T → TH → UX → Prop) : Prop :=
  ∃ f fd, FnOk P w K mg base CX0 k f fd ps (spU K t) ∧ Binds K fd ps [] ∧ Meth K C m f ∧ Cls K C
def HasI (P : Program) (w : World) (K : PySem.W.Frag) (mg : Str → Option Value) (base : Heap) (k : Nat) (C : Addr) (x : Str) (ps : List Str) (t : List T → TH → UX → Prop) : Prop :=
  ∃ f fd, FnOk P w K mg base CX0 k f fd ps (spU K t) ∧ Binds K fd ps [] ∧ Mk K C f ∧ mg x = some (.ref C)
section
variable {X : Cx} {o e : Expr} {es : List Expr} {to te : UTE} {tr : UTA} {p pos pos' apos : Pos} {f m x : Str} {C : Addr} {k : Nat} {ps : List Str} {t : List T → TH → UX → Prop}
end
theorem HasM.mono {P : Program} {w : World} {K : PySem.W.Frag} {mg : Str → Option Value} {base : Heap} {j k : Nat} {C : Addr} {x : Str} {ps : List Str} {t : List T → TH → UX → Prop} (h : HasM P w K mg base j C x ps t) (hk : j ≤ k) : HasM P w K mg base k C x ps t := by
  obtain ⟨f, fd, h1, h2⟩ := h
  exact ⟨f, fd, h1.mono hk, h2⟩
theorem HasI.mono {P : Program} {w : World} {K : PySem.W.Frag} {mg : Str → Option Value} {base : Heap} {j k : Nat} {C : Addr} {x : Str} {ps : List Str} {t : List T → TH → UX → Prop} (h : HasI P w K mg base j C x ps t) (hk : j ≤ k) : HasI P w K mg base k C x ps t := by
  obtain ⟨f, fd, h1, h2⟩ := h
  exact ⟨f, fd, h1.mono hk, h2⟩
section
variable {X : Cx} {o e : Expr} {to : UTE} {tr : UTA} {apos cpos : Pos}
end
end TL
end
section
set_option Elab.async false
set_option linter.all false
set_option maxRecDepth 100000
set_option maxHeartbeats 4000000
namespace L2
open PySem PySem.Spec PyProof.Rows
inductive PlV : V → Prop where
  | non : PlV .non
  | bl (b : Bool) : PlV (.bl b)
  | int (i : Int) : PlV (.int i)
  | str (x : Str) : PlV (.str x)
def pEq : V → V → Bool
  | .non, .non => true
  | .bl a, .bl b => a == b
  | .int a, .int b => a == b
  | .str a, .str b => a == b
  | .bl a, .int b => (if a then 1 else 0) == b
  | .int a, .bl b => a == (if b then 1 else 0)
  | _, _ => false
inductive EqD (K : PySem.W.Frag) (H : Hp) : Nat → V → V → Bool → Prop where
  | pp {n : Nat} {x y : V} : PlV x → PlV y → EqD K H n x y (pEq x y)
  | lp {n : Nat} {a : Addr} {xs : List V} {y : V} : SqL K H a xs → PlV y → EqD K H n (.ref a) y false
  | pl {n : Nat} {a : Addr} {xs : List V} {x : V} : PlV x → SqL K H a xs → EqD K H n x (.ref a) false
  | tp {n : Nat} {a : Addr} {xs : List V} {y : V} : SqT K H a xs → PlV y → EqD K H n (.ref a) y false
  | pt {n : Nat} {a : Addr} {xs : List V} {x : V} : PlV x → SqT K H a xs → EqD K H n x (.ref a) false
  | lt {n : Nat} {a b : Addr} {xs ys : List V} : SqL K H a xs → SqT K H b ys → EqD K H n (.ref a) (.ref b) false
  | tl {n : Nat} {a b : Addr} {xs ys : List V} : SqT K H a xs → SqL K H b ys → EqD K H n (.ref a) (.ref b) false
  | ln {n : Nat} {a b : Addr} {xs ys : List V} : SqL K H a xs → SqL K H b ys → xs.length ≠ ys.length → EqD K H n (.ref a) (.ref b) false
  | ll {n : Nat} {a b : Addr} {xs ys : List V} (e : Nat → Bool) : SqL K H a xs → SqL K H b ys → xs.length = ys.length → (∀ (i : Nat) x y, xs[i]? = some x → ys[i]? = some y → EqD K H n x y (e i)) → EqD K H (n + 1) (.ref a) (.ref b) ((List.range xs.length).all e)
  | tt {n : Nat} {a b : Addr} {xs ys : List V} (e : Nat → Bool) : SqT K H a xs → SqT K H b ys → (∀ (i : Nat) x y, xs[i]? = some x → ys[i]? = some y → EqD K H n x y (e i)) → EqD K H (n + 1) (.ref a) (.ref b) ((List.range (min xs.length ys.length)).all e && xs.length == ys.length)
section
variable {X : Cx} {pins : List (Addr × Obj)} {σ : St} {H : Hp} {s : Shared}
theorem Inv.lt_ne (I : Inv X pins σ H s) {a b : Addr} {xs ys : List V} (h : SqL X.K H a xs) (h' : SqT X.K H b ys) : a ≠ b := by
  obtain ⟨its, r, p1, _⟩ := I.list h
  obtain ⟨jts, r', p2, _⟩ := I.tuple h'
  exact SeqAt.ne_of_list_tuple p1.isList p2
theorem EqD.self (I : Inv X pins σ H s) {n : Nat} {x y : V} {b : Bool} (h : EqD X.K H n x y b) : x = y → b = true := by
  induction h with
  | pp hx hy => intro e; subst e; cases hx <;> simp [pEq]
  | lp _ hy => intro e; subst e; cases hy
  | pl hx _ => intro e; subst e; cases hx
  | tp _ hy => intro e; subst e; cases hy
  | pt hx _ => intro e; subst e; cases hx
  | lt h1 h2 => intro e; cases e; exact absurd rfl (I.lt_ne h1 h2)
  | tl h1 h2 => intro e; cases e; exact absurd rfl (I.lt_ne h2 h1)
  | ln h1 h2 hl => intro e; cases e; exact absurd (congrArg List.length (I.list_inj h1 h2)) hl
  | ll e h1 h2 hl _ ih =>
    intro z; cases z
    have := I.list_inj h1 h2
    subst this
    rw [List.all_eq_true]
    intro i hi
    have hi' := List.mem_range.mp hi
    exact ih i _ _ (List.getElem?_eq_getElem hi') (List.getElem?_eq_getElem hi') rfl
  | tt e h1 h2 _ ih =>
    intro z; cases z
    have := I.tuple_inj h1 h2
    subst this
    rw [Bool.and_eq_true]
    refine ⟨?_, by simp⟩
    rw [List.all_eq_true]
    intro i hi
    have hi' := List.mem_range.mp hi
    rw [Nat.min_self] at hi'
    exact ih i _ _ (List.getElem?_eq_getElem hi') (List.getElem?_eq_getElem hi') rfl
end
end L2
end
section
set_option Elab.async false
set_option linter.all false
set_option maxRecDepth 100000
set_option maxHeartbeats 4000000
namespace TL
open PySem PySem.Spec PyProof.Rows L2
def plT : T → Bool
  | .non => true | .bl _ => true | .int _ => true | .str _ => true | _ => false
def sqT : T → Option (Bool × List T)
  | .lst ts => some (true, ts)
  | .fls ts => some (true, ts)
  | .tup ts => some (false, ts)
  | _ => none
inductive DatQ : Nat → T → Prop where
  | p {n : Nat} {t : T} : plT t = true → DatQ n t
  | s {n : Nat} {t : T} {k : Bool} {ts : List T} : sqT t = some (k, ts) → (∀ x ∈ ts, DatQ n x) → DatQ (n + 1) t
section
variable {K : PySem.W.Frag} {S : TH} {H : Hp}
end
/-- data without truths -/
inductive DatN : Nat → T → Prop where
  | non {n : Nat} : DatN n .non
  | int {n : Nat} (i : Int) : DatN n (.int i)
  | str {n : Nat} (x : Str) : DatN n (.str x)
  | lst {n : Nat} {ts : List T} : (∀ t ∈ ts, DatN n t) → DatN (n + 1) (.lst ts)
  | tup {n : Nat} {ts : List T} : (∀ t ∈ ts, DatN n t) → DatN (n + 1) (.tup ts)
theorem DatN.q {n : Nat} {t : T} (h : DatN n t) : DatQ n t := by
  induction h with
  | non => exact .p rfl
  | int i => exact .p rfl
  | str x => exact .p rfl
  | lst _ ih => exact .s rfl ih
  | tup _ ih => exact .s rfl ih
theorem DatN.mono {n : Nat} {t : T} (h : DatN n t) : ∀ {m : Nat}, n ≤ m → DatN m t := by
  induction h with
  | non => intro _ _; exact .non
  | int i => intro _ _; exact .int i
  | str x => intro _ _; exact .str x
  | lst _ ih => intro m hm; cases m with
    | zero => omega
    | succ m => exact .lst fun t ht => ih t ht (by omega)
  | tup _ ih => intro m hm; cases m with
    | zero => omega
    | succ m => exact .tup fun t ht => ih t ht (by omega)
theorem DatQ.mono {n : Nat} {t : T} (h : DatQ n t) : ∀ {m : Nat}, n ≤ m → DatQ m t := by
  induction h with
  | p h => intro _ _; exact .p h
  | s e _ ih => intro m hm; cases m with
    | zero => omega
    | succ m => exact .s e fun t ht => ih t ht (by omega)
section
variable {X : Cx} {a b : Expr} {ta tb : UTE} {pos : Pos}
end
end TL
end
section
set_option Elab.async false
set_option linter.all false
set_option maxRecDepth 100000
set_option maxHeartbeats 4000000
namespace L2
open PySem PySem.Spec PyProof.Rows
section
variable {X : Cx} {pos : Pos}
end
end L2
end
section
set_option Elab.async false
set_option linter.all false
set_option maxRecDepth 100000
set_option maxHeartbeats 4000000
namespace TL
open PySem PySem.Spec PyProof.Rows L2
section
variable {X : Cx} {a b e : Expr} {pos p : Pos} {te : UTE} {tr : UTA} {gg : UTG}
end
end TL
end
section
set_option Elab.async false
set_option linter.all false
set_option maxRecDepth 100000
set_option maxHeartbeats 4000000
namespace L2
open PySem PySem.Spec PyProof.Rows
/-- an exception's object, with its traceback's value -/
def ExO (h : Heap) (e : Addr) (cls tb : Value) : Prop := ∃ vs, h.get? e = some { cls := cls, data := .fields vs } ∧ vs[1]? = some tb
/-- a traceback's object -/
def TbO (h : Heap) (T : Addr) (fl : Value) : Prop := ∃ oT ts, h.get? T = some oT ∧ oT.data = .fields ts ∧ ts[3]? = some fl
section
variable {M : Model} {A : Around} {E : Value → Shared → Prop} {s : Shared} {base : Heap} {env : Env} {outer : List Env} {L e T : Addr} {cls hd fl : Value} {Q : Unit → Shared → Prop}
end
end L2
end
section
set_option Elab.async false
set_option linter.all false
set_option maxRecDepth 100000
set_option maxHeartbeats 4000000
namespace L2
open PySem PySem.Spec PyProof.Rows
theorem ObjOk.got {P : Program} {w : World} {H : Hp} {h : Heap} {a : Addr} {o : HO} (x : ObjOk P w H h a o) : ∃ u, h.get? a = some u := by
  cases o with
  | lst xs => obtain ⟨_, _, _, _, e⟩ := x; exact ⟨_, e⟩
  | tup xs => obtain ⟨_, _, _, o, e, _⟩ := x; exact ⟨_, e⟩
  | dK kvs => obtain ⟨_, _, _, _, o, _, _, e, _⟩ := x; exact ⟨_, e⟩
  | dT kvs => obtain ⟨_, _, _, _, o, _, _, e, _⟩ := x; exact ⟨_, e⟩
  | set S n => obtain ⟨o, _, _, _, e, _⟩ := x; exact ⟨_, e⟩
  | ins C dx fs => obtain ⟨_, _, _, e, _⟩ := x; exact ⟨_, e⟩
  | own y => obtain ⟨_, e⟩ := x; exact ⟨_, e⟩
  | xd fs => obtain ⟨_, ⟨_, _, _, e, _⟩, _⟩ := x; exact ⟨_, e⟩
  | rng lo hi => obtain ⟨_, _, _, e⟩ := x; exact ⟨_, e⟩
  | frz ob u => obtain ⟨e, _⟩ := x; exact ⟨_, e⟩
  | tbl ps => exact ⟨_, show h.get? a = some _ from x⟩
  | met f y => exact ⟨_, show h.get? a = some _ from x⟩
  | ext φ => obtain ⟨_, ⟨_, e⟩, _⟩ := x; exact ⟨_, e⟩
theorem HOk.none_of {P : Program} {w : World} {H : Hp} {h : Heap} {a : Addr} (x : HOk P w H h) (e : h.get? a = none) : H a = none := by
  cases q : H a with
  | none => rfl
  | some o => obtain ⟨u, hu⟩ := (x a o q).got; rw [e] at hu; cases hu
/-- an exception with a traceback; h0: what was there ahead of it -/
def Trc (h0 : Heap) (H : Hp) (h : Heap) (e : Addr) (cls : Value) : Prop := ∃ T, ExO h e cls (.ref T) ∧ T ≠ e ∧ TbO h T .none ∧ h0.get? T = none ∧ H T = none
/-- how an exception lies behind a call -/
def CXE (P : Program) (w : World) : CXT := fun outer H s E e s' => ∃ a cls H', e = .ref a ∧ s'.os = s.os ∧ AllBare s'.gens ∧ Un (frs outer) [] H H' s.heap s'.heap ∧ HOk P w H' s'.heap ∧ s.heap.get? a = none ∧ H' a = none ∧ Trc s.heap H' s'.heap a cls ∧ E cls none H'
section
variable {X : Cx} {pins : List (Addr × Obj)} {σ : St} {H H' : Hp} {s : Shared} {a : Addr} {cls : Value}
end
/-- one that raises nothing may be called anywhere -/
theorem FnOk.raise0 {P : Program} {w : World} {K : PySem.W.Frag} {mg : Str → Option Value} {base : Heap} {CX : CXT} {k : Nat} {f : Addr} {fd : FuncData} {ps : List Str} {sp : Sp} (F : FnOk P w K mg base CX0 k f fd ps sp) : FnOk P w K mg base CX k f fd ps sp :=
  ⟨F.len, fun A outer s H args us vs Q E hr he hb hv hs => codeAny_mono (F.run A outer s H args us vs Q E hr he hb hv hs) fun r s' q => by
    cases r with
    | error e => exact False.elim q
    | ok fl => cases fl <;> exact q⟩
end L2
end
section
set_option Elab.async false
set_option linter.all false
set_option maxRecDepth 100000
set_option maxHeartbeats 4000000
namespace L2
open PySem PySem.Spec PyProof.Rows
section
variable {X : Cx} {x : Str} {C : Addr} {e : Expr} {es : List Expr} {t : TA} {np cpos pos : Pos} {E : XK} {B Bn newId nid initId inN : String} {bmB bmN : List Value}
end
end L2
end
section
set_option Elab.async false
set_option linter.all false
set_option maxRecDepth 100000
set_option maxHeartbeats 4000000
namespace TL
open PySem PySem.Spec PyProof.Rows L2
abbrev UR := Value → TH → Prop
def lfX (K : PySem.W.Frag) (S0 : TH) (H0 : Hp) (t : UTE) : TE := fun σ H Q => ∃ S env P, Le S0 H0 S H ∧ Good K S H ∧ REnv K S H σ env ∧ t env S P ∧ Fin K S H P Q
def lfSX (K : PySem.W.Frag) (S0 : TH) (H0 : Hp) (t : UTS) : TS := fun D σ H => ∃ S env E, Le S0 H0 S H ∧ Good K S H ∧ REnv K S H σ env ∧ t E env S ∧ FinS K S H E D
def UEX (X : Cx) (S0 : TH) (H0 : Hp) (e : Expr) (t : UTE) : Prop := PE X e (lfX X.K S0 H0 t)
def UV (X : Cx) (S0 : TH) (H0 : Hp) (st : Stmt) (t : UTS) : Prop := PS X st (lfSX X.K S0 H0 t)
/-- what is wanted of an exception, by trees -/
def XW (K : PySem.W.Frag) (S0 : TH) (H0 : Hp) (R : UR) (E : XK) : Prop := ∀ c S' H', Le S0 H0 S' H' → Good K S' H' → R c S' → E c none H'
def spE (K : PySem.W.Frag) (t : List T → TH → UX → UR → Prop) : Sp := fun vs H Q E => ∃ S ts P R, Good K S H ∧ Reps K S H vs ts ∧ t ts S P R ∧ Fin K S H P Q ∧ XW K S H R E
section
variable {X : Cx} {S0 : TH} {H0 : Hp} {e c : Expr} {es : List Expr} {st : Stmt} {sts aa bb body : List Stmt} {te : UTE} {t u : UTS} {tA : UTT} {tr : UTA} {pos p : Pos} {E : XK} {R : UR}
theorem UE.x (h : UE X e te) : UEX X S0 H0 e te := PE.imp h fun _ _ _ ⟨S, env, P, _, g, re, h, fin⟩ => ⟨S, env, P, g, re, h, fin⟩
theorem US.x (h : US X st t) : UV X S0 H0 st t := PS.imp h fun _ _ _ ⟨S, env, E, _, g, re, h, fin⟩ => ⟨S, env, E, g, re, h, fin⟩
end
/-- a def that may raise -/
def HasE (P : Program) (w : World) (K : PySem.W.Frag) (mg : Str → Option Value) (base : Heap) (k : Nat) (x : Str) (ps : List Str) (t : List T → TH → UX → UR → Prop) : Prop :=
  ∃ f fd, FnOk P w K mg base (CXE P w) k f fd ps (spE K t) ∧ Binds K fd ps [] ∧ PySem.W.keepIn K (.ref f) = true ∧ mg x = some (.ref f)
theorem HasE.mono {P : Program} {w : World} {K : PySem.W.Frag} {mg : Str → Option Value} {base : Heap} {j k : Nat} {x : Str} {ps : List Str} {t : List T → TH → UX → UR → Prop} (h : HasE P w K mg base j x ps t) (hk : j ≤ k) : HasE P w K mg base k x ps t := by
  obtain ⟨f, fd, h1, h2⟩ := h
  exact ⟨f, fd, h1.mono hk, h2⟩
end TL
end
section
set_option Elab.async false
set_option linter.all false
set_option maxRecDepth 100000
set_option maxHeartbeats 4000000
namespace L2
open PySem PySem.Spec PyProof.Rows
section
variable {X : Cx} {pins : List (Addr × Obj)} {σ : St} {H : Hp} {s : Shared}
end
end L2
end
section
set_option Elab.async false
set_option linter.all false
set_option maxRecDepth 100000
set_option maxHeartbeats 4000000
namespace L2
open PySem PySem.Spec PyProof.Rows
section
variable {M : Model} {A : Around} {E : Value → Shared → Prop}
variable {nm q : Str} {C N : Addr} {bs bm : List Value} {hdct : Bool} {sn : List Str} {sub : List Value} {ab : Bool} {col : Option Bool} {dd : Option Addr} {k0 k1 k2 k3 k5 : Option Value} {newId : String}
variable {nm' q' : Str} {C' N' : Addr} {bs' bm' : List Value} {hdct' : Bool} {sn' : List Str} {sub' : List Value} {ab' : Bool} {col' : Option Bool} {dd' : Option Addr} {k0' k1' k2' k3' k5' : Option Value} {newId' : String}
end
section
variable {X : Cx} {pins : List (Addr × Obj)} {σ : St} {H : Hp} {s : Shared} {a : Addr} {oe : Obj}
end
end L2
end
section
set_option Elab.async false
set_option linter.all false
set_option maxRecDepth 100000
set_option maxHeartbeats 4000000
namespace L2
open PySem PySem.Spec PyProof.Rows
section
variable {X : Cx} {Cb : Addr}
end
end L2
end
section
set_option Elab.async false
set_option linter.all false
set_option maxRecDepth 100000
set_option maxHeartbeats 4000000
namespace TL
open PySem PySem.Spec PyProof.Rows L2
section
variable {X : Cx} {Cb : Addr} {e : Expr} {es : List Expr} {tr : UTA}
end
end TL
end
section
set_option Elab.async false
set_option linter.all false
set_option maxRecDepth 100000
set_option maxHeartbeats 4000000
namespace L2
open PySem PySem.Spec PyProof.Rows PySem.W
section
variable {prog : Program} {w : World} {A : Around} {E : Value → Shared → Prop} {s : Shared} {K : Frag} {x D : Addr} {ox : Obj} {od : Option Obj}
end
end L2
end
section
set_option Elab.async false
set_option linter.all false
set_option maxRecDepth 100000
set_option maxHeartbeats 4000000
namespace TL
open PySem PySem.Spec PyProof.Rows L2
section
variable {X : Cx} {a b : Expr} {tr : UTA} {p pos : Pos} {K : PySem.W.Frag}
end
end TL
end
section
set_option Elab.async false
set_option linter.all false
set_option maxRecDepth 100000
set_option maxHeartbeats 4000000
namespace L2
open PySem PySem.Spec PyProof.Rows
section
variable {X : Cx} {e v₁ v₂ : Expr} {es : List Expr} {te : TE} {pos : Pos}
end
end L2
end
section
set_option Elab.async false
set_option linter.all false
set_option maxRecDepth 100000
set_option maxHeartbeats 4000000
namespace TL
open PySem PySem.Spec PyProof.Rows L2
section
variable {X : Cx} {e v₁ v₂ : Expr} {es : List Expr} {te : UTE} {pos : Pos}
end
end TL
end
section
set_option Elab.async false
set_option linter.all false
set_option maxRecDepth 100000
set_option maxHeartbeats 4000000
namespace L2
open PySem PySem.Spec PyProof.Rows
theorem strsAre_of {zs : List Str} : ∀ {its : List Value}, Vals (zs.map V.str) its → StrsAre its zs := by
  induction zs with
  | nil => intro its r; cases r; exact .nil
  | cons z zs ih =>
    intro its r
    cases r with
    | cons h t =>
      obtain ⟨tk, rfl⟩ := h
      exact .cons _ _ (ih t)
theorem mt_join {X : Cx} : MtR X "str.join" (fun x vs H Q => ∃ sep l zs, x = .str sep ∧ vs = [.ref l] ∧ SqL X.K H l (zs.map V.str) ∧ (zs.map (·.length)).sum + zs.length * sep.length ≤ 16777216 ∧ Q (.str (Txt.join sep zs)) H) := by
  intro pins s σ H x vs v us Q I rx rv h
  obtain ⟨sep, l, zs, rfl, rfl, sq, hz, q⟩ := h
  obtain ⟨t, rfl⟩ := rx
  obtain ⟨u, rfl, ru⟩ := rv.one
  cases ru
  obtain ⟨its, r, pl, _⟩ := I.list sq
  exact join_list pl.isList (by simpa using strsAre_of r) hz fun t' k => ⟨.str _, H, I.tok _, ⟨_, rfl⟩, q⟩
end L2
namespace TL
open PySem PySem.Spec PyProof.Rows L2
section
variable {X : Cx} {o e : Expr} {to : UTE} {tr : UTA} {apos cpos : Pos}
def uJoinL (to : UTE) (tr : UTA) : UTE := fun env S P => to env S fun x S1 => match x with
  | .str sep => tr env S1 fun ys S2 => match ys with
    | [.lst ts] => ∃ zs, ts = zs.map T.str ∧ (zs.map (·.length)).sum + zs.length * sep.length ≤ 16777216 ∧ P (.str (Txt.join sep zs)) S2
    | _ => False
  | _ => False
theorem ue_join (ho : UE X o to) (ha : UA X [e] tr) (hbase : attributeBase o "join" X.env (eval o X.env) = eval o X.env := by rfl)
    (hfew : ((backTo cpos (starEach [e] X.env)).all (fun x => !x.1) && (backToKw cpos (keywordEach [] X.env)).all (fun x => x.1.isSome) && decide (([e] : List Expr).length + ([] : List Keyword).length + (if ([] : List Keyword).isEmpty then 0 else 1) < 30)) = true := by rfl)
    (hline : (apos.endLine == cpos.line) = true := by rfl) (hs : starEach [e] X.env = (false, eval e X.env) :: starEach [] X.env := by rfl) (hplain : (backTo cpos (starEach [] X.env)).any (·.1) = false := by rfl) :
    UE X (.Call (.Attribute o "join" apos) [e] [] cpos) (uJoinL to tr) :=
  PE.imp (pe_bm PySem.F.plainAttrs_str PySem.F.slot_str_join PySem.F.type_str_join mt_join ho ha hbase hfew hline hs hplain) fun σ H Q ⟨S, env, P, g, re, h, fin⟩ =>
    lf_bind ⟨g, re⟩ h fun v x S1 H1 le1 m1 rx h1 => by
      cases x with
      | str sep =>
        cases rx
        refine ⟨rfl, lfA_bind m1 h1 fun us ys S2 H2 le2 m2 rr h2 => ?_⟩
        match ys, rr, h2 with
        | [.lst ts], rr, h2 =>
          obtain ⟨w, rfl, rw'⟩ := rr.one
          obtain ⟨zs, et, hz, h3⟩ := h2
          subst et
          obtain ⟨l, vs, rfl, f, r⟩ := rw'.lstE
          have ev := reps_strs r
          subst ev
          exact ⟨sep, l, zs, rfl, rfl, f.sq, hz, fin _ _ S2 H2 (le1.trans le2) m2.g (.str _) h3⟩
      | _ => exact h1.elim
end
end TL
end
section
set_option Elab.async false
set_option linter.all false
set_option maxRecDepth 100000
set_option maxHeartbeats 1000000
namespace L2
open PySem PySem.Spec PyProof.Rows
end L2
end
section
set_option Elab.async false
set_option linter.all false
set_option maxRecDepth 100000
set_option maxHeartbeats 4000000
namespace TL
open PySem PySem.Spec PyProof.Rows L2
section
variable {X : Cx} {a b : Expr} {ta tb : UTE} {pos : Pos}
end
section
variable {X : Cx} {e : Expr} {es : List Expr} {tr : UTA} {pos p : Pos} {x : Str} {S0 : TH} {H0 : Hp} {E : XK} {R : UR}
end
/-- one that raises nothing -/
theorem Has.e {P : Program} {w : World} {K : PySem.W.Frag} {mg : Str → Option Value} {base : Heap} {k : Nat} {x : Str} {ps : List Str} {t : List T → TH → UX → Prop} (h : Has P w K mg base k x ps t) : HasE P w K mg base k x ps (fun ts S Pp _ => t ts S Pp) := by
  obtain ⟨f, fd, F, r⟩ := h
  exact ⟨f, fd, F.raise0.imp fun vs H Q E ⟨S, ts, Pp, R, g, rr, q, fin, _⟩ => ⟨S, ts, Pp, g, rr, q, fin⟩, r⟩
section
variable {K : PySem.W.Frag} {h : Heap} {mg : Str → Option Value} {x y : Str} {C D : Addr}
end
end TL
end
section
set_option Elab.async false
set_option linter.all false
set_option maxRecDepth 100000
set_option maxHeartbeats 4000000
namespace L2
open PySem PySem.Spec PyProof.Rows
theorem meets_extend_tup (l : Addr) (xs : Array Value) (n : Nat) (b : Addr) (ys : Array Value) (m : Nat) {dd : Option Addr} {sl : Array (Option Value)} (h0 : ¬(!xs.isEmpty && Builtin.List.listTooLong (xs.size + ys.size)) = true) (h1 : xs.size ≤ sizeLine) (h2 : xs.size + ys.size ≤ sizeLine + 1) :
    Meets (Builtin.«list.extend» ⟨[.ref l, .ref b], []⟩) (fun _ R s => s.heap.get? l = some { cls := .type "list", dict := none, data := .seq xs n, slots := #[] } ∧ s.heap.get? b = some { cls := .type "tuple", dict := dd, data := .seq ys m, slots := sl } ∧ R (.ok (.ret Value.none)) { s with heap := s.heap.update l (Obj.mapSeq fun x => x ++ ys), toks := s.toks }) :=
  .of_wp fun _ _ _ R s q => by
    obtain ⟨q1, q2, q3⟩ := q; obtain ⟨hp, g, d, tk, os⟩ := s
    have h3 : (xs ++ ys).size ≤ sizeLine + 1 := by rw [Array.size_append]; omega
    wp_walk using (wpAny_updateSeq q1 rfl (hz := h1) (_hz' := h3)), wpAny_loadPart' q1, wpAny_loadPart' q2; exact ⟨_, rfl, q3⟩
theorem meets_extend_lst (l : Addr) (xs : Array Value) (n : Nat) (b : Addr) (ys : Array Value) (m : Nat) {sl : Array (Option Value)} (h0 : ¬(!xs.isEmpty && Builtin.List.listTooLong (xs.size + ys.size)) = true) (h1 : xs.size ≤ sizeLine) (h2 : xs.size + ys.size ≤ sizeLine + 1) :
    Meets (Builtin.«list.extend» ⟨[.ref l, .ref b], []⟩) (fun _ R s => s.heap.get? l = some { cls := .type "list", dict := none, data := .seq xs n, slots := #[] } ∧ s.heap.get? b = some { cls := .type "list", dict := none, data := .seq ys m, slots := sl } ∧ R (.ok (.ret Value.none)) { s with heap := s.heap.update l (Obj.mapSeq fun x => x ++ ys), toks := s.toks }) :=
  .of_wp fun _ _ _ R s q => by
    obtain ⟨q1, q2, q3⟩ := q; obtain ⟨hp, g, d, tk, os⟩ := s
    have h3 : (xs ++ ys).size ≤ sizeLine + 1 := by rw [Array.size_append]; omega
    wp_walk using (wpAny_updateSeq q1 rfl (hz := h1) (_hz' := h3)), wpAny_loadPart' q1, wpAny_loadPart' q2; exact ⟨_, rfl, q3⟩
section
variable {X : Cx}
theorem mt_extendS : MtM X "list.extend" (fun x vs H Q => ∃ l b xs zs, x = .ref l ∧ vs = [.ref b] ∧ H l = some (.lst xs) ∧ (SqL X.K H b zs ∨ SqT X.K H b zs) ∧ xs.length + zs.length ≤ sizeLine ∧ Q .non (upd H l (.lst (xs ++ zs)))) := by
  intro pins s σ H x vs v us Q I rx rv h
  obtain ⟨l, b, xs, zs, rfl, rfl, hH, hB, hz, q⟩ := h
  cases rx
  obtain ⟨u, rfl, ru⟩ := rv.one
  cases ru
  obtain ⟨z, its, n, r, hl, e⟩ := I.lstM hH
  have fin : ∀ its2 : List Value, Vals zs its2 → ∃ v' H', Inv X pins σ H' { s with heap := s.heap.update l (Obj.mapSeq fun x => x ++ its2.toArray), toks := s.toks } ∧ RelV v' Value.none ∧ Q v' H' := fun its2 r2 => by
    refine ⟨.non, _, I.lset (its' := its ++ its2) hH e (by simp) (r.append r2) ?_, rfl, q⟩
    rw [List.length_append]
    omega
  rcases hB with hB | hB
  · obtain ⟨its2, r2, ⟨o, n2, e2, c2, d2, s2⟩, z2⟩ := I.list hB
    have hl2 := r2.length
    have hsz : its.toArray.size + its2.toArray.size ≤ sizeLine := by rw [List.size_toArray, List.size_toArray]; omega
    have hlong : ¬ (!its.toArray.isEmpty && Builtin.List.listTooLong (its.toArray.size + its2.toArray.size)) = true := by
      rw [notLongL hsz, Bool.and_false]
      exact Bool.false_ne_true
    obtain ⟨oc, od, oda, osl⟩ := o
    cases c2; cases d2; cases s2
    exact call_meets F.slot_list_extend ⟨_, e, rfl⟩ F.entry_list_extend (F.args_list_extend_2 _ _) (meets_extend_lst l its.toArray n b its2.toArray n2 hlong (by rw [List.size_toArray]; omega) (by omega)) ⟨e, e2, fin its2 r2⟩
  · obtain ⟨its2, r2, ⟨o, e2, c2, n2, s2⟩, z2⟩ := I.tuple hB
    have hl2 := r2.length
    have hsz : its.toArray.size + its2.toArray.size ≤ sizeLine := by rw [List.size_toArray, List.size_toArray]; omega
    have hlong : ¬ (!its.toArray.isEmpty && Builtin.List.listTooLong (its.toArray.size + its2.toArray.size)) = true := by
      rw [notLongL hsz, Bool.and_false]
      exact Bool.false_ne_true
    obtain ⟨oc, od, oda, osl⟩ := o
    cases c2; cases s2
    exact call_meets F.slot_list_extend ⟨_, e, rfl⟩ F.entry_list_extend (F.args_list_extend_2 _ _) (meets_extend_tup l its.toArray n b its2.toArray n2 hlong (by rw [List.size_toArray]; omega) (by omega)) ⟨e, e2, fin its2 r2⟩
theorem call_strA : CallR X (.type "str") (fun xs H Q => (∃ i, xs = [.int i] ∧ i.natAbs.log2 < 1920 ∧ Q (.str (toString i)) H) ∨ ∃ y, xs = [.str y] ∧ Q (.str y) H) := by
  intro pins s σ H xs us Q I r h
  rcases h with h | ⟨y, rfl, q⟩
  · exact call_str_int pins s σ H xs us Q I r h
  · obtain ⟨u, rfl, t, rfl⟩ := vals1 r
    exact PySem.P.str_of_str ⟨.str _, H, I, ⟨_, rfl⟩, q⟩
end
end L2
namespace HT
open PySem PySem.Spec PyProof.Rows
section
variable {prog : Program} {w : World} {A : Around} {E : Value → Shared → Prop} {s : Shared}
/-- the whole of a tuple is it itself -/
theorem getItem_tuple_all {t sl : Addr} {items : Array Value} {vl vu : Value} {lo hi : Option Int} {Q : Value → Shared → Prop} (ht : IsTup s.heap t items) (hs : s.heap.IsSliceOf sl vl vu .none) (pl : IsPart vl lo) (pu : IsPart vu hi)
    (hw : sIx items.size 0 lo = 0 ∧ sIx items.size items.size hi = items.size) (h : Q (.ref t) s) : wpAny (model prog w) A (getItem (.ref t) (.ref sl)) Q E s := by
  obtain ⟨os, hos, hcs, hds⟩ := id hs
  have hTs : s.TypeIs (.ref sl) "slice" := ⟨os, hos, hcs⟩
  obtain ⟨ot, hot, hct, nt, hdt⟩ := id ht
  unfold getItem
  try with_reducible refine wpAny_holding ?_
  first | refine wpAny_bind (wpAny_pure ?_) | skip
  refine wpAny_bind (wpAny_sequenceKey ht.typeIs (by decide) ?_)
  refine wpAny_bind (wpAny_callSpecial?_slot (name := Str.ofString "__getitem__") ht.typeIs PyProof.Rows.slot_tuple_getitem
    (wpAny_call_entry PyProof.Rows.slot_tuple_getitem ht.typeIs entry_tuple_getitem ?_ (args_tuple_getitem _ _)))
  show wpAny _ _ (Builtin.Tuple.tupleItemsOf (.ref t) >>= _) _ _ s
  refine wpAny_bind (tupleItemsOf_ ht ?_)
  refine wpAny_bind (wpAny_typeOf hTs ?_)
  rw [if_pos (by decide)]
  refine wpAny_bind (sliceApplied_gen hs pl pu ?_)
  have hyes : (((sIx items.size 0 lo : Nat) : Int) == 0 && (1 : Int) == 1 && (sIx items.size items.size hi - sIx items.size 0 lo) == items.size) = true := by
    rw [hw.1, hw.2]; simp
  show wpAny _ _ (if (((sIx items.size 0 lo : Nat) : Int) == 0 && (1 : Int) == 1 && (sIx items.size items.size hi - sIx items.size 0 lo) == items.size) = true then _ else _) _ _ s
  rw [if_pos hyes]
  refine wpAny_bind (m := Builtin.Tuple.tupleIsExact (.ref t)) (wpAny_bind (wpAny_typeOf ht.typeIs (wpAny_pure ?_)))
  rw [if_pos (by decide)]
  exact wpAny_bind (wpAny_rule (wpAny_pure ⟨_, rfl, wpAny_pure h⟩))
end
end HT
namespace L2
open PySem PySem.Spec PyProof.Rows
section
variable {X : Cx}
/-- t[lo:hi], the whole of it or not -/
def rSlA (K : PySem.W.Frag) : V → Option Int → Option Int → Hp → VK → Prop := fun x lo hi H Q => ∃ a xs, x = .ref a ∧ SqT K H a xs ∧
  ((HT.sIx xs.length 0 lo = 0 ∧ HT.sIx xs.length xs.length hi = xs.length) → Q (.ref a) H) ∧ (¬ (HT.sIx xs.length 0 lo = 0 ∧ HT.sIx xs.length xs.length hi = xs.length) → ∀ p, H p = none → Q (.ref p) (upd H p (.tup (cutV xs lo hi))))
theorem sl_tupA : SlR X (rSlA X.K) := by
  intro pins s σ H x v vl vu lo hi sl Q I rx hs pl pu h
  obtain ⟨a, xs, rfl, hx, q0, q1⟩ := h
  by_cases hw : HT.sIx xs.length 0 lo = 0 ∧ HT.sIx xs.length xs.length hi = xs.length
  · cases rx
    obtain ⟨its, r, ht, hz⟩ := I.tuple hx
    have hlen : its.toArray.size = xs.length := by rw [List.size_toArray]; exact r.length.symm
    refine ⟨"tuple", _, PyProof.Rows.slot_tuple_getitem.lookup, ht.typeIs, ?_⟩
    exact HT.getItem_tuple_all ht hs pl pu (by rw [hlen]; exact hw) ⟨.ref a, H, I, rfl, q0 hw⟩
  · exact sl_tup pins s σ H _ v vl vu lo hi sl Q I rx hs pl pu ⟨a, xs, rfl, hx, hw, q1 hw⟩
end
end L2
end
section
set_option Elab.async false
set_option linter.all false
set_option maxRecDepth 100000
set_option maxHeartbeats 4000000
namespace TL
open PySem PySem.Spec PyProof.Rows L2
section
variable {X : Cx} {o e a : Expr} {to : UTE} {tr : UTA} {apos cpos pos p : Pos}
def rowOf : T → Option (List T)
  | .lst ts => some ts
  | .tup ts => some ts
  | .fls ts => some ts
  | _ => none
def uExtend (to : UTE) (tr : UTA) : UTE := fun env S P => to env S fun x S1 => match x with
  | .ref p => (∃ ts0, S1 p = some (.lst ts0)) ∧ tr env S1 fun ys S2 => match ys with
    | [y] => ∃ ts us, S2 p = some (.lst ts) ∧ rowOf y = some us ∧ ts.length + us.length ≤ sizeLine ∧ P .non (updT S2 p (.lst (ts ++ us)))
    | _ => False
  | _ => False
theorem row_rep {K : PySem.W.Frag} {S : TH} {H : Hp} {v : V} {y : T} {us : List T} (h : rowOf y = some us) (r : Rep K S H v y) : ∃ b zs, v = .ref b ∧ (SqL K H b zs ∨ SqT K H b zs) ∧ Reps K S H zs us := by
  cases y with
  | lst ts => cases h; obtain ⟨b, zs, e, f, q⟩ := r.lstE; exact ⟨b, zs, e, .inl f.sq, q⟩
  | tup ts => cases h; obtain ⟨b, zs, e, f, q⟩ := r.tupE; exact ⟨b, zs, e, .inr f.sq, q⟩
  | fls ts => cases h; cases r with | fls f l q => exact ⟨_, _, rfl, .inl f.sq, l, q⟩
  | _ => cases h
theorem ue_extend (ho : UE X o to) (ha : UA X [e] tr) (hbase : attributeBase o "extend" X.env (eval o X.env) = eval o X.env := by rfl)
    (hfew : ((backTo cpos (starEach [e] X.env)).all (fun x => !x.1) && (backToKw cpos (keywordEach [] X.env)).all (fun x => x.1.isSome) && decide (([e] : List Expr).length + ([] : List Keyword).length + (if ([] : List Keyword).isEmpty then 0 else 1) < 30)) = true := by rfl)
    (hline : (apos.endLine == cpos.line) = true := by rfl) (hs : starEach [e] X.env = (false, eval e X.env) :: starEach [] X.env := by rfl) (hplain : (backTo cpos (starEach [] X.env)).any (·.1) = false := by rfl) :
    UE X (.Call (.Attribute o "extend" apos) [e] [] cpos) (uExtend to tr) :=
  PE.imp (pe_bm PySem.F.plainAttrs_list PySem.F.slot_list_extend PySem.F.type_list_extend mt_extendS ho ha hbase hfew hline hs hplain) fun σ H Q ⟨S, env, P, g, re, h, fin⟩ =>
    lf_bind ⟨g, re⟩ h fun v x S1 H1 le1 m1 rx h1 => by
      cases x with
      | ref p =>
        cases rx
        obtain ⟨⟨ts0, e0⟩, h1⟩ := h1
        obtain ⟨vs0, q0, _⟩ := m1.g p _ e0
        refine ⟨.inl ⟨rfl, _, SqL.of q0⟩, lfA_bind m1 h1 fun vs rs S2 H2 le2 m2 rr h2 => ?_⟩
        match rs, rr, h2 with
        | [y], rr, h2 =>
          obtain ⟨w, rfl, rw'⟩ := rr.one
          obtain ⟨ts, us, e2, ey, hl, hp⟩ := h2
          obtain ⟨ws, q2, r2⟩ := m2.g p _ e2
          obtain ⟨b, zs, rfl, sq, r3⟩ := row_rep ey rw'
          refine ⟨p, b, ws, zs, rfl, rfl, q2, sq, by rw [r2.1, r3.1]; exact hl, ?_⟩
          exact fin _ _ _ _ (le1.trans (le2.trans (Le.write e2))) (m2.g.writeL e2 (r2.append r3)) .non hp
      | _ => exact h1.elim
/-- list + list, the sum a cell -/
def lstAt (S : TH) (x : T) (xs : List T) : Prop := match x with
  | .lst ts => ts = xs
  | .ref p => S p = some (.lst xs)
  | _ => False
theorem lstAt.rep {K : PySem.W.Frag} {S : TH} {H : Hp} {v : V} {x : T} {xs : List T} (h : lstAt S x xs) (g : Good K S H) (r : Rep K S H v x) : ∃ b vs, v = .ref b ∧ H b = some (.lst vs) ∧ Reps K S H vs xs := by
  cases x with
  | lst ts => have e : ts = xs := h; subst e; obtain ⟨b, vs, e, f, q⟩ := r.lstE; exact ⟨b, vs, e, f.2, q⟩
  | ref p => cases r; obtain ⟨vs, q, rv⟩ := g p _ h; exact ⟨p, vs, rfl, q, rv⟩
  | _ => exact h.elim
def oPlusC : T → T → TH → UX → Prop := fun x y S P => ∃ xs ys, lstAt S x xs ∧ lstAt S y ys ∧ xs.length + ys.length ≤ sizeLine ∧ ∀ p, S p = none → P (.ref p) (updT S p (.lst (xs ++ ys)))
theorem ue_plusC {b : Expr} {ta tb : UTE} (ha : UE X a ta) (hb : UE X b tb) : UE X (.BinOp a .Add b pos) (uBin oPlusC ta tb) := ue_bin op_cat (fun S H v w x y P Q g rx ry ho fin => by
  obtain ⟨xs, ys, hx, hy, hl, hp⟩ := ho
  obtain ⟨l, vs, rfl, e1, r1⟩ := hx.rep g rx
  obtain ⟨b, us, rfl, e2, r2⟩ := hy.rep g ry
  exact ⟨l, b, vs, us, rfl, rfl, e1, e2, by rw [r1.1, r2.1]; exact hl, fun p hq => fin _ _ _ _ (Le.newC hq) (g.newL hq (r1.append r2)) (.ref p) (hp p (g.free hq))⟩) ha hb
/-- t[lo:hi] of a tuple, the whole of it or not -/
def oSlT (x : T) (lo hi : Option Int) (S : TH) (P : UX) : Prop := match x with
  | .tup ts => P (.tup (cutA ts lo hi)) S
  | _ => False
def uSlT (te : UTE) (tl th : UTO) : UTE := fun env S P => te env S fun x S1 => tl env S1 fun l S2 => th env S2 fun u S3 => oSlT x l u S3 P
theorem cut_all {α : Type} {ts : List α} {lo hi : Option Int} (h : HT.sIx ts.length 0 lo = 0 ∧ HT.sIx ts.length ts.length hi = ts.length) : cutA ts lo hi = ts := by
  unfold cutA
  rw [h.1, h.2]
  simp
theorem ue_slT {lo hi : Option Expr} {te : UTE} {tl th : UTO} {p2 : Pos} (he : UE X e te) (hl : UO X lo tl) (hh : UO X hi th) : UE X (.Subscript e (.Slice lo hi none p2) pos) (uSlT te tl th) :=
  PE.imp (pe_slice sl_tupA he hl hh) fun σ H Q ⟨S, env, P, g, re, h, fin⟩ => lf_bind ⟨g, re⟩ h fun v x S1 H1 le1 m1 rx h1 =>
    ⟨S1, env, _, m1.g, m1.re, h1, fun l S2 H2 le2 g2 h2 => ⟨S2, env, _, g2, m1.re.mono le2, h2, fun u S3 H3 le3 g3 h3 => by
      have rx3 := rx.mono (le2.trans le3)
      have le := le1.trans (le2.trans le3)
      cases x with
      | tup ts =>
        obtain ⟨a, vs, rfl, f, r⟩ := rx3.tupE
        refine ⟨a, vs, rfl, f.sq, fun e => ?_, fun _ p hp => fin_tup (fin.le le) g3 hp (r.cut _ _) h3⟩
        have h3 : P (.tup (cutA ts l u)) S3 := h3
        rw [cut_all (by rw [← r.1]; exact e)] at h3
        exact fin _ _ S3 H3 le g3 rx3 h3
      | _ => exact h3.elim⟩⟩
def oStrA (xs : List T) (S : TH) (P : UX) : Prop := match xs with
  | [.int i] => i.natAbs.log2 < 1920 ∧ P (.str (toString i)) S
  | [.str y] => P (.str y) S
  | _ => False
theorem lStrA {K : PySem.W.Frag} : LCall K (fun xs H Q => (∃ i, xs = [.int i] ∧ i.natAbs.log2 < 1920 ∧ Q (.str (toString i)) H) ∨ ∃ y, xs = [.str y] ∧ Q (.str y) H) oStrA := fun S H vs xs P Q g r ho fin => by
  match xs, r, ho with
  | [.int i], r, ho =>
    obtain ⟨v, rfl, rx⟩ := r.one
    cases rx
    exact .inl ⟨i, rfl, ho.1, fin _ _ S H .refl g (.str _) ho.2⟩
  | [.str y], r, ho =>
    obtain ⟨v, rfl, rx⟩ := r.one
    cases rx
    exact .inr ⟨y, rfl, fin _ _ S H .refl g (.str _) ho⟩
theorem ue_strA (hg : Gl X "str") (hm : X.mg "str" = none) (ha : UA X [a] tr) (he : starEach [a] X.env = (false, eval a X.env) :: starEach [] X.env := by rfl) : UE X (.Call (.Name "str" p) [a] [] pos) (uCall oStrA tr) := ue_callTy call_strA lStrA hg hm boot_str ha (he := he)
end
end TL
end
section
set_option Elab.async false
set_option linter.all false
set_option maxRecDepth 100000
set_option maxHeartbeats 4000000
namespace K11
open PySem PySem.Spec PyProof.Rows L2 TL
seal UE UT UA US USs UI UG UO UW PTs

def top (i : Nat) : Stmt := PySem.Challenge.pw_loomlook_k11_written.main.body.getD i (.Pass ⟨0, 0, 0, 0⟩)
def nameOk (x : Str) : Bool := decide (1 ≤ x.length) && decide (x.length ≤ 8) && x.cps.toList.all fun (c : Nat) => decide (97 ≤ c) && decide (c ≤ 122)
structure Nm (P : Program) (w : World) (K : PySem.W.Frag) (mg : Str → Option Value) : Prop where
  isinstance : mg "isinstance" = none
  str : mg "str" = none
  tuple : mg "tuple" = none
  len : mg "len" = none
  range : mg "range" = none

end K11
end
section
set_option Elab.async false
set_option linter.all false
set_option maxRecDepth 100000
set_option maxHeartbeats 4000000
namespace K11
open PySem PySem.Spec PyProof.Rows L2 TL
seal UE UT UA US USs UI UG UO UW PTs

section
variable {P : Program} {w : World} {K : PySem.W.Frag} {mg : Str → Option Value} {base : Heap}
def Sd (S : TH) (a : Addr) : Prop := ∃ x : Int, S a = some (.lst [.int x])
/-- only the cell at a has turned -/
structure Dr (a : Addr) (S S' : TH) : Prop where
  same : ∀ b, b ≠ a → S' b = S b
  sd : Sd S' a
theorem Dr.trans {a : Addr} {S S1 S2 : TH} (x : Dr a S S1) (y : Dr a S1 S2) : Dr a S S2 := ⟨fun b h => (y.same b h).trans (x.same b h), y.sd⟩
theorem Dr.rfl {a : Addr} {S : TH} (h : Sd S a) : Dr a S S := ⟨fun _ _ => Eq.refl _, h⟩
def cCell : List T → TH → UX → Prop := fun ts S Pp => ∃ (ns : List Int) (k : Nat), ts = [.fls (ns.map T.int), .int (k : Int)] ∧ ∀ v : Int, Pp (.int v) S
theorem scCell : FnScope ["_law_script", "_law_k"] ["_law_script", "_law_k"] (defScope (top 6)) := ⟨rfl, rfl, rfl, by decide +kernel, rfl, by decide +kernel, by decide +kernel⟩
theorem cell_at (N : Nm P w K mg) (d : Stands K mg "_law_cell_at" ["_law_script", "_law_k"] (top 6)) : Has P w K mg base 1 "_law_cell_at" ["_law_script", "_law_k"] cCell := by
  have sc := scCell
  refine has_of (k := 0) d sc (fun ts S Pp h => ?_) fun cdv f A outer s H E hr => ?_
  · obtain ⟨ns, k, rfl, _⟩ := h; rfl
  refine ⟨_, (uss_cons (us_if (ut_lt (uv 1) (ue_len rfl N.len (ua_cons (uv 0) ua_nil))) (uss_one (us_ret (ue_ix (uv 0) (uv 1)))) uss_nil)
      (uss_one (us_ret ue_int))), fun ts S Pp h => ?_⟩
  obtain ⟨ns, k, rfl, h⟩ := h
  simp only [uIf, uOr, uAnd, uNot, uTest, uBin, uUn, uVar, uC, uCall, uCons, uNil, uRet, uSeq, uSet, uNext, uDrop, uAndV, uOrV, uNotV, uIfE, uTup, uLst, uLstC, uChain, uSl3, uoN, uoS, uRev, uKGet, uFind, uUpper, uAppend, uConsts, uFrz, uSetIx, oIsi, tyT, okC, isT, oEq2, oII, oIC, oLe2, oIx, oDx, oSl3, oLen, oList, oInt, oStr, oPlus, oIn, oAll, oIsN, oNeg, TL.startT, List.map_cons, List.map_nil, List.length_cons, List.length_nil, List.replicate, List.cons_append, List.nil_append, List.append_nil, List.getElem?_cons_zero, List.getElem?_cons_succ, List.set_cons_zero, List.set_cons_succ, Bool.false_eq_true, Bool.true_eq_false, false_implies, true_implies, forall_const, and_true, true_and, Bool.not_true, Bool.not_false, beq_self_eq_true, Bool.true_or, Bool.or_true, Bool.false_or, Bool.or_false, Bool.and_true, Bool.true_and, Bool.and_false, Bool.false_and, reduceCtorEq, Nat.reduceAdd, Nat.reduceSub, String.reduceBEq, Bool.false_xor, Bool.true_xor, Option.some.injEq, exists_eq_left, exists_eq_left', Cell.lst.injEq, List.length_map]
  refine ⟨fun e => ?_, fun _ => h 0⟩
  have hk : k < ns.length := by simpa using e
  have e1 : atI (ns.map T.int) (k : Int) = some (.int ns[k]) := atI_nat (by rw [List.getElem?_map, List.getElem?_eq_getElem hk]; rfl)
  exact ⟨_, e1, h _⟩
def cState : List T → TH → UX → Prop := fun ts S Pp => ∃ c k : Int, ts = [.int c, .int k] ∧ ∀ (a : Addr) (x : Int), S a = none → Pp (.ref a) (updT S a (.lst [.int x]))
theorem scState : FnScope ["_law_cell", "_law_k", "_law_drawn"] ["_law_cell", "_law_k"] (defScope (top 7)) := ⟨rfl, rfl, rfl, by decide +kernel, rfl, by decide +kernel, by decide +kernel⟩
theorem law_state (N : Nm P w K mg) (d : Stands K mg "_law_state" ["_law_cell", "_law_k"] (top 7)) : Has P w K mg base 1 "_law_state" ["_law_cell", "_law_k"] cState := by
  have sc := scState
  refine has_of (k := 0) d sc (fun ts S Pp h => ?_) fun cdv f A outer s H E hr => ?_
  · obtain ⟨c, k, rfl, _⟩ := h; rfl
  refine ⟨_, (uss_cons (us_set 2 sc.nd (ue_mod (ue_mul (ue_plus (uv 0) (ue_mul ue_int (uv 1))) ue_int) ue_int))
      (uss_one (us_ret (ue_lstC (ua_cons (ue_mod (ue_mul (uv 2) (uv 2)) ue_int) ua_nil))))), fun ts S Pp h => ?_⟩
  obtain ⟨c, k, rfl, h⟩ := h
  simp only [uIf, uOr, uAnd, uNot, uTest, uBin, uUn, uVar, uC, uCall, uCons, uNil, uRet, uSeq, uSet, uNext, uDrop, uAndV, uOrV, uNotV, uIfE, uTup, uLst, uLstC, uChain, uSl3, uoN, uoS, uRev, uKGet, uFind, uUpper, uAppend, uConsts, uFrz, uSetIx, oIsi, tyT, okC, isT, oEq2, oII, oIC, oLe2, oIx, oDx, oSl3, oLen, oList, oInt, oStr, oPlus, oIn, oAll, oIsN, oNeg, TL.startT, List.map_cons, List.map_nil, List.length_cons, List.length_nil, List.replicate, List.cons_append, List.nil_append, List.append_nil, List.getElem?_cons_zero, List.getElem?_cons_succ, List.set_cons_zero, List.set_cons_succ, Bool.false_eq_true, Bool.true_eq_false, false_implies, true_implies, forall_const, and_true, true_and, Bool.not_true, Bool.not_false, beq_self_eq_true, Bool.true_or, Bool.or_true, Bool.false_or, Bool.or_false, Bool.and_true, Bool.true_and, Bool.and_false, Bool.false_and, reduceCtorEq, Nat.reduceAdd, Nat.reduceSub, String.reduceBEq, Bool.false_xor, Bool.true_xor, Option.some.injEq, exists_eq_left, exists_eq_left', Cell.lst.injEq]
  refine ⟨.inl ⟨by decide, by decide⟩, .inr ⟨by decide, by decide⟩, by decide, ?_, by decide, by decide, fun p hp => h p _ hp⟩
  have h1 := Int.emod_nonneg ((c + 7919 * k) * 48271) (show (2147483647 : Int) ≠ 0 by decide)
  have h2 := Int.emod_lt_of_pos ((c + 7919 * k) * 48271) (show (0 : Int) < 2147483647 by decide)
  exact .inl ⟨by omega, by omega⟩
def cNext : List T → TH → UX → Prop := fun ts S Pp => ∃ (a : Addr) (n : Int), ts = [.ref a, .int n] ∧ Sd S a ∧ 0 < n ∧ ∀ (r : Int) S', Dr a S S' → 0 ≤ r → r < n → Pp (.int r) S'
theorem scNext : FnScope ["_law_state_here", "_law_size"] ["_law_state_here", "_law_size"] (defScope (top 8)) := ⟨rfl, rfl, rfl, by decide +kernel, rfl, by decide +kernel, by decide +kernel⟩
theorem law_next (N : Nm P w K mg) (d : Stands K mg "_law_next" ["_law_state_here", "_law_size"] (top 8)) : Has P w K mg base 1 "_law_next" ["_law_state_here", "_law_size"] cNext := by
  have sc := scNext
  refine has_of (k := 0) d sc (fun ts S Pp h => ?_) fun cdv f A outer s H E hr => ?_
  · obtain ⟨a, n, rfl, _⟩ := h; rfl
  refine ⟨_, (uss_cons (us_setIx (ue_mod (ue_plus (ue_mul (ue_ix (uv 0) ue_int) ue_int) ue_int) ue_int) (uv 0) ue_int)
      (uss_one (us_ret (ue_mod (ue_div (ue_ix (uv 0) ue_int) ue_int) (uv 1))))), fun ts S Pp h => ?_⟩
  obtain ⟨a, n, rfl, ⟨x, hx⟩, hn, h⟩ := h
  have e0 : atI [T.int x] (0 : Int) = some (.int x) := atI_nat (j := 0) rfl
  refine ⟨_, hx, _, e0, .inr ⟨by decide, by decide⟩, show (0:Int) < 2147483647 by decide, [.int x], 0, hx, rfl, ?_⟩
  have e1 : atI ([T.int x].set 0 (T.int ((x * 48271 + 11) % 2147483647))) (0 : Int) = some (T.int ((x * 48271 + 11) % 2147483647)) := atI_nat (j := 0) rfl
  refine ⟨_, updT_same, _, e1, ⟨by decide, by decide⟩, hn, h _ _ ⟨fun b hb => updT_ne hb, _, updT_same⟩ (Int.emod_nonneg _ (by omega)) (Int.emod_lt_of_pos _ hn)⟩
end
end K11
end
section
set_option Elab.async false
set_option linter.all false
set_option maxRecDepth 100000
set_option maxHeartbeats 4000000
namespace K11
open PySem PySem.Spec PyProof.Rows L2 TL
seal UE UT UA US USs UI UG UO UW PTs

section
variable {P : Program} {w : World} {K : PySem.W.Frag} {mg : Str → Option Value} {base : Heap}
def abc : Str := Str.ofString "abcdefghijklmnopqrstuvwxyz"
theorem abc_list : abc.cps.toList = [97, 98, 99, 100, 101, 102, 103, 104, 105, 106, 107, 108, 109, 110, 111, 112, 113, 114, 115, 116, 117, 118, 119, 120, 121, 122] := by decide +kernel
theorem abc_at {i : Int} (h0 : 0 ≤ i) (h1 : i < 26) : ∃ c, atI abc.cps.toList i = some c ∧ 97 ≤ c ∧ c ≤ 122 := by
  have hl : i.toNat < abc.cps.toList.length := by rw [abc_list]; simp; omega
  refine ⟨abc.cps.toList[i.toNat], ?_, ?_⟩
  · have q := atI_nat (List.getElem?_eq_getElem hl)
    rw [Int.toNat_of_nonneg h0] at q
    exact q
  · have all : ∀ c ∈ abc.cps.toList, 97 ≤ c ∧ c ≤ 122 := by rw [abc_list]; decide
    exact all _ (List.getElem_mem hl)
theorem abc_val {i : Int} (h0 : 0 ≤ i) (h1 : i < 26) : atI abc.cps.toList i = some (97 + i.toNat) := by
  have all : ∀ j : Nat, j < 26 → abc.cps.toList[j]? = some (97 + j) := by rw [abc_list]; decide
  have q := atI_nat (all i.toNat (by omega))
  rw [Int.toNat_of_nonneg h0] at q
  exact q
/-- letters alone -/
def Lt (x : Str) : Prop := ∀ c ∈ x.cps.toList, 97 ≤ c ∧ c ≤ 122
theorem nameOk_iff {x : Str} : nameOk x = true ↔ 1 ≤ x.length ∧ x.length ≤ 8 ∧ Lt x := by
  simp only [nameOk, Bool.and_eq_true, decide_eq_true_eq, List.all_eq_true, Lt, and_assoc]
theorem Lt.one {c : Nat} (h1 : 97 ≤ c) (h2 : c ≤ 122) : Lt ⟨#[c]⟩ := fun d hd => by
  have : d = c := by simpa using hd
  subst this
  exact ⟨h1, h2⟩
theorem Lt.app {x y : Str} (h : Lt x) (h' : Lt y) : Lt (x ++ y) := fun d hd => by
  have hd : d ∈ x.cps.toList ++ y.cps.toList := by simpa [Str.cps_append] using hd
  rcases List.mem_append.mp hd with q | q
  · exact h d q
  · exact h' d q
def words : List Str := ["box", "own", "end", "number", "plus", "lock", "skip", "again", "program", "worker", "claim", "size", "set", "get", "put", "add", "take", "give", "wait", "check", "unless", "not", "minus", "less", "same"]
theorem words_long : ∀ z ∈ words, ¬ z.length = 1 := by decide +kernel
theorem words_ok : ∀ z ∈ words, nameOk z = true := by decide +kernel
theorem at_map {α : Type} {β : Type} (g : α → β) {xs : List α} {i : Int} (h0 : 0 ≤ i) (h1 : i < xs.length) : ∃ x ∈ xs, atI (xs.map g) i = some (g x) := by
  have hl : i.toNat < xs.length := by omega
  refine ⟨xs[i.toNat], List.getElem_mem hl, ?_⟩
  have q : atI (xs.map g) ((i.toNat : Nat) : Int) = some (g xs[i.toNat]) := atI_nat (by rw [List.getElem?_map, List.getElem?_eq_getElem hl]; rfl)
  rw [Int.toNat_of_nonneg h0] at q
  exact q
theorem sz1000 {n : Nat} (h : n ≤ 1000) : n ≤ sizeLine := Nat.le_of_lt (small1000 h)
def cNames : List T → TH → UX → Prop := fun ts S Pp => ∃ (a : Addr) (m : Nat), ts = [.ref a, .int (m : Int)] ∧ Sd S a ∧ m ≤ 26 ∧ ∀ (zs : List Str) S', Dr a S S' → zs.length = m → (∀ z ∈ zs, nameOk z = true) → zs.Nodup → Pp (.lst (zs.map T.str)) S'
theorem scNames : FnScope ["_law_state_here", "_law_amount", "_law_letters", "_law_shift", "_law_found", "_law_k", "_law_name", "_law_turn", "_law_words"] ["_law_state_here", "_law_amount"] (defScope (top 9)) := ⟨rfl, rfl, rfl, by decide +kernel, rfl, by decide +kernel, by decide +kernel⟩
/-- between two names -/
structure NI (S0 : TH) (a p : Addr) (sh : Int) (k : Nat) (zs : List Str) (S : TH) : Prop where
  nd : zs.Nodup
  one : ∀ z ∈ zs, z.length = 1 → ∃ (j : Nat) (c : Nat), j < k ∧ atI abc.cps.toList ((sh + j) % 26) = some c ∧ z = ⟨#[c]⟩
  sd : Sd S a
  found : S p = some (.lst (zs.map T.str))
  len : zs.length = k
  ok : ∀ z ∈ zs, nameOk z = true
  rest : ∀ b, b ≠ a → b ≠ p → S b = S0 b
theorem NI.dr {S0 S S' : TH} {a p : Addr} {k : Nat} {sh : Int} {zs : List Str} (h : NI S0 a p sh k zs S) (np : p ≠ a) (d : Dr a S S') : NI S0 a p sh k zs S' :=
  ⟨h.nd, h.one, d.sd, (d.same p np).trans h.found, h.len, h.ok, fun b h1 h2 => (d.same b h1).trans (h.rest b h1 h2)⟩
theorem law_names (N : Nm P w K mg) (d : Stands K mg "_law_names" ["_law_state_here", "_law_amount"] (top 9)) (c_law_next : Has P w K mg base 1 "_law_next" ["_law_state_here", "_law_size"] cNext) : Has P w K mg base 2 "_law_names" ["_law_state_here", "_law_amount"] cNames := by
  have sc := scNames
  refine has_of (k := 1) d sc (fun ts S Pp h => ?_) fun cdv f A outer s H E hr => ?_
  · obtain ⟨a, m, rfl, _⟩ := h; rfl
  have hu0 := hu0_of hr
  refine ⟨_, (uss_cons (us_set 2 sc.nd ue_str)
      (uss_cons (us_set 3 sc.nd (ue_calln c_law_next hr rfl (ua_cons (uv 0) (ua_cons ue_int ua_nil))))
      (uss_cons (us_set 4 sc.nd (ue_lstC ua_nil))
      (uss_cons (us_for PassesOwn.never rfl (ui_range1 rfl N.range (ua_cons (uv 1) ua_nil)) (ug_name 5 sc.nd) (uss_cons (us_set 6 sc.nd (ue_ix (uv 2) (ue_mod (ue_plus (uv 3) (uv 5)) ue_int)))
      (uss_cons (us_for PassesOwn.never rfl (ui_range1 rfl N.range (ua_cons (ue_ix (ue_lst (ua_cons ue_int (ua_cons ue_int (ua_cons ue_int (ua_cons ue_int (ua_cons (ue_calln c_law_next hr rfl (ua_cons (uv 0) (ua_cons ue_int ua_nil))) ua_nil)))))) (ue_calln c_law_next hr rfl (ua_cons (uv 0) (ua_cons ue_int ua_nil)))) ua_nil)) (ug_name 7 sc.nd) (uss_one (us_set 6 sc.nd (ue_plus (ue_ix (uv 2) (ue_calln c_law_next hr rfl (ua_cons (uv 0) (ua_cons ue_int ua_nil)))) (uv 6)))))
      (uss_cons (us_if (ut_eq hu0 (ue_calln c_law_next hr rfl (ua_cons (uv 0) (ua_cons ue_int ua_nil))) ue_int) (uss_cons (us_set 8 sc.nd (ue_lst (ua_consts (Cs.s (Cs.s (Cs.s (Cs.s (Cs.s (Cs.s (Cs.s (Cs.s (Cs.s (Cs.s (Cs.s Cs.nil))))))))))))))
      (uss_cons (us_set 8 sc.nd (ue_plus (uv 8) (ue_lst (ua_consts (Cs.s (Cs.s (Cs.s (Cs.s (Cs.s (Cs.s (Cs.s (Cs.s (Cs.s (Cs.s (Cs.s Cs.nil)))))))))))))))
      (uss_one (us_set 6 sc.nd (ue_ix (ue_plus (uv 8) (ue_lst (ua_consts (Cs.s (Cs.s (Cs.s Cs.nil)))))) (ue_calln c_law_next hr rfl (ua_cons (uv 0) (ua_cons ue_int ua_nil)))))))) uss_nil)
      (uss_cons (us_if (ut_in (uv 6) (uv 4)) (uss_one (us_set 6 sc.nd (ue_ix (uv 2) (ue_mod (ue_plus (uv 3) (uv 5)) ue_int)))) uss_nil)
      (uss_one (us_expr (ue_append (uv 4) (ua_cons (uv 6) ua_nil)))))))))
      (uss_one (us_ret (ue_frz (uv 4)))))))), fun ts S0 Pp h => ?_⟩
  obtain ⟨a, m, rfl, hs, hm, h⟩ := h
  simp only [uIf, uOr, uAnd, uNot, uTest, uBin, uUn, uVar, uC, uCall, uCons, uNil, uRet, uSeq, uSet, uNext, uDrop, uAndV, uOrV, uNotV, uIfE, uTup, uLst, uLstC, uChain, uSl3, uoN, uoS, uRev, uKGet, uFind, uUpper, uAppend, uConsts, uFrz, uSetIx, oIsi, tyT, okC, isT, oEq2, oII, oIC, oLe2, oIx, oDx, oSl3, oLen, oList, oInt, oStr, oPlus, oIn, oAll, oIsN, oNeg, TL.startT, List.map_cons, List.map_nil, List.length_cons, List.length_nil, List.replicate, List.cons_append, List.nil_append, List.append_nil, List.getElem?_cons_zero, List.getElem?_cons_succ, List.set_cons_zero, List.set_cons_succ, Bool.false_eq_true, Bool.true_eq_false, false_implies, true_implies, forall_const, and_true, true_and, Bool.not_true, Bool.not_false, beq_self_eq_true, Bool.true_or, Bool.or_true, Bool.false_or, Bool.or_false, Bool.and_true, Bool.true_and, Bool.and_false, Bool.false_and, reduceCtorEq, Nat.reduceAdd, Nat.reduceSub, String.reduceBEq, Bool.false_xor, Bool.true_xor, Option.some.injEq, exists_eq_left, exists_eq_left', Cell.lst.injEq]
  refine ⟨a, 26, rfl, hs, by decide, fun sh S1 d1 s0 s1 => ⟨by decide, fun p hp => ?_⟩⟩
  have np : p ≠ a := fun z => by rw [z] at hp; obtain ⟨x, q⟩ := d1.sd; rw [q] at hp; cases hp
  simp only [uFor, uRng1]
  simp only [uIf, uOr, uAnd, uNot, uTest, uBin, uUn, uVar, uC, uCall, uCons, uNil, uRet, uSeq, uSet, uNext, uDrop, uAndV, uOrV, uNotV, uIfE, uTup, uLst, uLstC, uChain, uSl3, uoN, uoS, uRev, uKGet, uFind, uUpper, uAppend, uConsts, uFrz, uSetIx, oIsi, tyT, okC, isT, oEq2, oII, oIC, oLe2, oIx, oDx, oSl3, oLen, oList, oInt, oStr, oPlus, oIn, oAll, oIsN, oNeg, TL.startT, List.map_cons, List.map_nil, List.length_cons, List.length_nil, List.replicate, List.cons_append, List.nil_append, List.append_nil, List.getElem?_cons_zero, List.getElem?_cons_succ, List.set_cons_zero, List.set_cons_succ, Bool.false_eq_true, Bool.true_eq_false, false_implies, true_implies, forall_const, and_true, true_and, Bool.not_true, Bool.not_false, beq_self_eq_true, Bool.true_or, Bool.or_true, Bool.false_or, Bool.or_false, Bool.and_true, Bool.true_and, Bool.and_false, Bool.false_and, reduceCtorEq, Nat.reduceAdd, Nat.reduceSub, String.reduceBEq, Bool.false_xor, Bool.true_xor, Option.some.injEq, exists_eq_left, exists_eq_left', Cell.lst.injEq]
  refine ⟨by omega, by omega, fun k env S => ∃ e5 e6 e7 e8 zs, env = [some (.ref a), some (.int m), some (.str abc), some (.int sh), some (.ref p), e5, e6, e7, e8] ∧ NI S0 a p sh k zs S, ⟨none, none, none, none, [], rfl, ?_⟩, ?_, ?_⟩
  · exact ⟨List.nodup_nil, fun z hz => (by cases hz), by obtain ⟨x, q⟩ := d1.sd; exact ⟨x, by rw [updT_ne (Ne.symm np)]; exact q⟩, updT_same, rfl, fun z hz => (by cases hz), fun b h1 h2 => by rw [updT_ne h2]; exact d1.same b h1⟩
  · rintro k x env S hk ⟨e5, e6, e7, e8, zs, rfl, ni⟩
    have hkm : k < m := by
      have := (List.getElem?_eq_some_iff.mp hk).1
      rw [rngT_length] at this
      simpa using this
    have hx : x = .int k := by
      rw [rngT_get (by simpa using hkm)] at hk
      exact (Option.some.inj hk).symm
    subst hx
    obtain ⟨c0, hc0, l0, l1⟩ := abc_at (i := (sh + k) % 26) (Int.emod_nonneg _ (by decide)) (Int.emod_lt_of_pos _ (by decide))
    have fresh : ∀ {S : TH} {zs : List Str}, NI S0 a p sh k zs S → (⟨#[c0]⟩ : Str) ∉ zs := fun {S zs} n hm => by
      obtain ⟨j, c, hj, ej, e⟩ := n.one _ hm rfl
      have r0 := Int.emod_nonneg (sh + k) (show (26 : Int) ≠ 0 by decide)
      have r1 := Int.emod_lt_of_pos (sh + k) (show (0 : Int) < 26 by decide)
      have r2 := Int.emod_nonneg (sh + j) (show (26 : Int) ≠ 0 by decide)
      have r3 := Int.emod_lt_of_pos (sh + j) (show (0 : Int) < 26 by decide)
      rw [abc_val r2 r3] at ej
      rw [abc_val r0 r1] at hc0
      have ec : c0 = c := by
        have := congrArg Str.cps e
        simpa using this
      have e1 := Option.some.inj ej
      have e2 := Option.some.inj hc0
      omega
    have one0 : nameOk ⟨#[c0]⟩ = true := nameOk_iff.mpr ⟨show 1 ≤ 1 by omega, show 1 ≤ 8 by omega, Lt.one l0 l1⟩
    refine ⟨show (0:Int) < 26 by decide, by decide +kernel, c0, hc0, ?_⟩
    refine ⟨a, 8, rfl, ni.sd, by decide, fun r8 S2 d2 r80 r81 => ⟨show 5 ≤ sizeLine by decide, a, 5, rfl, d2.sd, by decide, fun r5 S3 d3 r50 r51 => ?_⟩⟩
    have n3 := (ni.dr np d2).dr np d3
    have pk : ∃ t : Nat, t ≤ 7 ∧ atI [T.int 0, T.int 0, T.int 1, T.int 7, T.int r8] r5 = some (.int t) := by
      have : r5 = 0 ∨ r5 = 1 ∨ r5 = 2 ∨ r5 = 3 ∨ r5 = 4 := by omega
      rcases this with rfl | rfl | rfl | rfl | rfl
      · exact ⟨0, by omega, rfl⟩
      · exact ⟨0, by omega, rfl⟩
      · exact ⟨1, by omega, rfl⟩
      · exact ⟨7, by omega, rfl⟩
      · refine ⟨r8.toNat, by omega, ?_⟩
        rw [Int.toNat_of_nonneg r80]
        rfl
    obtain ⟨t, ht, et⟩ := pk
    -- behind the letters: a name that is one, whatever else
    refine ⟨_, et, show -(2^62) ≤ (t:Int) by omega, show (t:Int) < 2^62 by omega, fun j env S => ∃ e7 x, env = [some (.ref a), some (.int m), some (.str abc), some (.int sh), some (.ref p), some (.int k), some (.str x), e7, e8] ∧ NI S0 a p sh k zs S ∧ 1 ≤ x.length ∧ x.length ≤ 1 + j ∧ Lt x ∧ (x.length = 1 → x = ⟨#[c0]⟩), ⟨e7, _, rfl, n3, show 1 ≤ 1 by omega, show 1 ≤ 1 + 0 by omega, Lt.one l0 l1, fun _ => rfl⟩, ?_, ?_⟩
    · rintro j y env S hj ⟨e7', x, rfl, n4, x1, x2, x3, x4⟩
      have hjt : j < t := by
        have := (List.getElem?_eq_some_iff.mp hj).1
        rw [rngT_length] at this
        simpa using this
      refine ⟨a, 26, rfl, n4.sd, by decide, fun r S5 d5 r0 r1 => ?_⟩
      obtain ⟨c, hc, q0, q1⟩ := abc_at r0 r1
      have lx : (⟨#[c]⟩ ++ x : Str).length = 1 + x.length := by rw [Str.length_append]; rfl
      refine ⟨by decide +kernel, c, hc, sz1000 (show 1 + x.length ≤ 1000 by omega), _, _, rfl, n4.dr np d5, by omega, by omega, (Lt.one q0 q1).app x3, fun z => by omega⟩
    · rintro env S ⟨e7', x, rfl, n4, x1, x2, x3, x4⟩
      have okx0 : nameOk x = true := nameOk_iff.mpr ⟨x1, by rw [rngT_length] at x2; simp at x2; omega, x3⟩
      have okx : nameOk x = true ∧ (x.length = 1 → x = ⟨#[c0]⟩) := ⟨okx0, x4⟩
      have close : ∀ (x : Str) (e8 : Option T) S, (nameOk x = true ∧ (x.length = 1 → x = ⟨#[c0]⟩)) → x ∉ zs → NI S0 a p sh k zs S → ∀ S', S' = updT S p (.lst (zs.map T.str ++ [.str x])) → ∃ e5 e6 e7 e8' zs', [some (T.ref a), some (.int m), some (.str abc), some (.int sh), some (.ref p), some (.int k), some (.str x), e7', e8] = [some (.ref a), some (.int m), some (.str abc), some (.int sh), some (.ref p), e5, e6, e7, e8'] ∧ NI S0 a p sh (k + 1) zs' S' := fun x e8 S okx nin n S' e => by
        subst e
        refine ⟨_, _, _, _, zs ++ [x], rfl, nd_snoc n.nd nin, fun z hz hl => ?_, ?_, ?_, ?_, ?_, ?_⟩
        · rcases List.mem_append.mp hz with q | q
          · obtain ⟨j, c, hj, ej, e⟩ := n.one z q hl
            exact ⟨j, c, by omega, ej, e⟩
          · have e : z = x := List.mem_singleton.mp q
            subst e
            exact ⟨k, c0, by omega, hc0, okx.2 hl⟩
        · obtain ⟨y, q⟩ := n.sd
          exact ⟨y, by rw [updT_ne (Ne.symm np)]; exact q⟩
        · rw [updT_same, List.map_append]; rfl
        · simp [n.len]
        · intro z hz
          rcases List.mem_append.mp hz with q | q
          · exact n.ok z q
          · have : z = x := by simpa using q
            rw [this]; exact okx.1
        · intro b h1 h2
          rw [updT_ne h2]; exact n.rest b h1 h2
      have lz : ∀ S, NI S0 a p sh k zs S → (zs.map T.str).length < sizeLine := fun S n => by
        rw [List.length_map, n.len]
        exact small1000 (by omega)
      -- the last two statements of the turn
      have tail : ∀ (x : Str) (e8 : Option T) S (E : UEnds), (nameOk x = true ∧ (x.length = 1 → x = ⟨#[c0]⟩)) → NI S0 a p sh k zs S → (∀ (x : Str) (e8 : Option T) S, (nameOk x = true ∧ (x.length = 1 → x = ⟨#[c0]⟩)) → x ∉ zs → NI S0 a p sh k zs S → E.nx [some (T.ref a), some (.int m), some (.str abc), some (.int sh), some (.ref p), some (.int k), some (.str x), e7', e8] (updT S p (.lst (zs.map T.str ++ [.str x])))) → uSeq (uIf (uTest (uBin (oIn false) (uVar 6) (uVar 4))) (uSet 6 (uBin oIx (uVar 2) (uBin oMod (uBin oPlus (uVar 3) (uVar 5)) (uC (.int 26))))) uNext) (uDrop (uAppend (uVar 4) (uCons (uVar 6) uNil))) E [some (T.ref a), some (.int m), some (.str abc), some (.int sh), some (.ref p), some (.int k), some (.str x), e7', e8] S := fun x e8 S E okx n fin => by
        refine ⟨_, n.found, zs, strsT_map zs, fun _ => ?_, fun e => ?_⟩
        · refine ⟨show (0:Int) < 26 by decide, by decide +kernel, c0, hc0, ?_⟩
          refine ⟨⟨_, n.found⟩, _, n.found, lz S n, fin _ _ _ ⟨one0, fun _ => rfl⟩ (fresh n) n⟩
        · exact ⟨⟨_, n.found⟩, _, n.found, lz S n, fin _ _ _ okx (of_decide_eq_false e) n⟩
      refine ⟨a, 6, rfl, n4.sd, by decide, fun r6 S6 d6 r60 r61 => ⟨fun _ => ?_, fun _ => ?_⟩⟩
      · refine ⟨show 11 ≤ sizeLine by decide, show 11 ≤ sizeLine by decide, show 22 ≤ sizeLine by decide, show 3 ≤ sizeLine by decide, show 25 ≤ sizeLine by decide, a, 25, rfl, d6.sd, by decide, fun r25 S7 d7 r0 r1 => ?_⟩
        obtain ⟨z, hz, ez⟩ := at_map T.str (xs := words) r0 r1
        exact ⟨_, ez, tail z _ S7 _ ⟨words_ok z hz, fun e => absurd e (words_long z hz)⟩ ((n4.dr np d6).dr np d7) fun x e8 S okx nin n => close x e8 S okx nin n _ rfl⟩
      · exact tail x e8 S6 _ okx (n4.dr np d6) fun x e8 S okx nin n => close x e8 S okx nin n _ rfl
  · rintro env S ⟨e5, e6, e7, e8, zs, rfl, ni⟩
    simp only [uIf, uOr, uAnd, uNot, uTest, uBin, uUn, uVar, uC, uCall, uCons, uNil, uRet, uSeq, uSet, uNext, uDrop, uAndV, uOrV, uNotV, uIfE, uTup, uLst, uLstC, uChain, uSl3, uoN, uoS, uRev, uKGet, uFind, uUpper, uAppend, uConsts, uFrz, uSetIx, oIsi, tyT, okC, isT, oEq2, oII, oIC, oLe2, oIx, oDx, oSl3, oLen, oList, oInt, oStr, oPlus, oIn, oAll, oIsN, oNeg, TL.startT, List.map_cons, List.map_nil, List.length_cons, List.length_nil, List.replicate, List.cons_append, List.nil_append, List.append_nil, List.getElem?_cons_zero, List.getElem?_cons_succ, List.set_cons_zero, List.set_cons_succ, Bool.false_eq_true, Bool.true_eq_false, false_implies, true_implies, forall_const, and_true, true_and, Bool.not_true, Bool.not_false, beq_self_eq_true, Bool.true_or, Bool.or_true, Bool.false_or, Bool.or_false, Bool.and_true, Bool.true_and, Bool.and_false, Bool.false_and, reduceCtorEq, Nat.reduceAdd, Nat.reduceSub, String.reduceBEq, Bool.false_xor, Bool.true_xor, Option.some.injEq, exists_eq_left, exists_eq_left', Cell.lst.injEq]
    refine ⟨_, ni.found, h zs _ ?_ ?_ ni.ok ni.nd⟩
    · refine ⟨fun b hb => ?_, ?_⟩
      · by_cases hbp : b = p
        · subst hbp
          rw [delT_same, ← d1.same b hb, hp]
        · rw [delT_ne hbp]; exact ni.rest b hb hbp
      · obtain ⟨x, q⟩ := ni.sd
        exact ⟨x, by rw [delT_ne (Ne.symm np)]; exact q⟩
    · rw [ni.len, rngT_length]; rfl
end
end K11
end
section
set_option Elab.async false
set_option linter.all false
set_option maxRecDepth 100000
set_option maxHeartbeats 4000000
namespace K11
open PySem PySem.Spec PyProof.Rows L2 TL
seal UE UT UA US USs UI UG UO UW PTs uComp uOr uAnd

section
variable {P : Program} {w : World} {K : PySem.W.Frag} {mg : Str → Option Value} {base : Heap}
structure Nms (zs : List Str) : Prop where
  few : zs.length ≤ 100
  ok : ∀ z ∈ zs, nameOk z = true
/-- a drawn value: its form -/
inductive VF (ow bx : List Str) : Nat → T → Prop where
  | num {n : Nat} {i : Int} : 0 ≤ i → i ≤ 99 → VF ow bx (n + 1) (.tup [.str "number", .int i])
  | own {n : Nat} {x : Str} : x ∈ ow → VF ow bx (n + 1) (.tup [.str "own", .str x])
  | box {n : Nat} {x : Str} : x ∈ bx → VF ow bx (n + 1) (.tup [.str "box", .str x])
  | neg {n : Nat} {t : T} : VF ow bx n t → VF ow bx (n + 1) (.tup [.str "not", t])
  | two {n : Nat} {z : Str} {t u : T} : (z = "plus" ∨ z = "minus" ∨ z = "less" ∨ z = "same") → VF ow bx n t → VF ow bx n u → VF ow bx (n + 1) (.tup [.str z, t, u])
theorem VF.up {ow bx : List Str} {n : Nat} {t : T} (h : VF ow bx n t) : ∀ {m}, n ≤ m → VF ow bx m t := by
  induction h with
  | num a b => intro m hm; cases m with
    | zero => omega
    | succ m => exact .num a b
  | own a => intro m hm; cases m with
    | zero => omega
    | succ m => exact .own a
  | box a => intro m hm; cases m with
    | zero => omega
    | succ m => exact .box a
  | neg _ ih => intro m hm; cases m with
    | zero => omega
    | succ m => exact .neg (ih (by omega))
  | two a _ _ ih1 ih2 => intro m hm; cases m with
    | zero => omega
    | succ m => exact .two a (ih1 (by omega)) (ih2 (by omega))
theorem vf_tup {ow bx : List Str} {n : Nat} {t : T} (h : VF ow bx n t) : ∃ us, t = .tup us := by cases h <;> exact ⟨_, rfl⟩
def tagT (z : Str) : T → Option T
  | .str x => some (.tup [.str z, .str x])
  | _ => none
theorem tagT_map (z : Str) (zs : List Str) : (zs.map T.str).filterMap (tagT z) = zs.map fun x => T.tup [.str z, .str x] := by
  rw [List.filterMap_map, ← List.filterMap_eq_map]
  rfl
theorem nameOk_len {x : Str} (h : nameOk x = true) : x.length ≤ 8 := (nameOk_iff.mp h).2.1
def cVal (n : Nat) : List T → TH → UX → Prop := fun ts S Pp => ∃ (a : Addr) (ow bx : List Str), ts = [.ref a, .int (n : Int), .lst (ow.map T.str), .lst (bx.map T.str)] ∧ Sd S a ∧ Nms ow ∧ Nms bx ∧ ∀ t S', Dr a S S' → VF ow bx n t → Pp t S'
theorem scVal : FnScope ["_law_state_here", "_law_deep", "_law_owns", "_law_boxes", "_law_kind", "_law_names_here", "_law_one"] ["_law_state_here", "_law_deep", "_law_owns", "_law_boxes"] (defScope (top 10)) := ⟨rfl, rfl, rfl, by decide +kernel, rfl, by decide +kernel, by decide +kernel⟩
/-- at most n deep -/
def cVals (n : Nat) : List T → TH → UX → Prop := fun ts S Pp => ∃ j, j < n ∧ cVal (j + 1) ts S Pp
theorem law_value1 {n m : Nat} (hm : 1 ≤ m) (N : Nm P w K mg) (d : Stands K mg "_law_value" ["_law_state_here", "_law_deep", "_law_owns", "_law_boxes"] (top 10)) (c_law_next : Has P w K mg base 1 "_law_next" ["_law_state_here", "_law_size"] cNext)
    (c_law_value : Has P w K mg base m "_law_value" ["_law_state_here", "_law_deep", "_law_owns", "_law_boxes"] (cVals n)) : Has P w K mg base (m + 1) "_law_value" ["_law_state_here", "_law_deep", "_law_owns", "_law_boxes"] (cVals (n + 1)) := by
  have sc := scVal
  have c_law_next := c_law_next.mono hm
  refine has_of (k := m) d sc (fun ts S Pp h => ?_) fun cdv f A outer s H E hr => ?_
  · obtain ⟨j, _, a, ow, bx, rfl, _⟩ := h; rfl
  have hu0 := hu0_of hr
  refine ⟨_, (uss_cons (us_set 4 sc.nd (ue_calln c_law_next hr rfl (ua_cons (uv 0) (ua_cons ue_int ua_nil))))
      (uss_cons (us_set 5 sc.nd (ue_plus (ue_comp1 0 ["_law_own"] [none] rfl (ui_any (uv 2)) (fun _ _ _ _ _ => uts_nil) (fun _ _ _ _ _ => (ue_tup (ua_cons ue_str (ua_cons (uv 0) ua_nil))))) (ue_comp1 0 ["_law_box"] [none] rfl (ui_any (uv 3)) (fun _ _ _ _ _ => uts_nil) (fun _ _ _ _ _ => (ue_tup (ua_cons ue_str (ua_cons (uv 0) ua_nil)))))))
      (uss_cons (us_if (UW.ut (uw_or (ut_lt (uv 1) ue_int) (uw_or1 (ut_lt (uv 4) ue_int)))) (uss_cons (us_if (UW.ut (uw_and (ut_gt (ue_len rfl N.len (ua_cons (uv 5) ua_nil)) ue_int) (uw_and1 (ut_gt (ue_calln c_law_next hr rfl (ua_cons (uv 0) (ua_cons ue_int ua_nil))) ue_int)))) (uss_one (us_ret (ue_ix (uv 5) (ue_calln c_law_next hr rfl (ua_cons (uv 0) (ua_cons (ue_len rfl N.len (ua_cons (uv 5) ua_nil)) ua_nil)))))) uss_nil)
      (uss_one (us_ret (ue_tup (ua_cons ue_str (ua_cons (ue_ix (ue_lst (ua_cons (ue_calln c_law_next hr rfl (ua_cons (uv 0) (ua_cons ue_int ua_nil))) (ua_cons (ue_calln c_law_next hr rfl (ua_cons (uv 0) (ua_cons ue_int ua_nil))) ua_nil))) (ue_div (ue_calln c_law_next hr rfl (ua_cons (uv 0) (ua_cons ue_int ua_nil))) ue_int)) ua_nil)))))) uss_nil)
      (uss_cons (us_set 6 sc.nd (ue_calln c_law_value hr rfl (ua_cons (uv 0) (ua_cons (ue_sub (uv 1) ue_int) (ua_cons (uv 2) (ua_cons (uv 3) ua_nil))))))
      (uss_cons (us_if (ut_eq hu0 (uv 4) ue_int) (uss_one (us_ret (ue_tup (ua_cons ue_str (ua_cons (uv 6) ua_nil))))) uss_nil)
      (uss_one (us_ret (ue_tup (ua_cons (ue_ix (ue_lst (ua_consts (Cs.s (Cs.s (Cs.s (Cs.s Cs.nil)))))) (ue_sub (uv 4) ue_int)) (ua_cons (uv 6) (ua_cons (ue_calln c_law_value hr rfl (ua_cons (uv 0) (ua_cons (ue_sub (uv 1) ue_int) (ua_cons (uv 2) (ua_cons (uv 3) ua_nil))))) ua_nil))))))))))), fun ts S0 Pp h => ?_⟩
  obtain ⟨j, hj, a, ow, bx, rfl, hs, now, nbx, h⟩ := h
  refine ⟨a, 8, rfl, hs, by decide, fun kd S1 d1 k0 k1 => ?_⟩
  have l1 : (ow.map T.str).length ≤ sizeLine := by rw [List.length_map]; exact sz1000 (by have := now.few; omega)
  have l2 : (bx.map T.str).length ≤ sizeLine := by rw [List.length_map]; exact sz1000 (by have := nbx.few; omega)
  refine comp_u (ts := ow.map T.str) (f := tagT "own") (fun k hk => hk) l1 (fun y hy A B hA hB => ?_) ?_
  · obtain ⟨z, _, rfl⟩ := List.mem_map.mp hy
    exact ⟨fun _ => ⟨show 2 ≤ sizeLine by decide, hA _ rfl⟩, fun e => (by cases e)⟩
  refine comp_u (ts := bx.map T.str) (f := tagT "box") (fun k hk => hk) l2 (fun y hy A B hA hB => ?_) ?_
  · obtain ⟨z, _, rfl⟩ := List.mem_map.mp hy
    exact ⟨fun _ => ⟨show 2 ≤ sizeLine by decide, hA _ rfl⟩, fun e => (by cases e)⟩
  have vts : ∀ t ∈ (ow.map T.str).filterMap (tagT "own") ++ (bx.map T.str).filterMap (tagT "box"), VF ow bx 1 t := by
    intro t ht
    rw [tagT_map, tagT_map] at ht
    rcases List.mem_append.mp ht with q | q
    · obtain ⟨z, hz, rfl⟩ := List.mem_map.mp q
      exact .own hz
    · obtain ⟨z, hz, rfl⟩ := List.mem_map.mp q
      exact .box hz
  refine ⟨?_, ?_⟩
  · rw [tagT_map, tagT_map, List.length_map, List.length_map]
    exact sz1000 (by have := now.few; have := nbx.few; omega)
  refine or_pure (fun _ h => h) (fun _ h => h) ⟨fun e => ?_, fun e => ?_⟩
  · refine and_inv (R := Dr a S0) (fun _ h => h) d1 (fun e1 P hP => ⟨a, 3, rfl, d1.sd, by decide, fun r S2 d2 _ _ => hP _ S2 (d1.trans d2)⟩) fun b S2 d2 hb => ⟨fun e2 => ?_, fun e2 => ?_⟩
    · have hl := hb e2
      have hl := of_decide_eq_true hl
      refine ⟨a, _, rfl, d2.sd, hl, fun r S3 d3 r0 r1 => ?_⟩
      obtain ⟨t, ht, et⟩ := at_mem r0 r1
      exact ⟨t, et, h t S3 (d2.trans d3) ((vts t ht).up (by omega))⟩
    · refine ⟨a, 4, rfl, d2.sd, by decide, fun r4 S3 d3 r40 r41 => ⟨a, 100, rfl, d3.sd, by decide, fun r100 S4 d4 r0 r1 => ⟨show 2 ≤ sizeLine by decide, a, 6, rfl, d4.sd, by decide, fun r6 S5 d5 r60 r61 => ⟨⟨by decide, by decide⟩, ?_⟩⟩⟩⟩
      have : r6 / 5 = 0 ∨ r6 / 5 = 1 := by omega
      rcases this with q | q
      · refine ⟨.int r4, by rw [q]; rfl, show 2 ≤ sizeLine by decide, h _ S5 (((d2.trans d3).trans d4).trans d5) (.num r40 (by omega))⟩
      · refine ⟨.int r100, by rw [q]; rfl, show 2 ≤ sizeLine by decide, h _ S5 (((d2.trans d3).trans d4).trans d5) (.num r0 (by omega))⟩
  · have e1 : ¬ ((j + 1 : Nat) : Int) < 2 ∧ ¬ kd < 3 := by simpa using e
    obtain ⟨i, rfl⟩ : ∃ i, j = i + 1 := ⟨j - 1, by omega⟩
    have en : ((i + 1 + 1 : Nat) : Int) - 1 = ((i + 1 : Nat) : Int) := by omega
    refine ⟨i, by omega, a, ow, bx, by dsimp only; rw [en], d1.sd, now, nbx, fun t S2 d2 vt => ⟨fun e3 => ?_, fun e3 => ?_⟩⟩
    · exact ⟨show 2 ≤ sizeLine by decide, h _ S2 (d1.trans d2) (.neg vt)⟩
    · have e4 : ¬ kd = 3 := by simpa using e3
      refine ⟨show 4 ≤ sizeLine by decide, ?_⟩
      have : kd - 4 = 0 ∨ kd - 4 = 1 ∨ kd - 4 = 2 ∨ kd - 4 = 3 := by omega
      have wd : ∃ z : Str, (z = "plus" ∨ z = "minus" ∨ z = "less" ∨ z = "same") ∧ atI [T.str "plus", T.str "minus", T.str "less", T.str "same"] (kd - 4) = some (.str z) := by
        rcases this with q | q | q | q <;> rw [q]
        · exact ⟨"plus", .inl rfl, rfl⟩
        · exact ⟨"minus", .inr (.inl rfl), rfl⟩
        · exact ⟨"less", .inr (.inr (.inl rfl)), rfl⟩
        · exact ⟨"same", .inr (.inr (.inr rfl)), rfl⟩
      obtain ⟨z, lz, ez⟩ := wd
      refine ⟨_, ez, i, by omega, a, ow, bx, by dsimp only; rw [en], d2.sd, now, nbx, fun t' S3 d3 vt' => ⟨show 3 ≤ sizeLine by decide, h _ S3 ((d1.trans d2).trans d3) (.two lz vt vt')⟩⟩
theorem law_value (N : Nm P w K mg) (d : Stands K mg "_law_value" ["_law_state_here", "_law_deep", "_law_owns", "_law_boxes"] (top 10)) (c : Has P w K mg base 1 "_law_next" ["_law_state_here", "_law_size"] cNext) : ∀ n : Nat, Has P w K mg base (n + 1) "_law_value" ["_law_state_here", "_law_deep", "_law_owns", "_law_boxes"] (cVals n)
  | 0 => has_none d fun _ _ _ ⟨_, z, _⟩ => by omega
  | n + 1 => law_value1 (m := n + 1) (by omega) N d c (law_value N d c n)
end
end K11
end
section
set_option Elab.async false
set_option linter.all false
set_option maxRecDepth 100000
set_option maxHeartbeats 4000000
namespace K11
open PySem PySem.Spec PyProof.Rows L2 TL
inductive SN (ow bx lk : List Str) (b : Int) : T → Prop where
  | take {y : Str} : y ∈ lk → SN ow bx lk b (.tup [.str "take", .str y])
  | give {y : Str} : y ∈ lk → SN ow bx lk b (.tup [.str "give", .str y])
  | get {x y : Str} : x ∈ ow → y ∈ bx → SN ow bx lk b (.tup [.str "get", .str x, .str y])
  | add {y : Str} {v : T} : y ∈ bx → VF ow [] 5 v → SN ow bx lk b (.tup [.str "add", .str y, v])
  | put {y : Str} {v : T} : y ∈ bx → VF ow [] 5 v → SN ow bx lk b (.tup [.str "put", .str y, v])
  | wait {y : Str} {v : T} : y ∈ bx → VF ow [] 5 v → SN ow bx lk b (.tup [.str "wait", .str y, v])
  | set {x : Str} {v : T} : x ∈ ow → VF ow [] 5 v → SN ow bx lk b (.tup [.str "set", .str x, v])
  | check {v : T} : VF ow [] 5 v → SN ow bx lk b (.tup [.str "check", v])
  | skip {i : Int} : 0 ≤ i → i ≤ b → SN ow bx lk b (.tup [.str "skip", .int i])
  | unl {v : T} {i : Int} : VF ow [] 5 v → 0 ≤ i → i ≤ b → SN ow bx lk b (.tup [.str "unless", v, .int i])
end K11
end
section
set_option Elab.async false
set_option linter.all false
set_option maxRecDepth 100000
set_option maxHeartbeats 4000000
namespace K11
open PySem PySem.Spec PyProof.Rows L2 TL
seal UE UT UA US USs UI UG UO UW PTs uComp uOr uAnd uSeq

theorem Nms.cut {zs : List Str} (h : Nms zs) (lo hi : Option Int) : Nms (cutA zs lo hi) := ⟨Nat.le_trans (cutN_len _ _ _) h.few, fun z hz => h.ok z (cutN_mem hz)⟩
theorem Sd.new {S : TH} {a : Addr} {x : Int} : Sd (updT S a (.lst [.int x])) a := ⟨x, updT_same⟩
theorem at0 {a : T} {r : List T} : atI (a :: r) (0 : Int) = some a := atI_nat (j := 0) rfl
section
variable {P : Program} {w : World} {K : PySem.W.Frag} {mg : Str → Option Value} {base : Heap}
def cLStep : List T → TH → UX → Prop := fun ts S Pp => ∃ (a : Addr) (ow bx lk : List Str) (b : Int), ts = [.ref a, .lst (ow.map T.str), .lst (bx.map T.str), .lst (lk.map T.str), .int b] ∧ Sd S a ∧ Nms ow ∧ Nms bx ∧ Nms lk ∧ 0 ≤ b ∧ b ≤ 90 ∧
  ∀ t S', Dr a S S' → SN ow bx lk b t → Pp t S'
theorem scLStep : FnScope ["_law_state_here", "_law_owns", "_law_boxes", "_law_locks", "_law_behind", "_law_kind", "_law_value_here"] ["_law_state_here", "_law_owns", "_law_boxes", "_law_locks", "_law_behind"] (defScope (top 11)) := ⟨rfl, rfl, rfl, by decide +kernel, rfl, by decide +kernel, by decide +kernel⟩
theorem pick_name {zs : List Str} {r : Int} (h0 : 0 ≤ r) (h1 : r < (zs.map T.str).length) : ∃ z ∈ zs, atI (zs.map T.str) r = some (.str z) := by
  rw [List.length_map] at h1
  exact at_map T.str h0 h1
theorem law_step {m : Nat} (N : Nm P w K mg) (d : Stands K mg "_law_step" ["_law_state_here", "_law_owns", "_law_boxes", "_law_locks", "_law_behind"] (top 11)) (c_law_next : Has P w K mg base m "_law_next" ["_law_state_here", "_law_size"] cNext) (c_law_value : Has P w K mg base m "_law_value" ["_law_state_here", "_law_deep", "_law_owns", "_law_boxes"] (cVals 5)) : Has P w K mg base (m + 1) "_law_step" ["_law_state_here", "_law_owns", "_law_boxes", "_law_locks", "_law_behind"] cLStep := by
  have sc := scLStep
  refine has_of (k := m) d sc (fun ts S Pp h => ?_) fun cdv f A outer s H E hr => ?_
  · obtain ⟨a, ow, bx, lk, b, rfl, _⟩ := h; rfl
  have hu0 := hu0_of hr
  refine ⟨_, (uss_cons (us_set 5 sc.nd (ue_calln c_law_next hr rfl (ua_cons (uv 0) (ua_cons ue_int ua_nil))))
      (uss_cons (us_set 6 sc.nd (ue_calln c_law_value hr rfl (ua_cons (uv 0) (ua_cons (ue_ix (ue_lst (ua_cons ue_int (ua_cons ue_int (ua_cons ue_int (ua_cons (ue_plus ue_int (ue_calln c_law_next hr rfl (ua_cons (uv 0) (ua_cons ue_int ua_nil)))) ua_nil))))) (ue_calln c_law_next hr rfl (ua_cons (uv 0) (ua_cons ue_int ua_nil)))) (ua_cons (uv 1) (ua_cons (ue_lst ua_nil) ua_nil))))))
      (uss_cons (us_if (UW.ut (uw_and (ut_lt (uv 5) ue_int) (uw_and1 (ut_gt (ue_len rfl N.len (ua_cons (uv 3) ua_nil)) ue_int)))) (uss_one (us_ret (ue_tup (ua_cons (ue_ix (ue_lst (ua_consts (Cs.s (Cs.s Cs.nil)))) (uv 5)) (ua_cons (ue_ix (uv 3) (ue_calln c_law_next hr rfl (ua_cons (uv 0) (ua_cons (ue_len rfl N.len (ua_cons (uv 3) ua_nil)) ua_nil)))) ua_nil))))) uss_nil)
      (uss_cons (us_if (UW.ut (uw_and (ut_lt (uv 5) ue_int) (uw_and (ut_gt (ue_len rfl N.len (ua_cons (uv 1) ua_nil)) ue_int) (uw_and1 (ut_gt (ue_len rfl N.len (ua_cons (uv 2) ua_nil)) ue_int))))) (uss_one (us_ret (ue_tup (ua_cons ue_str (ua_cons (ue_ix (uv 1) (ue_calln c_law_next hr rfl (ua_cons (uv 0) (ua_cons (ue_len rfl N.len (ua_cons (uv 1) ua_nil)) ua_nil)))) (ua_cons (ue_ix (uv 2) (ue_calln c_law_next hr rfl (ua_cons (uv 0) (ua_cons (ue_len rfl N.len (ua_cons (uv 2) ua_nil)) ua_nil)))) ua_nil)))))) uss_nil)
      (uss_cons (us_if (UW.ut (uw_and (ut_lt (uv 5) ue_int) (uw_and1 (ut_gt (ue_len rfl N.len (ua_cons (uv 2) ua_nil)) ue_int)))) (uss_one (us_ret (ue_tup (ua_cons (ue_ix (ue_lst (ua_consts (Cs.s (Cs.s (Cs.s Cs.nil))))) (ue_div (uv 5) ue_int)) (ua_cons (ue_ix (uv 2) (ue_calln c_law_next hr rfl (ua_cons (uv 0) (ua_cons (ue_len rfl N.len (ua_cons (uv 2) ua_nil)) ua_nil)))) (ua_cons (uv 6) ua_nil)))))) uss_nil)
      (uss_cons (us_if (UW.ut (uw_and (ut_eq hu0 (uv 5) ue_int) (uw_and1 (ut_gt (ue_len rfl N.len (ua_cons (uv 1) ua_nil)) ue_int)))) (uss_one (us_ret (ue_tup (ua_cons ue_str (ua_cons (ue_ix (uv 1) (ue_calln c_law_next hr rfl (ua_cons (uv 0) (ua_cons (ue_len rfl N.len (ua_cons (uv 1) ua_nil)) ua_nil)))) (ua_cons (uv 6) ua_nil)))))) uss_nil)
      (uss_cons (us_if (ut_lt (uv 5) ue_int) (uss_one (us_ret (ue_tup (ua_cons ue_str (ua_cons (uv 6) ua_nil))))) uss_nil)
      (uss_cons (us_if (ut_eq hu0 (uv 5) ue_int) (uss_one (us_ret (ue_tup (ua_cons ue_str (ua_cons (ue_calln c_law_next hr rfl (ua_cons (uv 0) (ua_cons (ue_plus (uv 4) ue_int) ua_nil))) ua_nil))))) uss_nil)
      (uss_cons (us_if (ut_eq hu0 (uv 5) ue_int) (uss_one (us_ret (ue_tup (ua_cons ue_str (ua_cons (uv 6) (ua_cons (ue_calln c_law_next hr rfl (ua_cons (uv 0) (ua_cons (ue_plus (uv 4) ue_int) ua_nil))) ua_nil)))))) uss_nil)
      (uss_cons (us_if (ut_gt (ue_len rfl N.len (ua_cons (uv 2) ua_nil)) ue_int) (uss_one (us_ret (ue_tup (ua_cons ue_str (ua_cons (ue_ix (uv 2) (ue_calln c_law_next hr rfl (ua_cons (uv 0) (ua_cons (ue_len rfl N.len (ua_cons (uv 2) ua_nil)) ua_nil)))) (ua_cons (ue_tup (ua_consts (Cs.s (Cs.i Cs.nil)))) ua_nil)))))) uss_nil)
      (uss_one (us_ret (ue_tup (ua_cons ue_str (ua_cons (ue_tup (ua_cons ue_str (ua_cons (ue_plus ue_int (ue_calln c_law_next hr rfl (ua_cons (uv 0) (ua_cons ue_int ua_nil)))) ua_nil))) ua_nil))))))))))))))), fun ts S0 Pp h => ?_⟩
  obtain ⟨a, ow, bx, lk, b, rfl, hs, now, nbx, nlk, hb0, hb, h⟩ := h
  have o2 : 2 ≤ sizeLine := by decide
  have o3 : 3 ≤ sizeLine := by decide
  refine seq_join (fun env S => ∃ kd : Int, env = [some (.ref a), some (.lst (ow.map T.str)), some (.lst (bx.map T.str)), some (.lst (lk.map T.str)), some (.int b), some (.int kd), none] ∧ Dr a S0 S ∧ 0 ≤ kd ∧ kd < 12) (fun k hk => ⟨a, 12, rfl, hs, by decide, fun r S1 d1 r0 r1 => hk _ _ ⟨r, rfl, d1, r0, r1⟩⟩) ?_
  rintro _ S1 ⟨kd, rfl, d1, kd0, kd1⟩
  refine seq_join (fun env S => ∃ v : T, env = [some (.ref a), some (.lst (ow.map T.str)), some (.lst (bx.map T.str)), some (.lst (lk.map T.str)), some (.int b), some (.int kd), some v] ∧ Dr a S0 S ∧ VF ow [] 5 v) (fun k hk => ⟨a, 5, rfl, d1.sd, by decide, fun r5 S2 d2 r50 r51 => ⟨show 4 ≤ sizeLine by decide, a, 4, rfl, d2.sd, by decide, fun r4 S3 d3 r40 r41 => ?_⟩⟩) ?_
  · have pk : ∃ j : Nat, j < 5 ∧ atI [T.int 1, T.int 2, T.int 2, T.int (1 + r5)] r4 = some (.int ((j + 1 : Nat) : Int)) := by
      have : r4 = 0 ∨ r4 = 1 ∨ r4 = 2 ∨ r4 = 3 := by omega
      rcases this with rfl | rfl | rfl | rfl
      · exact ⟨0, by omega, rfl⟩
      · exact ⟨1, by omega, rfl⟩
      · exact ⟨1, by omega, rfl⟩
      · refine ⟨r5.toNat, by omega, ?_⟩
        rw [show ((r5.toNat + 1 : Nat) : Int) = 1 + r5 by omega]
        rfl
    obtain ⟨j, hj, ej⟩ := pk
    exact ⟨_, ej, show 0 ≤ sizeLine by decide, j, hj, a, ow, [], rfl, d3.sd, now, ⟨by decide, fun _ z => (by cases z)⟩, fun t S4 d4 vt => hk _ _ ⟨t, rfl, ((d1.trans d2).trans d3).trans d4, vt.up (by omega)⟩⟩
  rintro _ S2 ⟨v, rfl, d2, vv⟩
  clear d1 S1
  have tru : ∀ {b : Bool} {p : Prop} [Decidable p], (b && decide p) = true → p := fun {b p _} e => by
    rw [Bool.and_eq_true] at e
    exact of_decide_eq_true e.2
  -- take, give
  refine seq_join (fun env S => env = [some (.ref a), some (.lst (ow.map T.str)), some (.lst (bx.map T.str)), some (.lst (lk.map T.str)), some (.int b), some (.int kd), some v] ∧ S = S2) (fun k hk => and_pure (fun _ h => h) (fun _ _ h => h) ⟨fun e => ?_, fun _ => hk _ _ ⟨rfl, rfl⟩⟩) ?_
  · have e1 : kd < 2 := by rw [Bool.and_eq_true] at e; exact of_decide_eq_true e.1
    have e2 := tru e
    have : kd = 0 ∨ kd = 1 := by omega
    rcases this with rfl | rfl
    · refine ⟨o2, .str "take", rfl, a, _, rfl, d2.sd, e2, fun r S3 d3 r0 r1 => ?_⟩
      obtain ⟨y, ly, ey⟩ := pick_name r0 r1
      exact ⟨_, ey, o2, h _ _ (d2.trans d3) (.take ly)⟩
    · refine ⟨o2, .str "give", rfl, a, _, rfl, d2.sd, e2, fun r S3 d3 r0 r1 => ?_⟩
      obtain ⟨y, ly, ey⟩ := pick_name r0 r1
      exact ⟨_, ey, o2, h _ _ (d2.trans d3) (.give ly)⟩
  rintro _ _ ⟨rfl, rfl⟩
  -- get
  refine seq_join (fun env S => env = [some (.ref a), some (.lst (ow.map T.str)), some (.lst (bx.map T.str)), some (.lst (lk.map T.str)), some (.int b), some (.int kd), some v] ∧ Dr a S0 S) (fun k hk => and_pure (fun _ h => h) (fun _ _ h => and_pure (fun _ h => h) (fun _ _ h => h) h) ⟨fun e => ?_, fun _ => hk _ _ ⟨rfl, d2⟩⟩) ?_
  · rw [Bool.and_eq_true, Bool.and_eq_true] at e
    refine ⟨a, _, rfl, d2.sd, of_decide_eq_true e.2.1, fun r S3 d3 r0 r1 => ?_⟩
    obtain ⟨y, ly, ey⟩ := pick_name r0 r1
    refine ⟨_, ey, a, _, rfl, d3.sd, of_decide_eq_true e.2.2, fun r' S4 d4 r0' r1' => ?_⟩
    obtain ⟨y', ly', ey'⟩ := pick_name r0' r1'
    exact ⟨_, ey', o3, h _ _ ((d2.trans d3).trans d4) (.get ly ly')⟩
  rintro _ S2 ⟨rfl, d2⟩
  -- add, put, wait
  refine seq_join (fun env S => env = [some (.ref a), some (.lst (ow.map T.str)), some (.lst (bx.map T.str)), some (.lst (lk.map T.str)), some (.int b), some (.int kd), some v] ∧ Dr a S0 S) (fun k hk => and_pure (fun _ h => h) (fun _ _ h => h) ⟨fun e => ?_, fun _ => hk _ _ ⟨rfl, d2⟩⟩) ?_
  · have e1 : kd < 7 := by rw [Bool.and_eq_true] at e; exact of_decide_eq_true e.1
    have e2 := tru e
    have wd : ∃ z : Str, (∀ y ∈ bx, SN ow bx lk b (.tup [.str z, .str y, v])) ∧ atI [T.str "add", T.str "put", T.str "wait"] (kd / 3) = some (.str z) := by
      have : kd / 3 = 0 ∨ kd / 3 = 1 ∨ kd / 3 = 2 := by omega
      rcases this with q | q | q <;> rw [q]
      · exact ⟨"add", fun y hy => .add hy vv, rfl⟩
      · exact ⟨"put", fun y hy => .put hy vv, rfl⟩
      · exact ⟨"wait", fun y hy => .wait hy vv, rfl⟩
    obtain ⟨z, lz, ez⟩ := wd
    refine ⟨o3, ⟨by decide, by decide⟩, _, ez, a, _, rfl, d2.sd, e2, fun r S3 d3 r0 r1 => ?_⟩
    obtain ⟨y, ly, ey⟩ := pick_name r0 r1
    exact ⟨_, ey, o3, h _ _ (d2.trans d3) (lz y ly)⟩
  rintro _ S2 ⟨rfl, d2⟩
  -- set
  refine seq_join (fun env S => env = [some (.ref a), some (.lst (ow.map T.str)), some (.lst (bx.map T.str)), some (.lst (lk.map T.str)), some (.int b), some (.int kd), some v] ∧ Dr a S0 S) (fun k hk => and_pure (fun _ h => h) (fun _ _ h => h) ⟨fun e => ?_, fun _ => hk _ _ ⟨rfl, d2⟩⟩) ?_
  · have e2 := tru e
    refine ⟨a, _, rfl, d2.sd, e2, fun r S3 d3 r0 r1 => ?_⟩
    obtain ⟨y, ly, ey⟩ := pick_name r0 r1
    exact ⟨_, ey, o3, h _ _ (d2.trans d3) (.set ly vv)⟩
  rintro _ S2 ⟨rfl, d2⟩
  -- check
  refine seq_join (fun env S => env = [some (.ref a), some (.lst (ow.map T.str)), some (.lst (bx.map T.str)), some (.lst (lk.map T.str)), some (.int b), some (.int kd), some v] ∧ Dr a S0 S) (fun k hk => ⟨fun _ => ⟨o2, h _ _ d2 (.check vv)⟩, fun _ => hk _ _ ⟨rfl, d2⟩⟩) ?_
  rintro _ S2 ⟨rfl, d2⟩
  -- skip
  refine seq_join (fun env S => env = [some (.ref a), some (.lst (ow.map T.str)), some (.lst (bx.map T.str)), some (.lst (lk.map T.str)), some (.int b), some (.int kd), some v] ∧ Dr a S0 S) (fun k hk => ⟨fun _ => ⟨a, _, rfl, d2.sd, show (0 : Int) < b + 1 by omega, fun r S3 d3 r0 r1 => ⟨o2, h _ _ (d2.trans d3) (.skip r0 (by omega))⟩⟩, fun _ => hk _ _ ⟨rfl, d2⟩⟩) ?_
  rintro _ S2 ⟨rfl, d2⟩
  -- unless
  refine seq_join (fun env S => env = [some (.ref a), some (.lst (ow.map T.str)), some (.lst (bx.map T.str)), some (.lst (lk.map T.str)), some (.int b), some (.int kd), some v] ∧ Dr a S0 S) (fun k hk => ⟨fun _ => ⟨a, _, rfl, d2.sd, show (0 : Int) < b + 1 by omega, fun r S3 d3 r0 r1 => ⟨o3, h _ _ (d2.trans d3) (.unl vv r0 (by omega))⟩⟩, fun _ => hk _ _ ⟨rfl, d2⟩⟩) ?_
  rintro _ S2 ⟨rfl, d2⟩
  -- add one
  refine seq_join (fun env S => env = [some (.ref a), some (.lst (ow.map T.str)), some (.lst (bx.map T.str)), some (.lst (lk.map T.str)), some (.int b), some (.int kd), some v] ∧ Dr a S0 S) (fun k hk => ⟨fun e => ⟨a, _, rfl, d2.sd, of_decide_eq_true e, fun r S3 d3 r0 r1 => ?_⟩, fun _ => hk _ _ ⟨rfl, d2⟩⟩) ?_
  · obtain ⟨y, ly, ey⟩ := pick_name r0 r1
    exact ⟨_, ey, o2, o3, h _ _ (d2.trans d3) (.add ly (.num (by decide) (by decide)))⟩
  rintro _ S2 ⟨rfl, d2⟩
  exact ⟨a, 2, rfl, d2.sd, by decide, fun r S3 d3 r0 r1 => ⟨o2, o2, h _ _ (d2.trans d3) (.check (.num (by omega) (by omega)))⟩⟩
def StepsF (ow bx lk : List Str) (ss : List T) : Prop := ∀ (k : Nat) t, ss[k]? = some t → SN ow bx lk ((ss.length : Int) - 1 - k) t
def cSteps : List T → TH → UX → Prop := fun ts S Pp => ∃ (a : Addr) (ow bx lk : List Str) (most : Int), ts = [.ref a, .lst (ow.map T.str), .lst (bx.map T.str), .lst (lk.map T.str), .int most] ∧ Sd S a ∧ Nms ow ∧ Nms bx ∧ Nms lk ∧ 0 ≤ most ∧ most ≤ 80 ∧
  ∀ ss S', Dr a S S' → StepsF ow bx lk ss → (ss.length : Int) ≤ most → Pp (.tup ss) S'
theorem scSteps : FnScope ["_law_state_here", "_law_owns", "_law_boxes", "_law_locks", "_law_most", "_law_lock", "_law_box", "_law_put", "_law_amount"] ["_law_state_here", "_law_owns", "_law_boxes", "_law_locks", "_law_most"] (defScope (top 12)) := ⟨rfl, rfl, rfl, by decide +kernel, rfl, by decide +kernel, by decide +kernel⟩
theorem law_steps {m : Nat} (N : Nm P w K mg) (d : Stands K mg "_law_steps" ["_law_state_here", "_law_owns", "_law_boxes", "_law_locks", "_law_most"] (top 12)) (c_law_next : Has P w K mg base m "_law_next" ["_law_state_here", "_law_size"] cNext) (c_law_step : Has P w K mg base m "_law_step" ["_law_state_here", "_law_owns", "_law_boxes", "_law_locks", "_law_behind"] cLStep) : Has P w K mg base (m + 1) "_law_steps" ["_law_state_here", "_law_owns", "_law_boxes", "_law_locks", "_law_most"] cSteps := by
  have sc := scSteps
  refine has_of (k := m) d sc (fun ts S Pp h => ?_) fun cdv f A outer s H E hr => ?_
  · obtain ⟨a, ow, bx, lk, most, rfl, _⟩ := h; rfl
  have hu0 := hu0_of hr
  refine ⟨_, (uss_cons (us_if (UW.ut (uw_and (ut_gt (ue_len rfl N.len (ua_cons (uv 1) ua_nil)) ue_int) (uw_and (ut_gt (ue_len rfl N.len (ua_cons (uv 2) ua_nil)) ue_int) (uw_and (ut_gt (ue_len rfl N.len (ua_cons (uv 3) ua_nil)) ue_int) (uw_and (ut_gt (uv 4) ue_int) (uw_and1 (ut_eq hu0 (ue_calln c_law_next hr rfl (ua_cons (uv 0) (ua_cons ue_int ua_nil))) ue_int))))))) (uss_cons (us_set 5 sc.nd (ue_ix (uv 3) (ue_calln c_law_next hr rfl (ua_cons (uv 0) (ua_cons (ue_len rfl N.len (ua_cons (uv 3) ua_nil)) ua_nil)))))
      (uss_cons (us_set 6 sc.nd (ue_ix (uv 2) (ue_calln c_law_next hr rfl (ua_cons (uv 0) (ua_cons (ue_len rfl N.len (ua_cons (uv 2) ua_nil)) ua_nil)))))
      (uss_cons (us_set 7 sc.nd (ue_tup (ua_cons ue_str (ua_cons (uv 6) (ua_cons (ue_tup (ua_cons ue_str (ua_cons (ue_tup (ua_cons ue_str (ua_cons (ue_ix (uv 1) ue_int) ua_nil))) (ua_cons (ue_tup (ua_consts (Cs.s (Cs.i Cs.nil)))) ua_nil)))) ua_nil)))))
      (uss_one (us_ret (ue_tup (ua_cons (ue_tup (ua_cons ue_str (ua_cons (uv 5) ua_nil))) (ua_cons (ue_tup (ua_cons ue_str (ua_cons (ue_ix (uv 1) ue_int) (ua_cons (uv 6) ua_nil)))) (ua_cons (uv 7) (ua_cons (ue_tup (ua_cons ue_str (ua_cons (uv 5) ua_nil))) ua_nil)))))))))) uss_nil)
      (uss_cons (us_set 8 sc.nd (ue_calln c_law_next hr rfl (ua_cons (uv 0) (ua_cons (ue_plus (uv 4) ue_int) ua_nil))))
      (uss_one (us_ret (ue_tupleC rfl N.tuple (ua_cons (ue_comp1 0 ["_law_k", "_law_state_here", "_law_owns", "_law_boxes", "_law_locks", "_law_amount"] [none, some 0, some 1, some 2, some 3, some 8] rfl (ui_range1 rfl N.range (ua_cons (uv 8) ua_nil)) (fun _ _ _ _ _ => uts_nil) (fun _ _ _ _ _ => (ue_calln c_law_step hr rfl (ua_cons (uv 1) (ua_cons (uv 2) (ua_cons (uv 3) (ua_cons (uv 4) (ua_cons (ue_sub (ue_sub (uv 5) ue_int) (uv 0)) ua_nil)))))))) ua_nil)))))), fun ts S0 Pp h => ?_⟩
  obtain ⟨a, ow, bx, lk, most, rfl, hs, now, nbx, nlk, hm0, hm, h⟩ := h
  have o2 : 2 ≤ sizeLine := by decide
  have o3 : 3 ≤ sizeLine := by decide
  have o4 : 4 ≤ sizeLine := by decide
  refine seq_join (fun env S => env = [some (.ref a), some (.lst (ow.map T.str)), some (.lst (bx.map T.str)), some (.lst (lk.map T.str)), some (.int most), none, none, none, none] ∧ Dr a S0 S) (fun k hk => ?_) ?_
  · refine and_keep (R := Dr a S0) (C := _ ∧ _ ∧ _ ∧ True) (fun _ h => h) (Dr.rfl hs) (fun _ P hP => and_keep (R := Dr a S0) (C := _ ∧ _ ∧ True) (fun _ h => h) (Dr.rfl hs) (fun _ P hP => and_keep (R := Dr a S0) (C := _ ∧ True) (fun _ h => h) (Dr.rfl hs) (fun _ P hP => and_keep (R := Dr a S0) (C := True) (fun _ h => h) (Dr.rfl hs) (fun _ P hP => ⟨a, 4, rfl, hs, by decide, fun r S1 d1 _ _ => hP _ S1 d1 fun _ => trivial⟩) hP) hP) hP) fun b S1 d1 hb => ⟨fun e => ?_, fun _ => hk _ _ ⟨rfl, d1⟩⟩
    obtain ⟨c1, c2, c3, c4, _⟩ := hb e
    have c1 := of_decide_eq_true c1
    have c2 := of_decide_eq_true c2
    have c3 := of_decide_eq_true c3
    have c4 := of_decide_eq_true c4
    have e0 : ∃ z ∈ ow, atI (ow.map T.str) (0 : Int) = some (.str z) := pick_name (by decide) c1
    obtain ⟨z, hz, ez⟩ := e0
    refine seq_join (fun env S => ∃ l, env = [some (.ref a), some (.lst (ow.map T.str)), some (.lst (bx.map T.str)), some (.lst (lk.map T.str)), some (.int most), some (.str l), none, none, none] ∧ Dr a S0 S ∧ l ∈ lk) (fun k hk => ⟨a, _, rfl, d1.sd, c3, fun r S2 d2 r0 r1 => ?_⟩) ?_
    · obtain ⟨l, hl, el⟩ := pick_name r0 r1
      exact ⟨_, el, hk _ _ ⟨l, rfl, d1.trans d2, hl⟩⟩
    rintro _ S2 ⟨l, rfl, d2, hl⟩
    refine seq_join (fun env S => ∃ y, env = [some (.ref a), some (.lst (ow.map T.str)), some (.lst (bx.map T.str)), some (.lst (lk.map T.str)), some (.int most), some (.str l), some (.str y), none, none] ∧ Dr a S0 S ∧ y ∈ bx) (fun k hk => ⟨a, _, rfl, d2.sd, c2, fun r S3 d3 r0 r1 => ?_⟩) ?_
    · obtain ⟨y, hy, ey⟩ := pick_name r0 r1
      exact ⟨_, ey, hk _ _ ⟨y, rfl, d2.trans d3, hy⟩⟩
    rintro _ S3 ⟨y, rfl, d3, hy⟩
    refine seq_join (fun env S => env = [some (.ref a), some (.lst (ow.map T.str)), some (.lst (bx.map T.str)), some (.lst (lk.map T.str)), some (.int most), some (.str l), some (.str y), some (.tup [.str "put", .str y, .tup [.str "plus", .tup [.str "own", .str z], .tup [.str "number", .int 1]]]), none] ∧ Dr a S0 S) (fun k hk => ⟨_, ez, o2, o2, o3, o3, hk _ _ ⟨rfl, d3⟩⟩) ?_
    rintro _ S4 ⟨rfl, d4⟩
    refine ⟨o2, _, ez, o3, o2, o4, h _ _ d4 (fun k t et => ?_) (show (4 : Int) ≤ most by omega)⟩
    rcases k with _ | _ | _ | _ | k
    · simp at et; rw [← et]; exact .take hl
    · simp at et; rw [← et]; exact .get hz hy
    · simp at et; rw [← et]; exact .put hy (.two (.inl rfl) (.own hz) (.num (by decide) (by decide)))
    · simp at et; rw [← et]; exact .give hl
    · simp at et
  rintro _ S1 ⟨rfl, d1⟩
  refine seq_join (fun env S => ∃ n : Int, env = [some (.ref a), some (.lst (ow.map T.str)), some (.lst (bx.map T.str)), some (.lst (lk.map T.str)), some (.int most), none, none, none, some (.int n)] ∧ Dr a S0 S ∧ 0 ≤ n ∧ n ≤ most) (fun k hk => ⟨a, most + 1, rfl, d1.sd, by omega, fun r S2 d2 r0 r1 => hk _ _ ⟨r, rfl, d1.trans d2, r0, by omega⟩⟩) ?_
  rintro _ S2 ⟨n, rfl, d2, n0, n1⟩
  refine comp_inv (rngT n.toNat) (fun k acc S => Dr a S0 S ∧ acc.length = k ∧ ∀ (j : Nat) t, acc[j]? = some t → SN ow bx lk (n - 1 - j) t) (fun k hk => ⟨by omega, by omega, hk⟩) (by rw [rngT_length]; exact sz1000 (by omega)) ⟨d2, rfl, fun j t e => (by simp at e)⟩ ?_ ?_
  · rintro k x acc S ek ⟨d3, lk', ha⟩
    have hk : k < n.toNat := by
      have := (List.getElem?_eq_some_iff.mp ek).1
      rw [rngT_length] at this
      exact this
    rw [rngT_get hk] at ek
    cases ek
    refine ⟨fun _ => ⟨a, ow, bx, lk, n - 1 - k, rfl, d3.sd, now, nbx, nlk, by omega, by omega, fun t S4 d4 sn => ⟨d3.trans d4, by rw [List.length_append, lk']; rfl, fun j u eu => ?_⟩⟩, fun e => (by cases e)⟩
    by_cases hj : j < acc.length
    · rw [List.getElem?_append_left hj] at eu; exact ha j u eu
    · rw [List.getElem?_append_right (by omega)] at eu
      have : j - acc.length = 0 := by
        have := (List.getElem?_eq_some_iff.mp eu).1
        simp at this
        omega
      rw [this] at eu
      simp at eu
      rw [← eu]
      have : j = k := by omega
      rw [this]
      exact sn
  · rintro acc S ⟨d3, la, ha⟩
    rw [rngT_length] at la
    refine h _ _ d3 (fun k t et => ?_) (by omega)
    have q := ha k t et
    rw [la]
    have e : ((n.toNat : Nat) : Int) - 1 - k = n - 1 - k := by omega
    rw [e]
    exact q
end
end K11
end
section
set_option Elab.async false
set_option linter.all false
set_option maxRecDepth 100000
set_option maxHeartbeats 4000000
namespace K11
open PySem PySem.Spec PyProof.Rows L2 TL
abbrev Prg := Str × List (Str × Int) × List T
def pairT (p : Str × Int) : T := .tup [.str p.1, .int p.2]
def progT (p : Prg) : T := .tup [.str p.1, .tup (p.2.1.map pairT), .tup p.2.2]
def Num (size : Int) (os : List (Str × Int)) : Prop := ∀ q ∈ os, nameOk q.1 = true ∧ 0 ≤ q.2 ∧ q.2 < size
structure PV (size : Int) (bn ls : List Str) (p : Prg) : Prop where
  nm : nameOk p.1 = true
  few : p.2.1.length ≤ 4
  num : Num size p.2.1
  nd : (p.2.1.map (·.1)).Nodup
  short : p.2.2.length ≤ 30
  steps : StepsF (p.2.1.map (·.1)) bn ls p.2.2
structure LV (size : Int) (bs : List (Str × Int)) (ls : List Str) (ps : List Prg) (ws : List Int) (cs : List T) : Prop where
  s2 : 2 ≤ size
  s16 : size ≤ 16
  bn : bs.length ≤ 8
  bo : Num size bs
  ln : ls.length ≤ 4
  lo : ∀ z ∈ ls, nameOk z = true
  nd : (bs.map (·.1) ++ ls).Nodup
  p1 : 1 ≤ ps.length
  p4 : ps.length ≤ 4
  po : ∀ p ∈ ps, PV size (bs.map (·.1)) ls p
  pd : (ps.map (·.1)).Nodup
  w1 : 1 ≤ ws.length
  w6 : ws.length ≤ 6
  wo : ∀ x ∈ ws, 0 ≤ x ∧ x < ps.length
  cn : cs.length ≤ 4
  co : ∀ t ∈ cs, VF [] (bs.map (·.1)) 5 t
end K11
end
section
set_option Elab.async false
set_option linter.all false
set_option maxRecDepth 100000
set_option maxHeartbeats 4000000
namespace K11
open PySem PySem.Spec PyProof.Rows L2 TL
seal UE UT UA US USs UI UG UO UW PTs uComp uOr uAnd uSeq

/-- the cells that were there are there -/
structure Dx (a : Addr) (S S' : TH) : Prop where
  same : ∀ b c, b ≠ a → S b = some c → S' b = some c
  sd : Sd S' a
theorem Dx.of {a : Addr} {S S' : TH} (d : Dr a S S') : Dx a S S' := ⟨fun b c hb e => (d.same b hb).trans e, d.sd⟩
theorem Dx.trans {a : Addr} {S S1 S2 : TH} (x : Dx a S S1) (y : Dx a S1 S2) : Dx a S S2 := ⟨fun b c hb e => y.same b c hb (x.same b c hb e), y.sd⟩
theorem Dx.dr {a : Addr} {S S1 S2 : TH} (x : Dx a S S1) (y : Dr a S1 S2) : Dx a S S2 := x.trans (.of y)
section
variable {P : Program} {w : World} {K : PySem.W.Frag} {mg : Str → Option Value} {base : Heap}
def loomT (size : Int) (bs : List (Str × Int)) (ls : List Str) (ps : List Prg) (ws : List Int) (cs : List T) : List T := [.int size, .tup (bs.map pairT), .tup (ls.map T.str), .tup (ps.map progT), .tup (ws.map T.int), .tup cs]
def cLoom : List T → TH → UX → Prop := fun ts S Pp => ∃ (a : Addr) (most workers : Int), ts = [.ref a, .int most, .int workers] ∧ Sd S a ∧ 0 ≤ most ∧ most ≤ 30 ∧ 1 ≤ workers ∧ workers ≤ 6 ∧ ∀ size bs ls ps ws cs S', Dx a S S' → LV size bs ls ps ws cs → Pp (.tup (loomT size bs ls ps ws cs)) S'
theorem scLoom : FnScope ["_law_state_here", "_law_most", "_law_workers", "_law_size", "_law_names_here", "_law_boxes", "_law_locks", "_law_programs", "_law_k", "_law_owns", "_law_steps_here", "_law_hands", "_law_claims", "_law_pairs"] ["_law_state_here", "_law_most", "_law_workers"] (defScope (top 13)) := ⟨rfl, rfl, rfl, by decide +kernel, rfl, by decide +kernel, by decide +kernel⟩
/-- pairs of names and drawn numbers -/
theorem drawn_pairs {pick : List (Option Nat)} {ti : UTA} {env : Ev} {S0 : TH} {a : Addr} {size : Int} {gg : UTG} {tc : UTT} {te : UTE} {P : UX} {zs : List Str} (nz : Nms zs) (sd : Sd S0 a) (hti : ∀ k : List T → TH → Prop, k (zs.map T.str) S0 → ti env S0 k)
    (turn : ∀ (z : Str) S (A : UX) (B : TH → Prop), Sd S a → (∀ (r : Int) S', Dr a S S' → 0 ≤ r → r < size → A (pairT (z, r)) S') → gg (.str z) (evOf pick env) S fun env' S' => tc env' S' fun b S2 => (b = true → te env' S2 A) ∧ (b = false → B S2))
    (done : ∀ os S, Dr a S0 S → Num size os → os.map (·.1) = zs → P (.lst (os.map pairT)) S) : uComp pick ti gg tc te env S0 P := by
  refine comp_inv (zs.map T.str) (fun k acc S => Dr a S0 S ∧ ∃ os : List (Str × Int), acc = os.map pairT ∧ Num size os ∧ os.map (·.1) = zs.take k) hti (by rw [List.length_map]; exact sz1000 (by have := nz.few; omega)) ⟨Dr.rfl sd, [], rfl, (fun _ z => by cases z), rfl⟩ ?_ ?_
  · rintro k x acc S e ⟨d1, os, rfl, hn, hk⟩
    have ek : zs[k]? ≠ none := fun z => by rw [List.getElem?_map, z] at e; cases e
    obtain ⟨z, ez⟩ := Option.ne_none_iff_exists'.mp ek
    have ex : x = .str z := by rw [List.getElem?_map, ez] at e; exact (Option.some.inj e).symm
    subst ex
    refine turn z S _ _ d1.sd fun r S' d2 r0 r1 => ⟨d1.trans d2, os ++ [(z, r)], ?_, fun q hq => ?_, ?_⟩
    · rw [List.map_append]; rfl
    · rcases List.mem_append.mp hq with m | m
      · exact hn q m
      · rw [List.mem_singleton.mp m]
        exact ⟨nz.ok z (List.mem_of_getElem? ez), r0, r1⟩
    · rw [List.map_append, hk, List.take_add_one, ez]; rfl
  · rintro acc S ⟨d1, os, rfl, hn, hk⟩
    rw [List.length_map, List.take_length] at hk
    exact done os S d1 hn hk
def el (a : Addr) (most workers size : Int) (zs bx lk : List Str) (e7 e8 e9 e10 e11 e12 e13 : Option T) : Ev := [some (.ref a), some (.int most), some (.int workers), some (.int size), some (.lst (zs.map T.str)), some (.lst (bx.map T.str)), some (.lst (lk.map T.str)), e7, e8, e9, e10, e11, e12, e13]
theorem law_loom {m : Nat} (N : Nm P w K mg) (d : Stands K mg "_law_loom" ["_law_state_here", "_law_most", "_law_workers"] (top 13)) (c_law_next : Has P w K mg base m "_law_next" ["_law_state_here", "_law_size"] cNext) (c_law_names : Has P w K mg base m "_law_names" ["_law_state_here", "_law_amount"] cNames) (c_law_steps : Has P w K mg base m "_law_steps" ["_law_state_here", "_law_owns", "_law_boxes", "_law_locks", "_law_most"] cSteps) (c_law_value : Has P w K mg base m "_law_value" ["_law_state_here", "_law_deep", "_law_owns", "_law_boxes"] (cVals 5)) : Has P w K mg base (m + 1) "_law_loom" ["_law_state_here", "_law_most", "_law_workers"] cLoom := by
  have sc := scLoom
  refine has_of (k := m) d sc (fun ts S Pp h => ?_) fun cdv f A outer s H E hr => ?_
  · obtain ⟨a, most, workers, rfl, _⟩ := h; rfl
  have hu0 := hu0_of hr
  refine ⟨_, (uss_cons (us_set 3 sc.nd (ue_ix (ue_lst (ua_cons ue_int (ua_cons ue_int (ua_cons ue_int (ua_cons ue_int (ua_cons (ue_plus ue_int (ue_calln c_law_next hr rfl (ua_cons (uv 0) (ua_cons ue_int ua_nil)))) ua_nil)))))) (ue_calln c_law_next hr rfl (ua_cons (uv 0) (ua_cons ue_int ua_nil)))))
      (uss_cons (us_set 4 sc.nd (ue_calln c_law_names hr rfl (ua_cons (uv 0) (ua_cons ue_int ua_nil))))
      (uss_cons (us_set 5 sc.nd (ue_sl (uv 4) uo_none (uo_some (ue_ix (ue_lst (ua_consts (Cs.i (Cs.i (Cs.i (Cs.i Cs.nil)))))) (ue_div (ue_calln c_law_next hr rfl (ua_cons (uv 0) (ua_cons ue_int ua_nil))) ue_int)))))
      (uss_cons (us_set 6 sc.nd (ue_sl (ue_sl (uv 4) (uo_some ue_int) uo_none) uo_none (uo_some (ue_calln c_law_next hr rfl (ua_cons (uv 0) (ua_cons ue_int ua_nil))))))
      (uss_cons (us_set 7 sc.nd (ue_lstC ua_nil))
      (uss_cons (us_for PassesOwn.never rfl (ui_range1 rfl N.range (ua_cons (ue_plus ue_int (ue_div (ue_calln c_law_next hr rfl (ua_cons (uv 0) (ua_cons ue_int ua_nil))) ue_int)) ua_nil)) (ug_name 8 sc.nd) (uss_cons (us_set 9 sc.nd (ue_calln c_law_names hr rfl (ua_cons (uv 0) (ua_cons (ue_calln c_law_next hr rfl (ua_cons (uv 0) (ua_cons ue_int ua_nil))) ua_nil))))
      (uss_cons (us_set 10 sc.nd (ue_calln c_law_steps hr rfl (ua_cons (uv 0) (ua_cons (uv 9) (ua_cons (uv 5) (ua_cons (uv 6) (ua_cons (uv 1) ua_nil)))))))
      (uss_one (us_expr (ue_append (uv 7) (ua_cons (ue_tup (ua_cons (ue_ix (uv 4) (ue_sub ue_int (uv 8))) (ua_cons (ue_tupleC rfl N.tuple (ua_cons (ue_comp1 0 ["_law_own", "_law_state_here", "_law_size"] [none, some 0, some 3] rfl (ui_any (uv 9)) (fun _ _ _ _ _ => uts_nil) (fun _ _ _ _ _ => (ue_tup (ua_cons (uv 0) (ua_cons (ue_calln c_law_next hr rfl (ua_cons (uv 1) (ua_cons (uv 2) ua_nil))) ua_nil))))) ua_nil)) (ua_cons (uv 10) ua_nil)))) ua_nil)))))))
      (uss_cons (us_setComp1 11 sc.nd 0 ["_law_k", "_law_state_here", "_law_programs"] [none, some 0, some 7] rfl (ui_range1 rfl N.range (ua_cons (ue_plus ue_int (ue_calln c_law_next hr rfl (ua_cons (uv 0) (ua_cons (uv 2) ua_nil)))) ua_nil)) (fun _ _ _ _ _ => uts_nil) (fun _ _ _ _ _ => (ue_calln c_law_next hr rfl (ua_cons (uv 1) (ua_cons (ue_len rfl N.len (ua_cons (uv 2) ua_nil)) ua_nil)))))
      (uss_cons (us_if (ut_eq hu0 (ue_calln c_law_next hr rfl (ua_cons (uv 0) (ua_cons ue_int ua_nil))) ue_int) (uss_one (us_set 11 sc.nd (ue_rep (ue_lst (ua_cons (ue_ix (uv 11) ue_int) ua_nil)) (ue_len rfl N.len (ua_cons (uv 11) ua_nil))))) uss_nil)
      (uss_cons (us_setComp1 12 sc.nd 0 ["_law_k", "_law_state_here", "_law_boxes"] [none, some 0, some 5] rfl (ui_range1 rfl N.range (ua_cons (ue_div (ue_calln c_law_next hr rfl (ua_cons (uv 0) (ua_cons ue_int ua_nil))) ue_int) ua_nil)) (fun _ _ _ _ _ => uts_nil) (fun _ _ _ _ _ => (ue_calln c_law_value hr rfl (ua_cons (uv 1) (ua_cons ue_int (ua_cons (ue_lst ua_nil) (ua_cons (uv 2) ua_nil)))))))
      (uss_cons (us_set 13 sc.nd (ue_tupleC rfl N.tuple (ua_cons (ue_comp1 0 ["_law_box", "_law_state_here", "_law_size"] [none, some 0, some 3] rfl (ui_any (uv 5)) (fun _ _ _ _ _ => uts_nil) (fun _ _ _ _ _ => (ue_tup (ua_cons (uv 0) (ua_cons (ue_calln c_law_next hr rfl (ua_cons (uv 1) (ua_cons (uv 2) ua_nil))) ua_nil))))) ua_nil)))
      (uss_one (us_ret (ue_tup (ua_cons (uv 3) (ua_cons (uv 13) (ua_cons (ue_tupleC rfl N.tuple (ua_cons (uv 6) ua_nil)) (ua_cons (ue_tupleC rfl N.tuple (ua_cons (uv 7) ua_nil)) (ua_cons (ue_tupleC rfl N.tuple (ua_cons (uv 11) ua_nil)) (ua_cons (ue_tupleC rfl N.tuple (ua_cons (uv 12) ua_nil)) ua_nil))))))))))))))))))), fun ts S0 Pp h => ?_⟩
  obtain ⟨a, most, workers, rfl, hs, hm0, hm, hw1, hw6, h⟩ := h
  have o2 : 2 ≤ sizeLine := by decide
  have o3 : 3 ≤ sizeLine := by decide
  -- the size
  refine seq_join (fun env S => ∃ size : Int, env = [some (.ref a), some (.int most), some (.int workers), some (.int size), none, none, none, none, none, none, none, none, none, none] ∧ Dx a S0 S ∧ 2 ≤ size ∧ size ≤ 16) (fun k hk => ⟨a, 15, rfl, hs, by decide, fun r S1 d1 r0 r1 => ⟨show 5 ≤ sizeLine by decide, a, 5, rfl, d1.sd, by decide, fun q S2 d2 q0 q1 => ?_⟩⟩) ?_
  · have pk : ∃ i : Int, atI [T.int 2, T.int 3, T.int 4, T.int 5, T.int (2 + r)] q = some (.int i) ∧ 2 ≤ i ∧ i ≤ 16 := by
      have : q = 0 ∨ q = 1 ∨ q = 2 ∨ q = 3 ∨ q = 4 := by omega
      rcases this with rfl | rfl | rfl | rfl | rfl
      · exact ⟨2, rfl, by decide, by decide⟩
      · exact ⟨3, rfl, by decide, by decide⟩
      · exact ⟨4, rfl, by decide, by decide⟩
      · exact ⟨5, rfl, by decide, by decide⟩
      · exact ⟨2 + r, rfl, by omega, by omega⟩
    obtain ⟨i, ei, i0, i1⟩ := pk
    exact ⟨_, ei, hk _ _ ⟨i, rfl, (Dx.of d1).dr d2, i0, i1⟩⟩
  rintro _ S1 ⟨size, rfl, x1, s2, s16⟩
  -- the names
  refine seq_join (fun env S => ∃ zs : List Str, env = [some (.ref a), some (.int most), some (.int workers), some (.int size), some (.lst (zs.map T.str)), none, none, none, none, none, none, none, none, none] ∧ Dx a S0 S ∧ zs.length = 5 ∧ (∀ z ∈ zs, nameOk z = true) ∧ zs.Nodup) (fun k hk => ⟨a, 5, rfl, x1.sd, by decide, fun zs S2 d2 hz ok nd => hk _ _ ⟨zs, rfl, x1.dr d2, hz, ok, nd⟩⟩) ?_
  rintro _ S2 ⟨zs, rfl, x2, hz, ok, nd⟩
  have nz : Nms zs := ⟨by omega, ok⟩
  refine seq_join (fun env S => ∃ bx : List Str, env = [some (.ref a), some (.int most), some (.int workers), some (.int size), some (.lst (zs.map T.str)), some (.lst (bx.map T.str)), none, none, none, none, none, none, none, none] ∧ Dx a S0 S ∧ bx.Sublist (zs.take 3)) (fun k hk => ⟨show 4 ≤ sizeLine by decide, a, 7, rfl, x2.sd, by decide, fun r S3 d3 r0 r1 => ⟨⟨by decide, by decide⟩, ?_⟩⟩) ?_
  · have pk : ∃ i : Int, atI [T.int 1, T.int 2, T.int 3, T.int 0] (r / 2) = some (.int i) ∧ 0 ≤ i ∧ i ≤ 3 := by
      have : r / 2 = 0 ∨ r / 2 = 1 ∨ r / 2 = 2 ∨ r / 2 = 3 := by omega
      rcases this with q | q | q | q <;> rw [q]
      · exact ⟨1, rfl, by decide, by decide⟩
      · exact ⟨2, rfl, by decide, by decide⟩
      · exact ⟨3, rfl, by decide, by decide⟩
      · exact ⟨0, rfl, by decide, by decide⟩
    obtain ⟨i, ei, i0, i1⟩ := pk
    refine ⟨_, ei, hk _ _ ⟨cutA zs none (some i), by rw [← cut_map]; rfl, x2.dr d3, ?_⟩⟩
    match zs, hz with
    | [z0, z1, z2, z3, z4], _ =>
      have : i = 0 ∨ i = 1 ∨ i = 2 ∨ i = 3 := by omega
      rcases this with rfl | rfl | rfl | rfl
      · exact List.nil_sublist _
      · exact (List.nil_sublist _).cons₂ z0
      · exact ((List.nil_sublist _).cons₂ z1).cons₂ z0
      · exact List.Sublist.refl _
  rintro _ S3 ⟨bx, rfl, x3, hbx⟩
  refine seq_join (fun env S => ∃ lk : List Str, env = el a most workers size zs bx lk none none none none none none none ∧ Dx a S0 S ∧ lk.Sublist (zs.drop 3)) (fun k hk => ⟨a, 3, rfl, x3.sd, by decide, fun r S4 d4 r0 r1 => hk _ _ ⟨cutA (cutA zs (some 3) none) none (some r), by unfold el; rw [← cut_map, ← cut_map]; rfl, x3.dr d4, ?_⟩⟩) ?_
  · match zs, hz with
    | [z0, z1, z2, z3, z4], _ =>
      have : r = 0 ∨ r = 1 ∨ r = 2 := by omega
      rcases this with rfl | rfl | rfl
      · exact List.nil_sublist _
      · exact (List.nil_sublist _).cons₂ z3
      · exact List.Sublist.refl _
  rintro _ S4 ⟨lk, rfl, x4, hlk⟩
  have nbl : (bx ++ lk).Nodup := by
    have q := hbx.append hlk
    rw [List.take_append_drop] at q
    exact nd.sublist q
  have nbx : Nms bx := ⟨by have := hbx.length_le; rw [List.length_take] at this; omega, fun z hz' => ok z (List.mem_of_mem_take (hbx.subset hz'))⟩
  have nlk : Nms lk := ⟨by have := hlk.length_le; rw [List.length_drop] at this; omega, fun z hz' => ok z (List.mem_of_mem_drop (hlk.subset hz'))⟩
  have lbx : bx.length ≤ 3 := by have := hbx.length_le; rw [List.length_take] at this; omega
  have llk : lk.length ≤ 2 := by have := hlk.length_le; rw [List.length_drop] at this; omega
  -- the programs
  refine seq_join (fun env S => ∃ p : Addr, env = el a most workers size zs bx lk (some (.ref p)) none none none none none none ∧ Dx a S0 S ∧ S p = some (.lst []) ∧ p ≠ a ∧ ∀ c, ¬ S0 p = some c) (fun k hk => ⟨show 0 ≤ sizeLine by decide, fun p hp => ?_⟩) ?_
  · have np : p ≠ a := fun z => by obtain ⟨x, q⟩ := x4.sd; rw [z, q] at hp; cases hp
    refine hk _ _ ⟨p, rfl, ⟨fun b c hb e => ?_, ?_⟩, updT_same, np, fun c e => by rw [x4.same p c np e] at hp; cases hp⟩
    · have q := x4.same b c hb e
      rw [updT_ne (fun z => by rw [z, hp] at q; cases q)]
      exact q
    · obtain ⟨x, q⟩ := x4.sd
      exact ⟨x, by rw [updT_ne (Ne.symm np)]; exact q⟩
  rintro _ S5 ⟨p, rfl, x5, hp5, np, h0p⟩
  refine seq_join (fun env S => ∃ (ps : List Prg) (e8 e9 e10 : Option T), env = el a most workers size zs bx lk (some (.ref p)) e8 e9 e10 none none none ∧ Dx a S0 S ∧ S p = some (.lst (ps.map progT)) ∧ 1 ≤ ps.length ∧ ps.length ≤ 3 ∧ (∀ q ∈ ps, PV size bx lk q) ∧ (ps.map (·.1)).Nodup) (fun k hk => ⟨a, 5, rfl, x5.sd, by decide, fun r S6 d6 r0 r1 => ⟨⟨by decide, by decide⟩, by omega, by omega, ?_⟩⟩) ?_
  · refine ⟨fun n env S => ∃ (ps : List Prg) (e8 e9 e10 : Option T), env = el a most workers size zs bx lk (some (.ref p)) e8 e9 e10 none none none ∧ Dx a S0 S ∧ S p = some (.lst (ps.map progT)) ∧ ps.length = n ∧ (∀ q ∈ ps, PV size bx lk q) ∧ ps.map (·.1) = zs.reverse.take n, ⟨[], none, none, none, rfl, x5.dr d6, (d6.same p np).trans hp5, rfl, (fun _ z => by cases z), rfl⟩, ?_, ?_⟩
    · rintro n x env S en ⟨ps, e8, e9, e10, rfl, x6, hp6, ln, hps, en'⟩
      have hn : n < (1 + r / 2).toNat := by
        have := (List.getElem?_eq_some_iff.mp en).1
        rw [rngT_length] at this
        exact this
      rw [rngT_get hn] at en
      cases en
      -- the owns
      refine seq_join (fun env S => ∃ ow : List Str, env = el a most workers size zs bx lk (some (.ref p)) (some (.int n)) (some (.lst (ow.map T.str))) e10 none none none ∧ Dx a S0 S ∧ S p = some (.lst (ps.map progT)) ∧ ow.length ≤ 2 ∧ Nms ow ∧ ow.Nodup) (fun k hk => ⟨a, 3, rfl, x6.sd, by decide, fun q S7 d7 q0 q1 => ⟨a, q.toNat, ?_, d7.sd, by omega, fun ow S8 d8 lo oo no => hk _ _ ⟨ow, rfl, (x6.dr d7).dr d8, (d8.same p np).trans ((d7.same p np).trans hp6), by omega, ⟨by omega, oo⟩, no⟩⟩⟩) ?_
      · rw [Int.toNat_of_nonneg q0]
      rintro _ S7 ⟨ow, rfl, x7, hp7, lo, now, ndo⟩
      refine seq_join (fun env S => ∃ ss : List T, env = el a most workers size zs bx lk (some (.ref p)) (some (.int n)) (some (.lst (ow.map T.str))) (some (.tup ss)) none none none ∧ Dx a S0 S ∧ S p = some (.lst (ps.map progT)) ∧ StepsF ow bx lk ss ∧ ss.length ≤ 30) (fun k hk => ⟨a, ow, bx, lk, most, rfl, x7.sd, now, nbx, nlk, hm0, by omega, fun ss S8 d8 sf ls => hk _ _ ⟨ss, rfl, x7.dr d8, (d8.same p np).trans hp7, sf, by omega⟩⟩) ?_
      rintro _ S8 ⟨ss, rfl, x8, hp8, sf, lss⟩
      obtain ⟨nm, hnm, enm⟩ : ∃ nm ∈ zs, atI (zs.map T.str) (4 - (n : Int)) = some (.str nm) := at_map T.str (by omega) (by omega)
      have erv : zs.reverse[n]? = some nm := by
        match zs, hz, enm with
        | [z0, z1, z2, z3, z4], _, enm =>
          have : n = 0 ∨ n = 1 ∨ n = 2 := by omega
          rcases this with rfl | rfl | rfl
          · exact congrArg (fun o : Option T => match o with | some (.str x) => some x | _ => none) enm
          · exact congrArg (fun o : Option T => match o with | some (.str x) => some x | _ => none) enm
          · exact congrArg (fun o : Option T => match o with | some (.str x) => some x | _ => none) enm
      refine ⟨⟨_, hp8⟩, _, enm, drawn_pairs (a := a) (size := size) now x8.sd (fun k hk => hk) (fun z S A B sd hA => ⟨fun _ => ⟨a, size, rfl, sd, by omega, fun r S' d' r0 r1 => ⟨o2, hA r S' d' r0 r1⟩⟩, fun e => (by cases e)⟩) fun os S9 d9 hn9 en9 => ?_⟩
      refine ⟨o3, _, (d9.same p np).trans hp8, by rw [List.length_map]; exact small1000 (by omega), ps ++ [(nm, os, ss)], _, _, _, rfl, ⟨fun b c hb e => ?_, ?_⟩, ?_, ?_, fun q hq => ?_, ?_⟩
      · have q := (x8.dr d9).same b c hb e
        by_cases bp : b = p
        · exact absurd (bp ▸ e) (h0p c)
        · rw [updT_ne bp]; exact q
      · obtain ⟨x, q⟩ := d9.sd
        exact ⟨x, by rw [updT_ne (Ne.symm np)]; exact q⟩
      · rw [updT_same, List.map_append]; rfl
      · rw [List.length_append, ln]; rfl
      · rcases List.mem_append.mp hq with z | z
        · exact hps q z
        · rw [List.mem_singleton.mp z]
          refine ⟨ok nm hnm, ?_, hn9, ?_, lss, ?_⟩
          · have := congrArg List.length en9
            rw [List.length_map] at this
            show os.length ≤ 4
            omega
          · show (os.map (·.1)).Nodup
            rw [en9]; exact ndo
          · show StepsF (os.map (·.1)) bx lk ss
            rw [en9]; exact sf
      · rw [List.map_append, en', List.take_add_one, erv]; rfl
    · rintro env S ⟨ps, e8, e9, e10, rfl, x6, hp6, ln, hps, en'⟩
      rw [rngT_length] at ln
      refine hk _ _ ⟨ps, e8, e9, e10, rfl, x6, hp6, by omega, by omega, hps, ?_⟩
      rw [en']
      exact (List.pairwise_reverse.mpr (nd.imp Ne.symm)).sublist (List.take_sublist _ _)
  rintro _ S6 ⟨ps, e8, e9, e10, rfl, x6, hp6, lp1, lp3, hps, ndp⟩
  -- the workers
  refine seq_join (fun env S => ∃ ws : List Int, env = el a most workers size zs bx lk (some (.ref p)) e8 e9 e10 (some (.lst (ws.map T.int))) none none ∧ Dx a S0 S ∧ S p = some (.lst (ps.map progT)) ∧ 1 ≤ ws.length ∧ ws.length ≤ 6 ∧ ∀ x ∈ ws, 0 ≤ x ∧ x < ps.length) (fun k hk => ?_) ?_
  · refine comp_draw (fun ts S1 => ∃ n : Nat, ts = rngT n ∧ 1 ≤ n ∧ n ≤ 6 ∧ Dx a S0 S1 ∧ S1 p = some (.lst (ps.map progT))) (fun k hk => ⟨a, workers, rfl, x6.sd, by omega, fun r S' d' r0 r1 => ⟨by omega, by omega, hk _ _ ⟨(1 + r).toNat, rfl, by omega, by omega, x6.dr d', (d'.same p np).trans hp6⟩⟩⟩) ?_
    rintro _ S1 ⟨n, rfl, n1, n6, y1, hq⟩
    refine ⟨by rw [rngT_length]; exact sz1000 (by omega), fun k acc S => Dx a S0 S ∧ S p = some (.lst (ps.map progT)) ∧ ∃ ws : List Int, acc = ws.map T.int ∧ ws.length = k ∧ ∀ x ∈ ws, 0 ≤ x ∧ x < ps.length, ⟨y1, hq, [], rfl, rfl, fun _ z => (by cases z)⟩, ?_, ?_⟩
    · rintro k x acc S ek ⟨y2, hq2, ws, rfl, lw, hw⟩
      refine ⟨fun _ => ⟨_, hq2, a, _, rfl, y2.sd, ?_, fun r S' d' r0 r1 => ⟨y2.dr d', (d'.same p np).trans hq2, ws ++ [r], ?_, ?_, fun x hx => ?_⟩⟩, fun e => (by cases e)⟩
      · rw [List.length_map]; omega
      · rw [List.map_append]; rfl
      · rw [List.length_append, lw]; rfl
      · rcases List.mem_append.mp hx with z | z
        · exact hw x z
        · rw [List.mem_singleton.mp z]
          rw [List.length_map] at r1
          exact ⟨r0, r1⟩
    · rintro acc S ⟨y2, hq2, ws, rfl, lw, hw⟩
      rw [rngT_length] at lw
      exact hk _ _ ⟨ws, rfl, y2, hq2, by omega, by omega, hw⟩
  rintro _ S7 ⟨ws, rfl, x7, hp7, lw1, lw6, hws⟩
  refine seq_join (fun env S => ∃ ws : List Int, env = el a most workers size zs bx lk (some (.ref p)) e8 e9 e10 (some (.lst (ws.map T.int))) none none ∧ Dx a S0 S ∧ S p = some (.lst (ps.map progT)) ∧ 1 ≤ ws.length ∧ ws.length ≤ 6 ∧ ∀ x ∈ ws, 0 ≤ x ∧ x < ps.length) (fun k hk => ⟨a, 2, rfl, x7.sd, by decide, fun r S8 d8 _ _ => ⟨fun _ => ?_, fun _ => hk _ _ ⟨ws, rfl, x7.dr d8, (d8.same p np).trans hp7, lw1, lw6, hws⟩⟩⟩) ?_
  · match ws, lw1, lw6, hws with
    | w0 :: wr, lw1, lw6, hws =>
      refine ⟨_, at0, show 1 ≤ sizeLine by decide, by omega, ?_, by simp, ?_⟩
      · rw [List.length_map]; omega
      · rw [rep_one]
        refine hk _ _ ⟨List.replicate (w0 :: wr).length w0, ?_, x7.dr d8, (d8.same p np).trans hp7, by rw [List.length_replicate]; exact lw1, by rw [List.length_replicate]; exact lw6, fun x hx => ?_⟩
        · rw [List.map_replicate]
          simp [el]
        · rw [List.eq_of_mem_replicate hx]
          exact hws w0 List.mem_cons_self
  clear hws lw1 lw6 ws
  rintro _ S8 ⟨ws, rfl, x8, hp8, lw1, lw6, hws⟩
  -- the claims
  refine seq_join (fun env S => ∃ (cs : List T) (e8' : Option T), env = el a most workers size zs bx lk (some (.ref p)) e8 e9 e10 (some (.lst (ws.map T.int))) (some (.lst cs)) none ∧ Dx a S0 S ∧ S p = some (.lst (ps.map progT)) ∧ cs.length ≤ 1 ∧ ∀ t ∈ cs, VF [] bx 5 t) (fun k hk => ?_) ?_
  · refine comp_draw (fun ts S1 => ∃ n : Nat, ts = rngT n ∧ n ≤ 1 ∧ Dx a S0 S1 ∧ S1 p = some (.lst (ps.map progT))) (fun k hk => ⟨a, 6, rfl, x8.sd, by decide, fun r S' d' r0 r1 => ⟨⟨by decide, by decide⟩, by omega, by omega, hk _ _ ⟨(r / 3).toNat, rfl, by omega, x8.dr d', (d'.same p np).trans hp8⟩⟩⟩) ?_
    rintro _ S1 ⟨n, rfl, n1, y1, hq⟩
    refine ⟨by rw [rngT_length]; exact sz1000 (by omega), fun k acc S => Dx a S0 S ∧ S p = some (.lst (ps.map progT)) ∧ acc.length = k ∧ ∀ t ∈ acc, VF [] bx 5 t, ⟨y1, hq, rfl, al_nil⟩, ?_, ?_⟩
    · rintro k x acc S ek ⟨y2, hq2, la, ha⟩
      exact ⟨fun _ => ⟨show 0 ≤ sizeLine by decide, 1, by decide, a, [], bx, rfl, y2.sd, ⟨by simp, fun _ z => by cases z⟩, nbx, fun t S' d' vf => ⟨y2.dr d', (d'.same p np).trans hq2, by rw [List.length_append, la]; rfl, al_app ha (al_cons (vf.up (by omega)) al_nil)⟩⟩, fun e => (by cases e)⟩
    · rintro acc S ⟨y2, hq2, la, ha⟩
      rw [rngT_length] at la
      exact hk _ _ ⟨acc, none, rfl, y2, hq2, by omega, ha⟩
  rintro _ S9 ⟨cs, _, rfl, x9, hp9, lc, hcs⟩
  refine seq_join (fun env S => ∃ os : List (Str × Int), env = el a most workers size zs bx lk (some (.ref p)) e8 e9 e10 (some (.lst (ws.map T.int))) (some (.lst cs)) (some (.tup (os.map pairT))) ∧ Dx a S0 S ∧ S p = some (.lst (ps.map progT)) ∧ Num size os ∧ os.map (·.1) = bx) (fun k hk => drawn_pairs (a := a) (size := size) nbx x9.sd (fun k hk => hk) (fun z S A B sd hA => ⟨fun _ => ⟨a, size, rfl, sd, by omega, fun r S' d' r0 r1 => ⟨o2, hA r S' d' r0 r1⟩⟩, fun e => (by cases e)⟩) fun os S' d' hn en => hk _ _ ⟨os, rfl, x9.dr d', (d'.same p np).trans hp9, hn, en⟩) ?_
  rintro _ S10 ⟨os, rfl, x10, hp10, hno, eno⟩
  subst eno
  refine ⟨_, hp10, show 6 ≤ sizeLine by decide, h size os lk ps ws cs S10 x10 ⟨s2, s16, ?_, hno, by omega, nlk.ok, nbl, lp1, by omega, hps, ndp, lw1, lw6, hws, by omega, hcs⟩⟩
  rw [List.length_map] at lbx
  omega
end
end K11
end
section
set_option Elab.async false
set_option linter.all false
set_option maxRecDepth 100000
set_option maxHeartbeats 4000000
namespace K11
open PySem PySem.Spec PyProof.Rows L2 TL
seal UE UT UA US USs UI UG UO UW PTs uComp uOr uAnd uSeq

theorem sIx_nat {l d n : Nat} (h : n ≤ l) : HT.sIx l d (some (n : Int)) = n := by
  simp only [HT.sIx]
  rw [if_neg (by omega), Int.toNat_natCast]
  exact Nat.min_eq_left h
theorem cut_take {α : Type} {zs : List α} {n : Nat} (h : n ≤ zs.length) : cutA zs none (some (n : Int)) = zs.take n := by
  unfold cutA
  rw [sIx_nat h]
  simp [HT.sIx]
theorem cut_drop {α : Type} {zs : List α} {n : Nat} (h : n ≤ zs.length) : cutA zs (some (n : Int)) none = zs.drop n := by
  unfold cutA
  rw [sIx_nat h]
  exact List.take_of_length_le (by rw [List.length_drop]; exact Nat.le_refl _)
theorem cut_mid {α : Type} {zs : List α} {n m : Nat} (h : n ≤ zs.length) (hm : m ≤ zs.length) : cutA zs (some (n : Int)) (some (m : Int)) = (zs.drop n).take (m - n) := by
  unfold cutA
  rw [sIx_nat h, sIx_nat hm]
section
variable {P : Program} {w : World} {K : PySem.W.Frag} {mg : Str → Option Value} {base : Heap}
def cGreat : List T → TH → UX → Prop := fun ts S Pp => ∃ a : Addr, ts = [.ref a] ∧ Sd S a ∧ ∀ size bs ls ps ws cs S', Dx a S S' → LV size bs ls ps ws cs → Pp (.tup (loomT size bs ls ps ws cs)) S'
theorem scGreat : FnScope ["_law_state_here", "_law_loom_here", "_law_names_here", "_law_size", "_law_boxes", "_law_owns", "_law_programs", "_law_k", "_law_steps_here", "_law_hands", "_law_claims"] ["_law_state_here"] (defScope (top 14)) := ⟨rfl, rfl, rfl, by decide +kernel, rfl, by decide +kernel, by decide +kernel⟩
theorem law_great {m : Nat} (N : Nm P w K mg) (d : Stands K mg "_law_great" ["_law_state_here"] (top 14)) (c_law_next : Has P w K mg base m "_law_next" ["_law_state_here", "_law_size"] cNext) (c_law_names : Has P w K mg base m "_law_names" ["_law_state_here", "_law_amount"] cNames) (c_law_steps : Has P w K mg base m "_law_steps" ["_law_state_here", "_law_owns", "_law_boxes", "_law_locks", "_law_most"] cSteps) (c_law_value : Has P w K mg base m "_law_value" ["_law_state_here", "_law_deep", "_law_owns", "_law_boxes"] (cVals 5)) (c_law_loom : Has P w K mg base m "_law_loom" ["_law_state_here", "_law_most", "_law_workers"] cLoom) : Has P w K mg base (m + 1) "_law_great" ["_law_state_here"] cGreat := by
  have sc := scGreat
  refine has_of (k := m) d sc (fun ts S Pp h => ?_) fun cdv f A outer s H E hr => ?_
  · obtain ⟨a, rfl, _⟩ := h; rfl
  have hu0 := hu0_of hr
  refine ⟨_, (uss_cons (us_set 1 sc.nd (ue_calln c_law_loom hr rfl (ua_cons (uv 0) (ua_consts (Cs.i (Cs.i Cs.nil))))))
      (uss_cons (us_if (ut_gt (ue_calln c_law_next hr rfl (ua_cons (uv 0) (ua_cons ue_int ua_nil))) ue_int) (uss_one (us_ret (uv 1))) uss_nil)
      (uss_cons (us_set 2 sc.nd (ue_calln c_law_names hr rfl (ua_cons (uv 0) (ua_cons ue_int ua_nil))))
      (uss_cons (us_set 3 sc.nd (ue_ix (uv 1) ue_int))
      (uss_cons (us_set 4 sc.nd (ue_tupleC rfl N.tuple (ua_cons (ue_comp1 0 ["_law_name", "_law_state_here", "_law_size"] [none, some 0, some 3] rfl (ui_any (ue_sl (uv 2) uo_none (uo_some ue_int))) (fun _ _ _ _ _ => uts_nil) (fun _ _ _ _ _ => (ue_tup (ua_cons (uv 0) (ua_cons (ue_calln c_law_next hr rfl (ua_cons (uv 1) (ua_cons (uv 2) ua_nil))) ua_nil))))) ua_nil)))
      (uss_cons (us_set 5 sc.nd (ue_ix (ue_lst (ua_cons (ue_sl (uv 2) (uo_some ue_int) (uo_some ue_int)) (ua_cons (ue_calln c_law_names hr rfl (ua_cons (uv 0) (ua_cons ue_int ua_nil))) (ua_cons (ue_plus (ue_sl (uv 2) uo_none (uo_some ue_int)) (ue_sl (uv 2) (uo_some ue_int) uo_none)) ua_nil)))) (ue_calln c_law_next hr rfl (ua_cons (uv 0) (ua_cons ue_int ua_nil)))))
      (uss_cons (us_set 6 sc.nd (ue_lstC ua_nil))
      (uss_cons (us_for PassesOwn.never rfl (ui_range1 rfl N.range (ua_cons ue_int ua_nil)) (ug_name 7 sc.nd) (uss_cons (us_set 8 sc.nd (ue_calln c_law_steps hr rfl (ua_cons (uv 0) (ua_cons (uv 5) (ua_cons (ue_sl (uv 2) uo_none (uo_some ue_int)) (ua_cons (ue_sl (uv 2) (uo_some ue_int) uo_none) (ua_cons ue_int ua_nil)))))))
      (uss_one (us_expr (ue_append (uv 6) (ua_cons (ue_tup (ua_cons (ue_ix (uv 2) (uv 7)) (ua_cons (ue_tupleC rfl N.tuple (ua_cons (ue_comp1 0 ["_law_own", "_law_state_here", "_law_size"] [none, some 0, some 3] rfl (ui_any (uv 5)) (fun _ _ _ _ _ => uts_nil) (fun _ _ _ _ _ => (ue_tup (ua_cons (uv 0) (ua_cons (ue_calln c_law_next hr rfl (ua_cons (uv 1) (ua_cons (uv 2) ua_nil))) ua_nil))))) ua_nil)) (ua_cons (uv 8) ua_nil)))) ua_nil))))))
      (uss_cons (us_set 9 sc.nd (ue_tupleC rfl N.tuple (ua_cons (ue_comp1 0 ["_law_k", "_law_state_here"] [none, some 0] rfl (ui_range1 rfl N.range (ua_cons ue_int ua_nil)) (fun _ _ _ _ _ => uts_nil) (fun _ _ _ _ _ => (ue_calln c_law_next hr rfl (ua_cons (uv 1) (ua_cons ue_int ua_nil))))) ua_nil)))
      (uss_cons (us_set 10 sc.nd (ue_tupleC rfl N.tuple (ua_cons (ue_comp1 0 ["_law_k", "_law_state_here", "_law_names_here"] [none, some 0, some 2] rfl (ui_range1 rfl N.range (ua_cons ue_int ua_nil)) (fun _ _ _ _ _ => uts_nil) (fun _ _ _ _ _ => (ue_calln c_law_value hr rfl (ua_cons (uv 1) (ua_cons ue_int (ua_cons (ue_lst ua_nil) (ua_cons (ue_sl (uv 2) uo_none (uo_some ue_int)) ua_nil))))))) ua_nil)))
      (uss_one (us_ret (ue_tup (ua_cons (uv 3) (ua_cons (uv 4) (ua_cons (ue_tupleC rfl N.tuple (ua_cons (ue_sl (uv 2) (uo_some ue_int) uo_none) ua_nil)) (ua_cons (ue_tupleC rfl N.tuple (ua_cons (uv 6) ua_nil)) (ua_cons (uv 9) (ua_cons (uv 10) ua_nil))))))))))))))))))), fun ts S0 Pp h => ?_⟩
  obtain ⟨a, rfl, hs, h⟩ := h
  have o2 : 2 ≤ sizeLine := by decide
  have o3 : 3 ≤ sizeLine := by decide
  refine seq_join (fun env S => ∃ (size : Int) (r : List T), env = [some (.ref a), some (.tup (.int size :: r)), none, none, none, none, none, none, none, none, none] ∧ Dx a S0 S ∧ 2 ≤ size ∧ size ≤ 16 ∧ ∀ S', Dx a S0 S' → Pp (.tup (.int size :: r)) S') (fun k hk => ⟨a, 30, 6, rfl, hs, by decide, by decide, by decide, by decide, fun size bs ls ps ws cs S1 x1 v => hk _ _ ⟨size, _, rfl, x1, v.s2, v.s16, fun S' x => h size bs ls ps ws cs S' x v⟩⟩) ?_
  rintro _ S1 ⟨size, r, rfl, x1, s2, s16, h1⟩
  refine seq_join (fun env S => env = [some (.ref a), some (.tup (.int size :: r)), none, none, none, none, none, none, none, none, none] ∧ Dx a S0 S) (fun k hk => ⟨a, 4, rfl, x1.sd, by decide, fun q S2 d2 _ _ => ⟨fun _ => h1 _ (x1.dr d2), fun _ => hk _ _ ⟨rfl, x1.dr d2⟩⟩⟩) ?_
  rintro _ S2 ⟨rfl, x2⟩
  clear x1 h1
  refine seq_join (fun env S => ∃ zs : List Str, env = [some (.ref a), some (.tup (.int size :: r)), some (.lst (zs.map T.str)), none, none, none, none, none, none, none, none] ∧ Dx a S0 S ∧ zs.length = 12 ∧ (∀ z ∈ zs, nameOk z = true) ∧ zs.Nodup) (fun k hk => ⟨a, 12, rfl, x2.sd, by decide, fun zs S3 d3 hz ok nd => hk _ _ ⟨zs, rfl, x2.dr d3, hz, ok, nd⟩⟩) ?_
  rintro _ S3 ⟨zs, rfl, x3, hz, ok, nd⟩
  refine seq_join (fun env S => env = [some (.ref a), some (.tup (.int size :: r)), some (.lst (zs.map T.str)), some (.int size), none, none, none, none, none, none, none] ∧ S3 = S) (fun k hk => ⟨_, at0, hk _ _ ⟨rfl, rfl⟩⟩) ?_
  rintro _ _ ⟨rfl, rfl⟩
  have nz : Nms zs := ⟨by omega, ok⟩
  let b8 := cutA zs none (some 8)
  let l4 := cutA zs (some 8) none
  have e8 : b8 = zs.take 8 := cut_take (n := 8) (by omega)
  have e4 : l4 = zs.drop 8 := cut_drop (n := 8) (by omega)
  have m8 : cutA (zs.map T.str) none (some 8) = b8.map T.str := cut_map _ _ _ _
  have m4 : cutA (zs.map T.str) (some 8) none = l4.map T.str := cut_map _ _ _ _
  have nb8 : Nms b8 := nz.cut _ _
  have nl4 : Nms l4 := nz.cut _ _
  have len8 : b8.length = 8 := by rw [e8, List.length_take]; omega
  have len4 : l4.length = 4 := by rw [e4, List.length_drop]; omega
  have nbl : (b8 ++ l4).Nodup := by rw [e8, e4, List.take_append_drop]; exact nd
  clear_value b8 l4
  refine seq_join (fun env S => ∃ bs : List (Str × Int), env = [some (.ref a), some (.tup (.int size :: r)), some (.lst (zs.map T.str)), some (.int size), some (.tup (bs.map pairT)), none, none, none, none, none, none] ∧ Dx a S0 S ∧ Num size bs ∧ bs.map (·.1) = b8) (fun k hk => drawn_pairs (a := a) (size := size) nb8 x3.sd (fun k hk => ?_) (fun z S A B sd hA => ⟨fun _ => ⟨a, size, rfl, sd, by omega, fun r S' d' r0 r1 => ⟨o2, hA r S' d' r0 r1⟩⟩, fun e => (by cases e)⟩) fun os S' d' hn en => hk _ _ ⟨os, rfl, x3.dr d', hn, en⟩) ?_
  · show k (cutA (zs.map T.str) none (some 8)) _
    rw [m8]; exact hk
  rintro _ S4 ⟨bs, rfl, x4, hbs, ebs⟩
  -- the owns
  refine seq_join (fun env S => ∃ ow : List Str, env = [some (.ref a), some (.tup (.int size :: r)), some (.lst (zs.map T.str)), some (.int size), some (.tup (bs.map pairT)), some (.lst (ow.map T.str)), none, none, none, none, none] ∧ Dx a S0 S ∧ Nms ow ∧ ow.Nodup ∧ ow.length ≤ 4) (fun k hk => ⟨a, 4, rfl, x4.sd, by decide, fun z4 S5 d5 l5 k5 n5 => ⟨?_, o3, a, 3, rfl, d5.sd, by decide, fun q S6 d6 q0 q1 => ?_⟩⟩) ?_
  · show (cutA (zs.map T.str) none (some 2)).length + (cutA (zs.map T.str) (some 10) none).length ≤ sizeLine
    rw [cut_map, cut_map, List.length_map, List.length_map]
    exact sz1000 (by have := cutN_len zs none (some 2); have := cutN_len zs (some 10) none; omega)
  · have : q = 0 ∨ q = 1 ∨ q = 2 := by omega
    have x6 := (x4.dr d5).dr d6
    rcases this with rfl | rfl | rfl
    · have e : cutA zs (some 5) (some 9) = (zs.drop 5).take 4 := cut_mid (n := 5) (m := 9) (by omega) (by omega)
      refine ⟨.lst (cutA (zs.map T.str) (some 5) (some 9)), rfl, hk _ _ ⟨cutA zs (some 5) (some 9), by rw [← cut_map]; rfl, x6, nz.cut _ _, ?_, ?_⟩⟩
      · rw [e]; exact nd.sublist ((List.take_sublist _ _).trans (List.drop_sublist _ _))
      · rw [e, List.length_take]; omega
    · exact ⟨.lst (z4.map T.str), rfl, hk _ _ ⟨z4, rfl, x6, ⟨by omega, k5⟩, n5, by omega⟩⟩
    · have e : cutA zs none (some 2) = zs.take 2 := cut_take (n := 2) (by omega)
      have e' : cutA zs (some 10) none = zs.drop 10 := cut_drop (n := 10) (by omega)
      refine ⟨.lst (cutA (zs.map T.str) none (some 2) ++ cutA (zs.map T.str) (some 10) none), rfl, hk _ _ ⟨zs.take 2 ++ zs.drop 10, ?_, x6, ⟨?_, fun z hz' => ?_⟩, ?_, ?_⟩⟩
      · rw [cut_map, cut_map, e, e', List.map_append]; rfl
      · rw [List.length_append, List.length_take, List.length_drop]; omega
      · rcases List.mem_append.mp hz' with q | q
        · exact ok z (List.mem_of_mem_take q)
        · exact ok z (List.mem_of_mem_drop q)
      · have q : (zs.take 2 ++ zs.drop 10).Sublist (zs.take 2 ++ zs.drop 2) := List.Sublist.append_left (by
          have := List.drop_sublist 8 (zs.drop 2)
          rw [List.drop_drop] at this
          exact this) _
        rw [List.take_append_drop] at q
        exact nd.sublist q
      · rw [List.length_append, List.length_take, List.length_drop]; omega
  rintro _ S5 ⟨ow, rfl, x5, now, ndo, lo⟩
  let ev := fun (e6 e7 e8 e9 e10 : Option T) => ([some (.ref a), some (.tup (.int size :: r)), some (.lst (zs.map T.str)), some (.int size), some (.tup (bs.map pairT)), some (.lst (ow.map T.str)), e6, e7, e8, e9, e10] : Ev)
  refine seq_join (fun env S => ∃ p : Addr, env = ev (some (.ref p)) none none none none ∧ Dx a S0 S ∧ S p = some (.lst []) ∧ p ≠ a ∧ ∀ c, ¬ S0 p = some c) (fun k hk => ⟨show 0 ≤ sizeLine by decide, fun p hp => ?_⟩) ?_
  · have np : p ≠ a := fun z => by obtain ⟨x, q⟩ := x5.sd; rw [z, q] at hp; cases hp
    refine hk _ _ ⟨p, rfl, ⟨fun b c hb e => ?_, ?_⟩, updT_same, np, fun c e => by rw [x5.same p c np e] at hp; cases hp⟩
    · have q := x5.same b c hb e
      rw [updT_ne (fun z => by rw [z, hp] at q; cases q)]
      exact q
    · obtain ⟨x, q⟩ := x5.sd
      exact ⟨x, by rw [updT_ne (Ne.symm np)]; exact q⟩
  rintro _ S6 ⟨p, rfl, x6, hp6, np, h0p⟩
  refine seq_join (fun env S => ∃ (ps : List Prg) (e7 e8 : Option T), env = ev (some (.ref p)) e7 e8 none none ∧ Dx a S0 S ∧ S p = some (.lst (ps.map progT)) ∧ ps.length = 4 ∧ (∀ q ∈ ps, PV size b8 l4 q) ∧ (ps.map (·.1)).Nodup) (fun k hk => ⟨by decide, by decide, ?_⟩) ?_
  · refine ⟨fun n env S => ∃ (ps : List Prg) (e7 e8 : Option T), env = ev (some (.ref p)) e7 e8 none none ∧ Dx a S0 S ∧ S p = some (.lst (ps.map progT)) ∧ ps.length = n ∧ (∀ q ∈ ps, PV size b8 l4 q) ∧ ps.map (·.1) = zs.take n, ⟨[], none, none, rfl, x6, hp6, rfl, (fun _ z => by cases z), rfl⟩, ?_, ?_⟩
    · rintro n x env S en ⟨ps, e7, e8, rfl, x7, hp7, ln, hps, en'⟩
      have hn : n < 4 := by
        have := (List.getElem?_eq_some_iff.mp en).1
        rw [rngT_length] at this
        exact this
      have en : (rngT 4)[n]? = some x := en
      rw [rngT_get hn] at en
      cases en
      refine seq_join (fun env S => ∃ ss : List T, env = ev (some (.ref p)) (some (.int n)) (some (.tup ss)) none none ∧ Dx a S0 S ∧ S p = some (.lst (ps.map progT)) ∧ StepsF ow b8 l4 ss ∧ ss.length ≤ 30) (fun k hk => ⟨a, ow, b8, l4, 30, ?_, x7.sd, now, nb8, nl4, by decide, by decide, fun ss S8 d8 sf ls => hk _ _ ⟨ss, rfl, x7.dr d8, (d8.same p np).trans hp7, sf, by omega⟩⟩) ?_
      · show [T.ref a, T.lst (ow.map T.str), T.lst (cutA (zs.map T.str) none (some 8)), T.lst (cutA (zs.map T.str) (some 8) none), T.int 30] = _
        rw [m8, m4]
      rintro _ S8 ⟨ss, rfl, x8, hp8, sf, lss⟩
      have hnz : n < zs.length := by omega
      have enm : atI (zs.map T.str) (n : Int) = some (.str zs[n]) := atI_nat (by rw [List.getElem?_map, List.getElem?_eq_getElem hnz]; rfl)
      refine ⟨⟨_, hp8⟩, _, enm, drawn_pairs (a := a) (size := size) now x8.sd (fun k hk => hk) (fun z S A B sd hA => ⟨fun _ => ⟨a, size, rfl, sd, by omega, fun r S' d' r0 r1 => ⟨o2, hA r S' d' r0 r1⟩⟩, fun e => (by cases e)⟩) fun os S9 d9 hn9 en9 => ?_⟩
      refine ⟨o3, _, (d9.same p np).trans hp8, by rw [List.length_map]; exact small1000 (by omega), ps ++ [(zs[n], os, ss)], _, _, rfl, ⟨fun b c hb e => ?_, ?_⟩, ?_, ?_, fun q hq => ?_, ?_⟩
      · have q := (x8.dr d9).same b c hb e
        by_cases bp : b = p
        · exact absurd (bp ▸ e) (h0p c)
        · rw [updT_ne bp]; exact q
      · obtain ⟨x, q⟩ := d9.sd
        exact ⟨x, by rw [updT_ne (Ne.symm np)]; exact q⟩
      · rw [updT_same, List.map_append]; rfl
      · rw [List.length_append, ln]; rfl
      · rcases List.mem_append.mp hq with z | z
        · exact hps q z
        · rw [List.mem_singleton.mp z]
          refine ⟨ok _ (List.getElem_mem hnz), ?_, hn9, ?_, lss, ?_⟩
          · have := congrArg List.length en9
            rw [List.length_map] at this
            show os.length ≤ 4
            omega
          · show (os.map (·.1)).Nodup
            rw [en9]; exact ndo
          · show StepsF (os.map (·.1)) b8 l4 ss
            rw [en9]; exact sf
      · rw [List.map_append, en', List.take_add_one, List.getElem?_eq_getElem hnz]; rfl
    · rintro env S ⟨ps, e7, e8, rfl, x7, hp7, ln, hps, en'⟩
      rw [rngT_length] at ln
      refine hk _ _ ⟨ps, e7, e8, rfl, x7, hp7, ln, hps, ?_⟩
      rw [en']
      exact nd.sublist (List.take_sublist _ _)
  rintro _ S7 ⟨ps, e7, e8', rfl, x7, hp7, lp, hps, ndp⟩
  -- the workers
  refine seq_join (fun env S => ∃ ws : List Int, env = ev (some (.ref p)) e7 e8' (some (.tup (ws.map T.int))) none ∧ Dx a S0 S ∧ S p = some (.lst (ps.map progT)) ∧ ws.length = 6 ∧ ∀ x ∈ ws, 0 ≤ x ∧ x < 4) (fun k hk => ?_) ?_
  · refine comp_inv (rngT 6) (fun k acc S => Dx a S0 S ∧ S p = some (.lst (ps.map progT)) ∧ ∃ ws : List Int, acc = ws.map T.int ∧ ws.length = k ∧ ∀ x ∈ ws, 0 ≤ x ∧ x < 4) (fun k hk => ⟨by decide, by decide, hk⟩) (by rw [rngT_length]; decide) ⟨x7, hp7, [], rfl, rfl, fun _ z => (by cases z)⟩ ?_ ?_
    · rintro k x acc S ek ⟨y2, hq2, ws, rfl, lw, hw⟩
      refine ⟨fun _ => ⟨a, 4, rfl, y2.sd, by decide, fun r S' d' r0 r1 => ⟨y2.dr d', (d'.same p np).trans hq2, ws ++ [r], ?_, ?_, fun x hx => ?_⟩⟩, fun e => (by cases e)⟩
      · rw [List.map_append]; rfl
      · rw [List.length_append, lw]; rfl
      · rcases List.mem_append.mp hx with z | z
        · exact hw x z
        · rw [List.mem_singleton.mp z]; exact ⟨r0, r1⟩
    · rintro acc S ⟨y2, hq2, ws, rfl, lw, hw⟩
      rw [rngT_length] at lw
      exact hk _ _ ⟨ws, rfl, y2, hq2, lw, hw⟩
  rintro _ S8 ⟨ws, rfl, x8, hp8, lw, hws⟩
  -- the claims
  refine seq_join (fun env S => ∃ cs : List T, env = ev (some (.ref p)) e7 e8' (some (.tup (ws.map T.int))) (some (.tup cs)) ∧ Dx a S0 S ∧ S p = some (.lst (ps.map progT)) ∧ cs.length = 4 ∧ ∀ t ∈ cs, VF [] b8 5 t) (fun k hk => ?_) ?_
  · refine comp_inv (rngT 4) (fun k acc S => Dx a S0 S ∧ S p = some (.lst (ps.map progT)) ∧ acc.length = k ∧ ∀ t ∈ acc, VF [] b8 5 t) (fun k hk => ⟨by decide, by decide, hk⟩) (by rw [rngT_length]; decide) ⟨x8, hp8, rfl, al_nil⟩ ?_ ?_
    · rintro k x acc S ek ⟨y2, hq2, la, ha⟩
      refine ⟨fun _ => ⟨show 0 ≤ sizeLine by decide, 4, by decide, a, [], b8, ?_, y2.sd, ⟨by simp, fun _ z => by cases z⟩, nb8, fun t S' d' vf => ⟨y2.dr d', (d'.same p np).trans hq2, by rw [List.length_append, la]; rfl, al_app ha (al_cons vf al_nil)⟩⟩, fun e => (by cases e)⟩
      show [T.ref a, T.int 5, T.lst [], T.lst (cutA (zs.map T.str) none (some 8))] = _
      rw [m8]; rfl
    · rintro acc S ⟨y2, hq2, la, ha⟩
      rw [rngT_length] at la
      exact hk _ _ ⟨acc, rfl, y2, hq2, la, ha⟩
  rintro _ S9 ⟨cs, rfl, x9, hp9, lc, hcs⟩
  subst ebs
  refine ⟨_, hp9, show 6 ≤ sizeLine by decide, ?_⟩
  show Pp (.tup [.int size, .tup (bs.map pairT), .tup (cutA (zs.map T.str) (some 8) none), .tup (ps.map progT), .tup (ws.map T.int), .tup cs]) S9
  rw [m4]
  rw [List.length_map] at len8
  exact h size bs l4 ps ws cs S9 x9 ⟨s2, s16, by omega, hbs, by omega, nl4.ok, nbl, by omega, by omega, hps, ndp, by omega, by omega, fun x hx => ⟨(hws x hx).1, by have := (hws x hx).2; omega⟩, by omega, hcs⟩
end
end K11
end
section
set_option Elab.async false
set_option linter.all false
set_option maxRecDepth 100000
set_option maxHeartbeats 4000000
namespace K11
open PySem PySem.Spec PyProof.Rows L2 TL
seal UE UT UA US USs UI UG UO UW PTs uComp uSeq

def numS (i : Int) : Str := toString i
mutual
def wordsT : T → List Str
  | .tup ts => wordsL ts
  | .str x => [x]
  | .int i => [numS i]
  | _ => []
def wordsL : List T → List Str
  | [] => []
  | t :: r => wordsT t ++ wordsL r
end
theorem wordsL_append : ∀ a b : List T, wordsL (a ++ b) = wordsL a ++ wordsL b
  | [], b => by simp [wordsL]
  | t :: a, b => by simp [wordsL, wordsL_append a b]
theorem wordsL_take {ts : List T} {k : Nat} {t : T} (e : ts[k]? = some t) : wordsL (ts.take (k + 1)) = wordsL (ts.take k) ++ wordsT t := by
  rw [List.take_add_one, e, wordsL_append]
  simp [wordsL]
inductive Wt : Nat → T → Prop where
  | str {n : Nat} {x : Str} : x.length ≤ 8 → Wt n (.str x)
  | int {n : Nat} {i : Int} : 0 ≤ i → i ≤ 99 → Wt n (.int i)
  | tup {n : Nat} {ts : List T} : ts.length ≤ 3 → (∀ t ∈ ts, Wt n t) → Wt (n + 1) (.tup ts)
theorem Wt.up {n : Nat} {t : T} (h : Wt n t) : ∀ {m}, n ≤ m → Wt m t := by
  induction h with
  | str h => intro m _; exact .str h
  | int a b => intro m _; exact .int a b
  | tup l _ ih => intro m hm; cases m with
    | zero => omega
    | succ m => exact .tup l fun t ht => ih t ht (by omega)
theorem numS_len {i : Int} (h0 : 0 ≤ i) (h1 : i ≤ 99) : (numS i).length ≤ 8 := by
  have all : ∀ n : Nat, n < 100 → (numS (n : Int)).length ≤ 8 := by decide +kernel
  have := all i.toNat (by omega)
  rwa [Int.toNat_of_nonneg h0] at this
theorem num_log {i : Int} (h0 : 0 ≤ i) (h1 : i ≤ 99) : i.natAbs.log2 < 1920 := Nat.lt_of_le_of_lt (Nat.log2_le_self _) (by omega)
theorem wordsL_short {n : Nat} : ∀ {ts : List T}, (∀ t ∈ ts, ∀ z ∈ wordsT t, z.length ≤ 8) → ∀ z ∈ wordsL ts, z.length ≤ 8
  | [], _ => fun z hz => by simp [wordsL] at hz
  | t :: r, h => fun z hz => by
    simp only [wordsL, List.mem_append] at hz
    rcases hz with q | q
    · exact h t List.mem_cons_self z q
    · exact wordsL_short (n := n) (fun t ht => h t (List.mem_cons_of_mem _ ht)) z q
theorem wordsL_few {n : Nat} : ∀ {ts : List T}, (∀ t ∈ ts, (wordsT t).length ≤ n) → (wordsL ts).length ≤ ts.length * n
  | [], _ => by simp [wordsL]
  | t :: r, h => by
    have := wordsL_few (fun t ht => h t (List.mem_cons_of_mem _ ht) : ∀ t ∈ r, (wordsT t).length ≤ n)
    have q := h t List.mem_cons_self
    simp only [wordsL, List.length_append, List.length_cons, Nat.succ_mul]
    omega
theorem Wt.short {n : Nat} {t : T} (h : Wt n t) : ∀ z ∈ wordsT t, z.length ≤ 8 := by
  induction h with
  | str h => intro z hz; simp only [wordsT, List.mem_singleton] at hz; rw [hz]; exact h
  | int a b => intro z hz; simp only [wordsT, List.mem_singleton] at hz; rw [hz]; exact numS_len a b
  | tup l _ ih => intro z hz; simp only [wordsT] at hz; exact wordsL_short (n := 0) ih z hz
theorem Wt.few {n : Nat} {t : T} (h : Wt n t) : (wordsT t).length ≤ 3 ^ n := by
  induction h with
  | str h => simp only [wordsT, List.length_singleton]; exact Nat.pow_pos (by decide)
  | int a b => simp only [wordsT, List.length_singleton]; exact Nat.pow_pos (by decide)
  | tup l _ ih =>
    simp only [wordsT]
    refine Nat.le_trans (wordsL_few ih) ?_
    rw [Nat.pow_succ, Nat.mul_comm]
    exact Nat.mul_le_mul_left _ l
theorem Wt.few6 {n : Nat} {t : T} (h : Wt n t) (hn : n ≤ 7) : (wordsT t).length ≤ 2187 := Nat.le_trans h.few (Nat.le_trans (Nat.pow_le_pow_right (by decide) hn) (by decide))
theorem sum_short : ∀ {zs : List Str}, (∀ z ∈ zs, z.length ≤ 8) → (zs.map (·.length)).sum ≤ 8 * zs.length
  | [], _ => by simp
  | z :: r, h => by
    have := sum_short fun x hx => h x (List.mem_cons_of_mem _ hx)
    have q := h z List.mem_cons_self
    simp only [List.map_cons, List.sum_cons, List.length_cons]
    omega
def joinW (zs : List Str) : Str := Txt.join " " zs
theorem tj (sep : Str) (zs : List Str) : Txt.join sep zs = Str.join sep zs := StrLaws.glued_eq_join sep zs
theorem joinW_one (x : Str) : joinW [x] = x := tj _ _
theorem joinW_cons (x : Str) {ys : List Str} (h : ys ≠ []) : joinW (x :: ys) = x ++ " " ++ joinW ys := by
  unfold joinW
  rw [tj, tj]
  cases ys with
  | nil => exact absurd rfl h
  | cons y r => rfl
theorem joinW_app : ∀ {xs ys : List Str}, xs ≠ [] → ys ≠ [] → joinW (xs ++ ys) = joinW xs ++ " " ++ joinW ys
  | [], _, h, _ => absurd rfl h
  | [x], ys, _, hy => by rw [List.singleton_append, joinW_cons x hy, joinW_one]
  | x :: y :: r, ys, _, hy => by
    rw [List.cons_append, joinW_cons x (by simp), joinW_app (by simp) hy, joinW_cons x (by simp)]
    simp only [Str.append_assoc]
theorem join_len (sep : Str) (zs : List Str) : (Txt.join sep zs).length ≤ (zs.map (·.length)).sum + zs.length * sep.length := by
  rw [tj]
  cases zs with
  | nil => exact Nat.zero_le _
  | cons a r =>
    rw [len_join_cons]
    exact Nat.add_le_add_left (Nat.mul_le_mul_right _ (by simp)) _
theorem wsum {t : T} {n : Nat} (h : Wt n t) (hn : n ≤ 7) : ((wordsT t).map (·.length)).sum + (wordsT t).length * (" " : Str).length ≤ 20000 := by
  have h1 := sum_short h.short
  have h2 := h.few6 hn
  have e : (" " : Str).length = 1 := rfl
  rw [e]
  omega
theorem joinW_len {t : T} {n : Nat} (h : Wt n t) (hn : n ≤ 7) : (joinW (wordsT t)).length ≤ 20000 := Nat.le_trans (join_len _ _) (wsum h hn)
theorem upd2 {S : TH} {p : Addr} {c d : Cell} : updT (updT S p c) p d = updT S p d := by
  funext b
  unfold updT
  split <;> rfl
theorem del_upd {S : TH} {p : Addr} {c : Cell} (h : S p = none) : delT (updT S p c) p = S := by
  funext b
  unfold delT updT
  split
  · next e => rw [e, h]
  · rfl
/-- a comprehension with no test over a known list -/
theorem comp_map {α : Type} {pick : List (Option Nat)} {ti : UTA} {env : Ev} {S S0 : TH} {gg : UTG} {tc : UTT} {te : UTE} {P : UX} (xs : List α) (e g : α → T) (hti : ∀ k : List T → TH → Prop, k (xs.map e) S → ti env S0 k) (hl : xs.length ≤ sizeLine)
    (turn : ∀ x ∈ xs, ∀ (A : UX) (B : TH → Prop), A (g x) S → gg (e x) (evOf pick env) S fun env' S' => tc env' S' fun b S2 => (b = true → te env' S2 A) ∧ (b = false → B S2))
    (done : P (.lst (xs.map g)) S) : uComp pick ti gg tc te env S0 P := by
  refine comp_inv (xs.map e) (fun k acc S' => S' = S ∧ acc = (xs.take k).map g) hti (by rw [List.length_map]; exact hl) ⟨rfl, rfl⟩ ?_ ?_
  · rintro k x acc S' ek ⟨rfl, rfl⟩
    rw [List.getElem?_map] at ek
    cases ex : xs[k]? with
    | none => rw [ex] at ek; cases ek
    | some y =>
      rw [ex] at ek
      cases ek
      refine turn y (List.mem_of_getElem? ex) _ _ ⟨rfl, ?_⟩
      rw [List.take_add_one, ex, List.map_append]
      rfl
  · rintro acc S' ⟨rfl, rfl⟩
    rw [List.length_map, List.take_length]
    exact done
section
variable {P : Program} {w : World} {K : PySem.W.Frag} {mg : Str → Option Value} {base : Heap}
def cWords (n : Nat) : List T → TH → UX → Prop := fun ts S Pp => ∃ (t : T) (j : Nat), j < n ∧ ts = [t] ∧ Wt j t ∧ Pp (.lst ((wordsT t).map T.str)) S
theorem scWords : FnScope ["thing", "words", "part"] ["thing"] (defScope (top 1)) := ⟨rfl, rfl, rfl, by decide +kernel, rfl, by decide +kernel, by decide +kernel⟩
theorem words_of1 {n m : Nat} (hn : n ≤ 7) (N : Nm P w K mg) (d : Stands K mg "words_of" ["thing"] (top 1)) (c_words_of : Has P w K mg base m "words_of" ["thing"] (cWords n)) : Has P w K mg base (m + 1) "words_of" ["thing"] (cWords (n + 1)) := by
  have sc := scWords
  refine has_of (k := m) d sc (fun ts S Pp h => ?_) fun cdv f A outer s H E hr => ?_
  · obtain ⟨t, j, _, rfl, _⟩ := h; rfl
  have hu0 := hu0_of hr
  refine ⟨_, (uss_cons (us_if (ut_not (ut_val (ue_isi rfl N.isinstance (ua_cons (uv 0) (ua_cons (ue_bty rfl N.tuple boot_tuple) ua_nil))))) (uss_one (us_ret (ue_lst (ua_cons (ue_strA rfl N.str (ua_cons (uv 0) ua_nil)) ua_nil)))) uss_nil)
      (uss_cons (us_set 1 sc.nd (ue_lstC ua_nil))
      (uss_cons (us_for PassesOwn.never rfl (ui_any (uv 0)) (ug_name 2 sc.nd) (uss_one (us_expr (ue_extend (uv 1) (ua_cons (ue_calln c_words_of hr rfl (ua_cons (uv 2) ua_nil)) ua_nil)))))
      (uss_one (us_ret (ue_frz (uv 1))))))), fun ts S0 Pp h => ?_⟩
  obtain ⟨t, j, hj, rfl, wt, h⟩ := h
  refine seq_join (fun env S => env = [some t, none, none] ∧ S0 = S ∧ ∃ ts i, t = .tup ts ∧ j = i + 1 ∧ ts.length ≤ 3 ∧ ∀ x ∈ ts, Wt i x) (fun k hk => ?_) ?_
  · cases wt with
    | str hx => exact ⟨rfl, fun _ => ⟨show 1 ≤ sizeLine by decide, h⟩, fun e => (by cases e)⟩
    | int a b => exact ⟨rfl, fun _ => ⟨num_log a b, show 1 ≤ sizeLine by decide, h⟩, fun e => (by cases e)⟩
    | tup l q => exact ⟨rfl, fun e => (by cases e), fun _ => hk _ _ ⟨rfl, rfl, _, _, rfl, rfl, l, q⟩⟩
  rintro _ _ ⟨rfl, rfl, ts, i, rfl, rfl, l3, wts⟩
  refine seq_join (fun env S => ∃ p, env = [some (.tup ts), some (.ref p), none] ∧ S0 p = none ∧ S = updT S0 p (.lst [])) (fun k hk => ⟨show 0 ≤ sizeLine by decide, fun p hp => hk _ _ ⟨p, rfl, hp, rfl⟩⟩) ?_
  rintro _ _ ⟨p, rfl, hp, rfl⟩
  refine seq_join (fun env S => ∃ e2, env = [some (.tup ts), some (.ref p), e2] ∧ S = updT S0 p (.lst ((wordsL ts).map T.str))) (fun k hk => ?_) ?_
  · refine ⟨fun k env S => ∃ e2, env = [some (.tup ts), some (.ref p), e2] ∧ S = updT S0 p (.lst ((wordsL (ts.take k)).map T.str)), ⟨none, rfl, rfl⟩, ?_, ?_⟩
    · rintro k x env S ek ⟨e2, rfl, rfl⟩
      have hx := List.mem_of_getElem? ek
      refine ⟨⟨_, updT_same⟩, x, i, by omega, rfl, wts x hx, _, _, updT_same, rfl, ?_, _, rfl, ?_⟩
      · rw [List.length_map, List.length_map, ← List.length_append, ← wordsL_take ek]
        refine Nat.le_trans (wordsL_few (n := 2187) fun t ht => (wts t (List.mem_of_mem_take ht)).few6 (by omega)) ?_
        have : (ts.take (k + 1)).length ≤ 3 := by rw [List.length_take]; omega
        exact Nat.le_trans (Nat.mul_le_mul_right _ this) (by decide)
      · rw [upd2, ← List.map_append, ← wordsL_take ek]
    · rintro env S ⟨e2, rfl, rfl⟩
      rw [List.take_length]
      exact hk _ _ ⟨e2, rfl, rfl⟩
  rintro _ _ ⟨e2, rfl, rfl⟩
  refine ⟨_, updT_same, ?_⟩
  rw [del_upd hp]
  exact h
theorem words_of (N : Nm P w K mg) (d : Stands K mg "words_of" ["thing"] (top 1)) : ∀ n : Nat, n ≤ 8 → Has P w K mg base (n + 1) "words_of" ["thing"] (cWords n)
  | 0, _ => has_none d fun _ _ _ ⟨_, _, z, _⟩ => by omega
  | n + 1, h => words_of1 (m := n + 1) (by omega) N d (words_of N d n (by omega))
def cSW : List T → TH → UX → Prop := fun ts S Pp => ∃ t, ts = [t] ∧ Wt 6 t ∧ Pp (.str (joinW (wordsT t))) S
theorem scSW : FnScope ["step"] ["step"] (defScope (top 3)) := ⟨rfl, rfl, rfl, by decide +kernel, rfl, by decide +kernel, by decide +kernel⟩
theorem step_words {m : Nat} (N : Nm P w K mg) (d : Stands K mg "step_words" ["step"] (top 3)) (c_words_of : Has P w K mg base m "words_of" ["thing"] (cWords 7)) : Has P w K mg base (m + 1) "step_words" ["step"] cSW := by
  have sc := scSW
  refine has_of (k := m) d sc (fun ts S Pp h => ?_) fun cdv f A outer s H E hr => ?_
  · obtain ⟨t, rfl, _⟩ := h; rfl
  refine ⟨_, (uss_one (us_ret (ue_join ue_str (ua_cons (ue_calln c_words_of hr rfl (ua_cons (uv 0) ua_nil)) ua_nil)))), fun ts S0 Pp h => ?_⟩
  obtain ⟨t, rfl, wt, h⟩ := h
  exact ⟨t, 6, by decide, rfl, wt, _, rfl, Nat.le_trans (wsum wt (by decide)) (by decide), h⟩
end
end K11
end
section
set_option Elab.async false
set_option linter.all false
set_option maxRecDepth 100000
set_option maxHeartbeats 4000000
namespace K11
open PySem PySem.Spec PyProof.Rows L2 TL
seal UE UT UA US USs UI UG UO UW PTs uComp uSeq

theorem wt2 {n : Nat} {a b : T} (ha : Wt n a) (hb : Wt n b) : Wt (n + 1) (.tup [a, b]) := .tup (show 2 ≤ 3 by decide) (al_cons ha (al_cons hb al_nil))
theorem wt3 {n : Nat} {a b c : T} (ha : Wt n a) (hb : Wt n b) (hc : Wt n c) : Wt (n + 1) (.tup [a, b, c]) := .tup (show 3 ≤ 3 by decide) (al_cons ha (al_cons hb (al_cons hc al_nil)))
theorem wn {n : Nat} {x : Str} (h : nameOk x = true) : Wt n (.str x) := .str (nameOk_len h)
theorem vf_wt {ow bx : List Str} (now : ∀ z ∈ ow, nameOk z = true) (nbx : ∀ z ∈ bx, nameOk z = true) {n : Nat} {t : T} (h : VF ow bx n t) : Wt n t := by
  induction h with
  | num a b => exact wt2 (.str (by decide)) (.int a b)
  | own q => exact wt2 (.str (by decide)) (wn (now _ q))
  | box q => exact wt2 (.str (by decide)) (wn (nbx _ q))
  | neg _ ih => exact wt2 (.str (by decide)) ih
  | two hz _ _ ih1 ih2 =>
    refine wt3 (.str ?_) ih1 ih2
    rcases hz with rfl | rfl | rfl | rfl <;> decide
theorem sn_wt {ow bx lk : List Str} {b : Int} (hb : b ≤ 99) (now : ∀ z ∈ ow, nameOk z = true) (nbx : ∀ z ∈ bx, nameOk z = true) (nlk : ∀ z ∈ lk, nameOk z = true) {t : T} (h : SN ow bx lk b t) : Wt 6 t := by
  have vp : ∀ {v : T}, VF ow [] 5 v → Wt 5 v := fun q => vf_wt now (fun _ z => by cases z) q
  cases h with
  | take m => exact wt2 (.str (by decide)) (wn (nlk _ m))
  | give m => exact wt2 (.str (by decide)) (wn (nlk _ m))
  | get m m' => exact wt3 (.str (by decide)) (wn (now _ m)) (wn (nbx _ m'))
  | add m q => exact wt3 (.str (by decide)) (wn (nbx _ m)) (vp q)
  | put m q => exact wt3 (.str (by decide)) (wn (nbx _ m)) (vp q)
  | wait m q => exact wt3 (.str (by decide)) (wn (nbx _ m)) (vp q)
  | set m q => exact wt3 (.str (by decide)) (wn (now _ m)) (vp q)
  | check q => exact wt2 (.str (by decide)) (vp q)
  | skip a c => exact wt2 (.str (by decide)) (.int a (by omega))
  | unl q a c => exact wt3 (.str (by decide)) (vp q) (.int a (by omega))
def boxRow (p : Str × Int) : T := .tup [.str "box", .str p.1, .int p.2]
def ownRow (p : Str × Int) : T := .tup [.str "own", .str p.1, .int p.2]
def lockRow (x : Str) : T := .tup [.str "lock", .str x]
def progRow (x : Str) : T := .tup [.str "program", .str x]
def progRows (p : Prg) : List T := progRow p.1 :: (p.2.1.map ownRow ++ p.2.2)
def nameAt (ps : List Prg) (i : Int) : Str := match ps[i.toNat]? with
  | some p => p.1
  | none => ""
def workRow (ps : List Prg) (i : Int) : T := .tup [.str "worker", .str (nameAt ps i)]
def claimRow (t : T) : T := .tup [.str "claim", t]
def rows2 (size : Int) (bs : List (Str × Int)) (ls : List Str) : List T := [T.tup [.str "size", .int size]] ++ bs.map boxRow ++ ls.map lockRow
def rowsOf (size : Int) (bs : List (Str × Int)) (ls : List Str) (ps : List Prg) (ws : List Int) (cs : List T) : List T :=
  rows2 size bs ls ++ ps.flatMap progRows ++ ws.map (workRow ps) ++ cs.map claimRow
section
variable {size : Int} {bs : List (Str × Int)} {ls : List Str} {ps : List Prg} {ws : List Int} {cs : List T}
theorem PV.names {bn ls : List Str} {p : Prg} (h : PV size bn ls p) : ∀ z ∈ p.2.1.map (·.1), nameOk z = true := fun z hz => by
  obtain ⟨q, hq, rfl⟩ := List.mem_map.mp hz
  exact (h.num q hq).1
theorem LV.names (h : LV size bs ls ps ws cs) : ∀ z ∈ bs.map (·.1), nameOk z = true := fun z hz => by
  obtain ⟨q, hq, rfl⟩ := List.mem_map.mp hz
  exact (h.bo q hq).1
theorem LV.step_wt (h : LV size bs ls ps ws cs) {p : Prg} (hp : p ∈ ps) : ∀ t ∈ p.2.2, Wt 6 t := fun t ht => by
  obtain ⟨k, hk, rfl⟩ := List.mem_iff_getElem.mp ht
  have v := h.po p hp
  exact sn_wt (by have := v.short; omega) v.names h.names h.lo (v.steps k _ (List.getElem?_eq_getElem hk))
theorem LV.claim_wt (h : LV size bs ls ps ws cs) : ∀ t ∈ cs, Wt 5 t := fun t ht => vf_wt (fun _ z => by cases z) h.names (h.co t ht)
theorem progRows_len {bn : List Str} {p : Prg} (h : PV size bn ls p) : (progRows p).length ≤ 35 := by
  unfold progRows
  rw [List.length_cons, List.length_append, List.length_map]
  have := h.few
  have := h.short
  omega
theorem progs_len {bn : List Str} : ∀ {ps : List Prg}, (∀ p ∈ ps, PV size bn ls p) → (ps.flatMap progRows).length ≤ 35 * ps.length
  | [], _ => by simp
  | p :: r, h => by
    have := progs_len fun q hq => h q (List.mem_cons_of_mem _ hq)
    have := progRows_len (h p List.mem_cons_self)
    rw [List.flatMap_cons, List.length_append, List.length_cons]
    omega
theorem rows2_len (h : LV size bs ls ps ws cs) : (rows2 size bs ls).length ≤ 13 := by
  unfold rows2
  rw [List.length_append, List.length_append, List.length_map, List.length_map, List.length_singleton]
  have := h.bn
  have := h.ln
  omega
theorem rowsOf_len (h : LV size bs ls ps ws cs) : (rowsOf size bs ls ps ws cs).length ≤ 163 := by
  have h1 := rows2_len h
  have h2 := progs_len h.po
  unfold rowsOf
  rw [List.length_append, List.length_append, List.length_append, List.length_map, List.length_map]
  have := h.p4
  have := h.w6
  have := h.cn
  omega
theorem name_at (h : LV size bs ls ps ws cs) {i : Int} (hi : i ∈ ws) : ∃ p ∈ ps, atI (ps.map progT) i = some (progT p) ∧ nameAt ps i = p.1 := by
  obtain ⟨i0, i1⟩ := h.wo i hi
  have hl : i.toNat < ps.length := by omega
  refine ⟨ps[i.toNat], List.getElem_mem hl, ?_, ?_⟩
  · have q : atI (ps.map progT) ((i.toNat : Nat) : Int) = some (progT ps[i.toNat]) := atI_nat (by rw [List.getElem?_map, List.getElem?_eq_getElem hl]; rfl)
    rw [Int.toNat_of_nonneg i0] at q
    exact q
  · unfold nameAt
    rw [List.getElem?_eq_getElem hl]
theorem pair_wt {w : Str} (hw : w.length ≤ 8) (h16 : size ≤ 16) {p : Str × Int} (h : nameOk p.1 = true ∧ 0 ≤ p.2 ∧ p.2 < size) : Wt 1 (.tup [.str w, .str p.1, .int p.2]) := wt3 (.str hw) (wn h.1) (.int h.2.1 (by omega))
theorem rowsOf_wt (h : LV size bs ls ps ws cs) : ∀ t ∈ rowsOf size bs ls ps ws cs, Wt 6 t := by
  have h16 := h.s16
  unfold rowsOf rows2
  refine al_app (al_app (al_app (al_app (al_app (al_cons ((wt2 (n := 0) (.str (by decide)) (.int (by have := h.s2; omega) (by omega))).up (by decide)) al_nil) fun t ht => ?_) fun t ht => ?_) fun t ht => ?_) fun t ht => ?_) fun t ht => ?_
  · obtain ⟨p, hp, rfl⟩ := List.mem_map.mp ht
    exact (pair_wt (by decide) h16 (h.bo p hp)).up (by decide)
  · obtain ⟨x, hx, rfl⟩ := List.mem_map.mp ht
    exact (wt2 (n := 0) (.str (by decide)) (wn (h.lo x hx))).up (by decide)
  · obtain ⟨p, hp, ht⟩ := List.mem_flatMap.mp ht
    have v := h.po p hp
    refine al_cons (Q := Wt 6) ((wt2 (n := 0) (.str (by decide)) (wn v.nm)).up (by decide)) (al_app (fun t ht => ?_) (h.step_wt hp)) t ht
    obtain ⟨q, hq, rfl⟩ := List.mem_map.mp ht
    exact (pair_wt (by decide) h16 (v.num q hq)).up (by decide)
  · obtain ⟨i, hi, rfl⟩ := List.mem_map.mp ht
    obtain ⟨p, hp, _, e⟩ := name_at h hi
    unfold workRow
    rw [e]
    exact (wt2 (n := 0) (.str (by decide)) (wn (h.po p hp).nm)).up (by decide)
  · obtain ⟨c, hc, rfl⟩ := List.mem_map.mp ht
    exact wt2 (.str (by decide)) (h.claim_wt c hc)
end
/-- a row with its line end -/
def lineOf (t : T) : Str := joinW (wordsT t) ++ "\n"
def textOf (rows : List T) : Str := Txt.join "" (rows.map lineOf)
theorem line_len {t : T} {n : Nat} (h : Wt n t) (hn : n ≤ 7) : (lineOf t).length ≤ 20001 := by
  unfold lineOf
  rw [Str.length_append]
  exact Nat.add_le_add_right (joinW_len h hn) 1
theorem sum_le {n : Nat} : ∀ {zs : List Str}, (∀ z ∈ zs, z.length ≤ n) → (zs.map (·.length)).sum ≤ zs.length * n
  | [], _ => by simp
  | z :: r, h => by
    have := sum_le fun x hx => h x (List.mem_cons_of_mem _ hx)
    have q := h z List.mem_cons_self
    simp only [List.map_cons, List.sum_cons, List.length_cons, Nat.succ_mul]
    omega
theorem lines_sum {rows : List T} (hl : rows.length ≤ 163) (hw : ∀ t ∈ rows, Wt 6 t) : ((rows.map lineOf).map (·.length)).sum + (rows.map lineOf).length * ("" : Str).length ≤ 16777216 := by
  have h := sum_le (n := 20001) (zs := rows.map lineOf) fun z hz => by
    obtain ⟨t, ht, rfl⟩ := List.mem_map.mp hz
    exact line_len (hw t ht) (by decide)
  have e : ("" : Str).length = 0 := rfl
  rw [e, Nat.mul_zero, Nat.add_zero]
  rw [List.length_map] at h
  exact Nat.le_trans h (Nat.le_trans (Nat.mul_le_mul_right _ hl) (by decide))
section
variable {P : Program} {w : World} {K : PySem.W.Frag} {mg : Str → Option Value} {base : Heap}
def cWritten : List T → TH → UX → Prop := fun ts S Pp => ∃ size bs ls ps ws cs, ts = [.tup (loomT size bs ls ps ws cs)] ∧ LV size bs ls ps ws cs ∧ Pp (.str (textOf (rowsOf size bs ls ps ws cs))) S
theorem scWritten : FnScope ["loom", "programs", "rows", "name", "owns", "steps"] ["loom"] (defScope (top 4)) := ⟨rfl, rfl, rfl, by decide +kernel, rfl, by decide +kernel, by decide +kernel⟩
theorem written {m : Nat} (N : Nm P w K mg) (d : Stands K mg "written" ["loom"] (top 4)) (c_words_of : Has P w K mg base m "words_of" ["thing"] (cWords 7)) : Has P w K mg base (m + 1) "written" ["loom"] cWritten := by
  have sc := scWritten
  refine has_of (k := m) d sc (fun ts S Pp h => ?_) fun cdv f A outer s H E hr => ?_
  · obtain ⟨_, _, _, _, _, _, rfl, _⟩ := h; rfl
  refine ⟨_, (uss_cons (us_set 1 sc.nd (ue_ix (uv 0) ue_int))
      (uss_cons (us_set 2 sc.nd (ue_lstC (ua_cons (ue_tup (ua_cons ue_str (ua_cons (ue_ix (uv 0) ue_int) ua_nil))) ua_nil)))
      (uss_cons (us_expr (ue_extend (uv 2) (ua_cons (ue_comp1 0 ["box"] [none] rfl (ui_any (ue_ix (uv 0) ue_int)) (fun _ _ _ _ _ => uts_nil) (fun _ _ _ _ _ => (ue_plus (ue_tup (ua_cons ue_str ua_nil)) (uv 0)))) ua_nil)))
      (uss_cons (us_expr (ue_extend (uv 2) (ua_cons (ue_comp1 0 ["lock"] [none] rfl (ui_any (ue_ix (uv 0) ue_int)) (fun _ _ _ _ _ => uts_nil) (fun _ _ _ _ _ => (ue_tup (ua_cons ue_str (ua_cons (uv 0) ua_nil))))) ua_nil)))
      (uss_cons (us_for PassesOwn.never rfl (ui_any (uv 1)) (ug_triple 3 4 5 rfl sc.nd) (uss_cons (us_expr (ue_append (uv 2) (ua_cons (ue_tup (ua_cons ue_str (ua_cons (uv 3) ua_nil))) ua_nil)))
      (uss_cons (us_expr (ue_extend (uv 2) (ua_cons (ue_comp1 0 ["own"] [none] rfl (ui_any (uv 4)) (fun _ _ _ _ _ => uts_nil) (fun _ _ _ _ _ => (ue_plus (ue_tup (ua_cons ue_str ua_nil)) (uv 0)))) ua_nil)))
      (uss_one (us_expr (ue_extend (uv 2) (ua_cons (uv 5) ua_nil)))))))
      (uss_cons (us_expr (ue_extend (uv 2) (ua_cons (ue_comp1 0 ["number", "programs"] [none, some 1] rfl (ui_any (ue_ix (uv 0) ue_int)) (fun _ _ _ _ _ => uts_nil) (fun _ _ _ _ _ => (ue_tup (ua_cons ue_str (ua_cons (ue_ix (ue_ix (uv 1) (uv 0)) ue_int) ua_nil))))) ua_nil)))
      (uss_cons (us_expr (ue_extend (uv 2) (ua_cons (ue_comp1 0 ["claim"] [none] rfl (ui_any (ue_ix (uv 0) ue_int)) (fun _ _ _ _ _ => uts_nil) (fun _ _ _ _ _ => (ue_tup (ua_cons ue_str (ua_cons (uv 0) ua_nil))))) ua_nil)))
      (uss_one (us_ret (ue_join ue_str (ua_cons (ue_comp1 0 ["row"] [none] rfl (ui_any (ue_frz (uv 2))) (fun _ _ _ _ _ => uts_nil) (fun _ _ _ _ _ => (ue_plus (ue_join ue_str (ua_cons (ue_calln c_words_of hr rfl (ua_cons (uv 0) ua_nil)) ua_nil)) ue_str))) ua_nil))))))))))), fun ts S0 Pp h => ?_⟩
  obtain ⟨size, bs, ls, ps, ws, cs, rfl, v, h⟩ := h
  have o1 : 1 ≤ sizeLine := by decide
  have o2 : 2 ≤ sizeLine := by decide
  have o3 : 1 + 2 ≤ sizeLine := by decide
  have l2 := rows2_len v
  have lr := rowsOf_len v
  have lb := v.bn
  have ll := v.ln
  have lp := v.p4
  have lw := v.w6
  have lc := v.cn
  let L := loomT size bs ls ps ws cs
  refine seq_join (fun env S => env = [some (.tup L), some (.tup (ps.map progT)), none, none, none, none] ∧ S0 = S) (fun k hk => ⟨_, rfl, hk _ _ ⟨rfl, rfl⟩⟩) ?_
  rintro _ _ ⟨rfl, rfl⟩
  let ev := fun p : Addr => ([some (.tup L), some (.tup (ps.map progT)), some (.ref p), none, none, none] : Ev)
  refine seq_join (fun env S => ∃ p, env = ev p ∧ S0 p = none ∧ S = updT S0 p (.lst [T.tup [.str "size", .int size]])) (fun k hk => ⟨_, rfl, o2, o1, fun p hp => hk _ _ ⟨p, rfl, hp, rfl⟩⟩) ?_
  rintro _ _ ⟨p, rfl, hp, rfl⟩
  refine seq_join (fun env S => env = ev p ∧ S = updT S0 p (.lst ([T.tup [.str "size", .int size]] ++ bs.map boxRow))) (fun k hk => ⟨⟨_, updT_same⟩, comp_map bs pairT boxRow (fun k hk => ⟨_, rfl, hk⟩) (sz1000 (by omega)) (fun x hx A B hA => ⟨fun _ => ⟨o1, o3, hA⟩, fun e => (by cases e)⟩) ⟨_, _, updT_same, rfl, ?_, hk _ _ ⟨rfl, upd2⟩⟩⟩) ?_
  · rw [List.length_map, List.length_singleton]; exact sz1000 (by omega)
  rintro _ _ ⟨rfl, rfl⟩
  refine seq_join (fun env S => env = ev p ∧ S = updT S0 p (.lst (rows2 size bs ls))) (fun k hk => ⟨⟨_, updT_same⟩, comp_map ls T.str lockRow (fun k hk => ⟨_, rfl, hk⟩) (sz1000 (by omega)) (fun x hx A B hA => ⟨fun _ => ⟨o2, hA⟩, fun e => (by cases e)⟩) ⟨_, _, updT_same, rfl, ?_, hk _ _ ⟨rfl, upd2⟩⟩⟩) ?_
  · rw [List.length_append, List.length_map, List.length_map, List.length_singleton]; exact sz1000 (by omega)
  rintro _ _ ⟨rfl, rfl⟩
  let ev2 := fun e3 e4 e5 : Option T => ([some (.tup L), some (.tup (ps.map progT)), some (.ref p), e3, e4, e5] : Ev)
  refine seq_join (fun env S => ∃ e3 e4 e5, env = ev2 e3 e4 e5 ∧ S = updT S0 p (.lst (rows2 size bs ls ++ ps.flatMap progRows))) (fun k hk => ?_) ?_
  · refine ⟨fun k env S => ∃ e3 e4 e5, env = ev2 e3 e4 e5 ∧ S = updT S0 p (.lst (rows2 size bs ls ++ (ps.take k).flatMap progRows)), ⟨none, none, none, rfl, by rw [List.take_zero, List.flatMap_nil, List.append_nil]⟩, ?_, ?_⟩
    · rintro k x env S ek ⟨e3, e4, e5, rfl, rfl⟩
      rw [List.getElem?_map] at ek
      cases ex : ps[k]? with
      | none => rw [ex] at ek; cases ek
      | some q =>
        rw [ex] at ek
        cases ek
        have hq := List.mem_of_getElem? ex
        have vq := v.po q hq
        have f1 := vq.few
        have f2 := vq.short
        have hk4 : k < ps.length := (List.getElem?_eq_some_iff.mp ex).1
        have hrows : (rows2 size bs ls ++ (ps.take k).flatMap progRows).length ≤ 13 + 35 * 4 := by
          rw [List.length_append]
          have := progs_len (ps := ps.take k) fun q hq => v.po q (List.mem_of_mem_take hq)
          have : (ps.take k).length ≤ 4 := by rw [List.length_take]; omega
          omega
        let R := rows2 size bs ls ++ (ps.take k).flatMap progRows
        have hR : R.length ≤ 13 + 35 * 4 := hrows
        let ev3 := ([some (.tup L), some (.tup (ps.map progT)), some (.ref p), some (.str q.1), some (.tup (q.2.1.map pairT)), some (.tup q.2.2)] : Ev)
        refine seq_join (fun env S => env = ev3 ∧ S = updT S0 p (.lst (R ++ [progRow q.1]))) (fun k hk => ⟨⟨_, updT_same⟩, o2, _, updT_same, small1000 (by omega), hk _ _ ⟨rfl, upd2⟩⟩) ?_
        rintro _ _ ⟨rfl, rfl⟩
        refine seq_join (fun env S => env = ev3 ∧ S = updT S0 p (.lst (R ++ [progRow q.1] ++ q.2.1.map ownRow))) (fun k hk => ⟨⟨_, updT_same⟩, comp_map q.2.1 pairT ownRow (fun k hk => hk) (sz1000 (by omega)) (fun x hx A B hA => ⟨fun _ => ⟨o1, o3, hA⟩, fun e => (by cases e)⟩) ⟨_, _, updT_same, rfl, ?_, hk _ _ ⟨rfl, upd2⟩⟩⟩) ?_
        · rw [List.length_map, List.length_append, List.length_singleton]; exact sz1000 (by omega)
        rintro _ _ ⟨rfl, rfl⟩
        refine ⟨⟨_, updT_same⟩, _, _, updT_same, rfl, ?_, _, _, _, rfl, ?_⟩
        · rw [List.length_append, List.length_map, List.length_append, List.length_singleton]; exact sz1000 (by omega)
        · rw [upd2, List.take_add_one, ex, List.flatMap_append]
          congr 2
          simp [R, progRows]
    · rintro env S ⟨e3, e4, e5, rfl, rfl⟩
      rw [List.length_map, List.take_length]
      exact hk _ _ ⟨e3, e4, e5, rfl, rfl⟩
  rintro _ _ ⟨e3, e4, e5, rfl, rfl⟩
  have l3 : (rows2 size bs ls ++ ps.flatMap progRows).length ≤ 13 + 35 * 4 := by
    rw [List.length_append]
    have := progs_len v.po
    omega
  refine seq_join (fun env S => env = ev2 e3 e4 e5 ∧ S = updT S0 p (.lst (rows2 size bs ls ++ ps.flatMap progRows ++ ws.map (workRow ps)))) (fun k hk => ⟨⟨_, updT_same⟩, comp_map ws T.int (workRow ps) (fun k hk => ⟨_, rfl, hk⟩) (sz1000 (by omega)) (fun x hx A B hA => ⟨fun _ => ?_, fun e => (by cases e)⟩) ⟨_, _, updT_same, rfl, ?_, hk _ _ ⟨rfl, upd2⟩⟩⟩) ?_
  · obtain ⟨q, hq, eq, en⟩ := name_at v hx
    refine ⟨_, eq, _, rfl, o2, ?_⟩
    unfold workRow at hA
    rw [en] at hA
    exact hA
  · rw [List.length_map]; exact sz1000 (by omega)
  rintro _ _ ⟨rfl, rfl⟩
  refine seq_join (fun env S => env = ev2 e3 e4 e5 ∧ S = updT S0 p (.lst (rowsOf size bs ls ps ws cs))) (fun k hk => ⟨⟨_, updT_same⟩, comp_map cs id claimRow (fun k hk => ⟨_, rfl, ?_⟩) (sz1000 (by omega)) (fun x hx A B hA => ⟨fun _ => ⟨o2, hA⟩, fun e => (by cases e)⟩) ⟨_, _, updT_same, rfl, ?_, hk _ _ ⟨rfl, upd2⟩⟩⟩) ?_
  · rw [List.map_id] at hk; exact hk
  · rw [List.length_map, List.length_append, List.length_map]; exact sz1000 (by omega)
  rintro _ _ ⟨rfl, rfl⟩
  have wts := rowsOf_wt v
  refine comp_map (S := S0) (rowsOf size bs ls ps ws cs) id (fun t => .str (lineOf t)) (fun k hk => ⟨_, updT_same, ?_⟩) (sz1000 (by omega)) (fun x hx A B hA => ⟨fun _ => ⟨x, 6, by decide, rfl, wts x hx, _, rfl, Nat.le_trans (wsum (wts x hx) (by decide)) (by decide), ?_, hA⟩, fun e => (by cases e)⟩) ?_
  · rw [List.map_id, del_upd hp] at *; exact hk
  · exact Nat.le_trans (Nat.add_le_add_right (joinW_len (wts x hx) (by decide)) 1) (by decide)
  · exact ⟨(rowsOf size bs ls ps ws cs).map lineOf, by rw [List.map_map]; rfl, lines_sum lr wts, h⟩
end
end K11
end
section
set_option Elab.async false
set_option linter.all false
set_option maxRecDepth 100000
set_option maxHeartbeats 4000000
namespace K11
open PySem PySem.Spec PyProof.Rows L2 TL
seal UE UT UA US USs UI UG UO UW PTs uComp uSeq

theorem wordsL_eq : ∀ ts : List T, wordsL ts = (ts.map wordsT).flatten
  | [] => by simp [wordsL]
  | t :: r => by simp [wordsL, wordsL_eq r]
theorem flat_ne : ∀ {gs : List (List Str)}, gs ≠ [] → (∀ g ∈ gs, g ≠ []) → gs.flatten ≠ []
  | [], h, _ => absurd rfl h
  | g :: r, _, h => by
    rw [List.flatten_cons]
    exact fun e => h g List.mem_cons_self (List.append_eq_nil_iff.mp e).1
theorem joinW_groups : ∀ {gs : List (List Str)}, (∀ g ∈ gs, g ≠ []) → joinW (gs.map joinW) = joinW gs.flatten
  | [], _ => rfl
  | [g], _ => by simp [joinW_one]
  | g :: g' :: r, h => by
    have h' : ∀ x ∈ g' :: r, x ≠ [] := fun x hx => h x (List.mem_cons_of_mem _ hx)
    have e : (g :: g' :: r).flatten = g ++ (g' :: r).flatten := rfl
    rw [List.map_cons, joinW_cons _ (by simp), joinW_groups h', e, joinW_app (h g List.mem_cons_self) (flat_ne (by simp) h')]
/-- a word, and what stands behind it, each by its own words -/
theorem joinW_parts (w : Str) {rs : List T} (h : ∀ x ∈ rs, wordsT x ≠ []) : joinW (w :: rs.map fun x => joinW (wordsT x)) = joinW (wordsT (.tup (.str w :: rs))) := by
  have q := joinW_groups (gs := [w] :: rs.map wordsT) fun g hg => by
    rcases List.mem_cons.mp hg with rfl | m
    · simp
    · obtain ⟨x, hx, rfl⟩ := List.mem_map.mp m
      exact h x hx
  rw [List.map_cons, joinW_one, List.map_map, List.flatten_cons, ← wordsL_eq] at q
  have e : wordsT (.tup (.str w :: rs)) = [w] ++ wordsL rs := by simp [wordsT, wordsL]
  rw [e]
  exact q
theorem vf_words {ow bx : List Str} {n : Nat} {t : T} (h : VF ow bx n t) : wordsT t ≠ [] := by
  cases h <;> simp [wordsT, wordsL]
theorem joins_sum {w : Str} {rs : List T} (hw : w.length ≤ 8) (hl : rs.length ≤ 2) (h : ∀ x ∈ rs, Wt 6 x) : ((w :: rs.map fun x => joinW (wordsT x)).map (·.length)).sum + (w :: rs.map fun x => joinW (wordsT x)).length * (" " : Str).length ≤ 16777216 := by
  have q := sum_le (n := 20000) (zs := rs.map fun x => joinW (wordsT x)) fun z hz => by
    obtain ⟨t, ht, rfl⟩ := List.mem_map.mp hz
    exact joinW_len (h t ht) (by decide)
  have e : (" " : Str).length = 1 := rfl
  rw [e, Nat.mul_one]
  rw [List.length_map] at q
  simp only [List.map_cons, List.sum_cons, List.length_cons, List.length_map] at q ⊢
  omega
section
variable {P : Program} {w : World} {K : PySem.W.Frag} {mg : Str → Option Value} {base : Heap}
/-- a value over names -/
def Vn (n : Nat) (t : T) : Prop := ∃ ow bx, VF ow bx n t ∧ (∀ z ∈ ow, nameOk z = true) ∧ ∀ z ∈ bx, nameOk z = true
theorem Vn.wt {n : Nat} {t : T} (h : Vn n t) : Wt n t := by obtain ⟨ow, bx, v, h1, h2⟩ := h; exact vf_wt h1 h2 v
theorem Vn.words {n : Nat} {t : T} (h : Vn n t) : wordsT t ≠ [] := by obtain ⟨ow, bx, v, h1, h2⟩ := h; exact vf_words v
def cVT (n : Nat) : List T → TH → UX → Prop := fun ts S Pp => ∃ (t : T) (j : Nat), j < n ∧ ts = [t] ∧ Vn j t ∧ Pp (.str (joinW (wordsT t))) S
theorem scVT : FnScope ["_law_value_here"] ["_law_value_here"] (defScope (top 15)) := ⟨rfl, rfl, rfl, by decide +kernel, rfl, by decide +kernel, by decide +kernel⟩
theorem value_text1 {n m : Nat} (hn : n ≤ 6) (N : Nm P w K mg) (d : Stands K mg "_law_value_text" ["_law_value_here"] (top 15)) (c_law_value_text : Has P w K mg base m "_law_value_text" ["_law_value_here"] (cVT n)) : Has P w K mg base (m + 1) "_law_value_text" ["_law_value_here"] (cVT (n + 1)) := by
  have sc := scVT
  refine has_of (k := m) d sc (fun ts S Pp h => ?_) fun cdv f A outer s H E hr => ?_
  · obtain ⟨t, j, _, rfl, _⟩ := h; rfl
  have hu0 := hu0_of hr
  refine ⟨_, (uss_cons (us_if (ut_in (ue_ix (uv 0) ue_int) (ue_tup (ua_consts (Cs.s (Cs.s (Cs.s Cs.nil)))))) (uss_one (us_ret (ue_plus (ue_plus (ue_ix (uv 0) ue_int) ue_str) (ue_strA rfl N.str (ua_cons (ue_ix (uv 0) ue_int) ua_nil))))) uss_nil)
      (uss_one (us_ret (ue_join ue_str (ua_cons (ue_plus (ue_lst (ua_cons (ue_ix (uv 0) ue_int) ua_nil)) (ue_comp1 0 ["_law_part"] [none] rfl (ui_any (ue_slT (uv 0) (uo_some ue_int) uo_none)) (fun _ _ _ _ _ => uts_nil) (fun _ _ _ _ _ => (ue_calln c_law_value_text hr rfl (ua_cons (uv 0) ua_nil))))) ua_nil))))), fun ts S0 Pp h => ?_⟩
  obtain ⟨t, j, hj, rfl, ⟨ow, bx, vf, now, nbx⟩, h⟩ := h
  have o3 : 3 ≤ sizeLine := by decide
  -- behind the test: a word, and values
  have deep : ∀ (z : Str) (rs : List T) (i : Nat), t = .tup (.str z :: rs) → i < n → rs.length ≤ 2 → z.length ≤ 8 → (∀ x ∈ rs, Vn i x) → ∀ Q : UX, Q (.str (joinW (wordsT t))) S0 → uJoinL (uC (.str " ")) (uCons (uBin oPlus (uLst (uCons (uBin oIx (uVar 0) (uC (.int 0))) uNil)) (uComp [none] (uAnyOf (uSlT (uVar 0) (uoS (uC (.int 1))) uoN)) (gNm 0) uYes (uCall (cVT n) (uCons (uVar 0) uNil)))) uNil) [some t] S0 Q := by
    intro z rs i et hi hl hz hx Q hQ
    subst et
    refine ⟨_, at0, show 1 ≤ sizeLine by decide, comp_map (S := S0) rs id (fun x => .str (joinW (wordsT x))) (fun k hk => ?_) (sz1000 (by omega)) (fun x hx' A B hA => ⟨fun _ => ⟨x, i, hi, rfl, hx x hx', hA⟩, fun e => (by cases e)⟩) ⟨?_, _, ?_, joins_sum hz hl fun x hx' => (hx x hx').wt.up (by omega), ?_⟩⟩
    · show k (cutA (.str z :: rs) (some 1) none) S0
      rw [cut_tail]
      rw [List.map_id] at hk
      exact hk
    · show [T.str z].length + _ ≤ sizeLine
      rw [List.length_map, List.length_singleton]
      exact sz1000 (by omega)
    · show T.str z :: _ = (z :: rs.map fun x => joinW (wordsT x)).map T.str
      rw [List.map_cons, List.map_map]; rfl
    · show Q (.str (joinW (z :: rs.map fun x => joinW (wordsT x)))) S0
      rw [joinW_parts z fun x hx' => (hx x hx').words]
      exact hQ
  have flat : ∀ (z : Str) (u : T) (y : Str), t = .tup [.str z, u] → (z = "number" ∨ z = "own" ∨ z = "box") → wordsT u = [y] → y.length ≤ 8 → (∀ Q : UX, Q (.str y) S0 → oStrA [u] S0 Q) → ∀ Q : UX, Q (.str (joinW (wordsT t))) S0 → uBin oPlus (uBin oPlus (uBin oIx (uVar 0) (uC (.int 0))) (uC (.str " "))) (uCall oStrA (uCons (uBin oIx (uVar 0) (uC (.int 1))) uNil)) [some t] S0 Q := by
    intro z u y et hz hu hy hq Q hQ
    subst et
    have lz : z.length ≤ 8 := by rcases hz with rfl | rfl | rfl <;> decide
    have ls : (" " : Str).length = 1 := rfl
    refine ⟨_, at0, ?_, _, rfl, hq (fun y S2 => oPlus (.str (z ++ " ")) y S2 Q) ⟨?_, ?_⟩⟩
    · rw [ls]; exact sz1000 (by omega)
    · rw [Str.length_append, ls]; exact sz1000 (by omega)
    · have e : joinW (wordsT (.tup [.str z, u])) = z ++ " " ++ y := by
        have : wordsT (.tup [.str z, u]) = [z, y] := by simp [wordsT, wordsL, hu]
        rw [this, joinW_cons z (by simp), joinW_one]
      rw [e] at hQ
      exact hQ
  refine seq_join (fun env S => env = [some t] ∧ S0 = S ∧ ∃ z rs i, t = .tup (.str z :: rs) ∧ i < n ∧ rs.length ≤ 2 ∧ z.length ≤ 8 ∧ ∀ x ∈ rs, Vn i x) (fun k hk => ?_) ?_
  · cases vf with
    | @num i x a b => exact ⟨_, at0, o3, _, rfl, fun _ => flat _ _ (numS x) rfl (.inl rfl) rfl (numS_len a b) (fun Q hQ => ⟨num_log a b, hQ⟩) _ h, fun e => (by cases e)⟩
    | own q => exact ⟨_, at0, o3, _, rfl, fun _ => flat _ _ _ rfl (.inr (.inl rfl)) rfl (nameOk_len (now _ q)) (fun Q hQ => hQ) _ h, fun e => (by cases e)⟩
    | box q => exact ⟨_, at0, o3, _, rfl, fun _ => flat _ _ _ rfl (.inr (.inr rfl)) rfl (nameOk_len (nbx _ q)) (fun Q hQ => hQ) _ h, fun e => (by cases e)⟩
    | @neg i u q => exact ⟨_, at0, o3, _, rfl, fun e => (by cases e), fun _ => hk _ _ ⟨rfl, rfl, "not", [u], i, rfl, by omega, by simp, by decide, al_cons ⟨ow, bx, q, now, nbx⟩ al_nil⟩⟩
    | @two i z u u' hz q q' =>
      refine ⟨_, at0, o3, _, rfl, fun e => ?_, fun _ => hk _ _ ⟨rfl, rfl, z, [u, u'], i, rfl, by omega, by simp, ?_, al_cons ⟨ow, bx, q, now, nbx⟩ (al_cons ⟨ow, bx, q', now, nbx⟩ al_nil)⟩⟩
      · rcases hz with rfl | rfl | rfl | rfl <;> cases e
      · rcases hz with rfl | rfl | rfl | rfl <;> decide
  rintro _ _ ⟨rfl, rfl, z, rs, i, et, hi, hl, hz, hx⟩
  exact deep z rs i et hi hl hz hx _ h
theorem value_text (N : Nm P w K mg) (d : Stands K mg "_law_value_text" ["_law_value_here"] (top 15)) : ∀ n : Nat, n ≤ 6 → Has P w K mg base (n + 1) "_law_value_text" ["_law_value_here"] (cVT n)
  | 0, _ => has_none d fun _ _ _ ⟨_, _, z, _⟩ => by omega
  | n + 1, h => value_text1 (m := n + 1) (by omega) N d (value_text N d n (by omega))
inductive Part : T → Prop where
  | str {x : Str} : x.length ≤ 8 → Part (.str x)
  | int {i : Int} : 0 ≤ i → i ≤ 99 → Part (.int i)
  | val {t : T} : Vn 5 t → Part t
theorem Part.wt {t : T} (h : Part t) : Wt 6 t := by
  cases h with
  | str h => exact .str h
  | int a b => exact .int a b
  | val h => exact h.wt.up (by decide)
theorem Part.words {t : T} (h : Part t) : wordsT t ≠ [] := by
  cases h with
  | str h => simp [wordsT]
  | int a b => simp [wordsT]
  | val h => exact h.words
/-- a step: a word, and what stands behind it -/
def Sp (t : T) : Prop := ∃ z rs, t = .tup (.str z :: rs) ∧ z.length ≤ 8 ∧ rs.length ≤ 2 ∧ ∀ x ∈ rs, Part x
theorem sn_sp {ow bx lk : List Str} {b : Int} (hb : b ≤ 99) (now : ∀ z ∈ ow, nameOk z = true) (nbx : ∀ z ∈ bx, nameOk z = true) (nlk : ∀ z ∈ lk, nameOk z = true) {t : T} (h : SN ow bx lk b t) : Sp t := by
  have pn : ∀ {zs : List Str} {x : Str}, (∀ z ∈ zs, nameOk z = true) → x ∈ zs → Part (.str x) := fun h m => .str (nameOk_len (h _ m))
  have pv : ∀ {v : T}, VF ow [] 5 v → Part v := fun q => .val ⟨ow, [], q, now, fun _ z => by cases z⟩
  cases h with
  | take m => exact ⟨_, _, rfl, by decide, by simp, al_cons (pn nlk m) al_nil⟩
  | give m => exact ⟨_, _, rfl, by decide, by simp, al_cons (pn nlk m) al_nil⟩
  | get m m' => exact ⟨_, _, rfl, by decide, by simp, al_cons (pn now m) (al_cons (pn nbx m') al_nil)⟩
  | add m q => exact ⟨_, _, rfl, by decide, by simp, al_cons (pn nbx m) (al_cons (pv q) al_nil)⟩
  | put m q => exact ⟨_, _, rfl, by decide, by simp, al_cons (pn nbx m) (al_cons (pv q) al_nil)⟩
  | wait m q => exact ⟨_, _, rfl, by decide, by simp, al_cons (pn nbx m) (al_cons (pv q) al_nil)⟩
  | set m q => exact ⟨_, _, rfl, by decide, by simp, al_cons (pn now m) (al_cons (pv q) al_nil)⟩
  | check q => exact ⟨_, _, rfl, by decide, by simp, al_cons (pv q) al_nil⟩
  | skip a c => exact ⟨_, _, rfl, by decide, by simp, al_cons (.int a (by omega)) al_nil⟩
  | unl q a c => exact ⟨_, _, rfl, by decide, by simp, al_cons (pv q) (al_cons (.int a (by omega)) al_nil)⟩
def cST : List T → TH → UX → Prop := fun ts S Pp => ∃ t, ts = [t] ∧ Sp t ∧ Pp (.str (joinW (wordsT t))) S
theorem scST : FnScope ["_law_step_here", "_law_found", "_law_part"] ["_law_step_here"] (defScope (top 16)) := ⟨rfl, rfl, rfl, by decide +kernel, rfl, by decide +kernel, by decide +kernel⟩
theorem step_text {m : Nat} (N : Nm P w K mg) (d : Stands K mg "_law_step_text" ["_law_step_here"] (top 16)) (c_law_value_text : Has P w K mg base m "_law_value_text" ["_law_value_here"] (cVT 6)) : Has P w K mg base (m + 1) "_law_step_text" ["_law_step_here"] cST := by
  have sc := scST
  refine has_of (k := m) d sc (fun ts S Pp h => ?_) fun cdv f A outer s H E hr => ?_
  · obtain ⟨t, rfl, _⟩ := h; rfl
  have hu0 := hu0_of hr
  refine ⟨_, (uss_cons (us_set 1 sc.nd (ue_lstC (ua_cons (ue_ix (uv 0) ue_int) ua_nil)))
      (uss_cons (us_for PassesOwn.never rfl (ui_any (ue_slT (uv 0) (uo_some ue_int) uo_none)) (ug_name 2 sc.nd) (uss_one (us_if (ut_val (ue_isi rfl N.isinstance (ua_cons (uv 2) (ua_cons (ue_bty rfl N.tuple boot_tuple) ua_nil)))) (uss_one (us_expr (ue_append (uv 1) (ua_cons (ue_calln c_law_value_text hr rfl (ua_cons (uv 2) ua_nil)) ua_nil)))) (uss_one (us_expr (ue_append (uv 1) (ua_cons (ue_strA rfl N.str (ua_cons (uv 2) ua_nil)) ua_nil)))))))
      (uss_one (us_ret (ue_join ue_str (ua_cons (ue_frz (uv 1)) ua_nil)))))), fun ts S0 Pp h => ?_⟩
  obtain ⟨_, rfl, ⟨z, rs, rfl, hz, hl, hx⟩, h⟩ := h
  let g := fun x : T => T.str (joinW (wordsT x))
  refine seq_join (fun env S => ∃ p, env = [some (.tup (.str z :: rs)), some (.ref p), none] ∧ S0 p = none ∧ S = updT S0 p (.lst [.str z])) (fun k hk => ⟨_, at0, show 1 ≤ sizeLine by decide, fun p hp => hk _ _ ⟨p, rfl, hp, rfl⟩⟩) ?_
  rintro _ _ ⟨p, rfl, hp, rfl⟩
  refine seq_join (fun env S => ∃ e2, env = [some (.tup (.str z :: rs)), some (.ref p), e2] ∧ S = updT S0 p (.lst (.str z :: rs.map g))) (fun k hk => ?_) ?_
  · show ∃ Iv : Nat → Ev → TH → Prop, _ ∧ (∀ (k : Nat) (x : T) env S, (cutA (T.str z :: rs) (some 1) none)[k]? = some x → _) ∧ ∀ env S, Iv (cutA (T.str z :: rs) (some 1) none).length env S → _
    rw [cut_tail]
    refine ⟨fun k env S => ∃ e2, env = [some (.tup (.str z :: rs)), some (.ref p), e2] ∧ S = updT S0 p (.lst (.str z :: (rs.take k).map g)), ⟨none, rfl, rfl⟩, ?_, ?_⟩
    · rintro k x env S ek ⟨e2, rfl, rfl⟩
      have hp' := hx x (List.mem_of_getElem? ek)
      have ln : (T.str z :: (rs.take k).map g).length < sizeLine := by
        rw [List.length_cons, List.length_map, List.length_take]
        exact small1000 (by omega)
      have nx : updT (updT S0 p (.lst (.str z :: (rs.take k).map g))) p (.lst (.str z :: (rs.take k).map g ++ [g x])) = updT S0 p (.lst (.str z :: (rs.take (k + 1)).map g)) := by
        rw [upd2, List.take_add_one, ek, List.map_append]; rfl
      cases hp' with
      | @str y hy =>
        have e : g (.str y) = .str y := by show T.str (joinW (wordsT (.str y))) = _; simp [wordsT, joinW_one]
        rw [e] at nx
        exact ⟨rfl, fun e => (by cases e), fun _ => ⟨⟨_, updT_same⟩, _, updT_same, ln, _, rfl, nx⟩⟩
      | @int i a b =>
        have e : g (.int i) = .str (numS i) := by show T.str (joinW (wordsT (.int i))) = _; simp [wordsT, joinW_one]
        rw [e] at nx
        exact ⟨rfl, fun e => (by cases e), fun _ => ⟨⟨_, updT_same⟩, num_log a b, _, updT_same, ln, _, rfl, nx⟩⟩
      | val hv =>
        obtain ⟨ow, bx, vf, h1, h2⟩ := hv
        obtain ⟨us, rfl⟩ := vf_tup vf
        exact ⟨rfl, fun _ => ⟨⟨_, updT_same⟩, _, 5, by decide, rfl, ⟨ow, bx, vf, h1, h2⟩, _, updT_same, ln, _, rfl, nx⟩, fun e => (by cases e)⟩
    · rintro env S ⟨e2, rfl, rfl⟩
      rw [List.take_length]
      exact hk _ _ ⟨e2, rfl, rfl⟩
  rintro _ _ ⟨e2, rfl, rfl⟩
  refine ⟨_, updT_same, z :: rs.map fun x => joinW (wordsT x), ?_, joins_sum hz hl fun x hx' => (hx x hx').wt, ?_⟩
  · rw [List.map_cons, List.map_map]; rfl
  · rw [del_upd hp]
    show Pp (.str (joinW (z :: rs.map fun x => joinW (wordsT x)))) S0
    rw [joinW_parts z fun x hx' => (hx x hx').words]
    exact h
end
end K11
end
section
set_option Elab.async false
set_option linter.all false
set_option maxRecDepth 100000
set_option maxHeartbeats 4000000
namespace K11
open PySem PySem.Spec PyProof.Rows L2 TL
seal UE UT UA US USs UI UG UO UW PTs uComp uSeq uOr uAnd

def tx (t : T) : T := .str (joinW (wordsT t))
theorem words2 (a b : Str) : joinW [a, b] = a ++ " " ++ b := by rw [joinW_cons a (by simp), joinW_one]
theorem words3 (a b c : Str) : joinW [a, b, c] = a ++ " " ++ b ++ " " ++ c := by
  rw [joinW_cons a (by simp), words2]
  simp only [Str.append_assoc]
theorem tx2 (a b : Str) : tx (.tup [.str a, .str b]) = .str (a ++ " " ++ b) := by
  show T.str (joinW (wordsT (.tup [.str a, .str b]))) = _
  simp [wordsT, wordsL, words2]
theorem tx2i (a : Str) (i : Int) : tx (.tup [.str a, .int i]) = .str (a ++ " " ++ numS i) := by
  show T.str (joinW (wordsT (.tup [.str a, .int i]))) = _
  simp [wordsT, wordsL, words2]
theorem tx3 (a b : Str) (i : Int) : tx (.tup [.str a, .str b, .int i]) = .str (a ++ " " ++ b ++ " " ++ numS i) := by
  show T.str (joinW (wordsT (.tup [.str a, .str b, .int i]))) = _
  simp [wordsT, wordsL, words3]
theorem txc (a : Str) {t : T} (h : wordsT t ≠ []) : tx (.tup [.str a, t]) = .str (a ++ " " ++ joinW (wordsT t)) := by
  show T.str (joinW (wordsT (.tup [.str a, t]))) = _
  have e : wordsT (.tup [.str a, t]) = a :: wordsT t := by simp [wordsT, wordsL]
  rw [e, joinW_cons a h]
section
variable {size : Int} {bs : List (Str × Int)} {ls : List Str} {ps : List Prg} {ws : List Int} {cs : List T}
theorem LV.step_sp (h : LV size bs ls ps ws cs) {p : Prg} (hp : p ∈ ps) : ∀ t ∈ p.2.2, Sp t := fun t ht => by
  obtain ⟨k, hk, rfl⟩ := List.mem_iff_getElem.mp ht
  have v := h.po p hp
  exact sn_sp (by have := v.short; omega) v.names h.names h.lo (v.steps k _ (List.getElem?_eq_getElem hk))
theorem LV.claim_vn (h : LV size bs ls ps ws cs) : ∀ t ∈ cs, Vn 5 t := fun t ht => ⟨[], bs.map (·.1), h.co t ht, fun _ z => (by cases z), h.names⟩
end
section
variable {P : Program} {w : World} {K : PySem.W.Frag} {mg : Str → Option Value} {base : Heap}
def cRows : List T → TH → UX → Prop := fun ts S Pp => ∃ size bs ls ps ws cs, ts = [.tup (loomT size bs ls ps ws cs)] ∧ LV size bs ls ps ws cs ∧ ∀ S', Pp (.lst ((rowsOf size bs ls ps ws cs).map tx)) S'
theorem scRows : FnScope ["_law_loom_here", "_law_rows_here", "_law_name", "_law_owns", "_law_steps_here"] ["_law_loom_here"] (defScope (top 17)) := ⟨rfl, rfl, rfl, by decide +kernel, rfl, by decide +kernel, by decide +kernel⟩
theorem law_rows {m : Nat} (N : Nm P w K mg) (d : Stands K mg "_law_rows" ["_law_loom_here"] (top 17)) (c_law_value_text : Has P w K mg base m "_law_value_text" ["_law_value_here"] (cVT 6)) (c_law_step_text : Has P w K mg base m "_law_step_text" ["_law_step_here"] cST) : Has P w K mg base (m + 1) "_law_rows" ["_law_loom_here"] cRows := by
  have sc := scRows
  refine has_of (k := m) d sc (fun ts S Pp h => ?_) fun cdv f A outer s H E hr => ?_
  · obtain ⟨_, _, _, _, _, _, rfl, _⟩ := h; rfl
  refine ⟨_, (uss_cons (us_set 1 sc.nd (ue_lstC (ua_cons (ue_plus ue_str (ue_strC rfl N.str (ua_cons (ue_ix (uv 0) ue_int) ua_nil))) ua_nil)))
      (uss_cons (us_set 1 sc.nd (ue_plusC (uv 1) (ue_comp2 0 1 ["_law_name", "_law_number"] [none, none] rfl (ui_any (ue_ix (uv 0) ue_int)) (fun _ _ _ _ _ => uts_nil) (fun _ _ _ _ _ => (ue_plus (ue_plus (ue_plus ue_str (uv 0)) ue_str) (ue_strC rfl N.str (ua_cons (uv 1) ua_nil)))))))
      (uss_cons (us_set 1 sc.nd (ue_plusC (uv 1) (ue_comp1 0 ["_law_name"] [none] rfl (ui_any (ue_ix (uv 0) ue_int)) (fun _ _ _ _ _ => uts_nil) (fun _ _ _ _ _ => (ue_plus ue_str (uv 0))))))
      (uss_cons (us_for PassesOwn.never rfl (ui_any (ue_ix (uv 0) ue_int)) (ug_triple 2 3 4 rfl sc.nd) (uss_cons (us_expr (ue_append (uv 1) (ua_cons (ue_plus ue_str (uv 2)) ua_nil)))
      (uss_cons (us_set 1 sc.nd (ue_plusC (uv 1) (ue_comp2 0 1 ["_law_own", "_law_number"] [none, none] rfl (ui_any (uv 3)) (fun _ _ _ _ _ => uts_nil) (fun _ _ _ _ _ => (ue_plus (ue_plus (ue_plus ue_str (uv 0)) ue_str) (ue_strC rfl N.str (ua_cons (uv 1) ua_nil)))))))
      (uss_one (us_set 1 sc.nd (ue_plusC (uv 1) (ue_comp1 0 ["_law_step_here"] [none] rfl (ui_any (uv 4)) (fun _ _ _ _ _ => uts_nil) (fun _ _ _ _ _ => (ue_calln c_law_step_text hr rfl (ua_cons (uv 0) ua_nil))))))))))
      (uss_cons (us_set 1 sc.nd (ue_plusC (uv 1) (ue_comp1 0 ["_law_number", "_law_loom_here"] [none, some 0] rfl (ui_any (ue_ix (uv 0) ue_int)) (fun _ _ _ _ _ => uts_nil) (fun _ _ _ _ _ => (ue_plus ue_str (ue_ix (ue_ix (ue_ix (uv 1) ue_int) (uv 0)) ue_int))))))
      (uss_one (us_ret (ue_frz (ue_plusC (uv 1) (ue_comp1 0 ["_law_claim"] [none] rfl (ui_any (ue_ix (uv 0) ue_int)) (fun _ _ _ _ _ => uts_nil) (fun _ _ _ _ _ => (ue_plus ue_str (ue_calln c_law_value_text hr rfl (ua_cons (uv 0) ua_nil)))))))))))))), fun ts S0 Pp h => ?_⟩
  obtain ⟨size, bs, ls, ps, ws, cs, rfl, v, h⟩ := h
  have o1 : 1 ≤ sizeLine := by decide
  have l2 := rows2_len v
  have lb := v.bn
  have ll := v.ln
  have lp := v.p4
  have lw := v.w6
  have lc := v.cn
  have s2 := v.s2
  have s16 := v.s16
  let L := T.tup (loomT size bs ls ps ws cs)
  -- a word with its blank, and a short one
  have ln : ∀ {a b : Str} (n : Nat), a.length ≤ n → b.length ≤ 20000 → n ≤ 100 → a.length + b.length ≤ sizeLine := fun n h1 h2 h3 => Nat.le_trans (Nat.add_le_add h1 h2) (Nat.le_trans (Nat.add_le_add_right h3 _) (by decide))
  have la : ∀ {a b : Str} {n m : Nat}, a.length ≤ n → b.length ≤ m → (a ++ b).length ≤ n + m := fun h1 h2 => by rw [Str.length_append]; omega
  have pr : ∀ (a : Str) (q : Str × Int), a.length ≤ 8 → nameOk q.1 = true ∧ 0 ≤ q.2 ∧ q.2 < size → (a.length + q.1.length ≤ sizeLine ∧ (a ++ q.1).length + (" " : Str).length ≤ sizeLine ∧ q.2.natAbs.log2 < 1920 ∧ (a ++ q.1 ++ " ").length + (numS q.2).length ≤ sizeLine) := fun a q ha hq => by
    have n1 := nameOk_len hq.1
    have n2 := numS_len hq.2.1 (by omega)
    have h1 := la ha n1
    have h2 : (a ++ q.1 ++ " ").length ≤ 8 + 8 + 1 := la h1 (show (" " : Str).length ≤ 1 by decide)
    exact ⟨ln 8 ha (by omega) (by decide), ln _ h1 (by decide) (by decide), num_log hq.2.1 (by omega), ln _ h2 (by omega) (by decide)⟩
  refine seq_join (fun env S => ∃ p, env = [some L, some (.ref p), none, none, none] ∧ S p = some (.lst ([T.tup [.str "size", .int size]].map tx))) (fun k hk => ⟨_, rfl, num_log (by omega) (by omega), ln 8 (by decide) (Nat.le_trans (numS_len (i := size) (by omega) (by omega)) (by decide)) (by decide), o1, fun p hp => hk _ _ ⟨p, rfl, ?_⟩⟩) ?_
  · rw [updT_same, List.map_cons, tx2i]; rfl
  rintro _ S1 ⟨p, rfl, h1⟩
  refine seq_join (fun env S => ∃ p, env = [some L, some (.ref p), none, none, none] ∧ S p = some (.lst (([T.tup [.str "size", .int size]] ++ bs.map boxRow).map tx))) (fun k hk => comp_map (S := S1) bs pairT (fun q => tx (boxRow q)) (fun k hk => ⟨_, rfl, hk⟩) (sz1000 (by omega)) (fun q hq A B hA => ⟨fun _ => ?_, fun e => (by cases e)⟩) ⟨_, _, h1, rfl, ?_, fun p hp => hk _ _ ⟨p, rfl, ?_⟩⟩) ?_
  · obtain ⟨c1, c2, c3, c4⟩ := pr "box " q (by decide) (v.bo q hq)
    refine ⟨c1, c2, c3, c4, ?_⟩
    unfold boxRow at hA
    rw [tx3] at hA
    exact hA
  · rw [List.length_map, List.length_map, List.length_singleton]; exact sz1000 (by omega)
  · rw [updT_same, List.map_append, List.map_map]; rfl
  clear h1
  rintro _ S2 ⟨p, rfl, h1⟩
  refine seq_join (fun env S => ∃ p, env = [some L, some (.ref p), none, none, none] ∧ S p = some (.lst ((rows2 size bs ls).map tx))) (fun k hk => comp_map (S := S2) ls T.str (fun q => tx (lockRow q)) (fun k hk => ⟨_, rfl, hk⟩) (sz1000 (by omega)) (fun q hq A B hA => ⟨fun _ => ⟨ln 8 (by decide) (Nat.le_trans (nameOk_len (v.lo q hq)) (by decide)) (by decide), ?_⟩, fun e => (by cases e)⟩) ⟨_, _, h1, rfl, ?_, fun p hp => hk _ _ ⟨p, rfl, ?_⟩⟩) ?_
  · unfold lockRow at hA
    rw [tx2] at hA
    exact hA
  · rw [List.length_map, List.length_map, List.length_append, List.length_map, List.length_singleton]; exact sz1000 (by omega)
  · unfold rows2
    rw [updT_same, List.map_append (l₂ := ls.map lockRow), List.map_map (l := ls)]; rfl
  clear h1
  rintro _ S3 ⟨p, rfl, h1⟩
  refine seq_join (fun env S => ∃ p e2 e3 e4, env = [some L, some (.ref p), e2, e3, e4] ∧ S p = some (.lst ((rows2 size bs ls ++ ps.flatMap progRows).map tx))) (fun k hk => ⟨_, rfl, ?_⟩) ?_
  · refine ⟨fun k env S => ∃ p e2 e3 e4, env = [some L, some (.ref p), e2, e3, e4] ∧ S p = some (.lst ((rows2 size bs ls ++ (ps.take k).flatMap progRows).map tx)), ⟨p, none, none, none, rfl, by rw [h1, List.take_zero, List.flatMap_nil, List.append_nil]⟩, ?_, ?_⟩
    · rintro k x env S ek ⟨p, e2, e3, e4, rfl, h1⟩
      rw [List.getElem?_map] at ek
      cases ex : ps[k]? with
      | none => rw [ex] at ek; cases ek
      | some q =>
        rw [ex] at ek
        cases ek
        have hq := List.mem_of_getElem? ex
        have vq := v.po q hq
        have f1 := vq.few
        have f2 := vq.short
        have hk4 : k < ps.length := (List.getElem?_eq_some_iff.mp ex).1
        have hR : (rows2 size bs ls ++ (ps.take k).flatMap progRows).length ≤ 13 + 35 * 4 := by
          rw [List.length_append]
          have := progs_len (ps := ps.take k) fun q hq => v.po q (List.mem_of_mem_take hq)
          have : (ps.take k).length ≤ 4 := by rw [List.length_take]; omega
          omega
        have eR : rows2 size bs ls ++ (ps.take (k + 1)).flatMap progRows = rows2 size bs ls ++ (ps.take k).flatMap progRows ++ [progRow q.1] ++ q.2.1.map ownRow ++ q.2.2 := by
          rw [List.take_add_one, ex, List.flatMap_append]
          simp [progRows]
        generalize rows2 size bs ls ++ (ps.take k).flatMap progRows = R at h1 hR eR
        let ev := fun p : Addr => ([some L, some (.ref p), some (.str q.1), some (.tup (q.2.1.map pairT)), some (.tup q.2.2)] : Ev)
        refine seq_join (fun env S => ∃ p, env = ev p ∧ S p = some (.lst ((R ++ [progRow q.1]).map tx))) (fun k hk => ⟨⟨_, h1⟩, ln 8 (by decide) (Nat.le_trans (nameOk_len vq.nm) (by decide)) (by decide), _, h1, by rw [List.length_map]; exact small1000 (by omega), hk _ _ ⟨p, rfl, ?_⟩⟩) ?_
        · rw [updT_same, List.map_append, List.map_singleton, progRow, tx2]; rfl
        clear h1
        rintro _ S4 ⟨p, rfl, h1⟩
        refine seq_join (fun env S => ∃ p, env = ev p ∧ S p = some (.lst ((R ++ [progRow q.1] ++ q.2.1.map ownRow).map tx))) (fun k hk => comp_map (S := S4) q.2.1 pairT (fun q => tx (ownRow q)) (fun k hk => hk) (sz1000 (by omega)) (fun o ho A B hA => ⟨fun _ => ?_, fun e => (by cases e)⟩) ⟨_, _, h1, rfl, ?_, fun p hp => hk _ _ ⟨p, rfl, ?_⟩⟩) ?_
        · obtain ⟨c1, c2, c3, c4⟩ := pr "own " o (by decide) (vq.num o ho)
          refine ⟨c1, c2, c3, c4, ?_⟩
          unfold ownRow at hA
          rw [tx3] at hA
          exact hA
        · rw [List.length_map, List.length_map, List.length_append, List.length_singleton]; exact sz1000 (by omega)
        · rw [updT_same, List.map_append (l₂ := q.2.1.map ownRow), List.map_map (l := q.2.1)]; rfl
        clear h1
        rintro _ S5 ⟨p, rfl, h1⟩
        refine comp_map (S := S5) q.2.2 id tx (fun k hk => ?_) (sz1000 (by omega)) (fun t ht A B hA => ⟨fun _ => ⟨t, rfl, v.step_sp hq t ht, hA⟩, fun e => (by cases e)⟩) ⟨_, _, h1, rfl, ?_, fun p hp => ⟨p, _, _, _, rfl, ?_⟩⟩
        · rw [List.map_id] at hk; exact hk
        · rw [List.length_map, List.length_map, List.length_append, List.length_append, List.length_map, List.length_singleton]; exact sz1000 (by omega)
        · rw [eR, updT_same, List.map_append (l₂ := q.2.2)]
    · rintro env S ⟨p, e2, e3, e4, rfl, h1⟩
      rw [List.length_map, List.take_length] at h1
      exact hk _ _ ⟨p, e2, e3, e4, rfl, h1⟩
  clear h1
  rintro _ S4 ⟨p, e2, e3, e4, rfl, h1⟩
  have l3 : (rows2 size bs ls ++ ps.flatMap progRows).length ≤ 13 + 35 * 4 := by
    rw [List.length_append]
    have := progs_len v.po
    omega
  refine seq_join (fun env S => ∃ p, env = [some L, some (.ref p), e2, e3, e4] ∧ S p = some (.lst ((rows2 size bs ls ++ ps.flatMap progRows ++ ws.map (workRow ps)).map tx))) (fun k hk => comp_map (S := S4) ws T.int (fun i => tx (workRow ps i)) (fun k hk => ⟨_, rfl, hk⟩) (sz1000 (by omega)) (fun i hi A B hA => ⟨fun _ => ?_, fun e => (by cases e)⟩) ⟨_, _, h1, rfl, ?_, fun p hp => hk _ _ ⟨p, rfl, ?_⟩⟩) ?_
  · obtain ⟨q, hq, eq, en⟩ := name_at v hi
    refine ⟨_, rfl, _, eq, _, rfl, ln 8 (by decide) (Nat.le_trans (nameOk_len (v.po q hq).nm) (by decide)) (by decide), ?_⟩
    unfold workRow at hA
    rw [en, tx2] at hA
    exact hA
  · rw [List.length_map, List.length_map]; exact sz1000 (by omega)
  · rw [updT_same, List.map_append (l₂ := ws.map (workRow ps)), List.map_map (l := ws)]; rfl
  clear h1
  rintro _ S5 ⟨p, rfl, h1⟩
  refine comp_map (S := S5) cs id (fun t => tx (claimRow t)) (fun k hk => ⟨_, rfl, ?_⟩) (sz1000 (by omega)) (fun t ht A B hA => ⟨fun _ => ⟨t, 5, by decide, rfl, v.claim_vn t ht, ln 8 (by decide) (joinW_len (v.claim_wt t ht) (by decide)) (by decide), ?_⟩, fun e => (by cases e)⟩) ⟨_, _, h1, rfl, ?_, fun p hp => ⟨_, updT_same, ?_⟩⟩
  · rw [List.map_id] at hk; exact hk
  · unfold claimRow at hA
    rw [txc _ (v.claim_vn t ht).words] at hA
    exact hA
  · rw [List.length_map, List.length_map, List.length_append, List.length_map]; exact sz1000 (by omega)
  · have e : (rowsOf size bs ls ps ws cs).map tx = (rows2 size bs ls ++ ps.flatMap progRows ++ ws.map (workRow ps)).map tx ++ cs.map fun t => tx (claimRow t) := by
      unfold rowsOf
      rw [List.map_append (l₂ := cs.map claimRow), List.map_map (l := cs)]; rfl
    rw [← e]
    exact h _
def cLaw : List T → TH → UX → Prop := fun ts S Pp => ∃ ns : List Int, ts = [.fls (ns.map T.int)] ∧ ∀ S', Pp (.bl true) S'
theorem scLaw : FnScope ["_law_script", "_law_one", "_law_other", "_law_loom_here", "_law_found", "_law_step_here", "_law_row"] ["_law_script"] (defScope (top 18)) := ⟨rfl, rfl, rfl, by decide +kernel, rfl, by decide +kernel, by decide +kernel⟩
def IsLoom (t : T) : Prop := ∃ size bs ls ps ws cs, t = .tup (loomT size bs ls ps ws cs) ∧ LV size bs ls ps ws cs
theorem law_ok {m : Nat} {f : Addr} {fd : FuncData} (N : Nm P w K mg) (F : Fun K "law" "law" (top 18) f fd) (c_law_cell_at : Has P w K mg base m "_law_cell_at" ["_law_script", "_law_k"] cCell) (c_law_state : Has P w K mg base m "_law_state" ["_law_cell", "_law_k"] cState) (c_law_great : Has P w K mg base m "_law_great" ["_law_state_here"] cGreat) (c_written : Has P w K mg base m "written" ["loom"] cWritten) (c_law_rows : Has P w K mg base m "_law_rows" ["_law_loom_here"] cRows)
    (c_step_words : Has P w K mg base m "step_words" ["step"] cSW) (c_law_step_text : Has P w K mg base m "_law_step_text" ["_law_step_here"] cST) : FnOk P w K mg base CX0 (m + 1) f fd ["_law_script"] (spU K cLaw) := by
  have sc := scLaw
  refine def_u (k := m) F sc (fun ts S Pp h => ?_) fun cdv A outer s H E hr => ?_
  · obtain ⟨ns, rfl, _⟩ := h; rfl
  have hu0 := hu0_of hr
  refine ⟨_, (uss_cons (us_set 1 sc.nd (ue_calln c_law_great hr rfl (ua_cons (ue_calln c_law_state hr rfl (ua_cons (ue_calln c_law_cell_at hr rfl (ua_cons (uv 0) (ua_cons ue_int ua_nil))) (ua_cons ue_int ua_nil))) ua_nil)))
      (uss_cons (us_set 2 sc.nd (ue_calln c_law_great hr rfl (ua_cons (ue_calln c_law_state hr rfl (ua_cons (ue_calln c_law_cell_at hr rfl (ua_cons (uv 0) (ua_cons ue_int ua_nil))) (ua_cons ue_int ua_nil))) ua_nil)))
      (uss_cons (us_for PassesOwn.never rfl (ui_any (ue_tup (ua_cons (uv 1) (ua_cons (uv 2) (ua_cons (uv 1) ua_nil))))) (ug_name 3 sc.nd) (uss_cons (us_set 4 sc.nd (ue_calln c_written hr rfl (ua_cons (uv 3) ua_nil)))
      (uss_cons (us_if (UW.ut (uw_or (ut_not (ut_val (ue_isi rfl N.isinstance (ua_cons (uv 4) (ua_cons (ue_bty rfl N.str boot_str) ua_nil))))) (uw_or1 (ut_ne hu0 (uv 4) (ue_join ue_str (ua_cons (ue_comp1 0 ["_law_row"] [none] rfl (ui_any (ue_calln c_law_rows hr rfl (ua_cons (uv 3) ua_nil))) (fun _ _ _ _ _ => uts_nil) (fun _ _ _ _ _ => (ue_plus (uv 0) ue_str))) ua_nil)))))) (uss_one (us_ret ue_bl)) uss_nil)
      (uss_one (us_for PassesOwn.never rfl (ui_any (ue_slT (ue_ix (ue_ix (ue_ix (uv 3) ue_int) ue_int) ue_int) uo_none (uo_some ue_int))) (ug_name 5 sc.nd) (uss_cons (us_set 6 sc.nd (ue_calln c_step_words hr rfl (ua_cons (uv 5) ua_nil)))
      (uss_one (us_if (UW.ut (uw_or (ut_not (ut_val (ue_isi rfl N.isinstance (ua_cons (uv 6) (ua_cons (ue_bty rfl N.str boot_str) ua_nil))))) (uw_or1 (ut_ne hu0 (uv 6) (ue_calln c_law_step_text hr rfl (ua_cons (uv 5) ua_nil)))))) (uss_one (us_ret ue_bl)) uss_nil))))))))
      (uss_one (us_ret ue_bl))))), fun ts S0 Pp h => ?_⟩
  obtain ⟨ns, rfl, h⟩ := h
  have o3 : 3 ≤ sizeLine := by decide
  refine seq_join (fun env S => ∃ x, env = [some (.fls (ns.map T.int)), some x, none, none, none, none, none] ∧ IsLoom x) (fun k hk => ⟨ns, 0, rfl, fun v => ⟨v, 1, rfl, fun a y ha => ⟨a, rfl, Sd.new, fun size bs ls ps ws cs S1 _ lv => hk _ _ ⟨_, rfl, size, bs, ls, ps, ws, cs, rfl, lv⟩⟩⟩⟩) ?_
  rintro _ S1 ⟨x, rfl, hx⟩
  refine seq_join (fun env S => ∃ y, env = [some (.fls (ns.map T.int)), some x, some y, none, none, none, none] ∧ IsLoom y) (fun k hk => ⟨ns, 1, rfl, fun v => ⟨v, 2, rfl, fun a y ha => ⟨a, rfl, Sd.new, fun size bs ls ps ws cs S1 _ lv => hk _ _ ⟨_, rfl, size, bs, ls, ps, ws, cs, rfl, lv⟩⟩⟩⟩) ?_
  rintro _ S2 ⟨y, rfl, hy⟩
  refine seq_join (fun _ _ => True) (fun k hk => ?_) fun _ _ _ => h _
  refine ⟨o3, fun _ env S => ∃ e3 e4 e5 e6, env = [some (.fls (ns.map T.int)), some x, some y, e3, e4, e5, e6], ⟨none, none, none, none, rfl⟩, ?_, fun _ _ _ => hk _ _ trivial⟩
  rintro k0 z env S ek ⟨e3, e4, e5, e6, rfl⟩
  have hz : IsLoom z := by
    have : z = x ∨ z = y := by
      rcases k0 with _ | _ | _ | k0
      · simp at ek; exact .inl ek.symm
      · simp at ek; exact .inr ek.symm
      · simp at ek; exact .inl ek.symm
      · simp at ek
    rcases this with rfl | rfl
    · exact hx
    · exact hy
  obtain ⟨size, bs, ls, ps, ws, cs, rfl, v⟩ := hz
  let ev := fun e4 e5 e6 : Option T => ([some (.fls (ns.map T.int)), some x, some y, some (.tup (loomT size bs ls ps ws cs)), e4, e5, e6] : Ev)
  have lr := rowsOf_len v
  have wts := rowsOf_wt v
  refine seq_join (fun env S => env = ev (some (.str (textOf (rowsOf size bs ls ps ws cs)))) e5 e6) (fun k hk => ⟨size, bs, ls, ps, ws, cs, rfl, v, hk _ _ rfl⟩) ?_
  rintro _ S3 rfl
  refine seq_join (fun env S => env = ev (some (.str (textOf (rowsOf size bs ls ps ws cs)))) e5 e6) (fun k hk => ?_) ?_
  · refine or_skip (fun P hP => ⟨rfl, hP⟩) ?_
    refine comp_draw (fun ts S1 => ts = (rowsOf size bs ls ps ws cs).map tx) (fun k hk => ⟨size, bs, ls, ps, ws, cs, rfl, v, fun S' => hk _ _ rfl⟩) ?_
    rintro _ S4 rfl
    refine ⟨by rw [List.length_map]; exact sz1000 (by omega), fun k acc S => acc = ((rowsOf size bs ls ps ws cs).take k).map fun t => .str (lineOf t), rfl, ?_, ?_⟩
    · rintro k x acc S ek rfl
      rw [List.getElem?_map] at ek
      cases ex : (rowsOf size bs ls ps ws cs)[k]? with
      | none => rw [ex] at ek; cases ek
      | some t =>
        rw [ex] at ek
        cases ek
        refine ⟨fun _ => ⟨Nat.le_trans (Nat.add_le_add_right (joinW_len (wts t (List.mem_of_getElem? ex)) (by decide)) 1) (by decide), ?_⟩, fun e => (by cases e)⟩
        show List.map _ (List.take k _) ++ [_] = List.map _ (List.take (k + 1) _)
        rw [List.take_add_one, ex, List.map_append]; rfl
    · rintro acc S rfl
      rw [List.length_map, List.take_length]
      refine ⟨(rowsOf size bs ls ps ws cs).map lineOf, by rw [List.map_map]; rfl, lines_sum lr wts, ?_⟩
      refine ⟨fun e => ?_, fun _ => hk _ _ rfl⟩
      exact absurd e (by simp [textOf])
  rintro _ S4 rfl
  obtain ⟨p, hp, e0⟩ : ∃ p ∈ ps, atI (ps.map progT) (0 : Int) = some (progT p) := at_map progT (by decide) (by have := v.p1; omega)
  refine ⟨_, rfl, _, e0, _, rfl, ?_⟩
  refine ⟨fun k env S => ∃ e5 e6, env = ev (some (.str (textOf (rowsOf size bs ls ps ws cs)))) e5 e6, ⟨e5, e6, rfl⟩, ?_, ?_⟩
  · rintro k t env S ek ⟨e5, e6, rfl⟩
    have ht : t ∈ p.2.2 := cutN_mem (List.mem_of_getElem? ek)
    refine seq_join (fun env S => env = ev (some (.str (textOf (rowsOf size bs ls ps ws cs)))) (some t) (some (tx t))) (fun k hk => ⟨t, rfl, v.step_wt hp t ht, hk _ _ rfl⟩) ?_
    rintro _ S5 rfl
    refine or_skip (fun P hP => ⟨rfl, hP⟩) ?_
    refine ⟨t, rfl, v.step_sp hp t ht, fun e => ?_, fun _ => ⟨_, _, rfl⟩⟩
    exact absurd e (by simp)
  · rintro env S ⟨e5, e6, rfl⟩
    exact ⟨_, _, _, _, rfl⟩
theorem all_ok {f : Addr} {fd : FuncData} (N : Nm P w K mg) (s_words : Stands K mg "words_of" ["thing"] (top 1)) (s_sw : Stands K mg "step_words" ["step"] (top 3)) (s_written : Stands K mg "written" ["loom"] (top 4)) (s_cell : Stands K mg "_law_cell_at" ["_law_script", "_law_k"] (top 6)) (s_state : Stands K mg "_law_state" ["_law_cell", "_law_k"] (top 7)) (s_next : Stands K mg "_law_next" ["_law_state_here", "_law_size"] (top 8)) (s_names : Stands K mg "_law_names" ["_law_state_here", "_law_amount"] (top 9)) (s_value : Stands K mg "_law_value" ["_law_state_here", "_law_deep", "_law_owns", "_law_boxes"] (top 10)) (s_step : Stands K mg "_law_step" ["_law_state_here", "_law_owns", "_law_boxes", "_law_locks", "_law_behind"] (top 11)) (s_steps : Stands K mg "_law_steps" ["_law_state_here", "_law_owns", "_law_boxes", "_law_locks", "_law_most"] (top 12)) (s_loom : Stands K mg "_law_loom" ["_law_state_here", "_law_most", "_law_workers"] (top 13)) (s_great : Stands K mg "_law_great" ["_law_state_here"] (top 14)) (s_vt : Stands K mg "_law_value_text" ["_law_value_here"] (top 15)) (s_st : Stands K mg "_law_step_text" ["_law_step_here"] (top 16)) (s_rows : Stands K mg "_law_rows" ["_law_loom_here"] (top 17))
    (F : Fun K "law" "law" (top 18) f fd) : FnOk P w K mg base CX0 40 f fd ["_law_script"] (spU K cLaw) := by
  have c_next := law_next (base := base) N s_next
  have c_cell := cell_at (base := base) N s_cell
  have c_state := law_state (base := base) N s_state
  have c_names := law_names (base := base) N s_names c_next
  have c_val := law_value (base := base) N s_value c_next 5
  have c_step := law_step (base := base) (m := 6) N s_step (c_next.mono (by omega)) c_val
  have c_steps := law_steps (base := base) (m := 7) N s_steps (c_next.mono (by omega)) c_step
  have c_loom := law_loom (base := base) (m := 8) N s_loom (c_next.mono (by omega)) (c_names.mono (by omega)) c_steps (c_val.mono (by omega))
  have c_great := law_great (base := base) (m := 9) N s_great (c_next.mono (by omega)) (c_names.mono (by omega)) (c_steps.mono (by omega)) (c_val.mono (by omega)) c_loom
  have c_words := words_of (base := base) N s_words 7 (by decide)
  have c_sw := step_words (base := base) (m := 8) N s_sw c_words
  have c_written := written (base := base) (m := 8) N s_written c_words
  have c_vt := value_text (base := base) N s_vt 6 (by decide)
  have c_st := step_text (base := base) (m := 7) N s_st c_vt
  have c_rows := law_rows (base := base) (m := 8) N s_rows (c_vt.mono (by omega)) c_st
  exact law_ok (m := 39) N F (c_cell.mono (by omega)) (c_state.mono (by omega)) (c_great.mono (by omega)) (c_written.mono (by omega)) (c_rows.mono (by omega)) (c_sw.mono (by omega)) (c_st.mono (by omega))
end
end K11
end
section
set_option Elab.async false
set_option linter.all false
open PySem PySem.W PyProof.Rows
set_option maxRecDepth 100000 in
set_option maxHeartbeats 0 in
theorem PySem.Challenge.cw_loomlook_k11_written_holds : PySem.Challenge.rw_loomlook_k11_written.Holds := by
  w_on; o_law; k_head; (case hw => w_witness2)
  k_fill
  refine L2.walk_ofK (l := PySem.Challenge.rw_loomlook_k11_written) (n := 63) (k := 40) (x := "_law_script") (CX := L2.CX0) (sp := fun K => TL.spU K K11.cLaw) rfl (by decide) rfl ⟨rfl, by decide, by decide⟩ (fun w h Y => PySem.W.kIn_of Y) ?F ?S ?C
  case S => exact fun K H a ns hl hO hS => TL.script_mk hO hS ⟨ns, rfl, fun _ => rfl⟩
  case C => exact fun _ _ _ _ z => z
  case F =>
    intro w mg fa h KX G hmg
    have nm : K11.Nm PySem.Challenge.rw_loomlook_k11_written.prog w (L2.KOf KX) mg := by
      dsimp only [L2.KOf]
      refine' ⟨PySem.W.mg_none_of KX G ?z_isinstance, PySem.W.mg_none_of KX G ?z_str, PySem.W.mg_none_of KX G ?z_tuple, PySem.W.mg_none_of KX G ?z_len, PySem.W.mg_none_of KX G ?z_range⟩
      (case z_isinstance => k_is)
      (case z_str => k_is)
      (case z_tuple => k_is)
      (case z_len => k_is)
      (case z_range => k_is)
    have s_words_of : TL.Stands (L2.KOf KX) mg "words_of" ["thing"] (K11.top 1) := by
      dsimp only [L2.KOf]
      refine' TL.stands_mk KX G ?a1 ?l1 ?c1 ?k1 (fun _ _ _ _ _ _ us hl => match us, hl with | [_], _ => rfl)
      (case a1 => k_is); (case l1 => k_is); (case c1 => k_is); (case k1 => k_is)
    have s_step_words : TL.Stands (L2.KOf KX) mg "step_words" ["step"] (K11.top 3) := by
      dsimp only [L2.KOf]
      refine' TL.stands_mk KX G ?a1 ?l1 ?c1 ?k1 (fun _ _ _ _ _ _ us hl => match us, hl with | [_], _ => rfl)
      (case a1 => k_is); (case l1 => k_is); (case c1 => k_is); (case k1 => k_is)
    have s_written : TL.Stands (L2.KOf KX) mg "written" ["loom"] (K11.top 4) := by
      dsimp only [L2.KOf]
      refine' TL.stands_mk KX G ?a1 ?l1 ?c1 ?k1 (fun _ _ _ _ _ _ us hl => match us, hl with | [_], _ => rfl)
      (case a1 => k_is); (case l1 => k_is); (case c1 => k_is); (case k1 => k_is)
    have s_law_cell_at : TL.Stands (L2.KOf KX) mg "_law_cell_at" ["_law_script", "_law_k"] (K11.top 6) := by
      dsimp only [L2.KOf]
      refine' TL.stands_mk KX G ?a1 ?l1 ?c1 ?k1 (fun _ _ _ _ _ _ us hl => match us, hl with | [_, _], _ => rfl)
      (case a1 => k_is); (case l1 => k_is); (case c1 => k_is); (case k1 => k_is)
    have s_law_state : TL.Stands (L2.KOf KX) mg "_law_state" ["_law_cell", "_law_k"] (K11.top 7) := by
      dsimp only [L2.KOf]
      refine' TL.stands_mk KX G ?a1 ?l1 ?c1 ?k1 (fun _ _ _ _ _ _ us hl => match us, hl with | [_, _], _ => rfl)
      (case a1 => k_is); (case l1 => k_is); (case c1 => k_is); (case k1 => k_is)
    have s_law_next : TL.Stands (L2.KOf KX) mg "_law_next" ["_law_state_here", "_law_size"] (K11.top 8) := by
      dsimp only [L2.KOf]
      refine' TL.stands_mk KX G ?a1 ?l1 ?c1 ?k1 (fun _ _ _ _ _ _ us hl => match us, hl with | [_, _], _ => rfl)
      (case a1 => k_is); (case l1 => k_is); (case c1 => k_is); (case k1 => k_is)
    have s_law_names : TL.Stands (L2.KOf KX) mg "_law_names" ["_law_state_here", "_law_amount"] (K11.top 9) := by
      dsimp only [L2.KOf]
      refine' TL.stands_mk KX G ?a1 ?l1 ?c1 ?k1 (fun _ _ _ _ _ _ us hl => match us, hl with | [_, _], _ => rfl)
      (case a1 => k_is); (case l1 => k_is); (case c1 => k_is); (case k1 => k_is)
    have s_law_value : TL.Stands (L2.KOf KX) mg "_law_value" ["_law_state_here", "_law_deep", "_law_owns", "_law_boxes"] (K11.top 10) := by
      dsimp only [L2.KOf]
      refine' TL.stands_mk KX G ?a1 ?l1 ?c1 ?k1 (fun _ _ _ _ _ _ us hl => match us, hl with | [_, _, _, _], _ => rfl)
      (case a1 => k_is); (case l1 => k_is); (case c1 => k_is); (case k1 => k_is)
    have s_law_step : TL.Stands (L2.KOf KX) mg "_law_step" ["_law_state_here", "_law_owns", "_law_boxes", "_law_locks", "_law_behind"] (K11.top 11) := by
      dsimp only [L2.KOf]
      refine' TL.stands_mk KX G ?a1 ?l1 ?c1 ?k1 (fun _ _ _ _ _ _ us hl => match us, hl with | [_, _, _, _, _], _ => rfl)
      (case a1 => k_is); (case l1 => k_is); (case c1 => k_is); (case k1 => k_is)
    have s_law_steps : TL.Stands (L2.KOf KX) mg "_law_steps" ["_law_state_here", "_law_owns", "_law_boxes", "_law_locks", "_law_most"] (K11.top 12) := by
      dsimp only [L2.KOf]
      refine' TL.stands_mk KX G ?a1 ?l1 ?c1 ?k1 (fun _ _ _ _ _ _ us hl => match us, hl with | [_, _, _, _, _], _ => rfl)
      (case a1 => k_is); (case l1 => k_is); (case c1 => k_is); (case k1 => k_is)
    have s_law_loom : TL.Stands (L2.KOf KX) mg "_law_loom" ["_law_state_here", "_law_most", "_law_workers"] (K11.top 13) := by
      dsimp only [L2.KOf]
      refine' TL.stands_mk KX G ?a1 ?l1 ?c1 ?k1 (fun _ _ _ _ _ _ us hl => match us, hl with | [_, _, _], _ => rfl)
      (case a1 => k_is); (case l1 => k_is); (case c1 => k_is); (case k1 => k_is)
    have s_law_great : TL.Stands (L2.KOf KX) mg "_law_great" ["_law_state_here"] (K11.top 14) := by
      dsimp only [L2.KOf]
      refine' TL.stands_mk KX G ?a1 ?l1 ?c1 ?k1 (fun _ _ _ _ _ _ us hl => match us, hl with | [_], _ => rfl)
      (case a1 => k_is); (case l1 => k_is); (case c1 => k_is); (case k1 => k_is)
    have s_law_value_text : TL.Stands (L2.KOf KX) mg "_law_value_text" ["_law_value_here"] (K11.top 15) := by
      dsimp only [L2.KOf]
      refine' TL.stands_mk KX G ?a1 ?l1 ?c1 ?k1 (fun _ _ _ _ _ _ us hl => match us, hl with | [_], _ => rfl)
      (case a1 => k_is); (case l1 => k_is); (case c1 => k_is); (case k1 => k_is)
    have s_law_step_text : TL.Stands (L2.KOf KX) mg "_law_step_text" ["_law_step_here"] (K11.top 16) := by
      dsimp only [L2.KOf]
      refine' TL.stands_mk KX G ?a1 ?l1 ?c1 ?k1 (fun _ _ _ _ _ _ us hl => match us, hl with | [_], _ => rfl)
      (case a1 => k_is); (case l1 => k_is); (case c1 => k_is); (case k1 => k_is)
    have s_law_rows : TL.Stands (L2.KOf KX) mg "_law_rows" ["_law_loom_here"] (K11.top 17) := by
      dsimp only [L2.KOf]
      refine' TL.stands_mk KX G ?a1 ?l1 ?c1 ?k1 (fun _ _ _ _ _ _ us hl => match us, hl with | [_], _ => rfl)
      (case a1 => k_is); (case l1 => k_is); (case c1 => k_is); (case k1 => k_is)
    have lw : TL.Stands (L2.KOf KX) mg "law" ["_law_script"] (K11.top 18) := by
      dsimp only [L2.KOf]
      refine' TL.stands_mk KX G ?a1 ?l1 ?c1 ?k1 (fun _ _ _ _ _ _ us hl => match us, hl with | [_], _ => rfl)
      (case a1 => k_is); (case l1 => k_is); (case c1 => k_is); (case k1 => k_is)
    obtain ⟨f, fd, F, b, hm⟩ := lw
    have e := hmg.symm.trans hm
    cases e
    obtain ⟨oc, od, kV, doc, pm, an, cdv, ct, osl, rfl, _⟩ := F.ex
    exact ⟨_, fun s u => .of_eq rfl, fun base _ _ => K11.all_ok nm s_words_of s_step_words s_written s_law_cell_at s_law_state s_law_next s_law_names s_law_value s_law_step s_law_steps s_law_loom s_law_great s_law_value_text s_law_step_text s_law_rows F⟩
end


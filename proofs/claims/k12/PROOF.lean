import PyProof.Rows.All
import Wide.All
import OpenK.AllK
import Wide.FinOn
import Lean
import PyProof.EqAt
import PyProof.EqKinds
import PyProof.TupleCall
import PyProof.ExcAttrAll.ValueError
import PyProof.IsiH_list
import KE.KIsAll
import PyProof.NeKinds
import PyProof.Rows.SortRuns
import PyProof.Rows.SortShell
import KE.KSortTup
import PyProof.Rows.SortWalk
import KE.KxSplit
import PyProof.Rows.FStr
import PyProof.Rows.StrSplit
import PyProof.Rows.StrSplitAre
import PyProof.Rows.StrSplitJoin
import PyProof.Rows.FStrParts
import PyProof.SliceStr2
import PyProof.StrLoop
import PyProof.StrLawsIn
import PyProof.StrLawsJoin
import KE.KIntText
import PyProof.Rows.StrSliceCases
import PySem.Challenge.RW_knowthree_k12_halls_read_or_refused
import KE.RegKIsAll
import KE.RegKTryMore
set_option Elab.async false
set_option linter.all false
set_option maxRecDepth 100000
/-! THE HAND LAYER, for ints, bools, texts, own classes, DICTS (int and text keys), calls, loops. Paste it whole ahead of your own text; what your proof does not reach may be deleted. -/
/-! THE HAND LAYER, for ints, bools, texts, own classes, LISTS and tuples (index, slices, in, append, pop ..), calls, loops. Paste it whole ahead of your own text; what your proof does not reach may be deleted. -/
namespace L2
open PySem PySem.Spec PyProof.Rows

/-- a key: an int or a str -/
abbrev Key := Sum Int Str
def keyIs : Key → Value → Bool
  | .inl k, v => Value.isInt k v
  | .inr x, v => Value.isStrOf x v
def keyH (w : World) : Key → Int
  | .inl k => hashInt k
  | .inr x => hashStr w x
theorem keyIs_shape : ∀ {k : Key} {v : Value}, keyIs k v = true → (∃ i t, k = Sum.inl i ∧ v = Value.int i t) ∨ (∃ x t, k = Sum.inr x ∧ v = Value.str x t)
  | .inl i, v, h => by
    obtain ⟨t, e⟩ := Value.isInt_shape (k := i) (v := v) h
    exact .inl ⟨i, t, rfl, e⟩
  | .inr x, v, h => by
    obtain ⟨t, e⟩ := Value.isStrOf_shape (x := x) (v := v) h
    exact .inr ⟨x, t, rfl, e⟩
theorem keyIs_int (i : Int) (t : Tok) : keyIs (.inl i) (.int i t) = true := by simp [keyIs, Value.isInt]
theorem keyIs_str (x : Str) (t : Tok) : keyIs (.inr x) (.str x t) = true := by simp [keyIs, Value.isStrOf]
theorem key_ll (a b : Int) : decide ((Sum.inl a : Key) = Sum.inl b) = (a == b) := by
  by_cases e : a = b
  · subst e; simp
  · have h : ¬ (Sum.inl a : Key) = Sum.inl b := fun q => e (Sum.inl.inj q)
    rw [decide_eq_false h]
    exact (beq_eq_false_iff_ne.mpr e).symm
theorem key_rr (a b : Str) : decide ((Sum.inr a : Key) = Sum.inr b) = decide (a = b) := by
  by_cases e : a = b
  · subst e; simp
  · have h : ¬ (Sum.inr a : Key) = Sum.inr b := fun q => e (Sum.inr.inj q)
    rw [decide_eq_false h, decide_eq_false e]
theorem key_lr (a : Int) (b : Str) : decide ((Sum.inl a : Key) = Sum.inr b) = false := decide_eq_false (fun q => nomatch q)
theorem key_rl (a : Str) (b : Int) : decide ((Sum.inr a : Key) = Sum.inl b) = false := decide_eq_false (fun q => nomatch q)

def mixKind (prog : Program) (w : World) : PySem.KeyKind prog w Key where
  is := keyIs
  hash := keyH w
  inj := fun v a b ha hb => by
    rcases keyIs_shape ha with ⟨i, t, rfl, rfl⟩ | ⟨x, t, rfl, rfl⟩
    · rcases keyIs_shape hb with ⟨j, u, rfl, e⟩ | ⟨y, u, rfl, e⟩
      · injection e with e1 _; rw [e1]
      · exact nomatch e
    · rcases keyIs_shape hb with ⟨j, u, rfl, e⟩ | ⟨y, u, rfl, e⟩
      · exact nomatch e
      · injection e with e1 _; rw [e1]
  byValue := fun k v h => by
    rcases keyIs_shape h with ⟨i, t, rfl, rfl⟩ | ⟨x, t, rfl, rfl⟩ <;> rfl
  pyHash := fun hv h => by
    rcases keyIs_shape hv with ⟨i, t, rfl, rfl⟩ | ⟨x, t, rfl, rfl⟩
    · exact wpAny_pyHash_int h
    · exact wpAny_pyHash_str h
  eqBool := fun hu hv h => by
    rcases keyIs_shape hu with ⟨i, t, rfl, rfl⟩ | ⟨x, t, rfl, rfl⟩
    · rcases keyIs_shape hv with ⟨j, u, rfl, rfl⟩ | ⟨y, u, rfl, rfl⟩
      · rw [key_ll] at h; exact wpAny_eqBool_int h
      · rw [key_lr] at h; exact SeqAt.EqAt.int_str i t y u _ _ _ _ h
    · rcases keyIs_shape hv with ⟨j, u, rfl, rfl⟩ | ⟨y, u, rfl, rfl⟩
      · rw [key_rl] at h; exact SeqAt.EqAt.str_int x t j u _ _ _ _ h
      · rw [key_rr] at h; exact wpAny_eqBool_str h
  «strs» := fun k x t v h => by
    rcases keyIs_shape h with ⟨i, u, rfl, e⟩ | ⟨y, u, rfl, e⟩
    · exact nomatch e
    · injection e with e1 _
      subst e1
      cases v <;> rfl

theorem mixKind_int (prog : Program) (w : World) (i : Int) (t : Tok) : (mixKind prog w).is (.inl i) (.int i t) = true := keyIs_int i t
theorem mixKind_str (prog : Program) (w : World) (x : Str) (t : Tok) : (mixKind prog w).is (.inr x) (.str x t) = true := keyIs_str x t
end L2

namespace L2
open PySem PySem.Spec PyProof.Rows

/-- a value, without the heap -/
inductive V where
  | non | bl (b : Bool) | int (i : Int) | str (x : Str) | byt (b : Array UInt8) | flt (b : UInt64) | ref (a : Addr) | ty (n : String)
  deriving DecidableEq

def RelV : V → Value → Prop
  | .non, u => u = Value.none
  | .bl b, u => u = Value.bool b
  | .int i, u => ∃ t, u = Value.int i t
  | .str x, u => ∃ t, u = Value.str x t
  | .byt b, u => ∃ t, u = Value.bytes b t
  | .flt b, u => ∃ t, u = Value.float b t
  | .ref a, u => u = Value.ref a
  | .ty n, u => u = Value.type n

abbrev Vals : List V → List Value → Prop := Paired RelV
theorem Vals.length {xs : List V} {us : List Value} (r : Vals xs us) : xs.length = us.length := Paired.length r
theorem Vals.get : ∀ {xs : List V} {us : List Value} {i : Nat} {x : V}, Vals xs us → xs[i]? = some x → ∃ u, us[i]? = some u ∧ RelV x u
  | _, _, _, _, .nil, e => by simp at e
  | _, _, 0, _, .cons r _, e => by simp at e; subst e; exact ⟨_, rfl, r⟩
  | _, _, i + 1, x, .cons _ t, e => by
    obtain ⟨u, h1, h2⟩ := Vals.get (i := i) (x := x) t (by simpa using e)
    exact ⟨u, by simpa using h1, h2⟩
theorem Vals.set {x : V} {u : Value} (r : RelV x u) : ∀ {xs : List V} {us : List Value} (i : Nat), Vals xs us → Vals (xs.set i x) (us.set i u)
  | _, _, _, .nil => .nil
  | _, _, 0, .cons _ t => .cons r t
  | _, _, i + 1, .cons q t => .cons q (Vals.set r i t)
theorem Vals.append : ∀ {xs ys : List V} {us ws : List Value}, Vals xs us → Vals ys ws → Vals (xs ++ ys) (us ++ ws)
  | _, _, _, _, .nil, s => s
  | _, _, _, _, .cons r t, s => .cons r (Vals.append t s)
theorem Vals.take : ∀ {xs : List V} {us : List Value} (n : Nat), Vals xs us → Vals (xs.take n) (us.take n)
  | _, _, 0, _ => .nil
  | _, _, _ + 1, .nil => .nil
  | _, _, n + 1, .cons r t => .cons r (Vals.take n t)
theorem Vals.drop : ∀ {xs : List V} {us : List Value} (n : Nat), Vals xs us → Vals (xs.drop n) (us.drop n)
  | _, _, 0, r => r
  | _, _, _ + 1, .nil => .nil
  | _, _, n + 1, .cons _ t => Vals.drop n t
theorem Vals.none_of : ∀ {xs : List V} {us : List Value} {i : Nat}, Vals xs us → xs[i]? = none → us[i]? = none := fun {xs us i} r e => by
  have h1 := r.length
  have h2 : xs.length ≤ i := List.getElem?_eq_none_iff.mp e
  exact List.getElem?_eq_none_iff.mpr (by (first | lia | omega))

def RelO : Option V → Option Value → Prop
  | some v, some u => RelV v u
  | none, none => True
  | _, _ => False
def KV {κ : Type} : List (κ × V) → List (κ × Value) → Prop := Paired fun (p : κ × V) (q : κ × Value) => p.1 = q.1 ∧ RelV p.2 q.2

/-- a key of a dict (00_mix): an int or a text -/
def kV : Key → V
  | .inl i => .int i
  | .inr x => .str x

/-- what stands at a tracked address -/
inductive HO where
  /-- a list -/
  | lst (xs : List V)
  /-- a tuple (never changes) -/
  | tup (xs : List V)
  /-- a dict whose keys are ints and texts; one whose keys are tuples of ints and texts (the empty one is both) -/
  | dK (kvs : List (Key × V)) | dT (kvs : List (List Key × V))
  /-- a set of ints: its members, its size -/
  | set (S : Int → Bool) (n : Nat)
  /-- an instance of the class at C, its dict at dx, its attributes -/
  | ins (C dx : Addr) (fs : List (Str × V))
  /-- the dict of the instance at x -/
  | own (x : Addr)
  /-- the dict of an exception -/
  | xd (fs : List (Str × V))
  /-- a bound method, f of x -/
  | met (f x : Addr)
  /-- a range object lo, lo + 1, .. below hi -/
  | rng (lo hi : Int)
  /-- a thing that is known to the object (the script; a dict while a loop walks it): read, never written while it is so -/
  | frz (o : Obj) (u : HO)
  /-- a code object's table -/
  | tbl (ps : Array Value)
  /-- any other thing, by what is true of its one object (a def of one's own: SetO a S n := HO.ext fun h => ..) -/
  | ext (φ : Heap → Prop)

abbrev Hp := Addr → Option HO
def upd (H : Hp) (a : Addr) (o : HO) : Hp := fun b => if b = a then some o else H b
theorem upd_same {H : Hp} {a : Addr} {o : HO} : upd H a o a = some o := by unfold upd; rw [if_pos rfl]
theorem upd_ne {H : Hp} {a b : Addr} {o : HO} (h : b ≠ a) : upd H a o b = H b := by unfold upd; rw [if_neg h]
/-- two objects of different content stand apart -/
theorem ne_of {H : Hp} {a b : Addr} {o u : HO} (h : H a = some o) (h' : H b = some u) (d : o ≠ u) : a ≠ b := by
  intro e; subst e; rw [h] at h'; exact d (Option.some.inj h')
theorem ne_of_none {H : Hp} {a b : Addr} {o : HO} (h : H a = some o) (h' : H b = none) : a ≠ b := by
  intro e; subst e; rw [h] at h'; cases h'

section
variable (P : Program) (w : World)
def ObjOk (H : Hp) (h : Heap) (a : Addr) : HO → Prop
  | .lst xs => xs.length ≤ sizeLine ∧ ∃ (its : List Value) (n : Nat), Vals xs its ∧ h.get? a = some { cls := .type "list", data := .seq its.toArray n }
  | .tup xs => xs.length ≤ sizeLine ∧ ∃ its : List Value, Vals xs its ∧ IsTup h a its.toArray
  | .dK kvs => kvs.length ≤ sizeLine ∧ (a == sysModules) = false ∧ ∃ vs, KV kvs vs ∧ h.DictOf (mixKind P w) a vs
  | .dT kvs => kvs.length ≤ sizeLine ∧ (a == sysModules) = false ∧ ∃ xs : List (List Key × Addr × Value),
      Paired (fun (p : List Key × V) (q : List Key × Addr × Value) => p.1 = q.1 ∧ H q.2.1 = some (.tup (p.1.map kV)) ∧ RelV p.2 q.2.2) kvs xs ∧
      ∃ o es ep, h.get? a = some o ∧ o.ExactDict ∧ o.data = .dict es ep ∧ es.toList = xs.map (entryOfKey (tupleKind (mixKind P w))) ∧ (xs.map (·.1)).Nodup
  | .set S n => h.SetOf (intKind P w) a S n
  | .ins C dx fs => H dx = some (.own a) ∧ fs.length ≤ 1000 ∧ dx ≠ a ∧ h.get? a = some (PySem.W.instObj C dx) ∧
      ∃ mA, h.Ns1 dx mA ∧ (∀ f, RelO (fs.lookup f) (mA f)) ∧ PySem.Within mA (fs.map (·.1))
  | .own _ => ∃ o, h.get? a = some o
  | .xd fs => ∃ mA, h.Ns1 a mA ∧ ∀ f, RelO (fs.lookup f) (mA f)
  | .rng lo hi => ∃ t u v, h.get? a = some { cls := .type "range", data := .fields #[.int lo t, .int hi u, .int 1 v] }
  | .frz o u => h.get? a = some o ∧ ObjOk H h a u
  | .tbl ps => h.get? a = some { cls := .none, data := .fields ps }
  | .met f x => h.get? a = some (PySem.W.methodObj (.ref f) (.ref x))
  | .ext φ => φ h ∧ (∃ o, h.get? a = some o) ∧ ∀ h1 h2 : Heap, φ h1 → (∀ o, h1.get? a = some o → h2.get? a = some o) → φ h2
/-- the abstract heap is held -/
def HOk (H : Hp) (h : Heap) : Prop := ∀ a o, H a = some o → ObjOk P w H h a o
end

section
variable {P : Program} {w : World} {H H' : Hp} {h h' : Heap} {a : Addr} {o : HO}
theorem ObjOk.lt (x : ObjOk P w H h a o) : a < h.objs.size := by
  cases o with
  | lst xs => obtain ⟨_, _, _, _, e⟩ := x; exact Heap.lt_size e
  | tup xs => obtain ⟨_, _, _, p⟩ := x; exact p.lt
  | dK kvs => obtain ⟨_, _, _, _, o, _, _, e, _⟩ := x; exact Heap.lt_size e
  | dT kvs => obtain ⟨_, _, _, _, o, _, _, e, _⟩ := x; exact Heap.lt_size e
  | set S n => obtain ⟨o, _, _, _, e, _⟩ := x; exact Heap.lt_size e
  | ins C dx fs => obtain ⟨_, _, _, e, _⟩ := x; exact Heap.lt_size e
  | own y => obtain ⟨_, e⟩ := x; exact Heap.lt_size e
  | xd fs => obtain ⟨_, ⟨_, _, _, e, _⟩, _⟩ := x; exact Heap.lt_size e
  | rng lo hi => obtain ⟨_, _, _, e⟩ := x; exact Heap.lt_size e
  | frz ob u => obtain ⟨e, _⟩ := x; exact Heap.lt_size e
  | tbl ps => exact Heap.lt_size (show h.get? a = some _ from x)
  | met f y => exact Heap.lt_size (show h.get? a = some _ from x)
  | ext φ => obtain ⟨_, ⟨_, e⟩, _⟩ := x; exact Heap.lt_size e
theorem Paired.mapP {α β : Type} {F G : α → β → Prop} : ∀ {l₁ : List α} {l₂ : List β}, Paired F l₁ l₂ → (∀ a b, F a b → G a b) → Paired G l₁ l₂
  | _, _, .nil, _ => .nil
  | _, _, .cons r t, f => .cons (f _ _ r) (Paired.mapP t f)
/-- what an object's description leans on: its own object, its own dict, the tuples -/
theorem ObjOk.stay (x : ObjOk P w H h a o) (k : ∀ b u, (b = a ∨ H b = some (.own a)) → h.get? b = some u → h'.get? b = some u)
    (ho : ∀ b, H b = some (.own a) → H' b = some (.own a)) (ht : ∀ b xs, H b = some (.tup xs) → H' b = some (.tup xs)) : ObjOk P w H' h' a o := by
  induction o with
  | lst xs => obtain ⟨z, its, n, r, e⟩ := x; exact ⟨z, its, n, r, k _ _ (.inl rfl) e⟩
  | tup xs => obtain ⟨z, its, r, ob, e, c⟩ := x; exact ⟨z, its, r, ob, k _ _ (.inl rfl) e, c⟩
  | dK kvs => obtain ⟨z, y, vs, r, ob, es, ep, e, c⟩ := x; exact ⟨z, y, vs, r, ob, es, ep, k _ _ (.inl rfl) e, c⟩
  | dT kvs =>
    obtain ⟨z, y, xs, r, ob, es, ep, e, c⟩ := x
    exact ⟨z, y, xs, Paired.mapP r fun p q z => ⟨z.1, ht _ _ z.2.1, z.2.2⟩, ob, es, ep, k _ _ (.inl rfl) e, c⟩
  | set S n => obtain ⟨ob, es, ep, t, e, c⟩ := x; exact ⟨ob, es, ep, t, k _ _ (.inl rfl) e, c⟩
  | ins C dx fs =>
    obtain ⟨d, z, ne, e, mA, ⟨od, es, ep, e2, c⟩, r⟩ := x
    exact ⟨ho _ d, z, ne, k _ _ (.inl rfl) e, mA, ⟨od, es, ep, k _ _ (.inr d) e2, c⟩, r⟩
  | own y => obtain ⟨ob, e⟩ := x; exact ⟨ob, k _ _ (.inl rfl) e⟩
  | xd fs => obtain ⟨mA, ⟨od, es, ep, e, c⟩, r⟩ := x; exact ⟨mA, ⟨od, es, ep, k _ _ (.inl rfl) e, c⟩, r⟩
  | rng lo hi => obtain ⟨t, u, v, e⟩ := x; exact ⟨t, u, v, k _ _ (.inl rfl) e⟩
  | frz ob u ih => obtain ⟨e, q⟩ := x; exact ⟨k _ _ (.inl rfl) e, ih q⟩
  | tbl ps =>
    have e : h.get? a = some { cls := .none, data := .fields ps } := x
    show h'.get? a = some { cls := .none, data := .fields ps }
    exact k a _ (.inl rfl) e
  | met f y =>
    have e : h.get? a = some (PySem.W.methodObj (.ref f) (.ref y)) := x
    show h'.get? a = some (PySem.W.methodObj (.ref f) (.ref y))
    exact k a _ (.inl rfl) e
  | ext φ => obtain ⟨p, ⟨o, e⟩, st⟩ := x; exact ⟨st _ _ p fun o q => k _ _ (.inl rfl) q, ⟨o, k _ _ (.inl rfl) e⟩, st⟩
theorem HOk.lt (x : HOk P w H h) (e : H a = some o) : a < h.objs.size := (x a o e).lt
theorem HOk.fresh (x : HOk P w H h) (e : h.objs.size ≤ a) : H a = none := by
  cases q : H a with
  | none => rfl
  | some u => exact absurd (Nat.lt_of_lt_of_le (x.lt q) e) (Nat.lt_irrefl _)
/-- every object of the heap is kept -/
theorem HOk.kept (x : HOk P w H h) (k : ∀ b u, h.get? b = some u → h'.get? b = some u) : HOk P w H h' := fun a o e =>
  (x a o e).stay (fun b u _ q => k b u q) (fun _ q => q) fun _ _ q => q
/-- a new object is laid and tracked -/
theorem HOk.laid (x : HOk P w H h) (k : ∀ b u, h.get? b = some u → h'.get? b = some u) (hp : h.objs.size ≤ a) (new : ObjOk P w (upd H a o) h' a o) : HOk P w (upd H a o) h' := fun b u e => by
  have hn := x.fresh hp
  by_cases hb : b = a
  · subst hb; rw [upd_same] at e; cases e; exact new
  · rw [upd_ne hb] at e
    exact (x b u e).stay (fun c v _ q => k c v q) (fun c q => by rw [upd_ne (ne_of_none q hn)]; exact q) fun c xs q => by rw [upd_ne (ne_of_none q hn)]; exact q
end

/-- what may be read as u: it is u, or a known u -/
def Rd (H : Hp) (a : Addr) (u : HO) : Prop := H a = some u ∨ ∃ o, H a = some (.frz o u)
theorem Rd.of {H : Hp} {a : Addr} {u : HO} (h : H a = some u) : Rd H a u := .inl h
theorem Rd.ok {P : Program} {w : World} {H : Hp} {h : Heap} {a : Addr} {u : HO} (r : Rd H a u) (x : HOk P w H h) : ObjOk P w H h a u := by
  rcases r with r | ⟨o, r⟩
  · exact x a u r
  · obtain ⟨_, q⟩ := x a _ r
    exact q
/-- what may be written -/
def Mut : Option HO → Prop
  | some (.lst _) => True
  | some (.dK _) => True
  | some (.dT _) => True
  | some (.set _ _) => True
  | some (.ins _ _ _) => True
  | some (.ext _) => True
  | _ => False
section
variable {P : Program} {w : World} {H : Hp} {h h' : Heap} {x e : Addr} {o' : HO}
/-- the object at e is changed: x itself, or the dict of the instance x -/
theorem HOk.write (ok : HOk P w H h) (mu : Mut (H x)) (he : e = x ∨ H e = some (.own x)) (k : ∀ b u, b ≠ e → h.get? b = some u → h'.get? b = some u) (heo : ∃ u, h'.get? e = some u)
    (new : ObjOk P w (upd H x o') h' x o') : HOk P w (upd H x o') h' := fun b u q => by
  have nown : ∀ c y, H c = some (.own y) → c ≠ x := fun c y r z => by subst z; rw [r] at mu; exact mu
  have ntup : ∀ c xs, H c = some (.tup xs) → c ≠ x := fun c xs r z => by subst z; rw [r] at mu; exact mu
  by_cases hb : b = x
  · subst hb; rw [upd_same] at q; cases q; exact new
  · rw [upd_ne hb] at q
    by_cases hbe : b = e
    · have q' : H b = some (.own x) := by
        rcases he with z | z
        · exact absurd (hbe.trans z) hb
        · rw [hbe]; exact z
      rw [q] at q'; cases q'
      obtain ⟨v, hv⟩ := heo
      exact ⟨v, by rw [hbe]; exact hv⟩
    · refine (ok b u q).stay (fun c v hc r => k c v ?_ r) (fun c r => by rw [upd_ne (nown c b r)]; exact r) fun c xs r => by rw [upd_ne (ntup c xs r)]; exact r
      rcases hc with rfl | hc
      · exact hbe
      · rintro rfl
        rcases he with z | z
        · exact nown c b hc z
        · rw [hc] at z; cases z; exact hb rfl
end

/-! ### kept unless tracked; of the frames at fs (the callers') the slots may change (an exception that passes writes there); of the records at ex (iterators) nothing is said -/
structure Un (fs ex : List Addr) (H H' : Hp) (h h' : Heap) : Prop where
  keep : ∀ b o, h.get? b = some o → H b = none → b ∉ fs → b ∉ ex → h'.get? b = some o
  slot : ∀ b o, h.get? b = some o → H b = none → b ∈ fs → b ∉ ex → ∃ sl, h'.get? b = some { o with slots := sl }
  free : ∀ b o, h.get? b = some o → H b = none → b ∉ ex → H' b = none
  there : ∀ b o, h.get? b = some o → b ∉ ex → ∃ o', h'.get? b = some o'
  tups : ∀ b xs, H b = some (.tup xs) → H' b = some (.tup xs)
  frzs : ∀ b o u, H b = some (.frz o u) → H' b = some (.frz o u)
  tbls : ∀ b ps, H b = some (.tbl ps) → ∃ more, H' b = some (.tbl (ps ++ more))
section
variable {fs fs' ex ex' : List Addr} {H H1 H2 : Hp} {h h1 h2 h' : Heap} {a x e : Addr} {o : HO}
theorem Un.any (u : Un fs ex H H1 h h1) {b : Addr} {ob : Obj} (q : h.get? b = some ob) (n : H b = none) (hx : b ∉ ex) : ∃ sl, h1.get? b = some { ob with slots := sl } := by
  by_cases hb : b ∈ fs
  · exact u.slot b ob q n hb hx
  · exact ⟨ob.slots, u.keep b ob q n hb hx⟩
theorem Un.trans (a : Un fs ex H H1 h h1) (b : Un fs ex H1 H2 h1 h2) : Un fs ex H H2 h h2 where
  keep := fun c ob q n hc hx => b.keep c ob (a.keep c ob q n hc hx) (a.free c ob q n hx) hc hx
  slot := fun c ob q n hc hx => by
    obtain ⟨sl, e1⟩ := a.slot c ob q n hc hx
    obtain ⟨sl', e2⟩ := b.slot c _ e1 (a.free c ob q n hx) hc hx
    exact ⟨sl', e2⟩
  free := fun c ob q n hx => by
    obtain ⟨o', e1⟩ := a.there c ob q hx
    exact b.free c o' e1 (a.free c ob q n hx) hx
  there := fun c ob q hx => by
    obtain ⟨o', e1⟩ := a.there c ob q hx
    exact b.there c o' e1 hx
  tups := fun c xs q => b.tups c xs (a.tups c xs q)
  frzs := fun c ob xs q => b.frzs c ob xs (a.frzs c ob xs q)
  tbls := fun c ps q => by
    obtain ⟨m1, e1⟩ := a.tbls c ps q
    obtain ⟨m2, e2⟩ := b.tbls c _ e1
    exact ⟨m1 ++ m2, by rw [e2, Array.append_assoc]⟩
theorem Un.kept (k : ∀ b u, h.get? b = some u → h'.get? b = some u) : Un fs ex H H h h' :=
  ⟨fun b ob q _ _ _ => k b ob q, fun b ob q _ _ _ => ⟨ob.slots, k b ob q⟩, fun _ _ _ n _ => n, fun b ob q _ => ⟨ob, k b ob q⟩, fun _ _ q => q, fun _ _ _ q => q, fun _ ps q => ⟨#[], by rw [q]; simp⟩⟩
theorem Un.refl : Un fs ex H H h h := Un.kept fun _ _ q => q
theorem Un.laid (k : ∀ b u, h.get? b = some u → h'.get? b = some u) (hp : h.objs.size ≤ a) (hn : H a = none) : Un fs ex H (upd H a o) h h' where
  keep := fun b u q _ _ _ => k b u q
  slot := fun b u q _ _ _ => ⟨u.slots, k b u q⟩
  free := fun b u q n _ => by rw [upd_ne (Nat.ne_of_lt (Nat.lt_of_lt_of_le (Heap.lt_size q) hp))]; exact n
  there := fun b u q _ => ⟨u, k b u q⟩
  tups := fun b xs q => by rw [upd_ne (ne_of_none q hn)]; exact q
  frzs := fun b u xs q => by rw [upd_ne (ne_of_none q hn)]; exact q
  tbls := fun b ps q => ⟨#[], by rw [upd_ne (ne_of_none q hn), q]; simp⟩
theorem Un.write (mu : Mut (H x)) (he : e = x ∨ H e = some (.own x)) (k : ∀ b u, b ≠ e → h.get? b = some u → h'.get? b = some u) (heo : ∃ u, h'.get? e = some u) : Un fs ex H (upd H x o) h h' := by
  have hx : ∀ b, H b = none → b ≠ x := fun b n z => by subst z; rw [n] at mu; exact mu
  have hb : ∀ b, H b = none → b ≠ e := fun b n z => by
    subst z
    rcases he with r | r
    · exact hx b n r
    · rw [n] at r; cases r
  have hm : ∀ b u, H b = some u → ¬ Mut (some u) → b ≠ x := fun b u q nm z => by subst z; rw [q] at mu; exact nm mu
  refine ⟨fun b u q n _ _ => k b u (hb b n) q, fun b u q n _ _ => ⟨u.slots, k b u (hb b n) q⟩, fun b u q n _ => by rw [upd_ne (hx b n)]; exact n, fun b u q _ => ?_,
    fun b xs q => by rw [upd_ne (hm b _ q fun z => z)]; exact q, fun b u xs q => by rw [upd_ne (hm b _ q fun z => z)]; exact q, fun b ps q => ⟨#[], by rw [upd_ne (hm b _ q fun z => z), q]; simp⟩⟩
  by_cases hbe : b = e
  · subst hbe; exact heo
  · exact ⟨u, k b u hbe q⟩
theorem Un.mono (u : Un fs ex H H1 h h1) (hs : ∀ b ∈ fs, b ∈ fs') (hx : ∀ b ∈ ex, b ∈ ex') : Un fs' ex' H H1 h h1 :=
  ⟨fun b ob q n hb he => u.keep b ob q n (fun z => hb (hs b z)) fun z => he (hx b z), fun _ _ q n _ he => u.any q n fun z => he (hx _ z), fun b ob q n he => u.free b ob q n fun z => he (hx b z), fun b ob q he => u.there b ob q fun z => he (hx b z), u.tups, u.frzs, u.tbls⟩
end

/-! ### the heap without what is tracked -/
def trk (h : Heap) (H : Hp) : List Addr := (List.range h.objs.size).filter fun a => (H a).isSome
def hidT (h : Heap) (H : Hp) : Heap := PySem.W.hideAll h (trk h H)
theorem hidT_size (h : Heap) (H : Hp) : (hidT h H).objs.size = h.objs.size := PySem.W.hideAll_size _ _
theorem hidT_get {h : Heap} {H : Hp} {b : Addr} {o : Obj} (e : h.get? b = some o) (n : H b = none) : (hidT h H).get? b = some o :=
  PySem.W.hideAll_get _ e fun hm => by
    have q : (H b).isSome = true := (List.mem_filter.mp hm).2
    rw [n] at q; simp at q
theorem of_hidT {h : Heap} {H : Hp} {b : Addr} {o : Obj} (e : (hidT h H).get? b = some o) : h.get? b = some o ∧ H b = none := by
  have e' : h.get? b = some o := PySem.W.of_hideAll (trk h H) e
  refine ⟨e', ?_⟩
  cases q : H b with
  | none => rfl
  | some x =>
    have hm : b ∈ trk h H := List.mem_filter.mpr ⟨List.mem_range.mpr (Heap.lt_size e'), by simp [q]⟩
    have z : (hidT h H).get? b = none := PySem.W.hideAll_none (trk h H) hm
    rw [z] at e; cases e

/-! ### OpenK's ledger, filled with every new object but one -/
def allNews (g h : Heap) (L : Addr) : List (Addr × Obj) := (List.range h.objs.size).filterMap fun a => if a = L ∨ (g.get? a).isSome = true then none else (h.get? a).map fun o => (a, o)
def rest (g h : Heap) (L d : Addr) : List (Addr × Obj) := (allNews g h L).filter fun p => decide (p.1 ≠ d)
end L2

namespace L2
open PySem PySem.Spec PyProof.Rows

/-- the module's facts, over the base: the heap at the law's entry without what is tracked there -/
structure Mod (K : PySem.W.Frag) (mg : Str → Option Value) (base : Heap) : Prop where
  kin : K.In base
  glob : base.Ns mainGlobals mg
  blt : ∃ mb, base.Ns builtinsNs mb ∧ ∀ x : Str, x ≠ "__name__" → mb x = bootBuiltins x
  nolimit : base.NoLimit

/-- the context: a def's body (or a comprehension's block) running. base: fixed through the whole law; s₀, H₀: the entry; outer: the frames whose slots others may change (a def's callers); stack: all frames that run;
   ex: iterators that were made ahead of the entry and are walked here (a comprehension's); fn: the names whose cells were made at the entry (a def: all; a comprehension's block: its own); calm: not within an except suite; pn: pins that every state bears; xe: what is wanted of an exception that leaves the code -/
structure Cx where
  prog : Program
  w : World
  K : PySem.W.Frag
  mg : Str → Option Value
  base : Heap
  A : Around
  N : List Str
  s₀ : Shared
  H₀ : Hp
  env : Env
  outer : List Env
  stack : List Env
  ex : List Addr
  fn : Str → Bool
  calm : Bool
  pn : List (Addr × Obj)
  xe : Value → Shared → Prop
/-- the callers' frames -/
def frs (l : List Env) : List Addr := l.filterMap (·.frame)
abbrev Cx.fs (X : Cx) : List Addr := frs X.outer

def Vis (sc : Scope) (x : Str) : Prop := sc.names.lookup x = some .local ∨ sc.names.lookup x = some .cell ∨ sc.names.lookup x = some .free
def Loc (sc : Scope) (x : Str) : Prop := sc.names.lookup x = some .local ∨ sc.names.lookup x = some .cell
def Look (env : Env) (h : Heap) (m : Str → Option Value) (x : Str) (u : Value) : Prop :=
  (env.kindOf x = some .local ∧ m x = some u) ∨ ((env.kindOf x = some .cell ∨ env.kindOf x = some .free) ∧ ∃ c, env.cells.lookup x = some c ∧ h.IsCell c (some u))

structure Cx.Ok (X : Cx) : Prop where
  mod : Mod X.K X.mg X.base
  kind : X.env.scope.kind = .function
  glob : X.env.globals = mainGlobals
  blt : X.env.builtins = builtinsNs
  above : X.s₀.heap.objs.size ≤ X.env.locals
  inj : ∀ x y c, X.env.cells.lookup x = some c → X.env.cells.lookup y = some c → x = y
  has : ∀ x, (X.env.kindOf x = some .cell ∨ X.env.kindOf x = some .free) → ∃ c, X.env.cells.lookup x = some c
  cab : ∀ x c, X.fn x = true → X.env.cells.lookup x = some c → X.s₀.heap.objs.size ≤ c
  hd : X.calm = true → X.A.handled = none
  frames : X.A.frames = some X.stack
  stk : X.stack = X.outer ∨ (X.stack = X.env :: X.outer ∧ X.env.frame = some X.env.locals)
  exf : ∀ b ∈ X.ex, b ≠ X.env.locals ∧ ∀ x c, X.env.cells.lookup x = some c → c ≠ b
  bs : ∀ b o, X.base.get? b = some o → X.s₀.heap.get? b = some o ∧ X.H₀ b = none
  bsz : X.base.objs.size ≤ X.s₀.heap.objs.size
  noex : ∀ b o, X.base.get? b = some o → b ∉ X.ex
  exfs : ∀ b ∈ X.ex, b ∉ X.fs
  funs : X.s₀.heap.FunFrames X.base X.outer
  frf : ∀ b ∈ X.fs, X.H₀ b = none

structure Inv (X : Cx) (pins : List (Addr × Obj)) (σ : List (Option V)) (H : Hp) (s : Shared) : Prop where
  ok : X.Ok
  os : s.os = X.s₀.os
  bare : AllBare s.gens
  base : Un X.fs X.ex X.H₀ H X.s₀.heap s.heap
  loc : ∃ m, s.heap.Ns X.env.locals m ∧ ∀ (i : Nat) (x : Str) (v : V), X.N[i]? = some x → σ[i]? = some (some v) → Vis X.env.scope x → ∃ u, RelV v u ∧ Look X.env s.heap m x u
  cell : ∀ x c, X.env.cells.lookup x = some c → ∃ v, s.heap.IsCell c v
  free : H X.env.locals = none
  freeC : ∀ x c, X.env.cells.lookup x = some c → H c = none
  pin : ∀ p ∈ X.pn ++ pins, s.heap.get? p.1 = some p.2 ∧ H p.1 = none ∧ p.1 ≠ X.env.locals ∧ p.1 ∉ X.fs ∧ ∀ v, p.2.data ≠ .cell v
  hok : HOk X.prog X.w H s.heap
  len : σ.length = X.N.length

section
variable {X : Cx} {pins : List (Addr × Obj)} {σ : List (Option V)} {H H' : Hp} {s : Shared} {h' : Heap}

theorem Cx.Ok.nofr (ok : X.Ok) {b : Addr} {o : Obj} (e : X.base.get? b = some o) : b ∉ X.fs := fun hb => by
  have := (ok.funs.mem hb).1
  rw [e] at this; cases this
theorem Inv.bs (I : Inv X pins σ H s) : ∀ b o, X.base.get? b = some o → s.heap.get? b = some o ∧ H b = none := fun b o e =>
  ⟨I.base.keep b o (I.ok.bs b o e).1 (I.ok.bs b o e).2 (I.ok.nofr e) (I.ok.noex b o e), I.base.free b o (I.ok.bs b o e).1 (I.ok.bs b o e).2 (I.ok.noex b o e)⟩
theorem Inv.bk (I : Inv X pins σ H s) : ∀ b o, X.base.get? b = some o → s.heap.get? b = some o := fun b o e => (I.bs b o e).1
theorem Inv.mod (I : Inv X pins σ H s) : Mod X.K X.mg X.base := I.ok.mod
theorem Inv.kIn (I : Inv X pins σ H s) : X.K.In s.heap := I.ok.mod.kin.keeps I.bk
theorem Inv.nolimit (I : Inv X pins σ H s) : s.heap.NoLimit := I.ok.mod.nolimit.keeps I.bk
/-- the frame over the base: for OpenK's rules (K.In X.base is I.mod.kin) -/
theorem Inv.fr (I : Inv X pins σ H s) : ∃ m, Fr X.base X.env.locals s.heap m :=
  let ⟨m, hn, _⟩ := I.loc
  ⟨m, hn, I.bk, Nat.le_trans I.ok.bsz I.ok.above⟩
theorem Inv.lt (I : Inv X pins σ H s) : X.env.locals < s.heap.objs.size := let ⟨_, hn, _⟩ := I.loc; hn.lt
theorem Inv.sz (I : Inv X pins σ H s) : X.s₀.heap.objs.size ≤ s.heap.objs.size := Nat.le_trans I.ok.above (Nat.le_of_lt I.lt)
theorem Inv.nofs (I : Inv X pins σ H s) {a : Addr} (h : s.heap.objs.size ≤ a) : a ∉ X.fs := fun hb => by
  obtain ⟨_, o, ho, _⟩ := I.ok.funs.mem hb
  exact absurd (Nat.lt_of_lt_of_le (Heap.lt_size ho) (Nat.le_trans I.sz h)) (Nat.lt_irrefl _)
theorem Inv.cne (I : Inv X pins σ H s) : ∀ x c, X.env.cells.lookup x = some c → c ≠ X.env.locals := fun x c e z => by
  obtain ⟨v, o, ho, hd⟩ := I.cell x c e
  obtain ⟨m, ⟨o', es, ep, ho', hd', _⟩, _⟩ := I.loc
  rw [z, ho'] at ho; cases ho; rw [hd'] at hd; cases hd
theorem Inv.funs (I : Inv X pins σ H s) : s.heap.FunFrames X.base X.outer := by
  have all : ∀ (l : List Env), (∀ b ∈ frs l, b ∈ X.fs) → X.s₀.heap.FunFrames X.base l → s.heap.FunFrames X.base l := by
    intro l
    induction l with
    | nil => intro _ _; trivial
    | cons env r ih =>
      intro hs hl
      obtain ⟨hk, ⟨L, o, hf, hn, ho, hd⟩, hr⟩ := hl
      have hL : L ∈ X.fs := hs L (by unfold frs; rw [List.filterMap_cons, hf]; exact List.mem_cons_self)
      obtain ⟨sl, e⟩ := I.base.slot L o ho (I.ok.frf L hL) hL fun z => I.ok.exfs L z hL
      exact ⟨hk, ⟨L, _, hf, hn, e, hd⟩, ih (fun b hb => hs b (by unfold frs; rw [List.filterMap_cons, hf]; exact List.mem_cons_of_mem _ hb)) hr⟩
  exact all X.outer (fun _ hb => hb) I.ok.funs

/-- the frames that run, for a call -/
theorem Inv.stack (I : Inv X pins σ H s) : s.heap.FunFrames X.base X.stack := by
  rcases I.ok.stk with e | ⟨e, hf⟩
  · rw [e]; exact I.funs
  · rw [e]
    obtain ⟨m, hn, _⟩ := I.loc
    refine .cons (by rw [I.ok.kind]; decide) hf hn ?_ I.funs
    exact Heap.get?_none_of_le (Nat.le_trans I.ok.bsz I.ok.above)
theorem Inv.stkSub (I : Inv X pins σ H s) : ∀ b ∈ frs X.stack, b ∈ X.env.locals :: X.fs := fun b hb => by
  rcases I.ok.stk with e | ⟨e, hf⟩
  · rw [e] at hb; exact List.mem_cons_of_mem _ hb
  · rw [e] at hb
    unfold frs at hb
    rw [List.filterMap_cons, hf] at hb
    exact hb
theorem Inv.stkFree (I : Inv X pins σ H s) : ∀ b ∈ frs X.stack, H b = none := fun b hb => by
  rcases List.mem_cons.mp (I.stkSub b hb) with e | hb
  · rw [e]; exact I.free
  · obtain ⟨_, o, ho, _⟩ := I.ok.funs.mem hb
    exact I.base.free b o ho (I.ok.frf b hb) fun z => I.ok.exfs b z hb

/-- THE STEP: the untracked objects but the frame and the records at ch are kept (the callers' frames up to slots), the frame's map is kept, the new abstract heap is held -/
theorem Inv.step {g' : Array GenState} {t' : Nat} {d' : Drawn} {ch : List Addr} (I : Inv X pins σ H s)
    (hch : ∀ b ∈ ch, (b ∈ X.ex ∨ X.s₀.heap.objs.size ≤ b) ∧ b ≠ X.env.locals ∧ (∀ x c, X.env.cells.lookup x = some c → c ≠ b) ∧ ∀ p ∈ X.pn ++ pins, p.1 ≠ b)
    (keep : ∀ b o, b ≠ X.env.locals → b ∉ X.fs → b ∉ ch → s.heap.get? b = some o → H b = none → h'.get? b = some o)
    (slot : ∀ b o, b ≠ X.env.locals → b ∈ X.fs → b ∉ ch → s.heap.get? b = some o → H b = none → ∃ sl, h'.get? b = some { o with slots := sl }) (free : ∀ b o, b ∉ ch → s.heap.get? b = some o → H b = none → H' b = none)
    (there : ∀ b o, b ∉ ch → s.heap.get? b = some o → ∃ o', h'.get? b = some o')
    (tups : ∀ b xs, H b = some (.tup xs) → H' b = some (.tup xs)) (frzs : ∀ b o u, H b = some (.frz o u) → H' b = some (.frz o u)) (tbls : ∀ b ps, H b = some (.tbl ps) → ∃ more, H' b = some (.tbl (ps ++ more)))
    (ns : ∀ m, s.heap.Ns X.env.locals m → h'.Ns X.env.locals m) (hok : HOk X.prog X.w H' h') (hg : AllBare g') :
    Inv X pins σ H' { s with heap := h', gens := g', drawn := d', toks := t' } := by
  have neL : ∀ b o, X.s₀.heap.get? b = some o → b ≠ X.env.locals := fun b o e => Nat.ne_of_lt (Nat.lt_of_lt_of_le (Heap.lt_size e) I.ok.above)
  have neC : ∀ b o, X.s₀.heap.get? b = some o → b ∉ X.ex → b ∉ ch := fun b o e hx hb => by
    rcases (hch b hb).1 with z | z
    · exact hx z
    · exact absurd (Nat.lt_of_lt_of_le (Heap.lt_size e) z) (Nat.lt_irrefl _)
  have cellK : ∀ x c, X.env.cells.lookup x = some c → ∀ v, s.heap.IsCell c v → h'.IsCell c v := fun x c e v ⟨o, ho, hd⟩ => by
    have nch : c ∉ ch := fun z => (hch c z).2.2.1 x c e rfl
    by_cases hc : c ∈ X.fs
    · obtain ⟨sl, q⟩ := slot c o (I.cne x c e) hc nch ho (I.freeC x c e)
      exact ⟨_, q, hd⟩
    · exact ⟨o, keep c o (I.cne x c e) hc nch ho (I.freeC x c e), hd⟩
  refine ⟨I.ok, I.os, hg, ⟨fun b o e n hb hx => ?_, fun b o e n hb hx => ?_, fun b o e n hx => ?_, fun b o e hx => ?_, fun b xs e => tups b xs (I.base.tups b xs e), fun b o xs e => frzs b o xs (I.base.frzs b o xs e), fun b ps e => ?_⟩, ?_, fun x c e => ?_, ?_, fun x c e => ?_, fun p hp => ?_, hok, I.len⟩
  · exact keep b o (neL b o e) hb (neC b o e hx) (I.base.keep b o e n hb hx) (I.base.free b o e n hx)
  · obtain ⟨sl, e1⟩ := I.base.slot b o e n hb hx
    obtain ⟨sl', e2⟩ := slot b _ (neL b o e) hb (neC b o e hx) e1 (I.base.free b o e n hx)
    exact ⟨sl', e2⟩
  · obtain ⟨o', e1⟩ := I.base.there b o e hx
    exact free b o' (neC b o e hx) e1 (I.base.free b o e n hx)
  · obtain ⟨o', e1⟩ := I.base.there b o e hx
    exact there b o' (neC b o e hx) e1
  · obtain ⟨m1, e1⟩ := I.base.tbls b ps e
    obtain ⟨m2, e2⟩ := tbls b _ e1
    exact ⟨m1 ++ m2, by rw [e2, Array.append_assoc]⟩
  · obtain ⟨m, hn, hl⟩ := I.loc
    refine ⟨m, ns m hn, fun i x v e1 e2 e3 => ?_⟩
    obtain ⟨u, r, l⟩ := hl i x v e1 e2 e3
    refine ⟨u, r, ?_⟩
    rcases l with l | ⟨k, c, e, z⟩
    · exact .inl l
    · exact .inr ⟨k, c, e, cellK x c e _ z⟩
  · obtain ⟨v, z⟩ := I.cell x c e
    exact ⟨v, cellK x c e v z⟩
  · obtain ⟨m, ⟨o, _, _, ho, _⟩, _⟩ := I.loc
    exact free _ o (fun z => (hch _ z).2.1 rfl) ho I.free
  · obtain ⟨v, o, ho, hd⟩ := I.cell x c e
    exact free c o (fun z => (hch c z).2.2.1 x c e rfl) ho (I.freeC x c e)
  · obtain ⟨e, n, ne, nf, d⟩ := I.pin p hp
    have nch : p.1 ∉ ch := fun z => (hch p.1 z).2.2.2 p hp rfl
    exact ⟨keep p.1 p.2 ne nf nch e n, free p.1 p.2 nch e n, ne, nf, d⟩
/-- .. where the frame's own object is kept too -/
theorem Inv.un {t' : Nat} (I : Inv X pins σ H s) (u : Un X.fs [] H H' s.heap h') (hok : HOk X.prog X.w H' h') : Inv X pins σ H' { s with heap := h', toks := t' } := by
  obtain ⟨m, ⟨o, es, ep, ho, r⟩, _⟩ := id I.loc
  obtain ⟨sl, hL⟩ := u.any ho I.free (by simp)
  exact I.step (g' := s.gens) (d' := s.drawn) (ch := []) (fun _ z => nomatch z) (fun b o _ hb _ e n => u.keep b o e n hb (by simp)) (fun b o _ hb _ e n => u.slot b o e n hb (by simp)) (fun b o _ e n => u.free b o e n (by simp)) (fun b o _ e => u.there b o e (by simp)) u.tups u.frzs u.tbls (fun m' hm => by
    obtain ⟨o', es', ep', ho', r'⟩ := hm
    rw [ho] at ho'; cases ho'
    exact ⟨_, es', ep', hL, r'⟩) hok I.bare
/-- behind a call (or a comprehension's block): the slots of this frame may have changed too, the records at ch may have turned -/
theorem Inv.call {g' : Array GenState} {t' : Nat} {d' : Drawn} {ch : List Addr} (I : Inv X pins σ H s) (u : Un (frs X.stack) ch H H' s.heap h') (hok : HOk X.prog X.w H' h') (hg : AllBare g')
    (hch : ∀ b ∈ ch, (b ∈ X.ex ∨ X.s₀.heap.objs.size ≤ b) ∧ b ≠ X.env.locals ∧ (∀ x c, X.env.cells.lookup x = some c → c ≠ b) ∧ ∀ p ∈ X.pn ++ pins, p.1 ≠ b) :
    Inv X pins σ H' { s with heap := h', gens := g', drawn := d', toks := t' } := by
  obtain ⟨m, ⟨o, es, ep, ho, r⟩, _⟩ := id I.loc
  obtain ⟨sl, hL⟩ := u.any ho I.free fun z => (hch _ z).2.1 rfl
  exact I.step (ch := ch) hch (fun b o hL hb hc e n => u.keep b o e n (fun z => (List.mem_cons.mp (I.stkSub b z)).elim hL hb) hc) (fun b o _ _ hc e n => u.any e n hc) (fun b o hc e n => u.free b o e n hc) (fun b o hc e => u.there b o e hc) u.tups u.frzs u.tbls (fun m' hm => by
    obtain ⟨o', es', ep', ho', r'⟩ := hm
    rw [ho] at ho'; cases ho'
    exact ⟨_, es', ep', hL, r'⟩) hok hg
/-- an untracked record of ours (an iterator) has turned -/
theorem Inv.turned {t' : Nat} {it : Addr} (I : Inv X pins σ H s) (k : ∀ b o, b ≠ it → s.heap.get? b = some o → h'.get? b = some o) (hn : H it = none) (hL : it ≠ X.env.locals)
    (h1 : it ∈ X.ex ∨ X.s₀.heap.objs.size ≤ it) (h2 : ∀ x c, X.env.cells.lookup x = some c → c ≠ it) (h3 : ∀ p ∈ X.pn ++ pins, p.1 ≠ it) : Inv X pins σ H { s with heap := h', toks := t' } := by
  have nit : ∀ b u, H b = some u → b ≠ it := fun b u e z => by rw [z, hn] at e; cases e
  refine I.step (g' := s.gens) (d' := s.drawn) (ch := [it]) (fun b hb => ?_) (fun b o _ _ hc e _ => k b o (fun z => hc (by simp [z])) e) (fun b o _ _ hc e _ => ⟨o.slots, k b o (fun z => hc (by simp [z])) e⟩) (fun _ _ _ _ n => n)
    (fun b o hc e => ⟨o, k b o (fun z => hc (by simp [z])) e⟩) (fun _ _ e => e) (fun _ _ _ e => e) (fun b ps e => ⟨#[], by rw [e]; simp⟩) (fun m hm => ?_) (fun b u e => ?_) I.bare
  · have e : b = it := by simpa using hb
    subst e
    exact ⟨h1, hL, h2, h3⟩
  · obtain ⟨o, es, ep, ho, r⟩ := hm
    exact ⟨o, es, ep, k _ o (Ne.symm hL) ho, r⟩
  · refine (I.hok b u e).stay (fun c v hc q => k c v ?_ q) (fun _ q => q) fun _ _ q => q
    rcases hc with z | z
    · rw [z]; exact nit b u e
    · exact nit c _ z
theorem Inv.tok (I : Inv X pins σ H s) (t : Nat) : Inv X pins σ H { s with toks := t } := I.un (h' := s.heap) (t' := t) Un.refl I.hok
/-- all objects kept -/
theorem Inv.kept {t' : Nat} (I : Inv X pins σ H s) (k : ∀ b u, s.heap.get? b = some u → h'.get? b = some u) : Inv X pins σ H { s with heap := h', toks := t' } := I.un (Un.kept k) (I.hok.kept k)
/-- a new object laid and tracked -/
theorem Inv.laid {a : Addr} {o : HO} {t' : Nat} (I : Inv X pins σ H s) (k : ∀ b u, s.heap.get? b = some u → h'.get? b = some u) (hp : s.heap.objs.size ≤ a) (new : ObjOk X.prog X.w (upd H a o) h' a o) :
    Inv X pins σ (upd H a o) { s with heap := h', toks := t' } := I.un (Un.laid k hp (I.hok.fresh hp)) (I.hok.laid k hp new)
/-- an object written -/
theorem Inv.write {x e : Addr} {o : HO} {t' : Nat} (I : Inv X pins σ H s) (mu : Mut (H x)) (he : e = x ∨ H e = some (.own x)) (k : ∀ b u, b ≠ e → s.heap.get? b = some u → h'.get? b = some u) (heo : ∃ u, h'.get? e = some u)
    (new : ObjOk X.prog X.w (upd H x o) h' x o) : Inv X pins σ (upd H x o) { s with heap := h', toks := t' } := I.un (Un.write mu he k heo) (I.hok.write mu he k heo new)
theorem Inv.pins_of {pins' : List (Addr × Obj)} (I : Inv X pins σ H s) (h : ∀ p ∈ pins', s.heap.get? p.1 = some p.2 ∧ H p.1 = none ∧ p.1 ≠ X.env.locals ∧ p.1 ∉ X.fs ∧ ∀ v, p.2.data ≠ .cell v) : Inv X pins' σ H s :=
  ⟨I.ok, I.os, I.bare, I.base, I.loc, I.cell, I.free, I.freeC, fun p hp => (List.mem_append.mp hp).elim (fun z => I.pin p (List.mem_append_left _ z)) (h p), I.hok, I.len⟩

theorem nodup_ix {N : List Str} (hN : N.Nodup) {i j : Nat} {x : Str} (a : N[i]? = some x) (b : N[j]? = some x) : i = j := by
  obtain ⟨h1, e1⟩ := List.getElem?_eq_some_iff.mp a
  obtain ⟨h2, e2⟩ := List.getElem?_eq_some_iff.mp b
  exact (List.getElem_inj hN).mp (e1.trans e2.symm)

/-- a name is stored; what changed -/
theorem store_ok2 {M : Model} {A : Around} {E : Value → Shared → Prop} {i : Nat} {x : Str} {v : V} {u : Value} {Q : Unit → Shared → Prop} (I : Inv X pins σ H s) (hN : X.N.Nodup) (hi : X.N[i]? = some x) (hx : Loc X.env.scope x) (r : RelV v u)
    (h : ∀ s', Inv X pins (σ.set i (some v)) H s' → (∃ a, Heap.SameBut a s.heap s'.heap ∧ (a = X.env.locals ∨ X.env.cells.lookup x = some a)) → Q () s') (hf : X.fn x = true ∨ X.env.scope.names.lookup x = some .local := by first | exact .inl rfl | exact .inr rfl | assumption) : wpAny M A (storeName X.env x u) Q E s := by
  obtain ⟨m, hn, hl⟩ := id I.loc
  have hcls : (X.env.scope.kind == .class || (X.env.scope.kind == .module && X.env.locals != X.env.globals)) = false := by rw [I.ok.kind]; rfl
  have hiσ : i < σ.length := by rw [I.len]; exact (List.getElem?_eq_some_iff.mp hi).1
  have cne := I.cne
  have tracked : ∀ {a : Addr} {h' : Heap}, (∃ o, s.heap.get? a = some o ∧ H a = none) → Heap.SameBut a s.heap h' → HOk X.prog X.w H h' := fun {a h'} ha hs b ob e => by
    obtain ⟨_, _, hfree⟩ := ha
    refine (I.hok b ob e).stay (fun c w' hc q => (hs.2 c ?_).trans q) (fun _ q => q) fun _ _ q => q
    rintro rfl
    rcases hc with rfl | hc
    · rw [hfree] at e; cases e
    · rw [hfree] at hc; cases hc
  rcases hx with hk | hk
  · refine wpAny_storeName_local hk hn (fun h' hn' hs => ?_) hcls
    obtain ⟨oL, _, _, hoL, _⟩ := id hn
    refine h _ ⟨I.ok, I.os, I.bare, ⟨fun b o e n hb hx => ?_, fun b o e n hb hx => ?_, I.base.free, fun b o e hx => ?_, I.base.tups, I.base.frzs, I.base.tbls⟩, ⟨_, hn', fun j y v' e1 e2 e3 => ?_⟩, fun y c e => ?_, I.free, I.freeC, fun p hp => ?_, tracked ⟨oL, hoL, I.free⟩ hs, by simpa using I.len⟩ ⟨_, hs, .inl rfl⟩
    · exact (hs.2 b (Nat.ne_of_lt (Nat.lt_of_lt_of_le (Heap.lt_size e) I.ok.above))).trans (I.base.keep b o e n hb hx)
    · obtain ⟨sl, e1⟩ := I.base.slot b o e n hb hx
      exact ⟨sl, (hs.2 b (Nat.ne_of_lt (Nat.lt_of_lt_of_le (Heap.lt_size e) I.ok.above))).trans e1⟩
    · obtain ⟨o', e1⟩ := I.base.there b o e hx
      exact ⟨o', (hs.2 b (Nat.ne_of_lt (Nat.lt_of_lt_of_le (Heap.lt_size e) I.ok.above))).trans e1⟩
    · by_cases hj : j = i
      · subst hj
        rw [hi] at e1; cases e1
        rw [List.getElem?_set_self hiσ] at e2
        cases e2
        exact ⟨u, r, .inl ⟨hk, by simp⟩⟩
      · rw [List.getElem?_set_ne (Ne.symm hj)] at e2
        obtain ⟨u', r', q⟩ := hl j y v' e1 e2 e3
        refine ⟨u', r', ?_⟩
        rcases q with ⟨k, e⟩ | ⟨k, c, e, z⟩
        · refine .inl ⟨k, ?_⟩
          have : y ≠ x := fun e => hj (nodup_ix hN e1 (e ▸ hi))
          simp [this, e]
        · exact .inr ⟨k, c, e, z.sameBut hs (cne y c e)⟩
    · obtain ⟨w', z⟩ := I.cell y c e
      exact ⟨w', z.sameBut hs (cne y c e)⟩
    · obtain ⟨e, n, ne, nf, d⟩ := I.pin p hp
      exact ⟨(hs.2 p.1 ne).trans e, n, ne, nf, d⟩
  · have hfn : X.fn x = true := by
      rcases hf with z | z
      · exact z
      · rw [z] at hk; cases hk
    obtain ⟨c, hc⟩ := I.ok.has x (.inl hk)
    obtain ⟨w', z⟩ := I.cell x c hc
    refine wpAny_storeName_cell I.ok.kind hk hc z (fun h' hc' hs => ?_)
    obtain ⟨oc, hoc, hocd⟩ := id z
    refine h { s with heap := h' } ⟨I.ok, I.os, I.bare, ⟨fun b o e n hb hx => ?_, fun b o e n hb hx => ?_, I.base.free, fun b o e hx => ?_, I.base.tups, I.base.frzs, I.base.tbls⟩, ⟨m, hn.sameBut hs (Ne.symm (cne x c hc)), fun j y v' e1 e2 e3 => ?_⟩, fun y c' e => ?_, I.free, I.freeC, fun p hp => ?_, tracked ⟨oc, hoc, I.freeC x c hc⟩ hs, by simpa using I.len⟩ ⟨c, hs, .inr hc⟩
    · exact (hs.2 b (Nat.ne_of_lt (Nat.lt_of_lt_of_le (Heap.lt_size e) (I.ok.cab x c hfn hc)))).trans (I.base.keep b o e n hb hx)
    · obtain ⟨sl, e1⟩ := I.base.slot b o e n hb hx
      exact ⟨sl, (hs.2 b (Nat.ne_of_lt (Nat.lt_of_lt_of_le (Heap.lt_size e) (I.ok.cab x c hfn hc)))).trans e1⟩
    · obtain ⟨o', e1⟩ := I.base.there b o e hx
      exact ⟨o', (hs.2 b (Nat.ne_of_lt (Nat.lt_of_lt_of_le (Heap.lt_size e) (I.ok.cab x c hfn hc)))).trans e1⟩
    · by_cases hj : j = i
      · subst hj
        rw [hi] at e1; cases e1
        rw [List.getElem?_set_self hiσ] at e2
        cases e2
        exact ⟨u, r, .inr ⟨.inl hk, c, hc, hc'⟩⟩
      · rw [List.getElem?_set_ne (Ne.symm hj)] at e2
        obtain ⟨u', r', q⟩ := hl j y v' e1 e2 e3
        refine ⟨u', r', ?_⟩
        rcases q with q | ⟨k, c', e, z'⟩
        · exact .inl q
        · refine .inr ⟨k, c', e, z'.sameBut hs ?_⟩
          rintro rfl
          exact hj (nodup_ix hN e1 (I.ok.inj _ _ _ e hc ▸ hi))
    · by_cases hcc : c' = c
      · subst hcc; exact ⟨_, hc'⟩
      · obtain ⟨w2, z2⟩ := I.cell y c' e
        exact ⟨w2, z2.sameBut hs hcc⟩
    · obtain ⟨e, n, ne, nf, d⟩ := I.pin p hp
      refine ⟨(hs.2 p.1 ?_).trans e, n, ne, nf, d⟩
      intro q
      rw [q, hoc] at e
      have q' : oc = p.2 := Option.some.inj e
      exact d w' (by rw [← q']; exact hocd)
theorem store_ok {M : Model} {A : Around} {E : Value → Shared → Prop} {i : Nat} {x : Str} {v : V} {u : Value} {Q : Unit → Shared → Prop} (I : Inv X pins σ H s) (hN : X.N.Nodup) (hi : X.N[i]? = some x) (hx : Loc X.env.scope x) (r : RelV v u)
    (h : ∀ s', Inv X pins (σ.set i (some v)) H s' → Q () s') (hf : X.fn x = true ∨ X.env.scope.names.lookup x = some .local := by first | exact .inl rfl | exact .inr rfl | assumption) : wpAny M A (storeName X.env x u) Q E s :=
  store_ok2 I hN hi hx r (fun s' I' _ => h s' I') hf
/-- behind a call or a block, the state as it is -/
theorem Inv.call' {s' : Shared} {ch : List Addr} (I : Inv X pins σ H s) (ho : s'.os = s.os) (u : Un (frs X.stack) ch H H' s.heap s'.heap) (hok : HOk X.prog X.w H' s'.heap) (hg : AllBare s'.gens)
    (hch : ∀ b ∈ ch, (b ∈ X.ex ∨ X.s₀.heap.objs.size ≤ b) ∧ b ≠ X.env.locals ∧ (∀ x c, X.env.cells.lookup x = some c → c ≠ b) ∧ ∀ p ∈ X.pn ++ pins, p.1 ≠ b) : Inv X pins σ H' s' := by
  obtain ⟨h', g', d', t', o'⟩ := s'
  have e : o' = s.os := ho
  subst e
  exact I.call (g' := g') (t' := t') (d' := d') u hok hg hch
end

/-! ### the judgements -/
/-- an exception: its class, its own dict's address (where it has one), the abstract heap behind it -/
abbrev XK := Value → Option Addr → Hp → Prop
abbrev St := List (Option V)
abbrev VK := V → Hp → Prop
/-- an expression's reading; a test's; an argument list's -/
abbrev TE := St → Hp → VK → Prop
abbrev TT := St → Hp → (Bool → Hp → Prop) → Prop
abbrev TA := St → Hp → (List V → Hp → Prop) → Prop
/-- what is wanted behind a statement -/
structure Ends where
  nx : St → Hp → Prop
  rt : VK
  bk : St → Hp → Prop := fun _ _ => False
  ct : St → Hp → Prop := fun _ _ => False
abbrev TS := Ends → St → Hp → Prop

def EP (X : Cx) (pins : List (Addr × Obj)) (σ : St) (Q : VK) (u : Value) (s' : Shared) : Prop := ∃ v H', Inv X pins σ H' s' ∧ RelV v u ∧ Q v H'
def TP (X : Cx) (pins : List (Addr × Obj)) (σ : St) (Q : Bool → Hp → Prop) (b : Bool) (s' : Shared) : Prop := ∃ H', Inv X pins σ H' s' ∧ Q b H'
def AP (X : Cx) (pins : List (Addr × Obj)) (σ : St) (Q : List V → Hp → Prop) (us : List Value) (s' : Shared) : Prop := ∃ vs H', Inv X pins σ H' s' ∧ Vals vs us ∧ Q vs H'
def SP (X : Cx) (pins : List (Addr × Obj)) (D : Ends) (f : Flow) (s' : Shared) : Prop :=
  match f with
  | .next => ∃ σ' H', Inv X pins σ' H' s' ∧ D.nx σ' H'
  | .brk => ∃ σ' H', Inv X pins σ' H' s' ∧ D.bk σ' H'
  | .cont => ∃ σ' H', Inv X pins σ' H' s' ∧ D.ct σ' H'
  | .ret u => ∃ v σ' H', Inv X pins σ' H' s' ∧ RelV v u ∧ D.rt v H'

def PE (X : Cx) (e : Expr) (t : TE) : Prop :=
  ∀ (pins : List (Addr × Obj)) (s : Shared) (σ : St) (H : Hp) (Q : VK), Inv X pins σ H s → t σ H Q → wpAny (model X.prog X.w) X.A (eval e X.env) (EP X pins σ Q) X.xe s
def PT (X : Cx) (e : Expr) (t : TT) : Prop :=
  ∀ (pins : List (Addr × Obj)) (s : Shared) (σ : St) (H : Hp) (Q : Bool → Hp → Prop), Inv X pins σ H s → t σ H Q → wpAny (model X.prog X.w) X.A (isTrue e X.env (eval e X.env)) (TP X pins σ Q) X.xe s
/-- a test whatever its 'whole' is (and, or) -/
def PW (X : Cx) (e : Expr) (t : TT) : Prop :=
  ∀ (whole : Sem Value) (pins : List (Addr × Obj)) (s : Shared) (σ : St) (H : Hp) (Q : Bool → Hp → Prop), Inv X pins σ H s → t σ H Q → wpAny (model X.prog X.w) X.A (isTrue e X.env whole) (TP X pins σ Q) X.xe s
theorem PW.pt {X : Cx} {e : Expr} {t : TT} (h : PW X e t) : PT X e t := h _
/-- an argument list (no star), from the left -/
def PA (X : Cx) (es : List Expr) (t : TA) : Prop :=
  ∀ (pos : Pos) (pins : List (Addr × Obj)) (s : Shared) (σ : St) (H : Hp) (Q : List V → Hp → Prop), Inv X pins σ H s → t σ H Q → wpAny (model X.prog X.w) X.A (spliced (backTo pos (starEach es X.env))) (AP X pins σ Q) X.xe s
def PS (X : Cx) (st : Stmt) (t : TS) : Prop :=
  ∀ (pins : List (Addr × Obj)) (s : Shared) (σ : St) (H : Hp) (D : Ends), Inv X pins σ H s → t D σ H → wpAny (model X.prog X.w) X.A (exec st X.env) (SP X pins D) X.xe s
def PSs (X : Cx) (st : List Stmt) (t : TS) : Prop :=
  ∀ (pins : List (Addr × Obj)) (s : Shared) (σ : St) (H : Hp) (D : Ends), Inv X pins σ H s → t D σ H → wpAny (model X.prog X.w) X.A (execs st X.env) (SP X pins D) X.xe s
/-- weaken the end -/
theorem thn {α : Type} {t : Sem α} {Q Q' : α → Shared → Prop} {M : Model} {A : Around} {E : Value → Shared → Prop} {s : Shared} (h : wpAny M A t Q E s) (hQ : ∀ a s, Q a s → Q' a s) : wpAny M A t Q' E s := wpAny_mono h hQ fun _ _ x => x
end L2

namespace L2
open PySem PySem.Spec PyProof.Rows
section
variable {X : Cx}


/-! ### names and constants -/
def tVar (i : Nat) : TE := fun σ H Q => ∃ v, σ[i]? = some (some v) ∧ Q v H
def tC (v : V) : TE := fun _ H Q => Q v H
theorem pe_var {i : Nat} {x : Str} {pos : Pos} (hN : X.N[i]? = some x) (hv : Vis X.env.scope x) (hd : (x == ("__debug__" : Str)) = false := by decide) (hcd : (x == ("__classdict__" : Str)) = false := by decide) : PE X (.Name x pos) (tVar i) := by
  intro pins s σ H Q I h
  obtain ⟨v, e, h⟩ := h
  obtain ⟨m, hn, hl⟩ := I.loc
  obtain ⟨u, r, l⟩ := hl i x v hN e hv
  have fin : EP X pins σ Q u s := ⟨v, H, I, r, h⟩
  rcases l with ⟨hk, hm⟩ | ⟨hk, c, hc, hcell⟩
  · exact wpAny_Name (wpAny_loadName_local I.ok.kind hk hn hm fin) hd
  · rcases hk with hk | hk
    · exact wpAny_Name (wpAny_loadName_cell I.ok.kind hk hc hcell fin) hd
    · exact wpAny_Name (wpAny_loadName_free I.ok.kind hk hc hcell fin hcd) hd
theorem pe_int {i j pos} : PE X (.Constant (.int i) j pos) (tC (.int i)) := fun _ _ _ H _ I h => wpAny_Constant_int ⟨.int i, H, I.tok _, ⟨_, rfl⟩, h⟩
theorem pe_bl {b j pos} : PE X (.Constant (.bool b) j pos) (tC (.bl b)) := fun _ _ _ H _ I h => Constant_bool ⟨.bl b, H, I, rfl, h⟩
theorem pe_non {j pos} : PE X (.Constant .none j pos) (tC .non) := fun _ _ _ H _ I h => Constant_none ⟨.non, H, I, rfl, h⟩
theorem pe_str {x j pos} : PE X (.Constant (.str x) j pos) (tC (.str x)) := fun _ _ _ H _ I h => Calls.Constant_str ⟨.str x, H, I.tok _, ⟨_, rfl⟩, h⟩

/-- a global name of the def -/
def Gl (X : Cx) (x : Str) : Prop := X.env.kindOf x = some .globalImplicit
theorem ld_glob {E : Value → Shared → Prop} {pins : List (Addr × Obj)} {s : Shared} {σ : St} {H : Hp} {x : Str} {u : Value} {pos : Pos} {Q : Value → Shared → Prop} (I : Inv X pins σ H s) (hg : Gl X x) (hm : X.mg x = some u) (h : Q u s)
    (hd : (x == ("__debug__" : Str)) = false := by decide) : wpAny (model X.prog X.w) X.A (eval (.Name x pos) X.env) Q E s :=
  Calls.Name_function_global I.ok.kind hg (Calls.loadGlobal_global (by rw [I.ok.glob]; exact I.mod.glob.keeps I.bk) hm h) hd
theorem ld_blt {E : Value → Shared → Prop} {pins : List (Addr × Obj)} {s : Shared} {σ : St} {H : Hp} {x : Str} {u : Value} {pos : Pos} {Q : Value → Shared → Prop} (I : Inv X pins σ H s) (hg : Gl X x) (hm : X.mg x = none) (hv : bootBuiltins x = some u) (h : Q u s)
    (hn : x ≠ "__name__" := by decide) (hd : (x == ("__debug__" : Str)) = false := by decide) : wpAny (model X.prog X.w) X.A (eval (.Name x pos) X.env) Q E s := by
  obtain ⟨mb, h1, h2⟩ := I.mod.blt
  exact Calls.Name_function_global I.ok.kind hg (Calls.loadGlobal_builtin (by rw [I.ok.glob]; exact I.mod.glob.keeps I.bk) hm (by rw [I.ok.blt]; exact h1.keeps I.bk) ((h2 x hn).trans hv) h) hd
/-- a module's constant, a class, a function, as a value -/
theorem pe_glob {x : Str} {v : V} {u : Value} {pos : Pos} (hg : Gl X x) (hm : X.mg x = some u) (r : RelV v u) (hd : (x == ("__debug__" : Str)) = false := by decide) : PE X (.Name x pos) (tC v) :=
  fun _ _ _ H _ I h => ld_glob I hg hm ⟨v, H, I, r, h⟩ hd
theorem pe_bltn {x : Str} {v : V} {u : Value} {pos : Pos} (hg : Gl X x) (hm : X.mg x = none) (hv : bootBuiltins x = some u) (r : RelV v u) (hn : x ≠ "__name__" := by decide) (hd : (x == ("__debug__" : Str)) = false := by decide) : PE X (.Name x pos) (tC v) :=
  fun _ _ _ H _ I h => ld_blt I hg hm hv ⟨v, H, I, r, h⟩ hn hd

/-! ### arithmetic -/
variable {a b : Expr} {ta tb : TE} {pos : Pos}

/-! ### comparisons -/
def PC (X : Cx) (op : CmpOp) (a b : Expr) (t : TE) : Prop :=
  ∀ (pins : List (Addr × Obj)) (s : Shared) (σ : St) (H : Hp) (Q : VK), Inv X pins σ H s → t σ H Q →
    wpAny (model X.prog X.w) X.A (eval a X.env) (fun v s₁ => wpAny (model X.prog X.w) X.A (eval b X.env) (fun u s₂ => wpAny (model X.prog X.w) X.A (compareOp op v u) (EP X pins σ Q) X.xe s₂) X.xe s₁) X.xe s
theorem nobehind (b : Expr) {op : CmpOp} (h : op ≠ .In) (h2 : op ≠ .NotIn) : behindInMarks op b = false := by
  have e1 : (op == CmpOp.In) = false := by cases op <;> first | rfl | exact absurd rfl h
  have e2 : (op == CmpOp.NotIn) = false := by cases op <;> first | rfl | exact absurd rfl h2
  cases b <;> simp [behindInMarks, e1, e2]
/-- a comparison as a value, as a test -/
def tB (t : TE) : TT := fun σ H Q => t σ H fun x H1 => ∃ c, x = .bl c ∧ Q c H1
theorem pt_cmp {op : CmpOp} {t : TE} (h : PC X op a b t) (h1 : behindInMarks op b = false := by first | exact nobehind _ (by decide) (by decide) | rfl) : PT X (.Compare a [op] [b] pos) (tB t) := by
  intro pins s σ H Q I hw
  refine wpAny_isTrue_Compare1 (thn (h pins s σ H _ I hw) fun v s1 h1 => thn h1 fun u s2 h2 => thn h2 fun c s3 hpt => ?_) h1
  obtain ⟨x, H1, I1, r1, q1⟩ := hpt
  obtain ⟨d, rfl, q⟩ := q1
  cases r1
  exact wpAny_truthy_bool ⟨H1, I1, q⟩

/-! ### and, or, not -/
variable {tA tB' : TT} {rest : List Expr}
def tAnd (t u : TT) : TT := fun σ H Q => t σ H fun c H1 => if c = true then u σ H1 Q else Q false H1
def tOr (t u : TT) : TT := fun σ H Q => t σ H fun c H1 => if c = true then Q true H1 else u σ H1 Q
def tNot (t : TT) : TT := fun σ H Q => t σ H fun c H1 => Q (!c) H1
theorem pw_and1 (ha : PT X a tA) : PW X (.BoolOp .And [a] pos) tA := by
  intro wh pins s σ H Q I h
  refine isTrue_and (thn (ha pins s σ H Q I h) fun c s1 e => ?_)
  cases c with
  | true => exact isTrue_and_nil e
  | false => exact e
theorem pw_or1 (ha : PT X a tA) : PW X (.BoolOp .Or [a] pos) tA := by
  intro wh pins s σ H Q I h
  refine isTrue_or (thn (ha pins s σ H Q I h) fun c s1 e => ?_)
  cases c with
  | false => exact isTrue_or_nil e
  | true => exact e
theorem pw_and (ha : PT X a tA) (hb : PW X (.BoolOp .And (b :: rest) pos) tB') : PW X (.BoolOp .And (a :: b :: rest) pos) (tAnd tA tB') := by
  intro wh pins s σ H Q I h
  refine isTrue_and (thn (ha pins s σ H _ I h) fun c s1 hpt => ?_)
  obtain ⟨H1, I1, q1⟩ := hpt
  cases c with
  | true => exact hb wh pins s1 σ H1 Q I1 q1
  | false => exact ⟨H1, I1, q1⟩
theorem pw_or (ha : PT X a tA) (hb : PW X (.BoolOp .Or (b :: rest) pos) tB') : PW X (.BoolOp .Or (a :: b :: rest) pos) (tOr tA tB') := by
  intro wh pins s σ H Q I h
  refine isTrue_or (thn (ha pins s σ H _ I h) fun c s1 hpt => ?_)
  obtain ⟨H1, I1, q1⟩ := hpt
  cases c with
  | true => exact ⟨H1, I1, q1⟩
  | false => exact hb wh pins s1 σ H1 Q I1 q1
theorem pt_not (ha : PT X a tA) : PT X (.UnaryOp .Not a pos) (tNot tA) := by
  intro pins s σ H Q I h
  exact isTrue_not (ha pins s σ H (fun c H1 => Q (!c) H1) I h)
/-- .. as values (bools) -/
def tAndV (ta tb : TE) : TE := fun σ H Q => ta σ H fun x H1 => ∃ c, x = .bl c ∧ if c = true then tb σ H1 Q else Q (.bl false) H1
def tNotV (ta : TE) : TE := fun σ H Q => ta σ H fun x H1 => ∃ c, x = .bl c ∧ Q (.bl (!c)) H1
theorem pe_one {op} {t : TE} (h : PE X a t) : PE X (.BoolOp op [a] pos) t := fun pins s σ H Q I hw => BoolOp_one (h pins s σ H Q I hw)
theorem pe_and (ha : PE X a ta) (hb : PE X (.BoolOp .And (b :: rest) pos) tb) : PE X (.BoolOp .And (a :: b :: rest) pos) (tAndV ta tb) := by
  intro pins s σ H Q I h
  refine BoolOp_and (thn (ha pins s σ H _ I h) fun v s1 hpt => ?_)
  obtain ⟨x, H1, I1, r1, q1⟩ := hpt
  obtain ⟨c, rfl, q1⟩ := q1
  cases r1
  refine wpAny_truthy_bool ?_
  cases c with
  | true => exact hb pins s1 σ H1 Q I1 q1
  | false => exact ⟨.bl false, H1, I1, rfl, q1⟩
theorem pe_not (ha : PE X a ta) : PE X (.UnaryOp .Not a pos) (tNotV ta) := by
  intro pins s σ H Q I h
  refine UnaryOp_ (thn (ha pins s σ H _ I h) fun v s1 hpt => ?_)
  obtain ⟨x, H1, I1, r1, q1⟩ := hpt
  obtain ⟨c, rfl, q1⟩ := q1
  cases r1
  exact not_of (wpAny_truthy_bool ⟨.bl (!c), H1, I1, rfl, q1⟩)
end
end L2

namespace L2
open PySem PySem.Spec PyProof.Rows

/-! ### a list, a tuple that is read: tracked, frozen, or an object of the module -/
def SqL (K : PySem.W.Frag) (H : Hp) (a : Addr) (xs : List V) : Prop :=
  Rd H a (.lst xs) ∨
    ∃ (o : Obj) (its : Array Value) (n : Nat), K.lookup a = some o ∧ o.cls = .type "list" ∧ o.dict = none ∧ o.data = .seq its n ∧ its.size ≤ sizeLine ∧ Vals xs its.toList
def SqT (K : PySem.W.Frag) (H : Hp) (a : Addr) (xs : List V) : Prop :=
  Rd H a (.tup xs) ∨
    ∃ (o : Obj) (its : Array Value) (n : Nat), K.lookup a = some o ∧ o.cls = .type "tuple" ∧ o.data = .seq its n ∧ its.size ≤ sizeLine ∧ Vals xs its.toList
def absV : Value → Option V
  | .none => some .non
  | .bool b => some (.bl b)
  | .int i _ => some (.int i)
  | .str x _ => some (.str x)
  | .bytes b _ => some (.byt b)
  | .float b _ => some (.flt b)
  | .ref a => some (.ref a)
  | .type n => some (.ty n)
  | _ => none
theorem RelV.abs {x : V} {u : Value} (r : RelV x u) : absV u = some x := by
  cases x with
  | non => cases r; rfl
  | bl _ => cases r; rfl
  | int _ => obtain ⟨t, rfl⟩ := r; rfl
  | str _ => obtain ⟨t, rfl⟩ := r; rfl
  | byt _ => obtain ⟨t, rfl⟩ := r; rfl
  | flt _ => obtain ⟨t, rfl⟩ := r; rfl
  | ref _ => cases r; rfl
  | ty _ => cases r; rfl
theorem RelV.inj {x y : V} {u : Value} (r : RelV x u) (q : RelV y u) : x = y := Option.some.inj (r.abs.symm.trans q.abs)
theorem Vals.inj : ∀ {xs ys : List V} {us : List Value}, Vals xs us → Vals ys us → xs = ys
  | _, _, _, .nil, .nil => rfl
  | _, _, _, .cons r t, .cons r' t' => by rw [r.inj r', Vals.inj t t']
section
variable {X : Cx} {pins : List (Addr × Obj)} {σ : St} {H : Hp} {s : Shared} {a : Addr} {xs ys : List V}
theorem SqL.of {K : PySem.W.Frag} (h : H a = some (.lst xs)) : SqL K H a xs := .inl (.inl h)
theorem SqT.of {K : PySem.W.Frag} (h : H a = some (.tup xs)) : SqT K H a xs := .inl (.inl h)
theorem Inv.list (I : Inv X pins σ H s) (h : SqL X.K H a xs) : ∃ its : List Value, Vals xs its ∧ PlainL s.heap a its.toArray ∧ xs.length ≤ sizeLine := by
  rcases h with h | ⟨o, its, n, hk, hc, hd, hs, hz, r⟩
  · obtain ⟨z, its, n, r, e⟩ := h.ok I.hok
    exact ⟨its, r, ⟨_, n, e, rfl, rfl, rfl⟩, z⟩
  · refine ⟨its.toList, r, ⟨o, n, I.kIn a o hk, hc, hd, by simpa using hs⟩, ?_⟩
    have e := r.length
    simp only [Array.length_toList] at e
    (first | lia | omega)
theorem Inv.tuple (I : Inv X pins σ H s) (h : SqT X.K H a xs) : ∃ its : List Value, Vals xs its ∧ IsTup s.heap a its.toArray ∧ xs.length ≤ sizeLine := by
  rcases h with h | ⟨o, its, n, hk, hc, hs, hz, r⟩
  · obtain ⟨z, its, r, p⟩ := h.ok I.hok
    exact ⟨its, r, p, z⟩
  · refine ⟨its.toList, r, ⟨o, I.kIn a o hk, hc, n, by simpa using hs⟩, ?_⟩
    have e := r.length
    simp only [Array.length_toList] at e
    (first | lia | omega)
theorem Inv.list_inj (I : Inv X pins σ H s) (h : SqL X.K H a xs) (h' : SqL X.K H a ys) : xs = ys := by
  obtain ⟨its, r, ⟨o, n, e, _, _, d⟩, _⟩ := I.list h
  obtain ⟨its', r', ⟨o', n', e', _, _, d'⟩, _⟩ := I.list h'
  rw [e] at e'; cases e'
  rw [d] at d'
  injection d' with d1 _
  have : its = its' := by simpa using congrArg Array.toList d1
  subst this
  exact r.inj r'
theorem Inv.tuple_inj (I : Inv X pins σ H s) (h : SqT X.K H a xs) (h' : SqT X.K H a ys) : xs = ys := by
  obtain ⟨its, r, ⟨o, e, _, n, d⟩, _⟩ := I.tuple h
  obtain ⟨its', r', ⟨o', e', _, n', d'⟩, _⟩ := I.tuple h'
  rw [e] at e'; cases e'
  rw [d] at d'
  injection d' with d1 _
  have : its = its' := by simpa using congrArg Array.toList d1
  subst this
  exact r.inj r'
end

/-! ### another wish about exceptions -/
abbrev Cx.wish (X : Cx) (E : Value → Shared → Prop) : Cx := { X with xe := E }
/-- no exception leaves -/
abbrev Cx.nox (X : Cx) : Cx := X.wish fun _ _ => False
theorem Cx.Ok.wish {X : Cx} (ok : X.Ok) (E : Value → Shared → Prop) : (X.wish E).Ok :=
  ⟨ok.mod, ok.kind, ok.glob, ok.blt, ok.above, ok.inj, ok.has, ok.cab, ok.hd, ok.frames, ok.stk, ok.exf, ok.bs, ok.bsz, ok.noex, ok.exfs, ok.funs, ok.frf⟩
theorem Cx.Ok.unwish {X : Cx} {E : Value → Shared → Prop} (ok : (X.wish E).Ok) : X.Ok :=
  ⟨ok.mod, ok.kind, ok.glob, ok.blt, ok.above, ok.inj, ok.has, ok.cab, ok.hd, ok.frames, ok.stk, ok.exf, ok.bs, ok.bsz, ok.noex, ok.exfs, ok.funs, ok.frf⟩
section
variable {X : Cx} {pins : List (Addr × Obj)} {σ : St} {H : Hp} {s : Shared} {E : Value → Shared → Prop}
theorem Inv.wish (I : Inv X pins σ H s) (E : Value → Shared → Prop) : Inv (X.wish E) pins σ H s := ⟨I.ok.wish E, I.os, I.bare, I.base, I.loc, I.cell, I.free, I.freeC, I.pin, I.hok, I.len⟩
theorem Inv.unwish (I : Inv (X.wish E) pins σ H s) : Inv X pins σ H s := ⟨I.ok.unwish, I.os, I.bare, I.base, I.loc, I.cell, I.free, I.freeC, I.pin, I.hok, I.len⟩
theorem SP.unwish {D : Ends} {f : Flow} {s' : Shared} (h : SP (X.wish E) pins D f s') : SP X pins D f s' := by
  cases f with
  | next => obtain ⟨σ', H', I, q⟩ := h; exact ⟨σ', H', I.unwish, q⟩
  | brk => obtain ⟨σ', H', I, q⟩ := h; exact ⟨σ', H', I.unwish, q⟩
  | cont => obtain ⟨σ', H', I, q⟩ := h; exact ⟨σ', H', I.unwish, q⟩
  | ret u => obtain ⟨v, σ', H', I, r, q⟩ := h; exact ⟨v, σ', H', I.unwish, r, q⟩
theorem PE.nox {e : Expr} {t : TE} (h : PE X.nox e t) : PE X e t := fun pins s σ H Q I hw =>
  wpAny_mono (h pins s σ H Q (I.wish _) hw) (fun _ _ ⟨v, H', I', r, q⟩ => ⟨v, H', I'.unwish, r, q⟩) fun _ _ z => False.elim z
theorem PT.nox {e : Expr} {t : TT} (h : PT X.nox e t) : PT X e t := fun pins s σ H Q I hw =>
  wpAny_mono (h pins s σ H Q (I.wish _) hw) (fun _ _ ⟨H', I', q⟩ => ⟨H', I'.unwish, q⟩) fun _ _ z => False.elim z
theorem PSs.nox {st : List Stmt} {t : TS} (h : PSs X.nox st t) : PSs X st t := fun pins s σ H D I hw =>
  wpAny_mono (h pins s σ H D (I.wish _) hw) (fun _ _ q => q.unwish) fun _ _ z => False.elim z
end

/-! ### blocks and small statements -/
section
variable {X : Cx} {st : Stmt} {rest : List Stmt} {t u : TS} {e : Expr} {te : TE} {pos : Pos}
def tNext : TS := fun D σ H => D.nx σ H
def tSeq (t u : TS) : TS := fun D σ H => t { D with nx := u D } σ H
theorem pss_nil : PSs X [] tNext := fun _ _ σ H _ I h => wpAny_execs_nil ⟨σ, H, I, h⟩
theorem pss_cons (h1 : PS X st t) (h2 : PSs X rest u) : PSs X (st :: rest) (tSeq t u) := by
  intro pins s σ H D I h
  refine wpAny_execs_cons (thn (h1 pins s σ H { D with nx := u D } I h) fun f s1 q => ?_)
  cases f with
  | next =>
    obtain ⟨σ', H', I', q⟩ := q
    exact h2 pins s1 σ' H' D I' q
  | ret v => exact q
  | brk => exact q
  | cont => exact q
theorem pss_one (h1 : PS X st t) : PSs X [st] t := by
  intro pins s σ H D I h
  refine wpAny_execs_cons (thn (h1 pins s σ H D I h) fun f s1 q => ?_)
  cases f with
  | next => exact wpAny_execs_nil q
  | ret v => exact q
  | brk => exact q
  | cont => exact q
/-- in a def's body nothing is shown -/
theorem Inv.quiet {pins : List (Addr × Obj)} {σ : St} {H : Hp} {s : Shared} (I : Inv X pins σ H s) : interactive X.env = false := by simp [interactive, I.ok.kind]
/-- an expression whose value is dropped -/
def tDrop (te : TE) : TS := fun D σ H => te σ H fun _ H1 => D.nx σ H1
theorem ps_expr (he : PE X e te) (hs : swapsWith e none pos.line X.env = pure false := by rfl) : PS X (.Expr e pos) (tDrop te) := by
  intro pins s σ H D I h
  exact wpAny_Expr_any (thn (he pins s σ H _ I h) fun v s1 ⟨x, H1, I1, r1, q1⟩ => ⟨σ, H1, I1, q1⟩) I.quiet hs
def tRet (te : TE) : TS := fun D σ H => te σ H D.rt
theorem ps_ret (he : PE X e te) : PS X (.Return (some e) pos) (tRet te) := by
  intro pins s σ H D I h
  exact wpAny_Return_some (thn (he pins s σ H _ I h) fun v s1 ⟨x, H1, I1, r1, q1⟩ => ⟨x, σ, H1, I1, r1, q1⟩)
def tIfS (c : TT) (t u : TS) : TS := fun D σ H => c σ H fun b H1 => if b = true then t D σ H1 else u D σ H1
theorem ps_if {c : Expr} {a b : List Stmt} {tc : TT} (hc : PT X c tc) (ha : PSs X a t) (hb : PSs X b u) : PS X (.If c a b pos) (tIfS tc t u) := by
  intro pins s σ H D I h
  refine wpAny_If (thn (hc pins s σ H _ I h) fun d s1 hpt => ?_)
  obtain ⟨H1, I1, q1⟩ := hpt
  cases d with
  | true => exact ha pins s1 σ H1 D I1 q1
  | false => exact hb pins s1 σ H1 D I1 q1
end

/-! ### targets -/
abbrev TG := V → St → Hp → (St → Hp → Prop) → Prop
abbrev TGs := List V → St → Hp → (St → Hp → Prop) → Prop
def PG (X : Cx) (target : Expr) (t : TG) : Prop :=
  ∀ (pins : List (Addr × Obj)) (s : Shared) (σ : St) (H : Hp) (v : V) (u : Value) (Q : St → Hp → Prop), Inv X pins σ H s → RelV v u → t v σ H Q →
    wpAny (model X.prog X.w) X.A (assign target X.env u) (fun _ s' => ∃ σ' H', Inv X pins σ' H' s' ∧ Q σ' H') X.xe s
/-- several targets, one after another -/
def PGs (X : Cx) (ts : List Expr) (t : TGs) : Prop :=
  ∀ (pins : List (Addr × Obj)) (s : Shared) (σ : St) (H : Hp) (vs : List V) (us : List Value) (Q : St → Hp → Prop), Inv X pins σ H s → Vals vs us → t vs σ H Q →
    wpAny (model X.prog X.w) X.A (assignInOrder ((assignEach ts X.env).map (·.2)) us) (fun _ s' => ∃ σ' H', Inv X pins σ' H' s' ∧ Q σ' H') X.xe s
/-- o[i] = v, by values -/
abbrev TSet := V → V → V → Hp → (Hp → Prop) → Prop
def PSet (X : Cx) (t : TSet) : Prop :=
  ∀ (pins : List (Addr × Obj)) (s : Shared) (σ : St) (H : Hp) (o i v : V) (ov iv u : Value) (Q : Hp → Prop), Inv X pins σ H s → RelV o ov → RelV i iv → RelV v u → t o i v H Q →
    wpAny (model X.prog X.w) X.A (setItem ov iv u) (fun _ s' => ∃ H', Inv X pins σ H' s' ∧ Q H') X.xe s
section
variable {X : Cx} {pos : Pos}
def gName (i : Nat) : TG := fun v σ H Q => Q (σ.set i (some v)) H
theorem pg_name {i : Nat} {x : Str} (hN : X.N.Nodup) (hi : X.N[i]? = some x) (hx : Loc X.env.scope x) (hf : X.fn x = true ∨ X.env.scope.names.lookup x = some .local := by first | exact .inl rfl | exact .inr rfl | assumption) : PG X (.Name x pos) (gName i) := by
  intro pins s σ H v u Q I r h
  exact wpAny_assign_Name (store_ok I hN hi hx r (fun s' I' => ⟨_, H, I', h⟩) hf)
def gNil : TGs := fun vs σ H Q => vs = [] ∧ Q σ H
def gCons (t : TG) (u : TGs) : TGs := fun vs σ H Q => ∃ v r, vs = v :: r ∧ t v σ H fun σ' H' => u r σ' H' Q
theorem pgs_nil : PGs X [] gNil := by
  intro pins s σ H vs us Q I r h
  obtain ⟨e, h⟩ := h
  subst e
  cases r
  exact assignInOrder_nil ⟨σ, H, I, h⟩
theorem pgs_cons {e : Expr} {es : List Expr} {t : TG} {u : TGs} (h1 : PG X e t) (h2 : PGs X es u)
    (hs : (assignEach (e :: es) X.env).map (·.2) = assign e X.env :: (assignEach es X.env).map (·.2) := by rfl) : PGs X (e :: es) (gCons t u) := by
  intro pins s σ H vs us Q I r h
  obtain ⟨v, vr, e1, h⟩ := h
  subst e1
  cases r with
  | cons r rr =>
    rw [hs]
    refine assignInOrder_cons (thn (h1 pins s σ H _ _ _ I r h) fun _ s1 hpt => ?_)
    obtain ⟨σ1, H1, I1, q1⟩ := hpt
    exact h2 pins s1 σ1 H1 _ _ Q I1 rr q1
/-- (a, b, ..) = a tuple of that length -/
def gTup (K : PySem.W.Frag) (n : Nat) (t : TGs) : TG := fun v σ H Q => ∃ a xs, v = .ref a ∧ SqT K H a xs ∧ xs.length = n ∧ t xs σ H Q
theorem pg_tup {es : List Expr} {k : Nat} {t : TGs} {n : Nat} (hc : X.calm = true) (h : PGs X es t)
    (hn : (assignEach es X.env).length = n := by rfl) (hst : (assignEach es X.env).findIdx? (·.1) = none := by rfl) : PG X (.Tuple es k pos) (gTup X.K n t) := by
  intro pins s σ H v u Q I r hw
  obtain ⟨a, xs, e1, hq, hl, hw⟩ := hw
  subst e1
  cases r
  obtain ⟨its, rv, ht, hz⟩ := I.tuple hq
  refine assign_Tuple_tuple (I.ok.hd hc) ht (by simp [hn, ← hl, rv.length]) hst fun h' hx => ?_
  have I1 : Inv X pins σ H { s with heap := h' } := I.kept (t' := s.toks) fun b o e => hx b o (Nat.ne_of_lt (Heap.lt_size e)) e
  exact h pins _ σ H xs _ Q I1 (by simpa using rv) hw
/-- o[i] = .. -/
def gSub (to ti : TE) (t : TSet) : TG := fun v σ H Q => to σ H fun o H1 => ti σ H1 fun i H2 => t o i v H2 fun H3 => Q σ H3
theorem pg_sub {o i : Expr} {to ti : TE} {t : TSet} (ho : PE X o to) (hi : PE X i ti) (hs : PSet X t)
    (ha : ∀ v, assign (.Subscript o i pos) X.env v = (do
      let ov ← holding [v] (eval o X.env)
      let iv ← holding [v, ov] (eval i X.env)
      standAt pos
      holding [v, ov, iv] (setItem ov iv v)
      release [v, ov, iv] []) := by intro _; rfl) : PG X (.Subscript o i pos) (gSub to ti t) := by
  intro pins s σ H v u Q I r h
  rw [ha]
  refine wpAny_bind (wpAny_holding (thn (ho pins s σ H _ I h) fun ov s1 hpt => ?_))
  obtain ⟨x, H1, I1, r1, q1⟩ := hpt
  refine wpAny_bind (wpAny_holding (thn (hi pins s1 σ H1 _ I1 q1) fun iv s2 hpt => ?_))
  obtain ⟨y, H2, I2, r2, q2⟩ := hpt
  refine wpAny_bind (wpAny_standAt (wpAny_bind (wpAny_holding (thn (hs pins s2 σ H2 x y v ov iv u _ I2 r1 r2 r q2) fun _ s3 hpt => ?_))))
  obtain ⟨H3, I3, q3⟩ := hpt
  exact wpAny_release ⟨σ, H3, I3, q3⟩
/-- target = value -/
def tAsg (te : TE) (g : TG) : TS := fun D σ H => te σ H fun x H1 => g x σ H1 D.nx
theorem ps_asg {tg e : Expr} {te : TE} {g : TG} (he : PE X e te) (hg : PG X tg g) (hs : swapsWithSole [tg] e pos.line X.env = pure false := by rfl) (hw : swappedStores [tg] e X.env = pure none := by rfl)
    (h1 : (assignEach [tg] X.env).map (·.2) = [assign tg X.env] := by rfl) : PS X (.Assign [tg] e pos) (tAsg te g) := by
  intro pins s σ H D I h
  refine wpAny_Assign_stores (thn (he pins s σ H _ I h) fun v s1 hpt => ?_) hs hw
  obtain ⟨x, H1, I1, r1, q1⟩ := hpt
  rw [h1]
  exact thn (hg pins s1 σ H1 x v _ I1 r1 q1) fun _ s2 q => q
/-- name = value -/
theorem ps_set {i : Nat} {x : Str} {e : Expr} {te : TE} {pos' : Pos} (hN : X.N.Nodup) (hi : X.N[i]? = some x) (hx : Loc X.env.scope x) (he : PE X e te) (hs : swapsWith e (some (.Name x pos')) pos.line X.env = pure false := by rfl) (hf : X.fn x = true ∨ X.env.scope.names.lookup x = some .local := by first | exact .inl rfl | exact .inr rfl | assumption) :
    PS X (.Assign [.Name x pos'] e pos) (tAsg te (gName i)) := by
  intro pins s σ H D I h
  refine wpAny_Assign_Name (thn (he pins s σ H _ I h) fun v s1 hpt => ?_) hs
  obtain ⟨y, H1, I1, r1, q1⟩ := hpt
  exact store_ok I1 hN hi hx r1 (fun s2 I2 => ⟨_, H1, I2, q1⟩) hf
end

/-! ### while -/
section
variable {X : Cx} {pos : Pos}
end

/-! ### what a loop or a comprehension walks -/
/-- at turn i: it yields x (the heap may grow), or it stops -/
structure It where
  go : Nat → Hp → Prop
  yld : Nat → Hp → V → Hp → Prop
  stop : Nat → Hp → Prop
/-- the iterator's own objects may turn: they are not the frame's, not pinned, younger than the entry (or a comprehension's own) -/
def FpOk (X : Cx) (pins : List (Addr × Obj)) (H : Hp) (b : Addr) : Prop :=
  H b = none ∧ b ≠ X.env.locals ∧ b ∉ X.fs ∧ (b ∈ X.ex ∨ X.s₀.heap.objs.size ≤ b) ∧ (∀ x c, X.env.cells.lookup x = some c → c ≠ b) ∧ ∀ p ∈ X.pn ++ pins, p.1 ≠ b
theorem Inv.fpOk {X : Cx} {pins : List (Addr × Obj)} {σ : St} {H H' : Hp} {s : Shared} {b : Addr} (I : Inv X pins σ H s) (hb : s.heap.objs.size ≤ b) (hn : H' b = none) : FpOk X pins H' b := by
  refine ⟨hn, Nat.ne_of_gt (Nat.lt_of_lt_of_le I.lt hb), I.nofs hb, .inr (Nat.le_trans I.sz hb), fun x c e z => ?_, fun p hp z => ?_⟩
  · obtain ⟨v, q⟩ := I.cell x c e
    exact absurd (Nat.lt_of_lt_of_le q.lt (by rw [z]; exact hb)) (Nat.lt_irrefl _)
  · exact absurd (Nat.lt_of_lt_of_le (Heap.lt_size (I.pin p hp).1) (by rw [z]; exact hb)) (Nat.lt_irrefl _)
structure Turn (P : Program) (w : World) (K : PySem.W.Frag) (tg : Expr) (J : It) (fp : List Addr) (it : Addr) (tn : Nat → Heap → Prop) : Prop where
  mem : it ∈ fp
  obj : ∀ i h, tn i h → ∀ b ∈ fp, ∃ o, h.get? b = some o ∧ ∀ v, o.data ≠ .cell v
  keep : ∀ i h h', tn i h → (∀ b ∈ fp, ∀ o, h.get? b = some o → h'.get? b = some o) → tn i h'
  item : ∀ (X : Cx), X.prog = P → X.w = w → X.K = K → X.calm = true → ∀ (i : Nat) (pins : List (Addr × Obj)) (s : Shared) (σ : St) (H : Hp) (E : Value → Shared → Prop), Inv X pins σ H s → (∀ b ∈ fp, FpOk X pins H b) → tn i s.heap → J.go i H →
    wpAny (model P w) X.A (pyNext (.ref it)) (fun r s1 => ∃ u, r = some u ∧
      wpAny (model P w) X.A (letOwnedTupleGo tg (.ref it) u) (fun _ s2 => ∃ x H', Inv X pins σ H' s2 ∧ RelV x u ∧ J.yld i H x H' ∧ tn (i + 1) s2.heap ∧ ∀ b ∈ fp, H' b = none) E s1) E s
  done : ∀ (X : Cx), X.prog = P → X.w = w → X.K = K → X.calm = true → ∀ (i : Nat) (pins : List (Addr × Obj)) (s : Shared) (σ : St) (H : Hp) (E : Value → Shared → Prop), Inv X pins σ H s → (∀ b ∈ fp, FpOk X pins H b) → tn i s.heap → J.stop i H →
    wpAny (model P w) X.A (pyNext (.ref it)) (fun r s1 => r = none ∧ Inv X pins σ H s1) E s
  self : ∀ (A : Around) (i : Nat) (s : Shared) (Q : Value → Shared → Prop) (E : Value → Shared → Prop), tn i s.heap → Q (.ref it) s → wpAny (model P w) A (pyIter (.ref it)) Q E s
abbrev TI := St → Hp → (It → Hp → Prop) → Prop
/-- an iterator has come -/
def PIE (X : Cx) (pins : List (Addr × Obj)) (σ : St) (tg : Expr) (R : It → Hp → Prop) (itv : Value) (s2 : Shared) : Prop :=
  ∃ (it : Addr) (fp : List Addr) (tn : Nat → Heap → Prop) (J : It) (H' : Hp), itv = .ref it ∧ Inv X pins σ H' s2 ∧ Turn X.prog X.w X.K tg J fp it tn ∧ tn 0 s2.heap ∧ (∀ b ∈ fp, FpOk X pins H' b) ∧ R J H'
def PI (X : Cx) (tg iter : Expr) (wi : TI) : Prop :=
  ∀ (pins : List (Addr × Obj)) (s : Shared) (σ : St) (H : Hp) (R : It → Hp → Prop), Inv X pins σ H s → wi σ H R →
    wpAny (model X.prog X.w) X.A (eval iter X.env) (fun v s1 => wpAny (model X.prog X.w) X.A (pyIter v) (PIE X pins σ tg R) X.xe s1) X.xe s

/-- the step ahead of the store is nothing for an iterator that keeps no tuple -/
theorem go_of {M : Model} {A : Around} {E : Value → Shared → Prop} {s : Shared} {tg : Expr} {it : Addr} {u : Value} {o : Obj} {n : String} {vs : Array Value} {Q : Unit → Shared → Prop} (ho : s.heap.get? it = some o) (hc : o.cls = .type n) (hd : o.data = .fields vs)
    (hn : ["enumerate", "zip", "dict_itemiterator", "dict_reverseitemiterator", "odict_iterator", "itertools.zip_longest", "itertools.pairwise"].contains n = false) (hQ : Q () s) : wpAny M A (letOwnedTupleGo tg (.ref it) u) Q E s := by
  unfold letOwnedTupleGo
  cases tg <;> first
    | exact wpAny_pure hQ
    | (cases u <;> first
        | exact wpAny_pure hQ
        | (refine wpAny_bind (wpAny_load ho ?_)
           rw [hc, hd]
           show wpAny M A (if (["enumerate", "zip", "dict_itemiterator", "dict_reverseitemiterator", "odict_iterator", "itertools.zip_longest", "itertools.pairwise"].contains n && vs[0]? == some (rawInt _)) = true then _ else _) Q E s
           rw [if_neg (by intro h; rw [hn, Bool.false_and] at h; cases h)]
           exact wpAny_pure hQ))

/-- the list at a, as it stands at each turn (a loop may append to it) -/
def Itl (K : PySem.W.Frag) (a : Addr) : It :=
  ⟨fun i H => ∃ xs x, SqL K H a xs ∧ xs[i]? = some x, fun i H x H' => H' = H ∧ ∀ xs, SqL K H a xs → xs[i]? = some x, fun i H => ∃ xs, SqL K H a xs ∧ xs.length ≤ i⟩
/-- lo, lo + 1, .. (n of them) -/
def Itr (lo : Int) (n : Nat) : It := ⟨fun i _ => i < n, fun i H x H' => H' = H ∧ x = .int (lo + i), fun i _ => n ≤ i⟩
theorem turn_list {P : Program} {w : World} {K : PySem.W.Frag} {tg : Expr} (a it : Addr) : Turn P w K tg (Itl K a) [it] it (fun i h => h.IsListIter it a i) where
  mem := by simp
  obj := fun i h st b hb => by
    have e : b = it := by simpa using hb
    subst e
    obtain ⟨o, e, c, d⟩ := st
    exact ⟨o, e, fun v z => by rw [d] at z; cases z⟩
  keep := fun i h h' st k => st.at fun o e => k it (by simp) o e
  item := by
    intro X hP hw hK hc i pins s σ H E I hf st hg
    subst hP hw hK
    obtain ⟨xs, x, hq, hx⟩ := hg
    obtain ⟨its, rv, p, hz⟩ := I.list hq
    obtain ⟨u, hu, ru⟩ := rv.get hx
    obtain ⟨f0, f1, f2, f3, f4, f5⟩ := hf it (by simp)
    refine wpAny_pyNext_list_item st p.isList (x := u) (by simpa using hu) fun h' st' sb => ?_
    have I1 : Inv X pins σ H { s with heap := h' } := I.turned (t' := s.toks) (fun b o hb e => (sb.2 b hb).trans e) f0 f1 f3 f4 f5
    obtain ⟨o, e, c, d⟩ := id st'
    exact ⟨u, rfl, go_of (s := { s with heap := h' }) e c d (by decide) ⟨x, H, I1, ru, ⟨rfl, fun ys hy => by rw [I.list_inj hy hq]; exact hx⟩, st', fun b hb => (hf b hb).1⟩⟩
  done := by
    intro X hP hw hK hc i pins s σ H E I hf st hg
    subst hP hw hK
    obtain ⟨xs, hq, hx⟩ := hg
    obtain ⟨its, rv, p, hz⟩ := I.list hq
    obtain ⟨f0, f1, f2, f3, f4, f5⟩ := hf it (by simp)
    have hl := rv.length
    exact wpAny_pyNext_list_end (I.ok.hd hc) st p.isList (by simp; (first | lia | omega)) fun h' eb => ⟨rfl, I.turned (t' := s.toks) (fun b o hb e => eb b o hb e) f0 f1 f3 f4 f5⟩
  self := fun _ _ _ _ _ st h => wpAny_pyIter_listiter st h
theorem turn_range {P : Program} {w : World} {K : PySem.W.Frag} {tg : Expr} (it : Addr) (lo : Int) (n : Nat) : Turn P w K tg (Itr lo n) [it] it (fun i h => IsRangeIter h it (lo + (i : Nat) * 1) ((n : Int) - (i : Nat)) 1) where
  mem := by simp
  obj := fun i h st b hb => by
    have e : b = it := by simpa using hb
    subst e
    exact ⟨_, st, fun v z => by
      have z' : Data.fields _ = Data.cell v := z
      cases z'⟩
  keep := fun i h h' st k => k it (by simp) _ st
  item := by
    intro X hP hw hK hc i pins s σ H E I hf st hg
    subst hP hw hK
    obtain ⟨f0, f1, f2, f3, f4, f5⟩ := hf it (by simp)
    have W := Walks.range (prog := X.prog) (w := X.w) (I.ok.hd hc) it lo 1 n
    refine W.item i s _ _ hg st fun v h' tk hv st' kk => ?_
    obtain ⟨t, rfl⟩ := hv
    have I1 : Inv X pins σ H { s with heap := h', toks := tk } := I.turned (fun b o hb e => kk b o (by simpa using hb) e) f0 f1 f3 f4 f5
    refine ⟨_, rfl, go_of (s := { s with heap := h', toks := tk }) (n := "range_iterator") st' rfl rfl (by decide) ⟨.int (lo + i), H, I1, ⟨t, ?_⟩, ⟨rfl, rfl⟩, st', fun b hb => (hf b hb).1⟩⟩
    rw [Int.mul_one]
  done := by
    intro X hP hw hK hc i pins s σ H E I hf st hg
    subst hP hw hK
    obtain ⟨f0, f1, f2, f3, f4, f5⟩ := hf it (by simp)
    exact wpAny_pyNext_range_end (I.ok.hd hc) st (by have : n ≤ i := hg; (first | lia | omega)) fun h' eb => ⟨rfl, I.turned (t' := s.toks) (fun b o hb e => eb b o hb e) f0 f1 f3 f4 f5⟩
  self := fun _ _ _ _ _ st h => wpAny_pyIter_rangeiter st h
end L2

namespace L2
open PySem PySem.Spec PyProof.Rows
section
variable {X : Cx} {tg : Expr}
def iList (K : PySem.W.Frag) (tl : TE) : TI := fun σ H R => tl σ H fun x H1 => ∃ a, x = .ref a ∧ (∃ xs, SqL K H1 a xs) ∧ R (Itl K a) H1
theorem pi_list {l : Expr} {tl : TE} (hl : PE X l tl) : PI X tg l (iList X.K tl) := by
  intro pins s σ H R I h
  refine thn (hl pins s σ H _ I h) fun v s1 hpt => ?_
  obtain ⟨x, H1, I1, r1, q1⟩ := hpt
  obtain ⟨a, e, ⟨xs, hq⟩, q⟩ := q1
  subst e
  cases r1
  obtain ⟨its, rv, p, hz⟩ := I1.list hq
  refine wpAny_pyIter_list p.isList ?_
  refine ⟨s1.heap.objs.size, [s1.heap.objs.size], _, _, H1, rfl, I1.kept (t' := s1.toks) fun b o e => Heap.get?_push_of_some _ e, turn_list a _, ⟨_, Heap.get?_push_size _ rfl, rfl, rfl⟩, fun b hb => ?_, q⟩
  have e : b = s1.heap.objs.size := by simpa using hb
  subst e
  exact I1.fpOk (Nat.le_refl _) (I1.hok.fresh (Nat.le_refl _))
/-- a range object just made, walked -/
theorem range_it {pins : List (Addr × Obj)} {σ : St} {H : Hp} {s : Shared} {R : It → Hp → Prop} {E : Value → Shared → Prop} {lo hi : Int} {t u v : Tok} {tk : Nat} (I : Inv X pins σ H s) (h1 : -(2 ^ 62) ≤ lo) (h2 : lo < 2 ^ 62) (h3 : -(2 ^ 62) ≤ hi) (h4 : hi < 2 ^ 62)
    (q : R (Itr lo (hi - lo).toNat) H) : wpAny (model X.prog X.w) X.A (pyIter (.ref s.heap.objs.size)) (PIE X pins σ tg R) E { s with heap := s.heap.push { cls := .type "range", data := .fields #[.int lo t, .int hi u, .int 1 v] }, toks := tk } := by
  refine wpAny_pyIter_range (IsRange.new ..) (small_one h1 h2 h3 h4) ?_
  have I1 : Inv X pins σ H { s with heap := s.heap.push { cls := .type "range", data := .fields #[.int lo t, .int hi u, .int 1 v] }, toks := tk } := I.kept fun b o e => Heap.get?_push_of_some _ e
  refine ⟨(s.heap.push { cls := .type "range", data := .fields #[.int lo t, .int hi u, .int 1 v] }).objs.size, [(s.heap.push { cls := .type "range", data := .fields #[.int lo t, .int hi u, .int 1 v] }).objs.size], _, _, H, rfl,
    I1.kept (t' := tk) fun b o e => Heap.get?_push_of_some _ e, turn_range _ lo (hi - lo).toNat, ?_, fun b hb => ?_, q⟩
  · have e1 : lo + ((0 : Nat) : Int) * 1 = lo := by simp
    have e2 : (((hi - lo).toNat : Nat) : Int) - ((0 : Nat) : Int) = Builtin.Range.rangeSize lo hi 1 := by rw [rangeSize_one]; split <;> (first | lia | omega)
    show IsRangeIter _ _ (lo + ((0 : Nat) : Int) * 1) ((((hi - lo).toNat : Nat) : Int) - ((0 : Nat) : Int)) 1
    rw [e1, e2]
    exact Heap.get?_push_size _ rfl
  · have e : b = (s.heap.push { cls := .type "range", data := .fields #[.int lo t, .int hi u, .int 1 v] }).objs.size := by simpa using hb
    subst e
    exact I1.fpOk (Nat.le_refl _) (I1.hok.fresh (Nat.le_refl _))
def iRng1 (ta : TA) : TI := fun σ H R => ta σ H fun vs H1 => ∃ j : Int, vs = [.int j] ∧ -(2 ^ 62) ≤ j ∧ j < 2 ^ 62 ∧ R (Itr 0 j.toNat) H1
def iRng2 (ta : TA) : TI := fun σ H R => ta σ H fun vs H1 => ∃ i j : Int, vs = [.int i, .int j] ∧ (-(2 ^ 62) ≤ i ∧ i < 2 ^ 62 ∧ -(2 ^ 62) ≤ j ∧ j < 2 ^ 62) ∧ R (Itr i (j - i).toNat) H1
theorem pi_range1 {a : Expr} {ta : TA} {p pos : Pos} (hg : Gl X "range") (hm : X.mg "range" = none) (ha : PA X [a] ta) (hs : starEach [a] X.env = [(false, eval a X.env)] := by rfl) : PI X tg (.Call (.Name "range" p) [a] [] pos) (iRng1 ta) := by
  intro pins s σ H R I h
  refine Call_ (ld_blt I hg hm boot_range (PyProof.Rows.callWith_type1 (thn (ha pos pins s σ H _ I h) fun us s1 hpt => ?_) hs rfl))
  obtain ⟨vs, H1, I1, r1, q1⟩ := hpt
  obtain ⟨j, e, q1, q2, q⟩ := q1
  subst e
  cases r1 with
  | cons r rr =>
    cases rr
    obtain ⟨t, rfl⟩ := r
    exact call_range_1 (range_it I1 (by (first | lia | omega)) (by (first | lia | omega)) q1 q2 (by simpa using q))
theorem pi_range2 {a b : Expr} {ta : TA} {p pos : Pos} (hg : Gl X "range") (hm : X.mg "range" = none) (ha : PA X [a, b] ta) (hs : starEach [a, b] X.env = [(false, eval a X.env), (false, eval b X.env)] := by rfl) (hs2 : starEach [b] X.env = [(false, eval b X.env)] := by rfl) :
    PI X tg (.Call (.Name "range" p) [a, b] [] pos) (iRng2 ta) := by
  intro pins s σ H R I h
  refine Call_ (ld_blt I hg hm boot_range (PyProof.Rows.callWith_type1 (thn (ha pos pins s σ H _ I h) fun us s1 hpt => ?_) (by rw [hs, hs2]) (by rw [hs2]; rfl)))
  obtain ⟨vs, H1, I1, r1, q1⟩ := hpt
  obtain ⟨i, j, e, ⟨q1, q2, q3, q4⟩, q⟩ := q1
  subst e
  cases r1 with
  | cons r rr =>
    cases rr with
    | cons r' rr =>
      cases rr
      obtain ⟨t, rfl⟩ := r
      obtain ⟨t', rfl⟩ := r'
      exact call_range_2 (range_it I1 q1 q2 q3 q4 q)

/-! ### for -/
/-- W: the invariant by the turn and a measure; N: what the body is to reach -/
def tFor (wi : TI) (g : TG) (tb : TS) : TS := fun D σ H => wi σ H fun J H1 => ∃ W : Nat → Nat → St → Hp → Prop, (∃ m, W 0 m σ H1) ∧ ∀ i m σ H, W i m σ H →
  (J.stop i H ∧ D.nx σ H) ∨ (J.go i H ∧ ∃ N : St → Hp → Prop, (∀ σ' H', N σ' H' → ∃ m', m' < m ∧ W (i + 1) m' σ' H') ∧ ∀ x H', J.yld i H x H' → g x σ H' fun σ2 H2 => tb { D with nx := N, ct := N, bk := D.nx } σ2 H2)
/-- the records at fp as they stand -/
def pinsAt (fp : List Addr) (h : Heap) : List (Addr × Obj) := fp.filterMap fun b => (h.get? b).map fun o => (b, o)
theorem mem_pinsAt {fp : List Addr} {h : Heap} {b : Addr} {o : Obj} (hb : b ∈ fp) (e : h.get? b = some o) : (b, o) ∈ pinsAt fp h := List.mem_filterMap.mpr ⟨b, hb, by rw [e]; rfl⟩
theorem of_pinsAt {fp : List Addr} {h : Heap} {p : Addr × Obj} (hp : p ∈ pinsAt fp h) : p.1 ∈ fp ∧ h.get? p.1 = some p.2 := by
  obtain ⟨b, hb, e⟩ := List.mem_filterMap.mp hp
  cases q : h.get? b with
  | none => rw [q] at e; cases e
  | some o =>
    rw [q] at e
    have e' : (b, o) = p := Option.some.inj e
    subst e'
    exact ⟨hb, q⟩
theorem Inv.pinned {pins : List (Addr × Obj)} {σ : St} {H : Hp} {s : Shared} {fp : List Addr} (I : Inv X pins σ H s) (hf : ∀ b ∈ fp, FpOk X pins H b) (ho : ∀ b ∈ fp, ∃ o, s.heap.get? b = some o ∧ ∀ v, o.data ≠ .cell v) : Inv X (pins ++ pinsAt fp s.heap) σ H s :=
  I.pins_of fun p hp => (List.mem_append.mp hp).elim (fun z => I.pin p (List.mem_append_right _ z)) fun z => by
    obtain ⟨hb, e⟩ := of_pinsAt z
    obtain ⟨f0, f1, f2, _⟩ := hf p.1 hb
    obtain ⟨o, e', d⟩ := ho p.1 hb
    rw [e] at e'; cases e'
    exact ⟨e, f0, f1, f2, d⟩
theorem Inv.unpinned {pins pl : List (Addr × Obj)} {σ : St} {H : Hp} {s : Shared} (I : Inv X (pins ++ pl) σ H s) : Inv X pins σ H s := I.pins_of fun p hp => I.pin p (List.mem_append_right _ (List.mem_append_left _ hp))
theorem ps_for {iter : Expr} {body : List Stmt} {wi : TI} {g : TG} {tb : TS} {pos : Pos} (hp : PassesOwn (model X.prog X.w) X.A X.env X.xe) (hc : X.calm = true) (hi : PI X tg iter wi) (hg : PG X tg g) (hb : PSs X body tb)
    (hs : ∀ x, foldedSetIterable iter X.env x = pure x := by intro _; rfl) : PS X (.For tg iter body [] pos) (tFor wi g tb) := by
  intro pins s σ H D I h
  refine wpAny_For (thn (hi pins s σ H _ I h) fun v s1 h1 => thn h1 fun itv s2 h2 => ?_) hs
  obtain ⟨it, fp, tn, J, H2, e, I2, T, st2, f2, W, ⟨m0, w0⟩, turn⟩ := h2
  subst e
  -- what stays true of the iterator's objects through the loop
  have stat : ∀ {H' : Hp}, (∀ b ∈ fp, H' b = none) → ∀ b ∈ fp, FpOk X pins H' b := fun hn b hb => ⟨hn b hb, (f2 b hb).2⟩
  refine codeAny_forLoop_any (fun n s' => ∃ i σ' H', Inv X pins σ' H' s' ∧ tn i s'.heap ∧ (∀ b ∈ fp, H' b = none) ∧ W i n σ' H') ?_ m0 ⟨0, σ, H2, I2, st2, fun b hb => (f2 b hb).1, w0⟩
  rintro n s3 ⟨i, σ3, H3, I3, st3, fr3, w3⟩
  rcases turn i n σ3 H3 w3 with ⟨stop, qn⟩ | ⟨go, N, hN, step⟩
  · refine wpAny_passesOwn hp (thn (T.done X rfl rfl rfl hc i pins s3 σ3 H3 X.xe I3 (stat fr3) st3 stop) fun r s4 hpt => ?_)
    obtain ⟨hr, I4⟩ := hpt
    subst hr
    exact wpAny_execs_nil ⟨σ3, H3, I4, qn⟩
  · refine wpAny_passesOwn hp (thn (T.item X rfl rfl rfl hc i pins s3 σ3 H3 X.xe I3 (stat fr3) st3 go) fun r s4 hpt => ?_)
    obtain ⟨u, hr, h4⟩ := hpt
    subst hr
    refine wpAny_passesOwn hp (thn h4 fun _ s5 hpt => ?_)
    obtain ⟨x, H5, I5, r5, y5, st5, fr5⟩ := hpt
    have I5' := I5.pinned (stat fr5) (T.obj _ _ st5)
    refine wpAny_passesOwn hp (thn (hg _ s5 σ3 H5 x u _ I5' r5 (step x H5 y5)) fun _ s6 hpt => ?_)
    obtain ⟨σ6, H6, I6, q6⟩ := hpt
    refine wpAny_passesOwn hp (thn (hb _ s6 σ6 H6 _ I6 q6) fun f s7 q7 => ?_)
    have again : ∀ {σ7 : St} {H7 : Hp}, Inv X (pins ++ pinsAt fp s5.heap) σ7 H7 s7 → N σ7 H7 → ∃ m, m < n ∧ ∃ i σ' H', Inv X pins σ' H' s7 ∧ tn i s7.heap ∧ (∀ b ∈ fp, H' b = none) ∧ W i m σ' H' := fun {σ7 H7} I7 n7 => by
      obtain ⟨m', hm, w7⟩ := hN σ7 H7 n7
      refine ⟨m', hm, i + 1, σ7, H7, I7.unpinned, T.keep _ _ _ st5 fun b hb o e => (I7.pin (b, o) (List.mem_append_right _ (List.mem_append_right _ (mem_pinsAt hb e)))).1, fun b hb => ?_, w7⟩
      obtain ⟨o, e, d⟩ := T.obj _ _ st5 b hb
      exact (I7.pin (b, o) (List.mem_append_right _ (List.mem_append_right _ (mem_pinsAt hb e)))).2.1
    cases f with
    | next => obtain ⟨σ7, H7, I7, n7⟩ := q7; exact again I7 n7
    | cont => obtain ⟨σ7, H7, I7, n7⟩ := q7; exact again I7 n7
    | brk => obtain ⟨σ7, H7, I7, q7⟩ := q7; exact ⟨σ7, H7, I7.unpinned, q7⟩
    | ret v => obtain ⟨x7, σ7, H7, I7, r7, q7⟩ := q7; exact ⟨x7, σ7, H7, I7.unpinned, r7, q7⟩
end

/-! ### the forms one uses -/
/-- over a list that the body leaves as it is -/
theorem for_list {K : PySem.W.Frag} {a : Addr} {xs : List V} {g : TG} {tb : TS} {D : Ends} {σ : St} {H : Hp} (Pv : Nat → St → Hp → Prop) (h0 : Pv 0 σ H) (hl : ∀ i σ H, i ≤ xs.length → Pv i σ H → SqL K H a xs)
    (hs : ∀ i x σ H, xs[i]? = some x → Pv i σ H → g x σ H fun σ2 H2 => tb { D with nx := Pv (i + 1), ct := Pv (i + 1), bk := D.nx } σ2 H2) (hd : ∀ σ H, Pv xs.length σ H → D.nx σ H) :
    ∃ W : Nat → Nat → St → Hp → Prop, (∃ m, W 0 m σ H) ∧ ∀ i m σ H, W i m σ H →
      ((Itl K a).stop i H ∧ D.nx σ H) ∨ ((Itl K a).go i H ∧ ∃ N : St → Hp → Prop, (∀ σ' H', N σ' H' → ∃ m', m' < m ∧ W (i + 1) m' σ' H') ∧ ∀ x H', (Itl K a).yld i H x H' → g x σ H' fun σ2 H2 => tb { D with nx := N, ct := N, bk := D.nx } σ2 H2) := by
  refine ⟨fun i m σ H => m = xs.length - i ∧ i ≤ xs.length ∧ Pv i σ H, ⟨xs.length, by simp, Nat.zero_le _, h0⟩, ?_⟩
  rintro i m σ H ⟨rfl, hi, p⟩
  have q := hl i σ H hi p
  by_cases hlt : i < xs.length
  · refine .inr ⟨⟨xs, xs[i], q, by simp [hlt]⟩, Pv (i + 1), fun σ' H' p' => ⟨xs.length - (i + 1), by (first | lia | omega), rfl, hlt, p'⟩, fun x H' y => ?_⟩
    obtain ⟨e, y⟩ := y
    subst e
    exact hs i x σ _ (y xs q) p
  · have e : i = xs.length := by (first | lia | omega)
    subst e
    exact .inl ⟨⟨xs, q, Nat.le_refl _⟩, hd σ H p⟩
theorem for_range {lo : Int} {n : Nat} {g : TG} {tb : TS} {D : Ends} {σ : St} {H : Hp} (Pv : Nat → St → Hp → Prop) (h0 : Pv 0 σ H)
    (hs : ∀ i σ H, i < n → Pv i σ H → g (.int (lo + i)) σ H fun σ2 H2 => tb { D with nx := Pv (i + 1), ct := Pv (i + 1), bk := D.nx } σ2 H2) (hd : ∀ σ H, Pv n σ H → D.nx σ H) :
    ∃ W : Nat → Nat → St → Hp → Prop, (∃ m, W 0 m σ H) ∧ ∀ i m σ H, W i m σ H →
      ((Itr lo n).stop i H ∧ D.nx σ H) ∨ ((Itr lo n).go i H ∧ ∃ N : St → Hp → Prop, (∀ σ' H', N σ' H' → ∃ m', m' < m ∧ W (i + 1) m' σ' H') ∧ ∀ x H', (Itr lo n).yld i H x H' → g x σ H' fun σ2 H2 => tb { D with nx := N, ct := N, bk := D.nx } σ2 H2) := by
  refine ⟨fun i m σ H => m = n - i ∧ i ≤ n ∧ Pv i σ H, ⟨n, by simp, Nat.zero_le _, h0⟩, ?_⟩
  rintro i m σ H ⟨rfl, hi, p⟩
  by_cases hlt : i < n
  · refine .inr ⟨hlt, Pv (i + 1), fun σ' H' p' => ⟨n - (i + 1), by (first | lia | omega), rfl, hlt, p'⟩, fun x H' y => ?_⟩
    obtain ⟨e, y⟩ := y
    subst e y
    exact hs i σ _ hlt p
  · have e : i = n := by (first | lia | omega)
    subst e
    exact .inl ⟨Nat.le_refl _, hd σ H p⟩
end L2

namespace L2
open PySem PySem.Spec PyProof.Rows

abbrev R2 := V → V → Hp → VK → Prop
/-- a two-place operation on values: f is binaryOp op, inplaceOp op or compareOp op -/
def OpR (X : Cx) (f : Value → Value → Sem Value) (r : R2) : Prop :=
  ∀ (pins : List (Addr × Obj)) (s : Shared) (σ : St) (H : Hp) (x y : V) (v u : Value) (Q : VK), Inv X pins σ H s → RelV x v → RelV y u → r x y H Q →
    wpAny (model X.prog X.w) X.A (f v u) (EP X pins σ Q) X.xe s
/-- a one-place operation -/
def UnR (X : Cx) (f : Value → Sem Value) (r : V → Hp → VK → Prop) : Prop :=
  ∀ (pins : List (Addr × Obj)) (s : Shared) (σ : St) (H : Hp) (x : V) (v : Value) (Q : VK), Inv X pins σ H s → RelV x v → r x H Q →
    wpAny (model X.prog X.w) X.A (f v) (EP X pins σ Q) X.xe s
/-- a call of a value that is known (a builtin, a type) with values -/
def CallR (X : Cx) (f : Value) (r : List V → Hp → VK → Prop) : Prop :=
  ∀ (pins : List (Addr × Obj)) (s : Shared) (σ : St) (H : Hp) (xs : List V) (us : List Value) (Q : VK), Inv X pins σ H s → Vals xs us → r xs H Q →
    wpAny (model X.prog X.w) X.A (call f us) (EP X pins σ Q) X.xe s
/-- a value's truth -/
def TruR (X : Cx) (r : V → Hp → (Bool → Hp → Prop) → Prop) : Prop :=
  ∀ (pins : List (Addr × Obj)) (s : Shared) (σ : St) (H : Hp) (x : V) (v : Value) (Q : Bool → Hp → Prop), Inv X pins σ H s → RelV x v → r x H Q →
    wpAny (model X.prog X.w) X.A (truthy v) (TP X pins σ Q) X.xe s

def tOp (r : R2) (ta tb : TE) : TE := fun σ H Q => ta σ H fun x H1 => tb σ H1 fun y H2 => r x y H2 Q
def tUn (r : V → Hp → VK → Prop) (ta : TE) : TE := fun σ H Q => ta σ H fun x H1 => r x H1 Q
/-- ints in, under C, and a value out -/
def rI (C : Int → Int → Prop) (g : Int → Int → V) : R2 := fun x y H Q => ∃ i j, x = .int i ∧ y = .int j ∧ C i j ∧ Q (g i j) H
def rI0 (g : Int → Int → V) : R2 := fun x y H Q => ∃ i j, x = .int i ∧ y = .int j ∧ Q (g i j) H
def rU (g : Int → V) : V → Hp → VK → Prop := fun x H Q => ∃ i, x = .int i ∧ Q (g i) H

section
variable {X : Cx} {a b c : Expr} {ta tb tc : TE} {pos : Pos}

theorem binT (ha : PE X a ta) (hb : PE X b tb) {pins : List (Addr × Obj)} {s : Shared} {σ : St} {H : Hp} {R : V → V → Hp → Prop} (I : Inv X pins σ H s)
    (h : ta σ H fun x H1 => tb σ H1 fun y H2 => R x y H2) {Q : Value → Shared → Prop} {f : Value → Value → Sem Value}
    (hf : ∀ v u s2 x y H2, Inv X pins σ H2 s2 → RelV x v → RelV y u → R x y H2 → wpAny (model X.prog X.w) X.A (f v u) Q X.xe s2) :
    wpAny (model X.prog X.w) X.A (eval a X.env) (fun v s₁ => wpAny (model X.prog X.w) X.A (eval b X.env) (fun u s₂ => wpAny (model X.prog X.w) X.A (f v u) Q X.xe s₂) X.xe s₁) X.xe s := by
  refine thn (ha pins s σ H _ I h) fun v s1 hpt => ?_
  obtain ⟨x, H1, I1, r1, q1⟩ := hpt
  refine thn (hb pins s1 σ H1 _ I1 q1) fun u s2 hpt => ?_
  obtain ⟨y, H2, I2, r2, q2⟩ := hpt
  exact hf v u s2 x y H2 I2 r1 r2 q2

theorem pe_op {op : Operator} {r : R2} (ho : OpR X (binaryOp op) r) (ha : PE X a ta) (hb : PE X b tb) : PE X (.BinOp a op b pos) (tOp r ta tb) := by
  intro pins s σ H Q I h
  exact wpAny_BinOp (binT ha hb I h fun v u s2 x y H2 I2 rx ry q => ho pins s2 σ H2 x y v u Q I2 rx ry q)
theorem pe_un {op : UnaryOp} {r : V → Hp → VK → Prop} (ho : UnR X (unaryOp op) r) (ha : PE X a ta) : PE X (.UnaryOp op a pos) (tUn r ta) := by
  intro pins s σ H Q I h
  exact UnaryOp_ (thn (ha pins s σ H _ I h) fun v s1 ⟨x, H1, I1, r1, q1⟩ => ho pins s1 σ H1 x v Q I1 r1 q1)

/-! ### ints -/
theorem opI {f : Value → Value → Sem Value} {C : Int → Int → Prop} {g : Int → Int → Int}
    (rule : ∀ (i j : Int) (t u : Tok) (s : Shared) (Q : Value → Shared → Prop) (E : Value → Shared → Prop), C i j → Q (.int (g i j) s.toks) { s with toks := s.toks + 1 } → wpAny (model X.prog X.w) X.A (f (.int i t) (.int j u)) Q E s) :
    OpR X f (rI C fun i j => .int (g i j)) := by
  intro pins s σ H x y v u Q I rx ry h
  obtain ⟨i, j, rfl, rfl, hc, q⟩ := h
  obtain ⟨t, rfl⟩ := rx
  obtain ⟨t', rfl⟩ := ry
  exact rule i j t t' s _ _ hc ⟨.int (g i j), H, I.tok _, ⟨_, rfl⟩, q⟩
theorem opI0 {f : Value → Value → Sem Value} {g : Int → Int → Int}
    (rule : ∀ (i j : Int) (t u : Tok) (s : Shared) (Q : Value → Shared → Prop) (E : Value → Shared → Prop), Q (.int (g i j) s.toks) { s with toks := s.toks + 1 } → wpAny (model X.prog X.w) X.A (f (.int i t) (.int j u)) Q E s) :
    OpR X f (rI0 fun i j => .int (g i j)) := by
  intro pins s σ H x y v u Q I rx ry h
  obtain ⟨i, j, rfl, rfl, q⟩ := h
  obtain ⟨t, rfl⟩ := rx
  obtain ⟨t', rfl⟩ := ry
  exact rule i j t t' s _ _ ⟨.int (g i j), H, I.tok _, ⟨_, rfl⟩, q⟩
theorem opB0 {f : Value → Value → Sem Value} {g : Int → Int → Bool}
    (rule : ∀ (i j : Int) (t u : Tok) (s : Shared) (Q : Value → Shared → Prop) (E : Value → Shared → Prop), Q (.bool (g i j)) s → wpAny (model X.prog X.w) X.A (f (.int i t) (.int j u)) Q E s) :
    OpR X f (rI0 fun i j => .bl (g i j)) := by
  intro pins s σ H x y v u Q I rx ry h
  obtain ⟨i, j, rfl, rfl, q⟩ := h
  obtain ⟨t, rfl⟩ := rx
  obtain ⟨t', rfl⟩ := ry
  exact rule i j t t' s _ _ ⟨.bl (g i j), H, I, rfl, q⟩

def CDiv (i j : Int) : Prop := 0 < j ∧ j < 1073741824
def CPow (i j : Int) : Prop := 0 ≤ j ∧ j ≤ 1000000 ∧ i.natAbs < 2 ^ 64
def CMul (i j : Int) : Prop := (-(2 ^ 64) < i ∧ i < 2 ^ 64) ∨ (-(2 ^ 64) < j ∧ j < 2 ^ 64)
theorem CMul.ok {i j : Int} (h : CMul i j) : IntMulOk i j := by
  rcases h with ⟨h1, h2⟩ | ⟨h1, h2⟩
  · exact .of_left (intBits_le_64 h1 h2)
  · exact .of_right (intBits_le_64 h1 h2)

theorem op_add : OpR X (binaryOp .Add) (rI0 fun i j => .int (i + j)) := opI0 fun _ _ _ _ _ _ _ q => add_int q
theorem op_sub : OpR X (binaryOp .Sub) (rI0 fun i j => .int (i - j)) := opI0 fun _ _ _ _ _ _ _ q => sub_int q
/-- // by a positive divisor -/
theorem op_fdiv : OpR X (binaryOp .FloorDiv) (rI CDiv fun i j => .int (i / j)) := opI fun i j _ _ _ _ _ hc q => by
  have h1 : (0 : Int) < j := hc.1
  have h2 : j < 1073741824 := hc.2
  exact floordiv_int (by (first | lia | omega)) (by rw [Int.fdiv_eq_ediv_of_nonneg i (by (first | lia | omega))]; exact q) (.inl (PyProof.noPylong_small (by (first | lia | omega))))
/-- % by a positive divisor of any size -/
theorem op_mod : OpR X (binaryOp .Mod) (rI (fun _ j => 0 < j) fun i j => .int (i % j)) := opI fun i j _ _ _ _ _ hc q => by
  have h1 : (0 : Int) < j := hc
  exact mod_int' (by (first | lia | omega)) (by rw [Int.fmod_eq_emod_of_nonneg i (by (first | lia | omega))]; exact q)
theorem op_pow : OpR X (binaryOp .Pow) (rI CPow fun i j => .int (i ^ j.toNat)) := opI fun _ _ _ _ _ _ _ hc q => pow_int_small hc.1 hc.2.1 hc.2.2 q


theorem unI {f : Value → Sem Value} {g : Int → Int}
    (rule : ∀ (i : Int) (t : Tok) (s : Shared) (Q : Value → Shared → Prop) (E : Value → Shared → Prop), Q (.int (g i) s.toks) { s with toks := s.toks + 1 } → wpAny (model X.prog X.w) X.A (f (.int i t)) Q E s) :
    UnR X f (rU fun i => .int (g i)) := by
  intro pins s σ H x v Q I rx h
  obtain ⟨i, rfl, q⟩ := h
  obtain ⟨t, rfl⟩ := rx
  exact rule i t s _ _ ⟨.int (g i), H, I.tok _, ⟨_, rfl⟩, q⟩
theorem un_neg : UnR X (unaryOp .USub) (rU fun i => .int (-i)) := unI fun _ _ _ _ _ q => neg_int q

/-! ### bools among ints: n += (a < b) -/
end

/-! ### comparisons -/
/-- the scalars that == tells apart as data does -/
def scal : V → V → Bool
  | .non, .non => true | .non, .int _ => true | .int _, .non => true | .non, .bl _ => true | .bl _, .non => true | .non, .str _ => true | .str _, .non => true
  | .int _, .int _ => true | .bl _, .bl _ => true | .str _, .str _ => true | .byt _, .byt _ => true
  | .int _, .str _ => true | .str _, .int _ => true | .bl _, .str _ => true | .str _, .bl _ => true
  | _, _ => false
def rEq : R2 := fun x y H Q => scal x y = true ∧ Q (.bl (decide (x = y))) H
def rNe : R2 := fun x y H Q => scal x y = true ∧ Q (.bl (!decide (x = y))) H

theorem dec_int {i j : Int} : decide (V.int i = V.int j) = (i == j) := by
  rw [Bool.eq_iff_iff]
  simp
theorem dec_bl {i j : Bool} : decide (V.bl i = V.bl j) = (i == j) := by
  rw [Bool.eq_iff_iff]
  simp
theorem dec_str {i j : Str} : decide (V.str i = V.str j) = (i == j) := by
  rw [Bool.eq_iff_iff]
  simp
theorem dec_byt {i j : Array UInt8} : decide (V.byt i = V.byt j) = (i.toList == j.toList) := by
  rw [Bool.eq_iff_iff]
  cases i
  cases j
  simp

section
variable {X : Cx} {a b c : Expr} {ta tb tc : TE} {pos : Pos}
theorem fin_bl {pins : List (Addr × Obj)} {σ : St} {H : Hp} {s : Shared} {Q : VK} {k k' : Bool} (I : Inv X pins σ H s) (q : Q (.bl k) H) (e : k = k') : EP X pins σ Q (.bool k') s := by
  subst e
  exact ⟨.bl k, H, I, rfl, q⟩
theorem op_eq : OpR X (compareOp .Eq) rEq := by
  intro pins s σ H x y v u Q I rx ry h
  obtain ⟨hs, q⟩ := h
  cases x with
  | non =>
    cases rx
    cases y with
    | non => cases ry; exact PySem.EqNone.eq_none_none (fin_bl I q (by simp))
    | bl j => cases ry; exact PySem.EqNone.eq_none_bool (fin_bl I q (by simp))
    | int j => obtain ⟨t', rfl⟩ := ry; exact PySem.EqNone.eq_none_int (fin_bl I q (by simp))
    | str j => obtain ⟨t', rfl⟩ := ry; exact PySem.EqNone.eq_none_str (fin_bl I q (by simp))
    | _ => exact absurd (show false = true from hs) Bool.false_ne_true
  | bl i =>
    cases rx
    cases y with
    | non => cases ry; exact PySem.EqNone.eq_bool_none (fin_bl I q (by simp))
    | bl j => cases ry; exact eq_bool (fin_bl I q dec_bl)
    | str j => obtain ⟨t', rfl⟩ := ry; exact PySem.EqMixed.eq_bool_str (fin_bl I q (by simp))
    | _ => exact absurd (show false = true from hs) Bool.false_ne_true
  | int i =>
    obtain ⟨t, rfl⟩ := rx
    cases y with
    | non => cases ry; exact PySem.EqNone.eq_int_none (fin_bl I q (by simp))
    | int j => obtain ⟨t', rfl⟩ := ry; exact eq_int (fin_bl I q dec_int)
    | str j => obtain ⟨t', rfl⟩ := ry; exact PySem.EqMixed.eq_int_str (fin_bl I q (by simp))
    | _ => exact absurd (show false = true from hs) Bool.false_ne_true
  | str i =>
    obtain ⟨t, rfl⟩ := rx
    cases y with
    | non => cases ry; exact PySem.EqNone.eq_str_none (fin_bl I q (by simp))
    | bl j => cases ry; exact PySem.EqMixed.eq_str_bool (fin_bl I q (by simp))
    | int j => obtain ⟨t', rfl⟩ := ry; exact PySem.EqMixed.eq_str_int (fin_bl I q (by simp))
    | str j => obtain ⟨t', rfl⟩ := ry; exact eq_str (fin_bl I q dec_str)
    | _ => exact absurd (show false = true from hs) Bool.false_ne_true
  | byt i =>
    obtain ⟨t, rfl⟩ := rx
    cases y with
    | byt j => obtain ⟨t', rfl⟩ := ry; exact PySem.W.eq_bytes (fin_bl I q dec_byt)
    | _ => exact absurd (show false = true from hs) Bool.false_ne_true
  | _ => cases y <;> exact absurd (show false = true from hs) Bool.false_ne_true
theorem op_ne : OpR X (compareOp .NotEq) rNe := by
  intro pins s σ H x y v u Q I rx ry h
  obtain ⟨hs, q⟩ := h
  cases x with
  | non =>
    cases rx
    cases y with
    | non => cases ry; exact PySem.EqNone.ne_none_none (fin_bl I q (by simp))
    | bl j => cases ry; exact PySem.EqNone.ne_none_bool (fin_bl I q (by simp))
    | int j => obtain ⟨t', rfl⟩ := ry; exact PySem.EqNone.ne_none_int (fin_bl I q (by simp))
    | str j => obtain ⟨t', rfl⟩ := ry; exact PySem.EqNone.ne_none_str (fin_bl I q (by simp))
    | _ => exact absurd (show false = true from hs) Bool.false_ne_true
  | bl i =>
    cases rx
    cases y with
    | non => cases ry; exact PySem.EqNone.ne_bool_none (fin_bl I q (by simp))
    | bl j => cases ry; exact ne_bool (fin_bl I q (congrArg not dec_bl))
    | str j => obtain ⟨t', rfl⟩ := ry; exact PySem.EqMixed.ne_bool_str (fin_bl I q (by simp))
    | _ => exact absurd (show false = true from hs) Bool.false_ne_true
  | int i =>
    obtain ⟨t, rfl⟩ := rx
    cases y with
    | non => cases ry; exact PySem.EqNone.ne_int_none (fin_bl I q (by simp))
    | int j => obtain ⟨t', rfl⟩ := ry; exact ne_int (fin_bl I q (congrArg not dec_int))
    | str j => obtain ⟨t', rfl⟩ := ry; exact PySem.EqMixed.ne_int_str (fin_bl I q (by simp))
    | _ => exact absurd (show false = true from hs) Bool.false_ne_true
  | str i =>
    obtain ⟨t, rfl⟩ := rx
    cases y with
    | non => cases ry; exact PySem.EqNone.ne_str_none (fin_bl I q (by simp))
    | bl j => cases ry; exact PySem.EqMixed.ne_str_bool (fin_bl I q (by simp))
    | int j => obtain ⟨t', rfl⟩ := ry; exact PySem.EqMixed.ne_str_int (fin_bl I q (by simp))
    | str j => obtain ⟨t', rfl⟩ := ry; exact ne_str (fin_bl I q (congrArg not dec_str))
    | _ => exact absurd (show false = true from hs) Bool.false_ne_true
  | byt i =>
    obtain ⟨t, rfl⟩ := rx
    cases y with
    | byt j => obtain ⟨t', rfl⟩ := ry; exact PySem.W.ne_bytes (fin_bl I q (congrArg not dec_byt))
    | _ => exact absurd (show false = true from hs) Bool.false_ne_true
  | _ => cases y <;> exact absurd (show false = true from hs) Bool.false_ne_true

theorem op_lt : OpR X (compareOp .Lt) (rI0 fun i j => .bl (decide (i < j))) := opB0 fun _ _ _ _ _ _ _ q => lt_int q
theorem op_le : OpR X (compareOp .LtE) (rI0 fun i j => .bl (decide (i ≤ j))) := opB0 fun _ _ _ _ _ _ _ q => le_int q
theorem op_gt : OpR X (compareOp .Gt) (rI0 fun i j => .bl (decide (j < i))) := opB0 fun _ _ _ _ _ _ _ q => gt_int q
theorem op_ge : OpR X (compareOp .GtE) (rI0 fun i j => .bl (decide (j ≤ i))) := opB0 fun _ _ _ _ _ _ _ q => ge_int q

/-- is None, is not None: the right side a value none -/
theorem op_isN : OpR X (compareOp .Is) (fun x y H Q => y = .non ∧ Q (.bl (decide (x = .non))) H) := by
  intro pins s σ H x y v u Q I rx ry h
  obtain ⟨rfl, q⟩ := h
  cases ry
  refine is_none_gen (fin_bl I q ?_)
  cases x <;> first
    | (cases rx; rfl)
    | (obtain ⟨t, rfl⟩ := rx; rfl)


/-- two rules for one operation: by cases -/
theorem OpR.or {f : Value → Value → Sem Value} {r r' : R2} (h : OpR X f r) (h' : OpR X f r') : OpR X f (fun x y H Q => r x y H Q ∨ r' x y H Q) := by
  intro pins s σ H x y v u Q I rx ry q
  rcases q with q | q
  · exact h pins s σ H x y v u Q I rx ry q
  · exact h' pins s σ H x y v u Q I rx ry q

theorem nomark (b : Expr) {op : CmpOp} (h : op ≠ .In := by decide) (h2 : op ≠ .NotIn := by decide) : behindInMarks op b = false := by
  have e1 : (op == CmpOp.In) = false := by cases op <;> first | rfl | exact absurd rfl h
  have e2 : (op == CmpOp.NotIn) = false := by cases op <;> first | rfl | exact absurd rfl h2
  cases b <;> simp [behindInMarks, e1, e2]
/-- a comparison as a value; hm: nomark b, or (for in, not in) by with_unfolding_all rfl -/
theorem pe_cmpR {op : CmpOp} {r : R2} (ho : OpR X (compareOp op) r) (ha : PE X a ta) (hb : PE X b tb) (hm : behindInMarks op b = false) : PE X (.Compare a [op] [b] pos) (tOp r ta tb) := by
  intro pins s σ H Q I h
  exact wpAny_Compare1 (binT ha hb I h fun v u s2 x y H2 I2 rx ry q => ho pins s2 σ H2 x y v u Q I2 rx ry q) hm
/-- a reading of a value as a test -/
def tTest (t : TE) : TT := fun σ H Q => t σ H fun x H' => ∃ k, x = .bl k ∧ Q k H'
theorem pt_cmpR {op : CmpOp} {r : R2} (ho : OpR X (compareOp op) r) (ha : PE X a ta) (hb : PE X b tb) (hm : behindInMarks op b = false) : PT X (.Compare a [op] [b] pos) (tTest (tOp r ta tb)) := by
  intro pins s σ H Q I h
  refine wpAny_isTrue_Compare1 (thn (ha pins s σ H _ I h) fun v s1 ⟨x, H1, I1, r1, q1⟩ => thn (hb pins s1 σ H1 _ I1 q1) fun u s2 ⟨y, H2, I2, r2, q2⟩ =>
    thn (ho pins s2 σ H2 x y v u _ I2 r1 r2 q2) fun c s3 ⟨z, H3, I3, r3, k, e, q3⟩ => ?_) hm
  subst e
  cases r3
  exact wpAny_truthy_bool ⟨H3, I3, q3⟩
/-- a op1 b op2 c -/
def tChain (r r' : R2) (ta tb tc : TE) : TE := fun σ H Q => ta σ H fun x H1 => tb σ H1 fun y H2 => r x y H2 fun z H3 => ∃ k, z = .bl k ∧
  (if k = true then tc σ H3 fun w' H4 => r' y w' H4 Q else Q (.bl false) H3)
theorem pt_chain {op op' : CmpOp} {r r' : R2} (ho : OpR X (compareOp op) r) (ho' : OpR X (compareOp op') r') (ha : PE X a ta) (hb : PE X b tb) (hc : PE X c tc)
    (hm : lastMarks [op, op'] [b, c] = false := by with_unfolding_all rfl) : PT X (.Compare a [op, op'] [b, c] pos) (tTest (tChain r r' ta tb tc)) := by
  intro pins s σ H Q I h
  refine isTrue_chain (thn (ha pins s σ H _ I h) fun v s1 ⟨x, H1, I1, r1, q1⟩ => test_link (thn (hb pins s1 σ H1 _ I1 q1) fun u s2 ⟨y, H2, I2, r2, q2⟩ =>
    thn (ho pins s2 σ H2 x y v u _ I2 r1 r2 q2) fun d s3 ⟨z, H3, I3, r3, k, e, q3⟩ => ?_)) hm
  subst e
  cases r3
  refine wpAny_truthy_bool ?_
  cases k with
  | false =>
    obtain ⟨k', e', q'⟩ := q3
    cases e'
    exact ite_ff ⟨H3, I3, q'⟩
  | true =>
    refine ite_tt (test_last (thn (hc pins s3 σ H3 _ I3 q3) fun w' s4 ⟨z', H4, I4, r4, q4⟩ => thn (ho' pins s4 σ H4 y z' u w' _ I4 r2 r4 q4) fun d' s5 hpt => ?_))
    obtain ⟨z2, H5, I5, r5, k2, e2, q5⟩ := hpt
    subst e2
    cases r5
    exact wpAny_truthy_bool ⟨H5, I5, q5⟩

/-! ### truth -/
/-- a value's truth by the abstract heap -/
def TruV (K : PySem.W.Frag) (x : V) (H : Hp) (k : Bool) : Prop :=
  match x with
  | .non => k = false
  | .bl b => k = b
  | .int i => k = (i != 0)
  | .str y => y.length ≤ sizeLine ∧ k = ((y.length : Int) != 0)
  | .byt y => y.size ≤ sizeLine ∧ k = ((y.size : Int) != 0)
  | .ref p => (∃ xs, SqL K H p xs ∧ k = !xs.isEmpty) ∨ (∃ xs, SqT K H p xs ∧ k = !xs.isEmpty) ∨ ∃ kvs, H p = some (.dK kvs) ∧ k = !kvs.isEmpty
  | _ => False
theorem isEmpty_kv {κ : Type} {kvs : List (κ × V)} {vs : List (κ × Value)} (r : KV kvs vs) : (!vs.isEmpty) = !kvs.isEmpty := by
  cases r <;> rfl
theorem isEmpty_of {xs : List V} {its : List Value} (r : Vals xs its) : (!its.toArray.isEmpty) = !xs.isEmpty := by
  cases r <;> simp
theorem line63 : (sizeLine : Nat) < 2 ^ 63 := by rw [sizeLine_eq]; decide
theorem tru_ok : TruR X (fun x H Q => ∃ k, TruV X.K x H k ∧ Q k H) := by
  intro pins s σ H x v Q I rx h
  obtain ⟨k, e, q⟩ := h
  have hl := line63
  have hs : sizeLine = 16777216 := sizeLine_eq
  cases x with
  | non =>
    cases rx
    have e' : k = false := e
    subst e'
    exact truthy_none ⟨H, I, q⟩
  | bl b =>
    cases rx
    have e' : k = b := e
    subst e'
    exact wpAny_truthy_bool ⟨H, I, q⟩
  | int i =>
    obtain ⟨t, rfl⟩ := rx
    have e' : k = (i != 0) := e
    subst e'
    exact PySem.P.truthy_int ⟨H, I, q⟩
  | str y =>
    obtain ⟨t, rfl⟩ := rx
    obtain ⟨hy, e'⟩ : y.length ≤ sizeLine ∧ k = ((y.length : Int) != 0) := e
    subst e'
    exact PySem.P.truthy_str (by (first | lia | omega)) ⟨H, I.tok _, q⟩
  | byt y =>
    obtain ⟨t, rfl⟩ := rx
    obtain ⟨hy, e'⟩ : y.size ≤ sizeLine ∧ k = ((y.size : Int) != 0) := e
    subst e'
    exact PySem.W.truthy_bytes (by (first | lia | omega)) ⟨H, I.tok _, q⟩
  | ref p =>
    cases rx
    have e' : (∃ xs, SqL X.K H p xs ∧ k = !xs.isEmpty) ∨ (∃ xs, SqT X.K H p xs ∧ k = !xs.isEmpty) ∨ ∃ kvs, H p = some (.dK kvs) ∧ k = !kvs.isEmpty := e
    rcases e' with ⟨xs, hx, e'⟩ | ⟨xs, hx, e'⟩ | ⟨kvs, hx, e'⟩
    · subst e'
      obtain ⟨its, r, pl, hz⟩ := I.list hx
      have hlen := r.length
      exact wpAny_truthy_list pl.isList (by simp only [List.size_toArray]; (first | lia | omega)) ⟨H, I.tok _, by rw [isEmpty_of r]; exact q⟩
    · subst e'
      obtain ⟨its, r, pl, hz⟩ := I.tuple hx
      have hlen := r.length
      exact truthy_tuple pl (by simp only [List.size_toArray]; (first | lia | omega)) ⟨H, I.tok _, by rw [isEmpty_of r]; exact q⟩
    · subst e'
      obtain ⟨hz, hS, vs, r, m⟩ : kvs.length ≤ sizeLine ∧ (p == sysModules) = false ∧ ∃ vs, KV kvs vs ∧ s.heap.DictOf (mixKind X.prog X.w) p vs := I.hok p _ hx
      have hlen : kvs.length = vs.length := Paired.length r
      exact wpAny_truthy_dict hS m (by (first | lia | omega)) ⟨H, I.tok _, by rw [isEmpty_kv r]; exact q⟩
  | _ => exact (show False from e).elim
/-- any expression whose test is its value's truth (a name, a call, a subscript, a field ..: he by fun _ => rfl) -/
theorem pt_truth (ha : PE X a ta) (he : ∀ whole, isTrue a X.env whole = (do let v ← whole; standAt a.pos; holding [v] (truthy v))) :
    PT X a (fun σ H Q => ta σ H fun x H' => ∃ k, TruV X.K x H' k ∧ Q k H') := by
  intro pins s σ H Q I h
  exact isTrue_plain (thn (ha pins s σ H _ I h) fun v s1 ⟨x, H1, I1, r1, q1⟩ => tru_ok pins s1 σ H1 x v Q I1 r1 q1) (he _)

/-! ### strs and bytes -/
theorem op_add_str : OpR X (binaryOp .Add) (fun x y H Q => ∃ i j, x = .str i ∧ y = .str j ∧ i.length + j.length ≤ sizeLine ∧ Q (.str (i ++ j)) H) := by
  intro pins s σ H x y v u Q I rx ry h
  obtain ⟨i, j, rfl, rfl, hz, q⟩ := h
  obtain ⟨t, rfl⟩ := rx
  obtain ⟨t', rfl⟩ := ry
  exact add_str (fun t' tk => ⟨.str (i ++ j), H, I.tok _, ⟨_, rfl⟩, q⟩) hz


/-! ### scalar builtins, by CallR -/
theorem vals1 {x : V} {us : List Value} (r : Vals [x] us) : ∃ u, us = [u] ∧ RelV x u := by
  cases r with
  | cons r1 r2 => cases r2; exact ⟨_, rfl, r1⟩
theorem vals2 {x y : V} {us : List Value} (r : Vals [x, y] us) : ∃ u w', us = [u, w'] ∧ RelV x u ∧ RelV y w' := by
  cases r with
  | cons r1 r2 =>
    cases r2 with
    | cons r3 r4 => cases r4; exact ⟨_, _, rfl, r1, r3⟩
theorem call_max2 (hc : X.calm = true) : CallR X (.builtin "max") (fun xs H Q => ∃ i j, xs = [.int i, .int j] ∧ Q (.int (if j > i then j else i)) H) := by
  intro pins s σ H xs us Q I r h
  obtain ⟨i, j, rfl, q⟩ := h
  obtain ⟨u, w', rfl, ⟨t, rfl⟩, ⟨t', rfl⟩⟩ := vals2 r
  refine max_two_ints (I.ok.hd hc) fun h' tk k => ⟨_, H, I.kept k, ?_, q⟩
  by_cases hj : j > i
  · rw [if_pos hj, if_pos hj]; exact ⟨_, rfl⟩
  · rw [if_neg hj, if_neg hj]; exact ⟨_, rfl⟩
theorem call_min2 (hc : X.calm = true) : CallR X (.builtin "min") (fun xs H Q => ∃ i j, xs = [.int i, .int j] ∧ Q (.int (if j < i then j else i)) H) := by
  intro pins s σ H xs us Q I r h
  obtain ⟨i, j, rfl, q⟩ := h
  obtain ⟨u, w', rfl, ⟨t, rfl⟩, ⟨t', rfl⟩⟩ := vals2 r
  refine min_two_ints (I.ok.hd hc) fun h' tk k => ⟨_, H, I.kept k, ?_, q⟩
  by_cases hj : j < i
  · rw [if_pos hj, if_pos hj]; exact ⟨_, rfl⟩
  · rw [if_neg hj, if_neg hj]; exact ⟨_, rfl⟩
theorem call_str_int : CallR X (.type "str") (fun xs H Q => ∃ i, xs = [.int i] ∧ i.natAbs.log2 < 1920 ∧ Q (.str (toString i)) H) := by
  intro pins s σ H xs us Q I r h
  obtain ⟨i, rfl, hz, q⟩ := h
  obtain ⟨u, rfl, t, rfl⟩ := vals1 r
  exact PySem.P.str_of_int hz ⟨.str _, H, I.tok _, ⟨_, rfl⟩, q⟩
end
end L2

namespace L2
open PySem PySem.Spec PyProof.Rows

/-! ### an instance, its attributes a map -/
structure ObjM (h : Heap) (x dx C : Addr) (mA : Str → Option Value) : Prop where
  obj : h.get? x = some (PySem.W.instObj C dx)
  ns : h.Ns1 dx mA
  ne : dx ≠ x

theorem lookIn_ns {h : Heap} {dx : Addr} {mA : Str → Option Value} (n : h.Ns1 dx mA) : ∃ od, h.get? dx = some od ∧ ∀ name, PySem.W.lookIn name od = some (mA name) := by
  obtain ⟨o, es, ep, ho, hd, hk, _, hm⟩ := n
  refine ⟨o, ho, fun name => ?_⟩
  have e := hm name
  unfold nsFind findBy at e
  rw [← Array.find?_toList] at e
  unfold PySem.W.lookIn
  rw [hd]
  dsimp only
  split
  · rename_i y q
    rw [q] at e
    exact congrArg some e
  · rename_i q
    rw [q] at e
    have a : es.toList.any (·.refKey) = false := by
      rw [List.any_eq_false]
      intro y hy
      obtain ⟨z, t, hkey⟩ := hk y (Array.mem_toList_iff.mp hy)
      simp [DictEntry.refKey, hkey]
    have a' : ¬ es.toList.any (·.refKey) = true := by rw [a]; exact Bool.false_ne_true
    rw [if_neg a']
    exact congrArg some e

theorem ObjM.look {h : Heap} {x dx C : Addr} {mA : Str → Option Value} (I : ObjM h x dx C mA) : ∃ od, PySem.W.InstAt h x (PySem.W.instObj C dx) C (some od) ∧ ∀ name, PySem.W.lookIn name od = some (mA name) :=
  let ⟨od, ho, hl⟩ := lookIn_ns I.ns
  ⟨od, ⟨I.obj, rfl, rfl, ho⟩, hl⟩

section
variable {prog : Program} {w : World} {A : Around} {E : Value → Shared → Prop} {s : Shared} {K : PySem.W.Frag} {x dx C f : Addr} {mA : Str → Option Value} {name : Str} {v : Value}

theorem get_map {expr : Bool} {Q : Value → Shared → Prop} (X : K.In s.heap) (I : ObjM s.heap x dx C mA) (hg : PySem.W.plainGet K C name = true) (hh : PySem.W.hasDictIn K C = true)
    (ha : PySem.W.findIn K (.ref C) name = some none) (hv : mA name = some v) (hv' : PySem.W.handedIn v = true) (h : Q v { s with toks := s.toks + 1 }) :
    wpAny (model prog w) A (getAttr (.ref x) name expr) Q E s := by
  obtain ⟨od, J, hl⟩ := I.look
  exact PySem.W.get_value X J (PySem.W.plainGet_of hg).1 (PySem.W.findObj_own hh ha rfl (by rw [hl, hv])) hv' h


theorem get_meth {pl : Sem Bool} {Q : Value × List Value → Shared → Prop} (X : K.In s.heap) (I : ObjM s.heap x dx C mA) (hg : PySem.W.plainGet K C name = true)
    (hf : PySem.W.findIn K (.ref C) name = some (some (.ref f))) (ht : PySem.W.isFn K (.ref f) = true) (hv : mA name = none) (h : Q (.ref f, [.ref x]) s) :
    wpAny (model prog w) A (getMethod (.ref x) name pl) Q E s := by
  obtain ⟨od, J, hl⟩ := I.look
  exact PySem.W.method_fn X J (PySem.W.plainGet_of hg).1 (PySem.W.plainGet_of hg).2 hf (beq_iff_eq.mp ht) (by show (PySem.W.lookIn name od).map (·.isSome) = some false; rw [hl, hv]; rfl) h

theorem set_map {ns : List Str} {Q : Unit → Shared → Prop} (X : K.In s.heap) (I : ObjM s.heap x dx C mA)
    (hs : PySem.W.findIn K (.ref C) "__setattr__" = some (some (.builtin "object.__setattr__"))) (hp : PySem.W.plainOver K C = true) (ht : PySem.W.takerIn K C name = some none) (hh : PySem.W.hasDictIn K C = true)
    (hw : PySem.Within mA ns) (hsz : ns.length ≤ sizeLine)
    (h : ∀ h', ObjM h' x dx C (fun y => if y = name then some v else mA y) → Heap.SameBut dx s.heap h' → Q () { s with heap := h', toks := s.toks + 2 }) :
    wpAny (model prog w) A (setAttr (.ref x) name v) Q E s := by
  obtain ⟨od, J, hl⟩ := I.look
  refine PySem.W.set_plain X J hs (PySem.W.osa_open (s := { s with toks := s.toks + 1 }) (r := none) X J hp ht fun b => ?_)
  obtain ⟨cd, hc, hd'⟩ := PySem.W.any_some hh
  have hx : s.heap.get? x = some ⟨.ref C, some dx, .plain, #[]⟩ := I.obj
  refine wpAny_bind (wpAny_pure (wpAny_bind (wpAny_bind (wpAny_loadPart hx (wpAny_bind (PySem.W.Looks.here (s := { s with toks := s.toks + 1 }) (PySem.W.looks_clsIn X hc) ?_))))))
  rw [hd']
  refine wpAny_pure (a := some dx) (wpAny_bind (wpAny_pure (wpAny_bind ?_)))
  refine wpAny_nsSet1 (s := { s with toks := s.toks + 1 }) I.ns fun h' hn2 hs2 => ?_
  obtain ⟨oD, esD, epD, hoD, hdD, hcD⟩ := hn2.count (PySem.Within.cons name v hw)
  refine wpAny_bind (wpAny_lookBehind hoD (by rw [hdD]; exact pastItsLine_dict (Nat.le_trans hcD (by rw [List.length_cons]; (first | lia | omega)))) ?_)
  exact wpAny_pure (h _ ⟨(hs2.2 _ (Ne.symm I.ne)).trans I.obj, hn2, I.ne⟩ hs2)

/-- C(..): the dict at the heap's end, the instance behind it; then its __init__ -/
theorem make_map {R : Result → Shared → Prop} {vs : List Value} {kw : List (Str × Value)} (X : K.In s.heap) (hm : PySem.W.makesIn K C = true)
    (hi : PySem.W.findIn K (.ref C) "__init__" = some (some (.ref f))) (hf : PySem.W.typeIn K (.ref f) = some (.type "function"))
    (h : codeAny (model prog w) (A.under (.builtin "type.__call__" ⟨.ref C :: vs, kw⟩)) (.call (.ref f) ⟨.ref (s.heap.objs.size + 1) :: vs, kw⟩) (PySem.W.InitBack (s.heap.objs.size + 1) R)
      { s with heap := (s.heap.push PySem.W.emptyDict).push (PySem.W.instObj C s.heap.objs.size) }) :
    codeAny (model prog w) A (.call (.ref C) ⟨vs, kw⟩) R s := by
  obtain ⟨hh, g, d, t, os⟩ := s
  exact PySem.W.make_core (PySem.W.makes_of X hm) (PySem.W.looks_findIn X hi) (fun self => PySem.W.bind_fn X self hf) (.inl rfl) h
end

/-! ### the attributes as a list of pairs -/
def putF (f : Str) (v : V) : List (Str × V) → List (Str × V)
  | [] => [(f, v)]
  | (g, x) :: r => if g = f then (g, v) :: r else (g, x) :: putF f v r
theorem lookup_putF (f g : Str) (v : V) : ∀ fs : List (Str × V), (putF f v fs).lookup g = if g = f then some v else fs.lookup g
  | [] => by
    show List.lookup g [(f, v)] = _
    by_cases h : g = f
    · have hb : (g == f) = true := beq_iff_eq.mpr h
      simp only [List.lookup, hb, if_pos h]
    · have hb : (g == f) = false := beq_eq_false_iff_ne.mpr h
      simp only [List.lookup, hb, if_neg h]
  | (k, x) :: r => by
    have ih := lookup_putF f g v r
    rw [show putF f v ((k, x) :: r) = (if k = f then (k, v) :: r else (k, x) :: putF f v r) from rfl]
    by_cases hk : k = f
    · rw [if_pos hk]
      by_cases h : g = k
      · have hb : (g == k) = true := beq_iff_eq.mpr h
        simp only [List.lookup, hb, if_pos (h.trans hk)]
      · have hb : (g == k) = false := beq_eq_false_iff_ne.mpr h
        simp only [List.lookup, hb, if_neg (fun e : g = f => h (e.trans hk.symm))]
    · rw [if_neg hk]
      by_cases h : g = k
      · have hb : (g == k) = true := beq_iff_eq.mpr h
        simp only [List.lookup, hb, if_neg (fun e : g = f => hk (h.symm.trans e))]
      · have hb : (g == k) = false := beq_eq_false_iff_ne.mpr h
        simp only [List.lookup, hb]
        exact ih
theorem keys_putF (f : Str) (v : V) : ∀ fs : List (Str × V), f ∈ (putF f v fs).map (·.1) ∧ ∀ g, g ∈ fs.map (·.1) → g ∈ (putF f v fs).map (·.1)
  | [] => ⟨by simp [putF], fun g h => by simp at h⟩
  | (k, x) :: r => by
    obtain ⟨i1, i2⟩ := keys_putF f v r
    rw [show putF f v ((k, x) :: r) = (if k = f then (k, v) :: r else (k, x) :: putF f v r) from rfl]
    by_cases hk : k = f
    · rw [if_pos hk]
      subst hk
      exact ⟨by simp, fun g h => by simpa using h⟩
    · rw [if_neg hk]
      refine ⟨?_, fun g h => ?_⟩
      · rw [List.map_cons]
        exact List.mem_cons_of_mem _ i1
      · rw [List.map_cons] at h ⊢
        rcases List.mem_cons.mp h with e | e
        · exact List.mem_cons.mpr (.inl e)
        · exact List.mem_cons_of_mem _ (i2 g e)
theorem length_putF (f : Str) (v : V) : ∀ fs : List (Str × V), (putF f v fs).length ≤ fs.length + 1
  | [] => by simp [putF]
  | (k, x) :: r => by
    have ih := length_putF f v r
    rw [show putF f v ((k, x) :: r) = (if k = f then (k, v) :: r else (k, x) :: putF f v r) from rfl]
    by_cases hk : k = f
    · rw [if_pos hk, List.length_cons, List.length_cons]; (first | lia | omega)
    · rw [if_neg hk, List.length_cons, List.length_cons]; (first | lia | omega)

theorem RelO.some_of {v : V} {o : Option Value} (r : RelO (some v) o) : ∃ u, o = some u ∧ RelV v u := by
  cases o with
  | none => exact (show False from r).elim
  | some u => exact ⟨u, rfl, r⟩
theorem RelO.none_of {o : Option Value} (r : RelO none o) : o = none := by
  cases o with
  | none => rfl
  | some u => exact (show False from r).elim
theorem handed_of {v : V} {u : Value} (r : RelV v u) : PySem.W.handedIn u = true := by
  cases v with
  | non => cases (show u = Value.none from r); rfl
  | bl b => cases (show u = Value.bool b from r); rfl
  | int i => obtain ⟨t, e⟩ := (show ∃ t, u = Value.int i t from r); cases e; rfl
  | str x => obtain ⟨t, e⟩ := (show ∃ t, u = Value.str x t from r); cases e; rfl
  | byt b => obtain ⟨t, e⟩ := (show ∃ t, u = Value.bytes b t from r); cases e; rfl
  | flt b => obtain ⟨t, e⟩ := (show ∃ t, u = Value.float b t from r); cases e; rfl
  | ref a => cases (show u = Value.ref a from r); rfl
  | ty n => cases (show u = Value.type n from r); rfl

section
variable {P : Program} {w : World} {H H' : Hp} {h h' : Heap} {a C dx : Addr} {fs fs' : List (Str × V)}
theorem ins_get (hok : HOk P w H h) (e : H a = some (.ins C dx fs)) : ∃ mA, ObjM h a dx C mA ∧ (∀ f, RelO (fs.lookup f) (mA f)) ∧ PySem.Within mA (fs.map (·.1)) ∧ fs.length ≤ 1000 ∧ H dx = some (.own a) := by
  obtain ⟨d, z, ne, ob, mA, n, r, q⟩ := (show ObjOk P w H h a (.ins C dx fs) from hok a _ e)
  exact ⟨mA, ⟨ob, n, ne⟩, r, q, z, d⟩
end

/-! ### what of the text a class must have -/
structure Cls (K : PySem.W.Frag) (C : Addr) : Prop where
  pg : PySem.W.plainGet K C Str.empty = true
  hd : PySem.W.hasDictIn K C = true
  po : PySem.W.plainOver K C = true
  sa : PySem.W.findIn K (.ref C) "__setattr__" = some (some (.builtin "object.__setattr__"))
theorem Cls.get {K : PySem.W.Frag} {C : Addr} (c : Cls K C) (f : Str) : PySem.W.plainGet K C f = true := c.pg
/-- no class of it has the name -/
def NoAttr (K : PySem.W.Frag) (C : Addr) (f : Str) : Prop := PySem.W.findIn K (.ref C) f = some none
theorem NoAttr.taker {K : PySem.W.Frag} {C : Addr} {f : Str} (n : NoAttr K C f) : PySem.W.takerIn K C f = some none := by
  unfold PySem.W.takerIn
  rw [show PySem.W.findIn K (.ref C) f = some none from n]
  rfl
/-- a method: a plain def of the class or of one above it -/
structure Meth (K : PySem.W.Frag) (C : Addr) (m : Str) (f : Addr) : Prop where
  at_ : PySem.W.findIn K (.ref C) m = some (some (.ref f))
  fn : PySem.W.isFn K (.ref f) = true
  kp : PySem.W.keepIn K (.ref f) = true

section
variable {X : Cx} {pins : List (Addr × Obj)} {σ : St} {H : Hp} {s : Shared} {a C dx : Addr} {fs : List (Str × V)} {f : Str} {v : V} {A : Around} {E : Value → Shared → Prop}

theorem getattr_ok {b : Bool} {Q : Value → Shared → Prop} (I : Inv X pins σ H s) (e : H a = some (.ins C dx fs)) (c : Cls X.K C) (n : NoAttr X.K C f) (l : fs.lookup f = some v)
    (h : ∀ u s', Inv X pins σ H s' → RelV v u → Q u s') : wpAny (model X.prog X.w) A (getAttr (.ref a) f b) Q E s := by
  obtain ⟨mA, O, r, _, _, _⟩ := ins_get I.hok e
  obtain ⟨u, hu, ru⟩ := RelO.some_of (v := v) (o := mA f) (by rw [← l]; exact r f)
  exact get_map I.kIn O (c.get f) c.hd n hu (handed_of ru) (h u _ (I.tok _) ru)


theorem getmeth_ok {m : Str} {g : Addr} {pl : Sem Bool} {Q : Value × List Value → Shared → Prop} (I : Inv X pins σ H s) (e : H a = some (.ins C dx fs)) (c : Cls X.K C) (k : Meth X.K C m g) (l : fs.lookup m = none)
    (h : Q (.ref g, [.ref a]) s) : wpAny (model X.prog X.w) A (getMethod (.ref a) m pl) Q E s := by
  obtain ⟨mA, O, r, _, _, _⟩ := ins_get I.hok e
  have hn : mA m = none := RelO.none_of (by rw [← l]; exact r m)
  exact get_meth I.kIn O (c.get m) k.at_ k.fn hn h

theorem setattr_ok {y : V} {u : Value} {Q : Unit → Shared → Prop} (I : Inv X pins σ H s) (e : H a = some (.ins C dx fs)) (c : Cls X.K C) (n : NoAttr X.K C f) (hl : fs.length < 1000) (ry : RelV y u)
    (h : ∀ s', Inv X pins σ (upd H a (.ins C dx (putF f y fs))) s' → Q () s') : wpAny (model X.prog X.w) A (setAttr (.ref a) f u) Q E s := by
  obtain ⟨mA, O, r, wi, _, ho⟩ := ins_get I.hok e
  have hz : (fs.map (·.1)).length ≤ sizeLine := by rw [List.length_map, sizeLine_eq]; (first | lia | omega)
  refine set_map I.kIn O c.sa c.po n.taker c.hd wi hz fun h' O' sb => h _ ?_
  have hd : ∃ o, h'.get? dx = some o := let ⟨o, _, _, e', _⟩ := O'.ns; ⟨o, e'⟩
  refine I.write (x := a) (e := dx) (by rw [e]; exact True.intro) (.inr ho) (fun b q hb z => (sb.2 b hb).trans z) hd ?_
  refine ⟨by rw [upd_ne O.ne]; exact ho, ?_, O.ne, O'.obj, _, O'.ns, fun g => ?_, fun g hg => ?_⟩
  · have := length_putF f y fs; (first | lia | omega)
  · show RelO ((putF f y fs).lookup g) (if g = f then some u else mA g)
    rw [lookup_putF]
    by_cases q : g = f
    · rw [if_pos q, if_pos q]; exact ry
    · rw [if_neg q, if_neg q]; exact r g
  · by_cases q : g = f
    · rw [q]; exact (keys_putF f y fs).1
    · refine (keys_putF f y fs).2 g (wi g fun z => hg ?_)
      show (if g = f then some u else mA g) = none
      rw [if_neg q]; exact z

/-- a new instance, tracked, without attributes -/
theorem Inv.made (I : Inv X pins σ H s) : Inv X pins σ (upd (upd H s.heap.objs.size (.own (s.heap.objs.size + 1))) (s.heap.objs.size + 1) (.ins C s.heap.objs.size []))
    { s with heap := (s.heap.push PySem.W.emptyDict).push (PySem.W.instObj C s.heap.objs.size) } := by
  have e1 : (s.heap.push PySem.W.emptyDict).get? s.heap.objs.size = some PySem.W.emptyDict := Heap.get?_push_size s.heap rfl
  have e2 : ((s.heap.push PySem.W.emptyDict).push (PySem.W.instObj C s.heap.objs.size)).get? (s.heap.objs.size + 1) = some (PySem.W.instObj C s.heap.objs.size) := by
    have := Heap.get?_push_size (s.heap.push PySem.W.emptyDict) (o := PySem.W.instObj C s.heap.objs.size) rfl
    rwa [Heap.size_push] at this
  have e3 : (s.heap.push PySem.W.emptyDict).Ns s.heap.objs.size (fun _ => none) := ⟨PySem.W.emptyDict, #[], _, e1, rfl, (fun e he => absurd he (by simp)), fun _ => rfl⟩
  have I1 := I.laid (a := s.heap.objs.size) (o := .own (s.heap.objs.size + 1)) (h' := s.heap.push PySem.W.emptyDict) (t' := s.toks) (fun b u q => Heap.get?_push_of_some _ q) (Nat.le_refl _) ⟨_, e1⟩
  refine I1.laid (a := s.heap.objs.size + 1) (o := .ins C s.heap.objs.size []) (t' := s.toks) (fun b u q => Heap.get?_push_of_some _ q) (Nat.le_of_eq (Heap.size_push _ _)) ?_
  have ne : s.heap.objs.size ≠ s.heap.objs.size + 1 := Nat.ne_of_lt (Nat.lt_succ_self _)
  refine ⟨by rw [upd_ne ne, upd_same], Nat.zero_le _, ne, e2, fun _ => none, (Heap.Ns1.of_empty e3).at fun o q => Heap.get?_push_of_some _ q, fun _ => True.intro, fun y hy => absurd rfl hy⟩

/-- e.f where nothing but the object is asked: through attributeBase (super) and the last hold -/
theorem attr_of {prog : Program} {w : World} {env : Env} {e : Expr} {f : Str} {pos : Pos} {s : Shared} {Q : Value → Shared → Prop} (hb : attributeBase e f env (eval e env) = eval e env)
    (h : wpAny (model prog w) A (eval e env) (fun o s₁ => wpAny (model prog w) A (getAttr o f true) Q E s₁) E s) : wpAny (model prog w) A (eval (.Attribute e f pos) env) Q E s :=
  Attribute_any_ h (by rw [arm_eval_Attribute, hb])
end

/-! ### readings and rules -/
/-- e.f, an attribute of the instance -/
def tFld (K : PySem.W.Frag) (ta : TE) (f : Str) : TE := fun σ H Q => ta σ H fun x H1 => ∃ a C dx fs v, x = .ref a ∧ H1 a = some (.ins C dx fs) ∧ Cls K C ∧ NoAttr K C f ∧ fs.lookup f = some v ∧ Q v H1
/-- e.f = value -/
def sFld (K : PySem.W.Frag) (ta tv : TE) (f : Str) : TS := fun D σ H => tv σ H fun y H1 => ta σ H1 fun x H2 => ∃ a C dx fs, x = .ref a ∧ H2 a = some (.ins C dx fs) ∧ Cls K C ∧ NoAttr K C f ∧ fs.length < 1000 ∧
  D.nx σ (upd H2 a (.ins C dx (putF f y fs)))

section
variable {X : Cx} {o e value : Expr} {f : Str} {pos pos' tpos : Pos} {ta tv : TE}
theorem pe_fld (he : PE X e ta) (hb : attributeBase e f X.env (eval e X.env) = eval e X.env) : PE X (.Attribute e f pos) (tFld X.K ta f) := by
  intro pins s σ H Q I h
  refine attr_of hb (thn (he pins s σ H _ I h) fun u s1 hpt => ?_)
  obtain ⟨x, H1, I1, rx, a, C, dx, fs, v, ex, ea, c, n, l, q⟩ := hpt
  subst ex
  obtain rfl : u = Value.ref a := rx
  exact getattr_ok I1 ea c n l fun u' s2 I2 ru => ⟨v, H1, I2, ru, q⟩
theorem ps_fld (ha : PE X o ta) (hv : PE X value tv) (hs : swapsWith value (some (.Attribute o f pos')) pos.line X.env = pure false) : PS X (.Assign [.Attribute o f pos'] value pos) (sFld X.K ta tv f) := by
  intro pins s σ H D I h
  refine plainObj_wpAny_Assign_Attribute (thn (hv pins s σ H _ I h) fun u s1 ⟨y, H1, I1, ry, q⟩ => thn (ha pins s1 σ H1 _ I1 q) fun ov s2 hpt => ?_) hs
  obtain ⟨x, H2, I2, rx, a, C, dx, fs, ex, ea, c, n, l, q2⟩ := hpt
  subst ex
  obtain rfl : ov = Value.ref a := rx
  exact setattr_ok I2 ea c n l ry fun s3 I3 => ⟨σ, _, I3, q2⟩

end

/-! ### isinstance -/
section
variable {X : Cx} {pins : List (Addr × Obj)} {σ : St} {H : Hp} {s : Shared} {A : Around} {E : Value → Shared → Prop} {Q : Value → Shared → Prop} {c : Value} {b : Bool}
/-- the type of a value, as the fragment's deciders take it; for an instance its class -/
inductive TyOf (K : PySem.W.Frag) (H : Hp) : V → Value → Prop where
  | non : TyOf K H .non (.type "NoneType")
  | bl (x : Bool) : TyOf K H (.bl x) (.type "bool")
  | int (i : Int) : TyOf K H (.int i) (.type "int")
  | str (x : Str) : TyOf K H (.str x) (.type "str")
  | flt (x : UInt64) : TyOf K H (.flt x) (.type "float")
  | lst {a : Addr} {xs : List V} (e : H a = some (.lst xs)) : TyOf K H (.ref a) (.type "list")
  | frz {a : Addr} {o : Obj} {xs : List V} (e : H a = some (.frz o (.lst xs))) : TyOf K H (.ref a) (.type "list")
  | tup {a : Addr} {xs : List V} (e : H a = some (.tup xs)) : TyOf K H (.ref a) (.type "tuple")
  | dK {a : Addr} {kvs : List (Key × V)} (e : H a = some (.dK kvs)) : TyOf K H (.ref a) (.type "dict")
  | dT {a : Addr} {kvs : List (List Key × V)} (e : H a = some (.dT kvs)) : TyOf K H (.ref a) (.type "dict")
  | ins {a C dx : Addr} {fs : List (Str × V)} (e : H a = some (.ins C dx fs)) (cl : Cls K C) (ha : PySem.W.findIn K (.ref C) "__class__" = some (some (.builtin "object.__class__")))
      (hn : PySem.W.specialIn K (.builtin "object.__class__") "__get__" = some (some (.builtin "getset_descriptor.__get__"))) (htk : PySem.W.takesIn K (.builtin "object.__class__") = some true)
      (hm : PySem.W.mroIn K C (.type "object") = some true) : TyOf K H (.ref a) (.ref C)
/-- isinstance(x, c) for one class c, a built-in or an own one: kitOne's answer -/
theorem isinst_ok {x : V} {u t : Value} (I : Inv X pins σ H s) (rx : RelV x u) (ty : TyOf X.K H x t) (e : PySem.W.kitOne X.K t c = some b) (h : ∀ tk, Q (.bool b) { s with toks := tk }) :
    wpAny (model X.prog X.w) A (call (.builtin "isinstance") [u, c]) Q E s := by
  cases ty with
  | non => cases (show u = Value.none from rx); exact PySem.W.kia_one PySem.W.kitx_none I.kIn True.intro e (fun z => nomatch z) h
  | bl y => cases (show u = Value.bool y from rx); exact PySem.W.kia_one PySem.W.kitx_bool I.kIn True.intro e (fun z => nomatch z) h
  | int i => obtain ⟨t, q⟩ := (show ∃ t, u = Value.int i t from rx); cases q; exact PySem.W.kia_one PySem.W.kitx_int I.kIn True.intro e (fun z => nomatch z) h
  | str y => obtain ⟨t, q⟩ := (show ∃ t, u = Value.str y t from rx); cases q; exact PySem.W.kia_one PySem.W.kitx_str I.kIn True.intro e (fun z => nomatch z) h
  | flt y => obtain ⟨t, q⟩ := (show ∃ t, u = Value.float y t from rx); cases q; exact PySem.W.kia_one PySem.W.kitx_float I.kIn True.intro e (fun z => nomatch z) h
  | @lst a xs ea =>
    cases (show u = Value.ref a from rx)
    obtain ⟨_, _, n, _, h1⟩ := (show ObjOk X.prog X.w H s.heap a (.lst xs) from I.hok a _ ea)
    exact PySem.W.kia_one PySem.W.kitx_list I.kIn ⟨_, h1, rfl⟩ e (fun z => nomatch z) h
  | @frz a ob xs ea =>
    cases (show u = Value.ref a from rx)
    obtain ⟨_, _, _, n, _, h1⟩ := (show ObjOk X.prog X.w H s.heap a (.frz ob (.lst xs)) from I.hok a _ ea)
    exact PySem.W.kia_one PySem.W.kitx_list I.kIn ⟨_, h1, rfl⟩ e (fun z => nomatch z) h
  | @tup a xs ea =>
    cases (show u = Value.ref a from rx)
    obtain ⟨_, _, _, p⟩ := (show ObjOk X.prog X.w H s.heap a (.tup xs) from I.hok a _ ea)
    obtain ⟨o, h1, h2, _⟩ := p
    exact PySem.W.kia_one PySem.W.kitx_tuple I.kIn ⟨o, h1, h2⟩ e (fun z => nomatch z) h
  | @dK a kvs ea =>
    cases (show u = Value.ref a from rx)
    obtain ⟨_, _, vs, _, p⟩ := (show ObjOk X.prog X.w H s.heap a (.dK kvs) from I.hok a _ ea)
    obtain ⟨o, es, ep, h1, h2, _⟩ := p
    exact PySem.W.kia_one PySem.W.kitx_dict I.kIn ⟨o, h1, h2.1⟩ e (fun z => nomatch z) h
  | @dT a kvs ea =>
    cases (show u = Value.ref a from rx)
    obtain ⟨_, _, xs, _, o, es, ep, h1, h2, _⟩ := (show ObjOk X.prog X.w H s.heap a (.dT kvs) from I.hok a _ ea)
    exact PySem.W.kia_one PySem.W.kitx_dict I.kIn ⟨o, h1, h2.1⟩ e (fun z => nomatch z) h
  | @ins a C dx fs ea cl ha hn htk hm =>
    cases (show u = Value.ref a from rx)
    obtain ⟨mA, O, _⟩ := ins_get I.hok ea
    obtain ⟨od, J, _⟩ := O.look
    exact PySem.W.kia_one (PySem.W.kitx_own (cl.get _) cl.hd ha hn htk hm) I.kIn J e (fun z => nomatch z) h
end
end L2

namespace L2
open PySem PySem.Spec PyProof.Rows

/-! ### room -/
structure Room (k : Nat) (A : Around) : Prop where
  hd : A.handled = none
  dp : A.depth + 3 * k + 5 < recursionLimit
  un : A.units + 16 * k + 200 < cLine
theorem Room.mono {j k : Nat} {A : Around} (r : Room k A) (h : j ≤ k) : Room j A := ⟨r.hd, by have := r.dp; (first | lia | omega), by have := r.un; (first | lia | omega)⟩
theorem Room.deeper {k : Nat} {A : Around} (r : Room (k + 1) A) (env : Env) : Room k (A.deeper env) :=
  ⟨r.hd, by have := r.dp; show A.depth + 1 + 3 * k + 5 < _; (first | lia | omega), by have := r.un; show A.units + 3 + 16 * k + 200 < _; (first | lia | omega)⟩
theorem Room.in1 {k : Nat} {A : Around} (r : Room (k + 1) A) : Room k A.in1 :=
  ⟨r.hd, by have := r.dp; show A.depth + 3 * k + 5 < _; (first | lia | omega), by have := r.un; show A.units + 1 + 16 * k + 200 < _; (first | lia | omega)⟩
theorem make_depth {A : Around} {C : Addr} {us : List Value} {kw : List (Str × Value)} : (A.under (.builtin "type.__call__" ⟨.ref C :: us, kw⟩)).depth = A.depth + 1 := by
  first | rfl | simp [Around.under, Code.weight, Code.isCreation, Code.isGuard, Code.isCaller, Code.frames, Code.isFrame, guardIds]
theorem make_units {A : Around} {C : Addr} {us : List Value} {kw : List (Str × Value)} : (A.under (.builtin "type.__call__" ⟨.ref C :: us, kw⟩)).units = A.units + 1 := by
  first | rfl | simp [Around.under, Code.cUnits, Code.frames, Code.isFrame]
theorem Room.make {k : Nat} {A : Around} (r : Room (k + 1) A) (C : Addr) (us : List Value) (kw : List (Str × Value)) : Room k (A.under (.builtin "type.__call__" ⟨.ref C :: us, kw⟩)) :=
  ⟨r.hd, by have := r.dp; rw [make_depth]; (first | lia | omega), by have := r.un; rw [make_units]; (first | lia | omega)⟩
theorem Room.depth {k : Nat} {A : Around} (r : Room k A) : A.depth < recursionLimit := by have := r.dp; (first | lia | omega)
theorem Room.units {k : Nat} {A : Around} (r : Room k A) : A.units + 64 < cLine := by have := r.un; (first | lia | omega)
theorem Room.units0 {k : Nat} {A : Around} (r : Room k A) : A.units < cLine := by have := r.un; (first | lia | omega)

/-! ### argument lists and displays -/
def tNil : TA := fun _ H Q => Q [] H
def tCons (ta : TE) (tr : TA) : TA := fun σ H Q => ta σ H fun x H1 => tr σ H1 fun xs H2 => Q (x :: xs) H2
section
variable {X : Cx} {e : Expr} {es : List Expr} {te : TE} {t : TA} {pos : Pos}
theorem pa_nil : PA X [] tNil := fun _ _ _ _ H Q I h => Calls.spliced_nil ⟨[], H, I, .nil, h⟩
theorem pa_cons (ha : PE X e te) (hr : PA X es t) (hs : starEach (e :: es) X.env = (false, eval e X.env) :: starEach es X.env := by rfl) : PA X (e :: es) (tCons te t) := by
  intro pos pins s σ H Q I h
  rw [hs]
  show wpAny _ _ (spliced ((false, eval e X.env) :: backTo pos (starEach es X.env))) _ _ s
  refine Calls.spliced_cons (thn (ha pins s σ H _ I h) fun u s1 hpt => ?_)
  obtain ⟨x, H1, I1, r1, q1⟩ := hpt
  exact thn (hr pos pins s1 σ H1 _ I1 q1) fun us s2 ⟨xs, H2, I2, r2, q2⟩ => ⟨x :: xs, H2, I2, .cons r1 r2, q2⟩

/-- a tuple, a list of written items -/
def tTup (t : TA) : TE := fun σ H Q => t σ H fun xs H1 => xs.length ≤ sizeLine ∧ ∀ p, H1 p = none → Q (.ref p) (upd H1 p (.tup xs))
def tLst (t : TA) : TE := fun σ H Q => t σ H fun xs H1 => xs.length ≤ sizeLine ∧ ∀ p, H1 p = none → Q (.ref p) (upd H1 p (.lst xs))
theorem pe_tup {x1} (h : PA X es t) : PE X (.Tuple es x1 pos) (tTup t) := by
  intro pins s σ H Q I hq
  refine wpAny_Tuple_spliced (thn (h pos pins s σ H _ I hq) fun us s1 ⟨xs, H1, I1, r, z, q⟩ => ⟨by rw [← r.length]; exact z, ?_⟩)
  have hf : H1 s1.heap.objs.size = none := I1.hok.fresh (Nat.le_refl _)
  refine ⟨.ref s1.heap.objs.size, upd H1 s1.heap.objs.size (.tup xs), I1.laid (t' := s1.toks) (fun b u e => Heap.get?_push_of_some _ e) (Nat.le_refl _) ?_, rfl, q _ hf⟩
  exact ⟨z, us, r, ⟨_, Heap.get?_push_size _ rfl, rfl, _, rfl⟩⟩
theorem pe_lst (h : PA X es t) : PE X (.List es pos) (tLst t) := by
  intro pins s σ H Q I hq
  refine wpAny_List_spliced (thn (h pos pins s σ H _ I hq) fun us s1 ⟨xs, H1, I1, r, z, q⟩ => ⟨by rw [← r.length]; exact z, ?_⟩)
  have hf : H1 s1.heap.objs.size = none := I1.hok.fresh (Nat.le_refl _)
  refine ⟨.ref s1.heap.objs.size, upd H1 s1.heap.objs.size (.lst xs), I1.laid (t' := s1.toks) (fun b u e => Heap.get?_push_of_some _ e) (Nat.le_refl _) ?_, rfl, q _ hf⟩
  exact ⟨z, us, 0, r, Heap.get?_push_size _ rfl⟩
end

/-! ### what a def promises -/
/-- a def's promise: the bound arguments in the parameters' order, the heap, the wanted end, the wanted exception -/
abbrev Sp := List V → Hp → VK → XK → Prop
/-- how an exception lies behind a call (file 08 gives it): the callers' frames, abstract heap and state ahead of the call, the wish, the exception, the state -/
abbrev CXT := List Env → Hp → Shared → XK → Value → Shared → Prop

/-- the state at a call -/
structure Env0 (P : Program) (w : World) (K : PySem.W.Frag) (mg : Str → Option Value) (base : Heap) (A : Around) (outer : List Env) (s : Shared) (H : Hp) : Prop where
  frames : A.frames = some outer
  mod : Mod K mg base
  bs : ∀ b o, base.get? b = some o → s.heap.get? b = some o ∧ H b = none
  bsz : base.objs.size ≤ s.heap.objs.size
  funs : s.heap.FunFrames base outer
  frf : ∀ b ∈ frs outer, H b = none
  hok : HOk P w H s.heap
  bare : AllBare s.gens
/-- a call's end -/
def CE (outer : List Env) (P : Program) (w : World) (H : Hp) (s : Shared) (Q : VK) (u : Value) (s' : Shared) : Prop :=
  ∃ v H', s'.os = s.os ∧ AllBare s'.gens ∧ Un (frs outer) [] H H' s.heap s'.heap ∧ HOk P w H' s'.heap ∧ RelV v u ∧ Q v H'
def CR (CX : CXT) (outer : List Env) (P : Program) (w : World) (H : Hp) (s : Shared) (Q : VK) (E : XK) (r : Result) (s' : Shared) : Prop :=
  match r with
  | .ok (.ret u) => CE outer P w H s Q u s'
  | .ok _ => False
  | .error e => CX outer H s E e s'
structure FnOk (P : Program) (w : World) (K : PySem.W.Frag) (mg : Str → Option Value) (base : Heap) (CX : CXT) (k : Nat) (f : Addr) (fd : FuncData) (ps : List Str) (sp : Sp) : Prop where
  len : ∀ vs H Q E, sp vs H Q E → vs.length = ps.length
  run : ∀ (A : Around) (outer : List Env) (s : Shared) (H : Hp) (args : Args) (us : List Value) (vs : List V) (Q : VK) (E : XK), Room k A → Env0 P w K mg base A outer s H → BindsTo s fd args (ps.zip us) → Vals vs us → sp vs H Q E →
    codeAny (model P w) A (.call (.ref f) args) (CR CX outer P w H s Q E) s
theorem FnOk.mono {P : Program} {w : World} {K : PySem.W.Frag} {mg : Str → Option Value} {base : Heap} {CX : CXT} {j k : Nat} {f : Addr} {fd : FuncData} {ps : List Str} {sp : Sp} (F : FnOk P w K mg base CX j f fd ps sp) (h : j ≤ k) :
    FnOk P w K mg base CX k f fd ps sp := ⟨F.len, fun A outer s H args us vs Q E hr => F.run A outer s H args us vs Q E (hr.mono h)⟩

theorem Env0.make {P : Program} {w : World} {K : PySem.W.Frag} {mg : Str → Option Value} {base : Heap} {A : Around} {outer : List Env} {s : Shared} {H : Hp} (e : Env0 P w K mg base A outer s H) (C : Addr) (us : List Value) (kw : List (Str × Value)) :
    Env0 P w K mg base (A.under (.builtin "type.__call__" ⟨.ref C :: us, kw⟩)) outer s H := ⟨by first | exact e.frames | (simpa [Around.under, Code.envs, Code.isFrame, pushEnvs] using e.frames), e.mod, e.bs, e.bsz, e.funs, e.frf, e.hok, e.bare⟩
theorem Env0.in1 {P : Program} {w : World} {K : PySem.W.Frag} {mg : Str → Option Value} {base : Heap} {A : Around} {outer : List Env} {s : Shared} {H : Hp} (e : Env0 P w K mg base A outer s H) :
    Env0 P w K mg base A.in1 outer s H := ⟨e.frames, e.mod, e.bs, e.bsz, e.funs, e.frf, e.hok, e.bare⟩

section
variable {X : Cx} {pins : List (Addr × Obj)} {σ : St} {H : Hp} {s s' : Shared}
/-- from a body: what a callee wants -/
theorem Inv.env0 (I : Inv X pins σ H s) : Env0 X.prog X.w X.K X.mg X.base X.A X.stack s H :=
  ⟨I.ok.frames, I.ok.mod, I.bs, Nat.le_trans I.ok.bsz I.sz, I.stack, I.stkFree, I.hok, I.bare⟩
/-- behind a call -/
theorem Inv.after {Q : VK} {u : Value} (I : Inv X pins σ H s) (h : CE X.stack X.prog X.w H s Q u s') : EP X pins σ Q u s' := by
  obtain ⟨v, H', os, bare, un, hok, r, q⟩ := h
  obtain ⟨hh, g, d, t, os'⟩ := s'
  obtain rfl : os' = s.os := os
  exact ⟨v, H', I.call (h' := hh) (g' := g) (d' := d) (t' := t) (ch := []) un hok bare (fun b z => absurd z (by simp)), r, q⟩
end

/-! ### calls -/
/-- f(..): the written arguments, then the defaults dvs; E: what is wanted of an exception -/
def tCall (sp : Sp) (dvs : List V) (E : XK) (t : TA) : TE := fun σ H Q => t σ H fun vs H1 => sp (vs ++ dvs) H1 Q E
/-- o.m(..) of an instance of the class at C -/
def tMeth (C : Addr) (m : Str) (sp : Sp) (dvs : List V) (E : XK) (ta : TE) (t : TA) : TE := fun σ H Q => ta σ H fun x H1 => ∃ a dx fs, x = .ref a ∧ H1 a = some (.ins C dx fs) ∧ fs.lookup m = none ∧
  t σ H1 fun vs H2 => sp (x :: (vs ++ dvs)) H2 Q E
/-- C(..): a new instance and its dict, then __init__ -/
def tMake (C : Addr) (sp : Sp) (dvs : List V) (E : XK) (t : TA) : TE := fun σ H Q => t σ H fun vs H1 => ∀ x dx, H1 x = none → H1 dx = none → dx ≠ x →
  sp (.ref x :: (vs ++ dvs)) (upd (upd H1 dx (.own x)) x (.ins C dx [])) (fun v H2 => v = .non ∧ Q (.ref x) H2) E

/-- how the parameters are bound: us the positional arguments, kw the keywords' values by name, ds the defaults that fill up -/
def Binds (K : PySem.W.Frag) (fd : FuncData) (ps : List Str) (ds : List Value) : Prop :=
  ∀ (s : Shared) (us : List Value), K.In s.heap → (us ++ ds).length = ps.length → BindsTo s fd ⟨us, []⟩ (ps.zip (us ++ ds))
/-- every parameter is given -/
theorem Binds.all {K : PySem.W.Frag} {fd : FuncData} {ps : List Str} (h : ∀ us : List Value, us.length = ps.length → bindArgs fd ⟨us, []⟩ = pure (ps.zip us)) : Binds K fd ps [] := fun s us _ hl => by
  rw [List.append_nil] at hl ⊢
  exact .of_eq (h us hl)

/-- an exception of a callee reaches what this body wants of exceptions -/
def Passes (CX : CXT) (X : Cx) (E : XK) : Prop := ∀ (pins : List (Addr × Obj)) (σ : St) (H : Hp) (s : Shared) (e : Value) (s' : Shared), Inv X pins σ H s → CX X.stack H s E e s' → X.xe e s'

section
variable {X : Cx} {CX : CXT} {k : Nat} {f C : Addr} {fd : FuncData} {ps : List Str} {sp : Sp} {dvs : List V} {ds : List Value} {E : XK} {x m : Str} {p pos apos : Pos} {e o : Expr} {es : List Expr} {ta : TE} {t : TA}

/-- the callee runs -/
theorem run_fn {pins : List (Addr × Obj)} {σ : St} {H : Hp} {s : Shared} {Q : VK} {us : List Value} {vs : List V} (F : FnOk X.prog X.w X.K X.mg X.base CX k f fd ps sp) (hr : Room k X.A) (hb : Binds X.K fd ps ds) (hd : Vals dvs ds) (hx : Passes CX X E)
    (I : Inv X pins σ H s) (r : Vals vs us) (h : sp (vs ++ dvs) H Q E) : wpAny (model X.prog X.w) X.A (call (.ref f) us) (EP X pins σ Q) X.xe s := by
  have r2 : Vals (vs ++ dvs) (us ++ ds) := r.append hd
  have hl : (us ++ ds).length = ps.length := by rw [← r2.length]; exact F.len _ _ _ _ h
  refine wpAny_call (codeAny_mono (F.run X.A X.stack s H ⟨us, []⟩ (us ++ ds) (vs ++ dvs) Q E hr I.env0 (hb s us I.kIn hl) r2 h) fun r s' hq => ?_)
  cases r with
  | error e => exact hx pins σ H s e s' I hq
  | ok fl =>
    cases fl with
    | ret u => exact I.after hq
    | next => exact False.elim hq
    | brk => exact False.elim hq
    | cont => exact False.elim hq

theorem pe_call (F : FnOk X.prog X.w X.K X.mg X.base CX k f fd ps sp) (hr : Room k X.A) (hg : Gl X x) (hm : X.mg x = some (.ref f)) (hk : PySem.W.keepIn X.K (.ref f) = true) (hb : Binds X.K fd ps ds) (hd : Vals dvs ds) (hx : Passes CX X E)
    (ha : PA X (e :: es) t) (hdb : (x == ("__debug__" : Str)) = false := by decide) (he : starEach (e :: es) X.env = (false, eval e X.env) :: starEach es X.env := by rfl) (hpl : (backTo pos (starEach es X.env)).any (·.1) = false := by rfl) :
    PE X (.Call (.Name x p) (e :: es) [] pos) (tCall sp dvs E t) := by
  intro pins s σ H Q I h
  refine wpAny_Call_Name_kw (ld_glob I hg hm ?_ hdb)
  refine PySem.W.callWith_K (h₀ := X.base) I.ok.mod.kin hk (thn (ha pos pins s σ H _ I h) fun us s1 ⟨vs, H1, I1, r, q⟩ => ⟨I1.kIn, ?_⟩) he hpl
  exact run_fn F hr hb hd hx I1 r q

/-- o.m(e, ..) -/
theorem pe_meth {pl : Sem Bool} (he : PE X o ta) (c : Cls X.K C) (hm : Meth X.K C m f) (F : FnOk X.prog X.w X.K X.mg X.base CX k f fd ps sp) (hr : Room k X.A) (hb : Binds X.K fd ps ds) (hd : Vals dvs ds) (hx : Passes CX X E) (ha : PA X (e :: es) t)
    (hst : starEach (e :: es) X.env = (false, eval e X.env) :: starEach es X.env := by rfl) (hpl : (backTo pos (starEach es X.env)).any (·.1) = false := by rfl)
    (ht : eval (.Call (.Attribute o m apos) (e :: es) [] pos) X.env = (do
      let ov ← eval o X.env
      standAt apos.atName
      let (f, first) ← holding [ov] (getMethod ov m pl)
      callWith pos f first (backTo pos (starEach (e :: es) X.env)) (backToKw pos (keywordEach [] X.env))) := by rfl) :
    PE X (.Call (.Attribute o m apos) (e :: es) [] pos) (tMeth C m sp dvs E ta t) := by
  intro pins s σ H Q I h
  refine PySem.W.methodCall_KW (pl := pl) (thn (he pins s σ H _ I h) fun u s1 hpt => ?_) ht
  obtain ⟨x, H1, I1, rx, a, dx, fs, ex, ea, l, q⟩ := hpt
  subst ex
  obtain rfl : u = Value.ref a := rx
  refine getmeth_ok I1 ea c hm l ?_
  refine PySem.W.callWith_K (first := [.ref a]) (h₀ := X.base) I.ok.mod.kin hm.kp (thn (ha pos pins s1 σ H1 _ I1 q) fun us s2 ⟨vs, H2, I2, r, q2⟩ => ⟨I2.kIn, ?_⟩) hst hpl
  exact run_fn (us := .ref a :: us) (vs := .ref a :: vs) F hr hb hd hx I2 (.cons rfl r) q2
/-- o.m() -/
theorem pe_meth0 {pl : Sem Bool} (he : PE X o ta) (c : Cls X.K C) (hm : Meth X.K C m f) (F : FnOk X.prog X.w X.K X.mg X.base CX k f fd ps sp) (hr : Room k X.A) (hb : Binds X.K fd ps ds) (hd : Vals dvs ds) (hx : Passes CX X E)
    (ht : eval (.Call (.Attribute o m apos) [] [] pos) X.env = (do
      let ov ← eval o X.env
      standAt apos.atName
      let (f, first) ← holding [ov] (getMethod ov m pl)
      callWith pos f first (backTo pos (starEach [] X.env)) (backToKw pos (keywordEach [] X.env))) := by rfl) :
    PE X (.Call (.Attribute o m apos) [] [] pos) (tMeth C m sp dvs E ta tNil) := by
  intro pins s σ H Q I h
  refine PySem.W.methodCall_KW (pl := pl) (thn (he pins s σ H _ I h) fun u s1 hpt => ?_) ht
  obtain ⟨x, H1, I1, rx, a, dx, fs, ex, ea, l, q⟩ := hpt
  subst ex
  obtain rfl : u = Value.ref a := rx
  refine getmeth_ok I1 ea c hm l ?_
  exact PySem.W.callWith_K0 (first := [.ref a]) I1.kIn hm.kp (run_fn (us := [.ref a]) (vs := [.ref a]) F hr hb hd hx I1 (.cons rfl .nil) q)

/-- what a class must have to be made -/
structure Mk (K : PySem.W.Frag) (C f : Addr) : Prop where
  makes : PySem.W.makesIn K C = true
  init : PySem.W.findIn K (.ref C) "__init__" = some (some (.ref f))
  fn : PySem.W.isFn K (.ref f) = true
  kp : PySem.W.keepIn K (.ref C) = true

theorem run_make {pins : List (Addr × Obj)} {σ : St} {H : Hp} {s : Shared} {Q : VK} {us : List Value} {vs : List V} (M : Mk X.K C f) (F : FnOk X.prog X.w X.K X.mg X.base CX k f fd ps sp) (hr : Room (k + 1) X.A) (hb : Binds X.K fd ps ds) (hd : Vals dvs ds)
    (hx : Passes CX X E) (I : Inv X pins σ H s) (r : Vals vs us)
    (h : ∀ x dx, H x = none → H dx = none → dx ≠ x → sp (.ref x :: (vs ++ dvs)) (upd (upd H dx (.own x)) x (.ins C dx [])) (fun v H2 => v = .non ∧ Q (.ref x) H2) E) :
    wpAny (model X.prog X.w) X.A (call (.ref C) us) (EP X pins σ Q) X.xe s := by
  have hq := h (s.heap.objs.size + 1) s.heap.objs.size (I.hok.fresh (Nat.le_succ _)) (I.hok.fresh (Nat.le_refl _)) (Nat.ne_of_lt (Nat.lt_succ_self _))
  have I2 := Inv.made (C := C) I
  have r2 : Vals (V.ref (s.heap.objs.size + 1) :: (vs ++ dvs)) (Value.ref (s.heap.objs.size + 1) :: (us ++ ds)) := .cons rfl (r.append hd)
  have hl : (Value.ref (s.heap.objs.size + 1) :: us ++ ds).length = ps.length := by
    have e := r2.length
    rw [F.len _ _ _ _ hq] at e
    exact e.symm
  refine wpAny_call (make_map (f := f) I.kIn M.makes M.init (beq_iff_eq.mp M.fn) (codeAny_mono (F.run _ X.stack _ _ ⟨Value.ref (s.heap.objs.size + 1) :: us, []⟩ (Value.ref (s.heap.objs.size + 1) :: (us ++ ds)) _ _ E (hr.make C us [])
    (I2.env0.make C us []) (hb _ (Value.ref (s.heap.objs.size + 1) :: us) I2.kIn hl) r2 hq) fun r s' hq' => ?_))
  cases r with
  | error e => exact hx pins σ _ _ e s' I2 hq'
  | ok fl =>
    cases fl with
    | ret u =>
      obtain ⟨v, H', I3, rv, ev, q3⟩ := I2.after hq'
      subst ev
      exact ⟨rv, ⟨V.ref (s.heap.objs.size + 1), H', I3, rfl, q3⟩⟩
    | next => exact False.elim hq'
    | brk => exact False.elim hq'
    | cont => exact False.elim hq'
theorem pe_make (M : Mk X.K C f) (F : FnOk X.prog X.w X.K X.mg X.base CX k f fd ps sp) (hr : Room (k + 1) X.A) (hg : Gl X x) (hm : X.mg x = some (.ref C)) (hb : Binds X.K fd ps ds) (hd : Vals dvs ds) (hx : Passes CX X E)
    (ha : PA X (e :: es) t) (hdb : (x == ("__debug__" : Str)) = false := by decide) (he : starEach (e :: es) X.env = (false, eval e X.env) :: starEach es X.env := by rfl) (hpl : (backTo pos (starEach es X.env)).any (·.1) = false := by rfl) :
    PE X (.Call (.Name x p) (e :: es) [] pos) (tMake C sp dvs E t) := by
  intro pins s σ H Q I h
  refine wpAny_Call_Name_kw (ld_glob I hg hm ?_ hdb)
  refine PySem.W.callWith_K (h₀ := X.base) I.ok.mod.kin M.kp (thn (ha pos pins s σ H _ I h) fun us s1 ⟨vs, H1, I1, r, q⟩ => ⟨I1.kIn, ?_⟩) he hpl
  exact run_make M F hr hb hd hx I1 r q
end

/-! ### keywords -/
section
variable {X : Cx} {CX : CXT} {k : Nat} {f C : Addr} {fd : FuncData} {ps ks : List Str} {sp : Sp} {E : XK} {x m : Str} {p pos apos kpos : Pos} {e o : Expr} {es : List Expr} {kws : List Keyword} {te ta : TE} {t tk : TA} {nm : Option Str}

variable {g : List Value → List Value → List Value} {gV : List V → List V → List V}
end

/-! ### a def's body keeps its promise -/
/-- names: the parameters first -/
structure FnScope (N P : List Str) (sc : Scope) : Prop where
  kind : sc.kind = .function
  co : sc.isCoroutine = false
  gen : sc.isGenerator = false
  nd : N.Nodup
  pre : N.take P.length = P
  par : ∀ x ∈ P, sc.names.lookup x = some .local ∨ sc.names.lookup x = some .cell
  nofree : ∀ y ∈ sc.names, y.2 ≠ .free

theorem bindL_out {kindOf : Str → Option NameKind} {x : Str} : ∀ {binds : List (Str × Value)} {m : Str → Option Value}, (∀ v, (x, v) ∉ binds) → bindL kindOf binds m x = m x
  | [], _, _ => rfl
  | (n, v) :: r, m, h => by
    unfold bindL
    rw [bindL_out fun w hw => h w (List.mem_cons_of_mem _ hw)]
    split
    · have : x ≠ n := by rintro rfl; exact h v List.mem_cons_self
      simp [this]
    · rfl
theorem bindC_out {kindOf : Str → Option NameKind} {x : Str} : ∀ {binds : List (Str × Value)} {m : Str → Option Value}, (∀ v, (x, v) ∉ binds) → bindC kindOf binds m x = m x
  | [], _, _ => rfl
  | (n, v) :: r, m, h => by
    unfold bindC
    rw [bindC_out fun w hw => h w (List.mem_cons_of_mem _ hw)]
    split
    · rfl
    · have : x ≠ n := by rintro rfl; exact h v List.mem_cons_self
      simp [this]
theorem bindL_get {kindOf : Str → Option NameKind} {x : Str} {v : Value} : ∀ {P : List Str} {vs : List Value} {i : Nat} {m : Str → Option Value}, P.Nodup → P[i]? = some x → vs[i]? = some v → kindOf x = some .local →
    bindL kindOf (P.zip vs) m x = some v
  | [], _, _, _, _, h, _, _ => by simp at h
  | _ :: _, [], _, _, _, _, h, _ => by simp at h
  | p :: P, w :: vs, 0, m, nd, h1, h2, hk => by
    simp at h1 h2; subst h1; subst h2
    show bindL kindOf ((p, w) :: P.zip vs) m p = _
    unfold bindL
    rw [bindL_out fun v hv => (List.nodup_cons.mp nd).1 (List.of_mem_zip hv).1, if_pos hk]
    simp
  | p :: P, w :: vs, i + 1, m, nd, h1, h2, hk => by
    show bindL kindOf ((p, w) :: P.zip vs) m x = _
    unfold bindL
    exact bindL_get (i := i) (List.nodup_cons.mp nd).2 (by simpa using h1) (by simpa using h2) hk
theorem bindC_get {kindOf : Str → Option NameKind} {x : Str} {v : Value} : ∀ {P : List Str} {vs : List Value} {i : Nat} {m : Str → Option Value}, P.Nodup → P[i]? = some x → vs[i]? = some v → kindOf x ≠ some .local →
    bindC kindOf (P.zip vs) m x = some v
  | [], _, _, _, _, h, _, _ => by simp at h
  | _ :: _, [], _, _, _, _, h, _ => by simp at h
  | p :: P, w :: vs, 0, m, nd, h1, h2, hk => by
    simp at h1 h2; subst h1; subst h2
    show bindC kindOf ((p, w) :: P.zip vs) m p = _
    unfold bindC
    rw [bindC_out fun v hv => (List.nodup_cons.mp nd).1 (List.of_mem_zip hv).1, if_neg hk]
    simp
  | p :: P, w :: vs, i + 1, m, nd, h1, h2, hk => by
    show bindC kindOf ((p, w) :: P.zip vs) m x = _
    unfold bindC
    exact bindC_get (i := i) (List.nodup_cons.mp nd).2 (by simpa using h1) (by simpa using h2) hk

/-- the names' values at the entry -/
def start (N : List Str) (vs : List V) : St := vs.map some ++ List.replicate (N.length - vs.length) none

/-- the context of a def's body, at its entry; an exception leaves the frame, then lies as CX says -/
def cxOf (CX : CXT) (P : Program) (w : World) (K : PySem.W.Frag) (mg : Str → Option Value) (base : Heap) (N : List Str) (qual : Str) (scope : Scope) (f : Addr) (cd : Value) (A : Around) (outer : List Env) (s : Shared) (H : Hp) (E : XK) : Cx where
  prog := P
  w := w
  K := K
  mg := mg
  base := base
  A := A.deeper (envOfC qual scope s.heap.objs.size f cd)
  N := N
  s₀ := s
  H₀ := H
  env := envOfC qual scope s.heap.objs.size f cd
  outer := outer
  stack := envOfC qual scope s.heap.objs.size f cd :: outer
  ex := []
  calm := true
  fn := fun _ => true
  pn := []
  xe := fun e s' => wpAny (model P w) (A.deeper (envOfC qual scope s.heap.objs.size f cd)) (leaving (envOfC qual scope s.heap.objs.size f cd) e) (fun _ s'' => CX outer H s E e s'') (fun e' s'' => CX outer H s E e' s'') s'

theorem cell_has {sc : Scope} {n : Nat} {x : Str} (h : sc.names.lookup x = some .cell) : ∃ c, (cellsFrom n sc.names []).lookup x = some c := by
  have q := PySem.W.cellsFrom_some sc.names n [] (.inl h)
  exact Option.isSome_iff_exists.mp q

theorem inv_start {CX : CXT} {P : Program} {w : World} {K : PySem.W.Frag} {mg : Str → Option Value} {base : Heap} {N ps : List Str} {qual : Str} {scope : Scope} {f : Addr} {cd : Value} {A : Around} {outer : List Env} {s s1 : Shared} {H : Hp} {E : XK} {us : List Value} {vs : List V}
    (S : FnScope N ps scope) (hd : A.handled = none) (e0 : Env0 P w K mg base A outer s H) (hl : vs.length = ps.length) (r : Vals vs us)
    (x : InCallC s s.heap.objs.size (bindL (envOfC qual scope s.heap.objs.size f cd).kindOf (ps.zip us) fun _ => none) (cellsFrom (s.heap.objs.size + 1) scope.names []) (bindC (envOfC qual scope s.heap.objs.size f cd).kindOf (ps.zip us) fun _ => none) s1) :
    Inv (cxOf CX P w K mg base N qual scope f cd A outer s H E) [] (start N vs) H s1 := by
  have hpl : ps.length ≤ N.length := by have := congrArg List.length S.pre; rw [List.length_take] at this; (first | lia | omega)
  obtain ⟨h1, tk, rfl, hk⟩ := x.done
  have noA : ∀ b : Addr, b ∉ (cxOf CX P w K mg base N qual scope f cd A outer s H E).ex := fun b z => absurd (show b ∈ ([] : List Addr) from z) (by simp)
  refine ⟨⟨e0.mod, S.kind, rfl, rfl, Nat.le_refl _, fun y z c h1 h2 => ?_, fun y hy => ?_, fun y c _ h => ?_, fun _ => hd, Around.frames_deeper e0.frames, .inr ⟨rfl, rfl⟩, fun b z => absurd z (noA b), e0.bs, e0.bsz, fun b _ _ => noA b, fun b z => absurd z (noA b), e0.funs, e0.frf⟩,
    rfl, e0.bare, Un.kept hk, ⟨_, x.toInCall.ns, fun i y v h1 h2 h3 => ?_⟩, fun y c h => ⟨_, x.cell y c h⟩, e0.hok.fresh (Nat.le_refl _), fun y c h => ?_, fun p hp => absurd (show p ∈ ([] : List (Addr × Obj)) from hp) (by simp), e0.hok.kept hk, ?_⟩
  · exact name_of_addr x.apart (PySem.mem_of_lookup h1) (PySem.mem_of_lookup h2)
  · have hy : scope.names.lookup y = some .cell ∨ scope.names.lookup y = some .free := hy
    rcases hy with hy | hy
    · exact cell_has hy
    · exact absurd rfl (S.nofree _ (PySem.mem_of_lookup hy))
  · exact Nat.le_of_lt (x.above y c (PySem.mem_of_lookup h))
  · have hi : i < vs.length := by
      unfold start at h2
      by_cases hi : i < vs.length
      · exact hi
      · rw [List.getElem?_append_right (by simpa using hi)] at h2
        rw [List.getElem?_replicate] at h2
        split at h2 <;> cases h2
    have ha : vs[i]? = some v := by
      unfold start at h2
      rw [List.getElem?_append_left (by simpa using hi), List.getElem?_map] at h2
      cases e : vs[i]? with
      | none => rw [e] at h2; cases h2
      | some a => rw [e] at h2; cases h2; rfl
    obtain ⟨u, hu, rv⟩ := r.get ha
    have hp : ps[i]? = some y := by
      rw [← S.pre, List.getElem?_take_of_lt (by (first | lia | omega))]; exact h1
    have ndP : ps.Nodup := by rw [← S.pre]; exact S.nd.sublist (List.take_sublist _ _)
    refine ⟨u, rv, ?_⟩
    rcases S.par y (List.mem_of_getElem? hp) with k | k
    · exact .inl ⟨k, bindL_get ndP hp hu k⟩
    · obtain ⟨c, e⟩ := cell_has (n := s.heap.objs.size + 1) k
      refine .inr ⟨.inl k, c, e, ?_⟩
      have q := x.cell y c e
      rw [bindC_get ndP hp hu (by show scope.names.lookup y ≠ _; rw [k]; decide)] at q
      exact q
  · exact e0.hok.fresh (Nat.le_of_lt (x.above y c (PySem.mem_of_lookup h)))
  · unfold start
    show _ = N.length
    rw [List.length_append, List.length_map, List.length_replicate]
    (first | lia | omega)

/-- THE RULE: a def (or a method) of the text, by its body. The body's reading t is chosen for each entry; it is run at the parameters' values -/
theorem fn_of {CX : CXT} {P : Program} {w : World} {K : PySem.W.Frag} {mg : Str → Option Value} {base : Heap} {k : Nat} {f : Addr} {name qual : Str} {params : Arguments} {body : List Stmt} {scope : Scope} {dV kV doc pm cdv ct oc : Value} {an od : Option Addr}
    {osl : Array (Option Value)} {N ps : List Str} {sp : Sp} (lk : K.lookup f = some ⟨oc, od, .func (PySem.W.fnOf name qual params body scope dV kV doc pm an cdv ct), osl⟩) (hcd : PySem.W.codeIn K cdv qual = true) (S : FnScope N ps scope)
    (len : ∀ vs H Q E, sp vs H Q E → vs.length = ps.length)
    (hbody : ∀ (A : Around) (outer : List Env) (s : Shared) (H : Hp) (vs : List V) (Q : VK) (E : XK), Room k (A.deeper (envOfC qual scope s.heap.objs.size f cdv)) → sp vs H Q E →
      ∃ t, PSs (cxOf CX P w K mg base N qual scope f cdv A outer s H E) body t ∧ t { nx := fun _ H' => Q .non H', rt := Q } (start N vs) H) :
    FnOk P w K mg base CX (k + 1) f (PySem.W.fnOf name qual params body scope dV kV doc pm an cdv ct) ps sp := by
  refine ⟨len, fun A outer s H args us vs Q E hr e0 hb r hsp => ?_⟩
  have hl := len _ _ _ _ hsp
  have KX : K.In s.heap := e0.mod.kin.keeps fun b o e => (e0.bs b o e).1
  have lim : s.heap.NoLimit := e0.mod.nolimit.keeps fun b o e => (e0.bs b o e).1
  have hkind : ∀ y ∈ ps.zip us, scope.names.lookup y.1 = some .local ∨ (scope.names.lookup y.1 = some .cell ∧ ((cellsFrom (s.heap.objs.size + 1) scope.names []).lookup y.1).isSome = true) := fun ⟨n, v⟩ hy => by
    rcases S.par n (List.of_mem_zip hy).1 with q | q
    · exact .inl q
    · exact .inr ⟨q, PySem.W.cellsFrom_some _ _ _ (.inl q)⟩
  refine codeAny_call_function hr.depth (KX _ _ lk) rfl S.co S.gen rfl (PySem.W.codeRec_of KX hcd) (hb _ _ _ _ ?_)
  refine wpAny_newFunctionEnv_cells S.kind hkind fun env he s1 x => ?_
  subst he
  refine ⟨lim.keeps x.toInCall.keep, codeAny_func ?_⟩
  obtain ⟨t, ht, hq⟩ := hbody A outer s H vs Q E (hr.deeper _) hsp
  have I : Inv (cxOf CX P w K mg base N qual scope f cdv A outer s H E) [] (start N vs) H s1 := inv_start S hr.hd e0 hl r x
  refine wpAny_mono (ht [] s1 (start N vs) H _ I hq) (fun fl s' hs => ?_) fun e s' hs => hs
  have fin : ∀ {σ' : St} {H' : Hp} {v : V} {u : Value}, Inv (cxOf CX P w K mg base N qual scope f cdv A outer s H E) [] σ' H' s' → RelV v u → Q v H' → CE outer P w H s Q u s' :=
    fun {σ' H' v u} J rv q => ⟨v, H', J.os, J.bare, J.base, J.hok, rv, q⟩
  cases fl with
  | ret u =>
    obtain ⟨v, σ', H', J, rv, q⟩ := hs
    exact fin J rv q
  | next =>
    obtain ⟨σ', H', J, q⟩ := hs
    exact fin (v := V.non) (u := Value.none) J rfl q
  | brk =>
    obtain ⟨_, _, _, q⟩ := hs
    exact False.elim q
  | cont =>
    obtain ⟨_, _, _, q⟩ := hs
    exact False.elim q
end L2

namespace L2
open PySem PySem.Spec PyProof.Rows
section
variable {X : Cx} {x : Str} {p pos : Pos} {e : Expr} {es : List Expr} {t : TA} {id T : String} {r : List V → Hp → VK → Prop}

def tCB (r : List V → Hp → VK → Prop) (t : TA) : TE := fun σ H Q => t σ H fun vs H1 => r vs H1 Q
/-- f(e, ..), f a built-in function -/
theorem pe_callB (hc : CallR X (.builtin id) r) (hg : Gl X x) (hm : X.mg x = none) (hv : bootBuiltins x = some (.builtin id)) (ha : PA X (e :: es) t) (hn : x ≠ "__name__" := by decide) (hdb : (x == ("__debug__" : Str)) = false := by decide)
    (he : starEach (e :: es) X.env = (false, eval e X.env) :: starEach es X.env := by rfl) (hpl : (backTo pos (starEach es X.env)).any (·.1) = false := by rfl) : PE X (.Call (.Name x p) (e :: es) [] pos) (tCB r t) := by
  intro pins s σ H Q I h
  refine wpAny_Call_Name_kw (ld_blt I hg hm hv ?_ hn hdb)
  exact PyProof.Rows.callWith_builtin1 (thn (ha pos pins s σ H _ I h) fun us s1 ⟨vs, H1, I1, r1, q1⟩ => hc pins s1 σ H1 vs us Q I1 r1 q1) he hpl
/-- T(e, ..), T a built-in type -/
theorem pe_callTy (hc : CallR X (.type T) r) (hg : Gl X x) (hm : X.mg x = none) (hv : bootBuiltins x = some (.type T)) (ha : PA X (e :: es) t) (hn : x ≠ "__name__" := by decide) (hdb : (x == ("__debug__" : Str)) = false := by decide)
    (he : starEach (e :: es) X.env = (false, eval e X.env) :: starEach es X.env := by rfl) (hpl : (backTo pos (starEach es X.env)).any (·.1) = false := by rfl) : PE X (.Call (.Name x p) (e :: es) [] pos) (tCB r t) := by
  intro pins s σ H Q I h
  refine wpAny_Call_Name_kw (ld_blt I hg hm hv ?_ hn hdb)
  exact PyProof.Rows.callWith_type1 (thn (ha pos pins s σ H _ I h) fun us s1 ⟨vs, H1, I1, r1, q1⟩ => hc pins s1 σ H1 vs us Q I1 r1 q1) he hpl
end
end L2

namespace HT
open PySem PyProof.Rows



section
open PySem.SeqAt
open PySem.AutoSeq1 (wpAny_loadPart')
open PySem.MeetsSeq PySem.MeetsSeq2 PySem.MeetsSeq3

end

section
variable {prog : Program} {w : World} {A : Around} {E : Value → Shared → Prop} {s : Shared}



/-! ### t[a:b], not the whole -/
/-- a slice's bound as a place among n (d where it is left out) -/
def sIx (n d : Nat) : Option Int → Nat
  | none => d
  | some v => if v < 0 then (v + (n : Int)).toNat else min v.toNat n

end
end HT

namespace L2
open PySem PySem.Spec PyProof.Rows

/-! ### lists of pairs as tables -/
/-! ### the parts of a slice -/
abbrev TO := St → Hp → (Option Int → Hp → Prop) → Prop
/-- a slice's part (left out, or an int) -/
def PO (X : Cx) (e : Option Expr) (t : TO) : Prop :=
  ∀ (pins : List (Addr × Obj)) (s : Shared) (σ : St) (H : Hp) (Q : Option Int → Hp → Prop), Inv X pins σ H s → t σ H Q →
    wpAny (model X.prog X.w) X.A (evalPart e X.env) (fun u s' => ∃ o H', Inv X pins σ H' s' ∧ IsPart u o ∧ Q o H') X.xe s
def tNoPart : TO := fun _ H Q => Q none H
def tPart (t : TE) : TO := fun σ H Q => t σ H fun x H1 => ∃ i, x = .int i ∧ Q (some i) H1


section
variable {κ : Type} [DecidableEq κ]
def valV (kvs : List (κ × V)) (k : κ) : Option V := (kvs.find? fun kv => decide (kv.1 = k)).map (·.2)
/-- in its place, or at the end -/
def putK (kvs : List (κ × V)) (k : κ) (v : V) : List (κ × V) :=
  if (kvs.any fun kv => decide (kv.1 = k)) = true then kvs.map (fun kv => if kv.1 = k then (kv.1, v) else kv) else kvs ++ [(k, v)]
def dropK (kvs : List (κ × V)) (k : κ) : List (κ × V) := kvs.filter fun kv => decide (kv.1 ≠ k)

theorem valV_nil {k : κ} : valV ([] : List (κ × V)) k = none := rfl
theorem valV_pos {p : κ × V} {r : List (κ × V)} {k : κ} (e : p.1 = k) : valV (p :: r) k = some p.2 := by simp [valV, List.find?_cons, e]
theorem valV_neg {p : κ × V} {r : List (κ × V)} {k : κ} (e : ¬ p.1 = k) : valV (p :: r) k = valV r k := by simp [valV, List.find?_cons, e]
theorem valV_any (k : κ) : ∀ kvs : List (κ × V), (kvs.any fun kv => decide (kv.1 = k)) = (valV kvs k).isSome
  | [] => rfl
  | p :: r => by
    rw [List.any_cons]
    by_cases e : p.1 = k
    · simp only [valV_pos e, decide_eq_true e, Bool.true_or, Option.isSome_some]
    · rw [valV_neg e, decide_eq_false e, Bool.false_or]; exact valV_any k r
theorem valV_map (k j : κ) (y : V) : ∀ kvs : List (κ × V), valV (kvs.map fun kv => if kv.1 = k then (kv.1, y) else kv) j = (valV kvs j).map fun x => if j = k then y else x
  | [] => rfl
  | p :: r => by
    have ih := valV_map k j y r
    rw [List.map_cons]
    by_cases h : p.1 = k
    · rw [if_pos h]
      by_cases e : p.1 = j
      · rw [valV_pos (p := (p.1, y)) e, valV_pos e, Option.map_some, if_pos (e.symm.trans h)]
      · rw [valV_neg (p := (p.1, y)) e, valV_neg e, ih]
    · rw [if_neg h]
      by_cases e : p.1 = j
      · rw [valV_pos (p := p) e, valV_pos e, Option.map_some, if_neg (fun z => h (e.trans z))]
      · rw [valV_neg (p := p) e, valV_neg e, ih]
theorem valV_snoc (k j : κ) (y : V) : ∀ kvs : List (κ × V), valV kvs k = none → valV (kvs ++ [(k, y)]) j = if j = k then some y else valV kvs j
  | [], _ => by
    by_cases e : k = j
    · rw [if_pos e.symm]; exact valV_pos (p := (k, y)) e
    · rw [if_neg (fun z => e z.symm)]; exact valV_neg (p := (k, y)) e
  | p :: r, hn => by
    rw [List.cons_append]
    have hk : ¬ p.1 = k := fun z => by rw [valV_pos z] at hn; cases hn
    rw [valV_neg hk] at hn
    have ih := valV_snoc k j y r hn
    by_cases e : p.1 = j
    · rw [valV_pos e, valV_pos e, if_neg (fun z => hk (e.trans z))]
    · rw [valV_neg e, valV_neg e, ih]
theorem valV_put (kvs : List (κ × V)) (k j : κ) (y : V) : valV (putK kvs k y) j = if j = k then some y else valV kvs j := by
  unfold putK
  by_cases a : (kvs.any fun kv => decide (kv.1 = k)) = true
  · rw [if_pos a, valV_map]
    rw [valV_any] at a
    by_cases e : j = k
    · obtain ⟨x, hx⟩ := Option.isSome_iff_exists.mp a
      rw [if_pos e, e, hx, Option.map_some, if_pos rfl]
    · rw [if_neg e]
      cases valV kvs j with
      | none => rfl
      | some x => rw [Option.map_some, if_neg e]
  · rw [if_neg a]
    refine valV_snoc k j y kvs ?_
    rw [valV_any] at a
    cases q : valV kvs k with
    | none => rfl
    | some x => rw [q] at a; exact (a rfl).elim
theorem length_putK (kvs : List (κ × V)) (k : κ) (v : V) : (putK kvs k v).length ≤ kvs.length + 1 := by
  unfold putK
  split
  · rw [List.length_map]; (first | lia | omega)
  · rw [List.length_append, List.length_cons, List.length_nil]; (first | lia | omega)

theorem RelO.isSome_eq {o : Option V} {u : Option Value} (r : RelO o u) : o.isSome = u.isSome := by
  cases o with
  | none => cases u with
    | none => rfl
    | some _ => exact (show False from r).elim
  | some _ => cases u with
    | none => exact (show False from r).elim
    | some _ => rfl
theorem RelO.getD {o : Option V} {u : Option Value} {d : V} {d' : Value} (r : RelO o u) (rd : RelV d d') : RelV (o.getD d) (u.getD d') := by
  cases o with
  | none => cases u with
    | none => exact rd
    | some _ => exact (show False from r).elim
  | some _ => cases u with
    | none => exact (show False from r).elim
    | some _ => exact r

/-- raw tables of the same keys -/
theorem KV.val {kvs : List (κ × V)} {vs : List (κ × Value)} (r : KV kvs vs) (k : κ) : RelO (valV kvs k) (valueAt vs k) := by
  unfold KV at r
  induction r with
  | nil => exact True.intro
  | @cons p q ps qs h t ih =>
    obtain ⟨h1, h2⟩ := h
    by_cases e : p.1 = k
    · have e' : q.1 = k := h1.symm.trans e
      have b : valueAt (q :: qs) k = some q.2 := by simp [valueAt, List.find?_cons, e']
      rw [valV_pos e, b]; exact h2
    · have e' : ¬ q.1 = k := fun z => e (h1.trans z)
      have b : valueAt (q :: qs) k = valueAt qs k := by simp [valueAt, List.find?_cons, e']
      rw [valV_neg e, b]; exact ih
theorem KV.any {kvs : List (κ × V)} {vs : List (κ × Value)} (r : KV kvs vs) (k : κ) : (kvs.any fun kv => decide (kv.1 = k)) = vs.any fun kv => decide (kv.1 = k) := by
  unfold KV at r
  induction r with
  | nil => rfl
  | cons h t ih => rw [List.any_cons, List.any_cons, ih, h.1]
theorem KV.repl {kvs : List (κ × V)} {vs : List (κ × Value)} (r : KV kvs vs) (k : κ) {y : V} {u : Value} (ry : RelV y u) :
    KV (kvs.map fun kv => if kv.1 = k then (kv.1, y) else kv) (vs.map fun kv => if kv.1 = k then (kv.1, u) else kv) := by
  unfold KV at r ⊢
  induction r with
  | nil => exact .nil
  | @cons p q ps qs h t ih =>
    rw [List.map_cons, List.map_cons]
    refine .cons ?_ ih
    obtain ⟨h1, h2⟩ := h
    by_cases e : p.1 = k
    · rw [if_pos e, if_pos (h1.symm.trans e)]; exact ⟨h1, ry⟩
    · rw [if_neg e, if_neg (fun z => e (h1.trans z))]; exact ⟨h1, h2⟩
theorem KV.put {kvs : List (κ × V)} {vs : List (κ × Value)} (r : KV kvs vs) (k : κ) {y : V} {u : Value} (ry : RelV y u) : KV (putK kvs k y) (stored vs k u) := by
  unfold putK stored
  rw [r.any k]
  by_cases e : (vs.any fun kv => decide (kv.1 = k)) = true
  · rw [if_pos e, if_pos e]; exact r.repl k ry
  · rw [if_neg e, if_neg e]; exact Paired.snoc r ⟨rfl, ry⟩
theorem KV.drop {kvs : List (κ × V)} {vs : List (κ × Value)} (r : KV kvs vs) (k : κ) : KV (dropK kvs k) (without vs k) := by
  unfold KV at r ⊢
  unfold dropK without
  induction r with
  | nil => exact .nil
  | @cons p q ps qs h t ih =>
    obtain ⟨h1, h2⟩ := h
    rw [List.filter_cons, List.filter_cons]
    by_cases e : p.1 = k
    · have a : ¬ decide (p.1 ≠ k) = true := by simp [e]
      have b : ¬ decide (q.1 ≠ k) = true := by simp [h1.symm.trans e]
      rw [if_neg a, if_neg b]; exact ih
    · have e' : ¬ q.1 = k := fun z => e (h1.trans z)
      have a : decide (p.1 ≠ k) = true := by simp [e]
      have b : decide (q.1 ≠ k) = true := by simp [e']
      rw [if_pos a, if_pos b]; exact .cons ⟨h1, h2⟩ ih
theorem KV.keys {kvs : List (κ × V)} {vs : List (κ × Value)} (r : KV kvs vs) : kvs.map (·.1) = vs.map (·.1) := by
  unfold KV at r
  induction r with
  | nil => rfl
  | cons h t ih => rw [List.map_cons, List.map_cons, ih, h.1]
theorem KV.length {kvs : List (κ × V)} {vs : List (κ × Value)} (r : KV kvs vs) : kvs.length = vs.length := Paired.length r
variable {X : Cx} {e : Expr} {te : TE} {lo hi : Option Expr} {tl th : TO} {pos p2 : Pos}

theorem po_none : PO X none tNoPart := by
  intro pins s σ H Q I h
  rw [evalPart_none]
  exact wpAny_pure ⟨none, H, I, .none, h⟩
theorem po_some (h : PE X e te) : PO X (some e) (tPart te) := by
  intro pins s σ H Q I hw
  rw [evalPart_some]
  refine thn (h pins s σ H _ I hw) fun u s1 hpt => ?_
  obtain ⟨x, H1, I1, r1, q1⟩ := hpt
  obtain ⟨i, rfl, q⟩ := q1
  obtain ⟨t, rfl⟩ := r1
  exact ⟨some i, H1, I1, .int i t, q⟩

/-- what a slice of a value is, by values: the slice object stands at sl -/
def SlR (X : Cx) (r : V → Option Int → Option Int → Hp → VK → Prop) : Prop :=
  ∀ (pins : List (Addr × Obj)) (s : Shared) (σ : St) (H : Hp) (x : V) (v vl vu : Value) (lo hi : Option Int) (sl : Addr) (Q : VK), Inv X pins σ H s → RelV x v → s.heap.IsSliceOf sl vl vu .none → IsPart vl lo → IsPart vu hi → r x lo hi H Q →
    ∃ T id, typeLookup (.type T) "__getitem__" = pure (some (.builtin id)) ∧ s.TypeIs v T ∧ wpAny (model X.prog X.w) X.A (getItem v (.ref sl)) (EP X pins σ Q) X.xe s
theorem SlR.or {r r' : V → Option Int → Option Int → Hp → VK → Prop} (h : SlR X r) (h' : SlR X r') : SlR X (fun x lo hi H Q => r x lo hi H Q ∨ r' x lo hi H Q) := by
  intro pins s σ H x v vl vu lo hi sl Q I rx hs pl pu q
  rcases q with q | q
  · exact h pins s σ H x v vl vu lo hi sl Q I rx hs pl pu q
  · exact h' pins s σ H x v vl vu lo hi sl Q I rx hs pl pu q
def tSl (r : V → Option Int → Option Int → Hp → VK → Prop) (te : TE) (tl th : TO) : TE := fun σ H Q => te σ H fun x H1 => tl σ H1 fun l H2 => th σ H2 fun u H3 => r x l u H3 Q
/-- a[lo:hi], any a -/
theorem pe_slice {r : V → Option Int → Option Int → Hp → VK → Prop} (hr : SlR X r) (he : PE X e te) (hl : PO X lo tl) (hu : PO X hi th) : PE X (.Subscript e (.Slice lo hi none p2) pos) (tSl r te tl th) := by
  intro pins s σ H Q I h
  refine Subscript_ (thn (he pins s σ H _ I h) fun v s1 hpt => ?_)
  obtain ⟨x, H1, I1, r1, q1⟩ := hpt
  refine wpAny_Slice (thn (hl pins s1 σ H1 _ I1 q1) fun vl s2 ⟨l, H2, I2, pl, q2⟩ => thn (hu pins s2 σ H2 _ I2 q2) fun vu s3 hpt => ?_)
  obtain ⟨u, H3, I3, pu, q3⟩ := hpt
  rw [evalPart_none]
  refine wpAny_pure ?_
  have I4 : Inv X pins σ H3 { s3 with heap := s3.heap.push { cls := .type "slice", data := .fields #[vl, vu, .none] } } := I3.kept (t' := s3.toks) fun b ob q => Heap.get?_push_of_some _ q
  obtain ⟨T, id, hT, ht, hg⟩ := hr pins { s3 with heap := s3.heap.push { cls := .type "slice", data := .fields #[vl, vu, .none] } } σ H3 x v vl vu l u s3.heap.objs.size Q I4 r1 (Heap.IsSliceOf.new ..) pl pu q3
  show wpAny (model X.prog X.w) X.A (subscriptTail e (.Slice lo hi none p2) v (.ref s3.heap.objs.size)) (EP X pins σ Q) X.xe { s3 with heap := s3.heap.push { cls := .type "slice", data := .fields #[vl, vu, .none] } }
  exact tail_any (ops := [.ref s3.heap.objs.size, v]) ht hT hg (by with_unfolding_all rfl)

/-- the items of xs[lo:hi] -/
def cutV (xs : List V) (lo hi : Option Int) : List V := (xs.drop (HT.sIx xs.length 0 lo)).take (HT.sIx xs.length xs.length hi - HT.sIx xs.length 0 lo)
theorem cutV_length (xs : List V) (lo hi : Option Int) : (cutV xs lo hi).length ≤ xs.length := by
  unfold cutV
  rw [List.length_take, List.length_drop]
  (first | lia | omega)

/-! ### t < u, t + u -/
end


/-! ### a tracked dict, its keys ints and texts or tuples of these -/
theorem kV_is {P : Program} {w : World} {k : Key} {u : Value} (r : RelV (kV k) u) : (mixKind P w).is k u = true := by
  cases k with
  | inl i => obtain ⟨t, e⟩ := (show ∃ t, u = Value.int i t from r); subst e; exact mixKind_int P w i t
  | inr x => obtain ⟨t, e⟩ := (show ∃ t, u = Value.str x t from r); subst e; exact mixKind_str P w x t
theorem items_are {P : Program} {w : World} : ∀ {ks : List Key} {us : List Value}, Vals (ks.map kV) us → ItemsAre (mixKind P w) ks us
  | [], _, r => by rw [List.map_nil] at r; cases r; exact .nil
  | k :: ks, _, r => by
    rw [List.map_cons] at r
    cases r with
    | cons h t => exact .cons (kV_is h) (items_are t)

/-- raw entries of a dict with tuple keys -/
abbrev KT (H : Hp) : List (List Key × V) → List (List Key × Addr × Value) → Prop := Paired fun p q => p.1 = q.1 ∧ H q.2.1 = some (.tup (p.1.map kV)) ∧ RelV p.2 q.2.2
theorem KT.val {H : Hp} {kvs : List (List Key × V)} {xs : List (List Key × Addr × Value)} (r : KT H kvs xs) (k : List Key) : RelO (valV kvs k) ((atKey xs k).map (·.2)) := by
  induction r with
  | nil => exact True.intro
  | @cons p q ps qs h t ih =>
    obtain ⟨h1, _, h2⟩ := h
    by_cases e : p.1 = k
    · have e' : q.1 = k := h1.symm.trans e
      have b : atKey (q :: qs) k = some q.2 := by simp [atKey, List.find?_cons, e']
      rw [valV_pos e, b]; exact h2
    · have e' : ¬ q.1 = k := fun z => e (h1.trans z)
      have b : atKey (q :: qs) k = atKey qs k := by simp [atKey, List.find?_cons, e']
      rw [valV_neg e, b]; exact ih
theorem KT.repl {H : Hp} {kvs : List (List Key × V)} {xs : List (List Key × Addr × Value)} (r : KT H kvs xs) (k : List Key) {y : V} {u : Value} (ry : RelV y u) :
    KT H (kvs.map fun kv => if kv.1 = k then (kv.1, y) else kv) (xs.map (putAt k u)) := by
  induction r with
  | nil => exact .nil
  | @cons p q ps qs h t ih =>
    rw [List.map_cons, List.map_cons]
    refine .cons ?_ ih
    obtain ⟨h1, h2, h3⟩ := h
    unfold putAt
    by_cases e : p.1 = k
    · rw [if_pos e, if_pos (h1.symm.trans e)]; exact ⟨h1, h2, ry⟩
    · rw [if_neg e, if_neg (fun z => e (h1.trans z))]; exact ⟨h1, h2, h3⟩
theorem KT.put {H : Hp} {kvs : List (List Key × V)} {xs : List (List Key × Addr × Value)} (r : KT H kvs xs) (k : List Key) {b : Addr} {y : V} {u : Value} (hb : H b = some (.tup (k.map kV))) (ry : RelV y u) :
    KT H (putK kvs k y) (storedH xs k b u) := by
  have e : (kvs.any fun kv => decide (kv.1 = k)) = (atKey xs k).isSome := by
    rw [valV_any, (r.val k).isSome_eq, Option.isSome_map]
  unfold putK storedH
  rw [e]
  by_cases q : (atKey xs k).isSome = true
  · rw [if_pos q, if_pos q]; exact r.repl k ry
  · rw [if_neg q, if_neg q]; exact Paired.snoc r ⟨rfl, hb, ry⟩
theorem KT.keeps {H H' : Hp} {kvs : List (List Key × V)} {xs : List (List Key × Addr × Value)} (r : KT H kvs xs) (ht : ∀ b ys, H b = some (.tup ys) → H' b = some (.tup ys)) : KT H' kvs xs :=
  Paired.mapP r fun _ _ z => ⟨z.1, ht _ _ z.2.1, z.2.2⟩

end L2

namespace L2
open PySem PySem.Spec PyProof.Rows

/-! ### places -/
/-- the place that an index of any sign means -/
def ixN (n : Nat) (i : Int) : Option Nat := if 0 ≤ i then (if i < n then some i.toNat else none) else if -(n : Int) ≤ i then some (i + n).toNat else none
def atI {α : Type} (xs : List α) (i : Int) : Option α := (ixN xs.length i).bind fun j => xs[j]?
theorem ixN_seq {n : Nat} {i : Int} {j : Nat} (h : ixN n i = some j) : seqIndex? i n = some j ∧ j < n ∧ -(n : Int) ≤ i ∧ i < n := by
  unfold ixN at h
  by_cases h0 : 0 ≤ i
  · rw [if_pos h0] at h
    by_cases h1 : i < n
    · rw [if_pos h1] at h
      have e : i.toNat = j := Option.some.inj h
      exact ⟨by rw [seqIndex_of h0 h1, e], by (first | lia | omega), by (first | lia | omega), h1⟩
    · rw [if_neg h1] at h; cases h
  · rw [if_neg h0] at h
    by_cases h1 : -(n : Int) ≤ i
    · rw [if_pos h1] at h
      have e : (i + n).toNat = j := Option.some.inj h
      exact ⟨by rw [seqIndex_neg (by (first | lia | omega)) h1, e], by (first | lia | omega), h1, by (first | lia | omega)⟩
    · rw [if_neg h1] at h; cases h
theorem atI_get {α : Type} {xs : List α} {i : Int} {v : α} (h : atI xs i = some v) : ∃ j, seqIndex? i xs.length = some j ∧ xs[j]? = some v ∧ j < xs.length ∧ -(xs.length : Int) ≤ i ∧ i < xs.length := by
  unfold atI at h
  cases e : ixN xs.length i with
  | none => rw [e] at h; cases h
  | some j =>
    rw [e] at h
    obtain ⟨h1, h2, h3, h4⟩ := ixN_seq e
    exact ⟨j, h1, h, h2, h3, h4⟩
theorem atI_nat {α : Type} {xs : List α} {j : Nat} {v : α} (h : xs[j]? = some v) : atI xs (j : Int) = some v := by
  have hj : j < xs.length := (List.getElem?_eq_some_iff.mp h).1
  have e : ixN xs.length (j : Int) = some j := by
    unfold ixN
    rw [if_pos (by (first | lia | omega)), if_pos (by (first | lia | omega))]; simp
  unfold atI; rw [e]; exact h
theorem atI_last {α : Type} (xs : List α) (v : α) : atI (xs ++ [v]) (-1) = some v := by
  have hl : (xs ++ [v]).length = xs.length + 1 := by simp
  have e : ixN (xs ++ [v]).length (-1) = some xs.length := by
    unfold ixN
    rw [hl, if_neg (by decide), if_pos (by (first | lia | omega))]
    congr 1
    (first | lia | omega)
  unfold atI
  rw [e]
  show (xs ++ [v])[xs.length]? = some v
  simp

/-! ### what may be subscripted -/
/-- what stands as an index of a plain subscript -/
def PlainIx (b : Expr) : Prop := ∀ o i, subscripted b false o i = operate [o, i] (getItem o i)
/-- a subscript by values -/
def IxR (X : Cx) (r : R2) : Prop :=
  ∀ (value slice : Expr) (pins : List (Addr × Obj)) (s : Shared) (σ : St) (H : Hp) (x y : V) (v u : Value) (Q : VK), Inv X pins σ H s → RelV x v → RelV y u → r x y H Q →
    subscripted slice false v u = operate [v, u] (getItem v u) → wpAny (model X.prog X.w) X.A (subscriptTail value slice v u) (EP X pins σ Q) X.xe s
/-- a call of a builtin's method by values: the receiver, the arguments -/
def MtR (X : Cx) (id : String) (r : V → List V → Hp → VK → Prop) : Prop :=
  ∀ (pins : List (Addr × Obj)) (s : Shared) (σ : St) (H : Hp) (x : V) (xs : List V) (v : Value) (us : List Value) (Q : VK), Inv X pins σ H s → RelV x v → Vals xs us → r x xs H Q →
    wpAny (model X.prog X.w) X.A (call (.builtin id) (v :: us)) (EP X pins σ Q) X.xe s
section
variable {P : Program} {w : World} {H : Hp} {h : Heap} {a : Addr}
theorem rd_of {u : HO} (ok : HOk P w H h) (e : Rd H a u) : ObjOk P w H h a u := e.ok ok
theorem dk_rd {kvs : List (Key × V)} (ok : HOk P w H h) (e : Rd H a (.dK kvs)) : kvs.length ≤ sizeLine ∧ (a == sysModules) = false ∧ ∃ vs, KV kvs vs ∧ h.DictOf (mixKind P w) a vs :=
  show ObjOk P w H h a (.dK kvs) from rd_of ok e
theorem dk_of {kvs : List (Key × V)} (ok : HOk P w H h) (e : H a = some (.dK kvs)) : kvs.length ≤ sizeLine ∧ (a == sysModules) = false ∧ ∃ vs, KV kvs vs ∧ h.DictOf (mixKind P w) a vs := dk_rd ok (.inl e)
/-- a tracked tuple of ints and texts is a key -/
theorem key_of {ks : List Key} (ok : HOk P w H h) (e : H a = some (.tup (ks.map kV))) : (tupleKind (mixKind P w)).is h ks a := by
  obtain ⟨_, its, r, o, h1, h2, n, h3⟩ := (show ObjOk P w H h a (.tup (ks.map kV)) from ok a _ e)
  exact ⟨o, its.toArray, n, h1, h2, h3, by simpa using items_are r⟩
theorem dt_rd {kvs : List (List Key × V)} (ok : HOk P w H h) (e : Rd H a (.dT kvs)) : kvs.length ≤ sizeLine ∧ (a == sysModules) = false ∧
    ∃ xs, KT H kvs xs ∧ h.DictOfH (tupleKind (mixKind P w)) a xs := by
  obtain ⟨z, y, xs, r, o, es, ep, h1, h2, h3, h4, h5⟩ := (show ObjOk P w H h a (.dT kvs) from rd_of ok e)
  refine ⟨z, y, xs, r, o, es, ep, h1, h2, h3, h4, fun x hx => ?_, h5⟩
  have all : ∀ {l : List (List Key × V)} {m : List (List Key × Addr × Value)}, KT H l m → ∀ x ∈ m, (tupleKind (mixKind P w)).is h x.1 x.2.1 := by
    intro l m q
    induction q with
    | nil => intro x hx; exact nomatch hx
    | @cons p q ps qs hq t ih =>
      intro x hx
      rcases List.mem_cons.mp hx with e | hx
      · subst e
        exact key_of ok (by rw [← hq.1]; exact hq.2.1)
      · exact ih x hx
  exact all r x hx
theorem dt_of {kvs : List (List Key × V)} (ok : HOk P w H h) (e : H a = some (.dT kvs)) : kvs.length ≤ sizeLine ∧ (a == sysModules) = false ∧
    ∃ xs, KT H kvs xs ∧ h.DictOfH (tupleKind (mixKind P w)) a xs := dt_rd ok (.inl e)
variable {X : Cx} {a b : Expr} {ta tb : TE} {pos : Pos}
theorem IxR.or {r r' : R2} (h : IxR X r) (h' : IxR X r') : IxR X (fun x y H Q => r x y H Q ∨ r' x y H Q) := by
  intro value slice pins s σ H x y v u Q I rx ry q hs
  rcases q with q | q
  · exact h value slice pins s σ H x y v u Q I rx ry q hs
  · exact h' value slice pins s σ H x y v u Q I rx ry q hs
theorem MtR.or {id : String} {r r' : V → List V → Hp → VK → Prop} (h : MtR X id r) (h' : MtR X id r') : MtR X id (fun x xs H Q => r x xs H Q ∨ r' x xs H Q) := by
  intro pins s σ H x xs v us Q I rx rs q
  rcases q with q | q
  · exact h pins s σ H x xs v us Q I rx rs q
  · exact h' pins s σ H x xs v us Q I rx rs q
/-- a[b] -/
theorem pe_ix {r : R2} (hr : IxR X r) (ha : PE X a ta) (hb : PE X b tb) (hs : PlainIx b) : PE X (.Subscript a b pos) (tOp r ta tb) := by
  intro pins s σ H Q I h
  exact Subscript_ (binT ha hb I h fun v u s2 x y H2 I2 rx ry q => hr a b pins s2 σ H2 x y v u Q I2 rx ry q (hs _ _))

def rIxL (K : PySem.W.Frag) : R2 := fun x y H Q => ∃ p xs i v, x = .ref p ∧ y = .int i ∧ SqL K H p xs ∧ atI xs i = some v ∧ Q v H
def rIxT (K : PySem.W.Frag) : R2 := fun x y H Q => ∃ p xs i v, x = .ref p ∧ y = .int i ∧ SqT K H p xs ∧ atI xs i = some v ∧ Q v H
def rIxS : R2 := fun x y H Q => ∃ z i c, x = .str z ∧ y = .int i ∧ z.length ≤ sizeLine ∧ atI z.cps.toList i = some c ∧ Q (.str ⟨#[c]⟩) H
theorem ix_list : IxR X (rIxL X.K) := by
  intro value slice pins s σ H x y v u Q I rx ry h hs
  obtain ⟨p, xs, i, z, rfl, rfl, hq, he, q⟩ := h
  cases rx
  obtain ⟨t, rfl⟩ := ry
  obtain ⟨its, r, pl, hz⟩ := I.list hq
  obtain ⟨j, h1, h2, h3, h4, h5⟩ := atI_get he
  obtain ⟨w, ew, rw'⟩ := r.get h2
  have hl := r.length
  have hn := line63
  have fin : EP X pins σ Q w s := ⟨z, H, I, rw', q⟩
  by_cases h0 : 0 ≤ i
  · have hj : i.toNat = j := by
      rw [seqIndex_of h0 h5] at h1
      exact Option.some.inj h1
    exact item_listR pl.isList h0 (by (first | lia | omega)) (by rw [hj]; simpa using ew) fin hs
  · have hj : (i + (its.toArray.size : Int)).toNat = j := by
      rw [seqIndex_neg (by (first | lia | omega)) h4] at h1
      rw [List.size_toArray, ← hl]
      exact Option.some.inj h1
    exact subscriptTail_builtinR (x := w) pl.isList.typeIs slot_list_getitem.lookup
      (wpAny_getItem_list_neg (Q := fun r s' => r = w ∧ EP X pins σ Q r s') pl.isList (by (first | lia | omega)) (by rw [List.size_toArray] <;> (first | lia | omega)) (by (first | lia | omega)) (by rw [hj]; simpa using ew) ⟨rfl, fin⟩) hs
theorem ix_tup : IxR X (rIxT X.K) := by
  intro value slice pins s σ H x y v u Q I rx ry h hs
  obtain ⟨p, xs, i, z, rfl, rfl, hq, he, q⟩ := h
  cases rx
  obtain ⟨t, rfl⟩ := ry
  obtain ⟨its, r, pl, hz⟩ := I.tuple hq
  obtain ⟨j, h1, h2, h3, h4, h5⟩ := atI_get he
  obtain ⟨w, ew, rw'⟩ := r.get h2
  have hl := r.length
  have hn := line63
  have fin : EP X pins σ Q w s := ⟨z, H, I, rw', q⟩
  exact subscriptTail_builtinR (x := w) pl.typeIs slot_tuple_getitem.lookup
    (getItem_tuple (j := j) (Q := fun r s' => r = w ∧ EP X pins σ Q r s') pl (by (first | lia | omega)) (by (first | lia | omega)) (by rw [List.size_toArray, ← hl]; exact h1) (by simpa using ew) ⟨rfl, fin⟩) hs
theorem ix_str : IxR X rIxS := by
  intro value slice pins s σ H x y v u Q I rx ry h hs
  obtain ⟨z, i, c, rfl, rfl, hz, he, q⟩ := h
  obtain ⟨t, rfl⟩ := rx
  obtain ⟨t', rfl⟩ := ry
  obtain ⟨j, h1, h2, h3, h4, h5⟩ := atI_get he
  have hl : z.cps.toList.length = z.length := by simp [Str.length]
  rw [hl] at h1 h4 h5
  have hn := line63
  exact tail_any (typeIs_str s z t) slot_str_getitem.lookup (getItem_str (c := c) (by
    have e1 : decide (i < -(2 ^ 63 : Int)) = false := decide_eq_false (by (first | lia | omega))
    have e2 : decide (i ≥ 2 ^ 63) = false := decide_eq_false (by (first | lia | omega))
    rw [e1, e2, Bool.or_false]) (by rw [h1]; simpa using h2) ⟨.str ⟨#[c]⟩, H, I.tok _, ⟨_, rfl⟩, q⟩) hs

/-! ### xs[i] = v, any sign -/
/-- the list's object behind a store -/
theorem mapSeq_set (its : List Value) (n j : Nat) (u : Value) : Obj.mapSeq (·.setIfInBounds j u) { cls := .type "list", data := .seq its.toArray n } = { cls := .type "list", data := .seq (its.set j u).toArray n } := by
  simp [Obj.mapSeq]
theorem Inv.lst {pins : List (Addr × Obj)} {σ : St} {H : Hp} {s : Shared} {p : Addr} {xs : List V} (I : Inv X pins σ H s) (h : H p = some (.lst xs)) :
    ∃ (its : List Value) (n : Nat), Vals xs its ∧ s.heap.get? p = some { cls := .type "list", data := .seq its.toArray n } ∧ xs.length ≤ sizeLine := by
  obtain ⟨z, its, n, r, e⟩ := I.hok p _ h
  exact ⟨its, n, r, e, z⟩
/-- the list at p is written by an update of its object -/
theorem Inv.lstUpd {pins : List (Addr × Obj)} {σ : St} {H : Hp} {s : Shared} {p : Addr} {xs ys : List V} {its its' : List Value} {n n' : Nat} {f : Obj → Obj} (I : Inv X pins σ H s) (h : H p = some (.lst xs))
    (ho : s.heap.get? p = some { cls := .type "list", data := .seq its.toArray n }) (hf : f { cls := .type "list", data := .seq its.toArray n } = { cls := .type "list", data := .seq its'.toArray n' }) (r : Vals ys its') (hz : ys.length ≤ sizeLine) (t : Nat) :
    Inv X pins σ (upd H p (.lst ys)) { s with heap := s.heap.update p f, toks := t } := by
  have e : (s.heap.update p f).get? p = some { cls := .type "list", data := .seq its'.toArray n' } := by
    rw [Heap.get?_update_self f ho (by rw [hf] <;> rfl), hf]
  refine I.write (x := p) (e := p) (by rw [h]; trivial) (.inl rfl) (fun b u hb q => (Heap.get?_update_other _ _ (Ne.symm hb)).trans q) ⟨_, e⟩ ?_
  exact ⟨hz, its', n', r, e⟩
def rSetL : V → V → V → Hp → (Hp → Prop) → Prop := fun o i v H Q => ∃ p xs k j, o = .ref p ∧ i = .int k ∧ H p = some (.lst xs) ∧ ixN xs.length k = some j ∧ Q (upd H p (.lst (xs.set j v)))
theorem set_list : PSet X rSetL := by
  intro pins s σ H o i v ov iv u Q I ro ri rv h
  obtain ⟨p, xs, k, j, rfl, rfl, hp, hj, q⟩ := h
  cases ro
  obtain ⟨t, rfl⟩ := ri
  obtain ⟨its, n, r, ho, hz⟩ := I.lst hp
  obtain ⟨h1, h2, h3, h4⟩ := ixN_seq hj
  have hl := r.length
  have hn := line63
  have I' : Inv X pins σ (upd H p (.lst (xs.set j v))) { s with heap := s.heap.update p (Obj.mapSeq (·.setIfInBounds j u)) } :=
    I.lstUpd hp ho (mapSeq_set its n j u) (r.set rv j) (by rw [List.length_set]; exact hz) s.toks
  by_cases h0 : 0 ≤ k
  · have hk : k.toNat = j := by
      rw [seqIndex_of h0 h4] at h1
      exact Option.some.inj h1
    exact PySem.W.ki_setAt ho h0 (by (first | lia | omega)) (by rw [List.size_toArray, ← hl]; exact h4) (by rw [hk]; exact ⟨_, I', q⟩)
  · have hk : (k + (its.toArray.size : Int)).toNat = j := by
      rw [seqIndex_neg (by (first | lia | omega)) h3] at h1
      rw [List.size_toArray, ← hl]
      exact Option.some.inj h1
    exact PySem.W.ki_setBack ho (by (first | lia | omega)) (by rw [List.size_toArray, ← hl]; exact h3) (by (first | lia | omega)) (by rw [hk]; exact ⟨_, I', q⟩)

/-! ### slices -/
theorem slice_bounds (lo hi : Option Int) (n : Nat) : (sliceBounds lo hi none n).1 = ((HT.sIx n 0 lo : Nat) : Int) ∧ (sliceBounds lo hi none n).2.1 = ((HT.sIx n n hi : Nat) : Int) ∧ (sliceBounds lo hi none n).2.2 = 1 := by
  refine ⟨?_, ?_, rfl⟩
  · cases lo with
    | none => simp [sliceBounds, HT.sIx]
    | some i =>
      simp only [sliceBounds, HT.sIx, Option.getD_none, show (1 : Int) > 0 by decide, if_true]
      by_cases h : i < 0
      · simp only [h, if_true] <;> (first | lia | omega)
      · simp only [h, if_false] <;> (first | lia | omega)
  · cases hi with
    | none => simp [sliceBounds, HT.sIx]
    | some i =>
      simp only [sliceBounds, HT.sIx, Option.getD_none, show (1 : Int) > 0 by decide, if_true]
      by_cases h : i < 0
      · simp only [h, if_true] <;> (first | lia | omega)
      · simp only [h, if_false] <;> (first | lia | omega)
theorem slicePick_cut (its : List Value) (lo hi : Option Int) : slicePick its.toArray lo hi none = ((its.drop (HT.sIx its.length 0 lo)).take (HT.sIx its.length its.length hi - HT.sIx its.length 0 lo)).toArray := by
  obtain ⟨h1, h2, h3⟩ := slice_bounds lo hi its.toArray.size
  unfold slicePick
  rw [h1, h2, h3]
  simp only [sliceRange_one, pick_run, List.size_toArray] <;> rfl
/-- xs[lo:hi] of a list: a new list -/
def rSlL (K : PySem.W.Frag) : V → Option Int → Option Int → Hp → VK → Prop := fun x lo hi H Q => ∃ a xs, x = .ref a ∧ SqL K H a xs ∧ ∀ p, H p = none → Q (.ref p) (upd H p (.lst (cutV xs lo hi)))
theorem sl_list : SlR X (rSlL X.K) := by
  intro pins s σ H x v vl vu lo hi sl Q I rx hs pl pu h
  obtain ⟨a, xs, rfl, hx, q⟩ := h
  cases rx
  obtain ⟨its, r, ht, hz⟩ := I.list hx
  have hlen := r.length
  refine ⟨"list", _, slot_list_getitem.lookup, ht.isList.typeIs, ?_⟩
  refine wpAny_getItem_list_slice ht.isList hs pl pu .none (by simp) ?_ (by rw [List.size_toArray] <;> (first | lia | omega))
  rw [slicePick_cut, ← hlen]
  refine ⟨.ref s.heap.objs.size, _, I.laid (t' := s.toks) (o := .lst (cutV xs lo hi)) (fun b ob q => Heap.get?_push_of_some _ q) (Nat.le_refl _) ?_, rfl, q _ (I.hok.fresh (Nat.le_refl _))⟩
  exact ⟨Nat.le_trans (cutV_length xs lo hi) hz, _, 0, (r.drop (HT.sIx xs.length 0 lo)).take (HT.sIx xs.length xs.length hi - HT.sIx xs.length 0 lo), Heap.get?_push_size _ rfl⟩

/-! ### in, not in: flat items -/
def flatV : V → Bool
  | .non => true
  | .bl _ => true
  | .int _ => true
  | .str _ => true
  | _ => false
/-- == of flat values -/
def eqV : V → V → Bool
  | .non, .non => true
  | .bl a, .bl b => a == b
  | .bl a, .int b => (if a then 1 else 0) == b
  | .int a, .bl b => a == (if b then 1 else 0)
  | .int a, .int b => a == b
  | .str a, .str b => a == b
  | _, _ => false
theorem eqAt_V {A : Around} {s : Shared} {y x : V} {u v : Value} (ry : RelV y u) (rx : RelV x v) (fy : flatV y = true) (fx : flatV x = true) : SeqAt.EqAt A s u v (eqV y x) := by
  cases y with
  | non =>
    cases ry
    cases x with
    | non => cases rx; exact SeqAt.EqAt.same _
    | bl b => cases rx; exact SeqAt.EqAt.none_bool b
    | int b => obtain ⟨t, rfl⟩ := rx; exact SeqAt.EqAt.none_int b t
    | str b => obtain ⟨t, rfl⟩ := rx; exact SeqAt.EqAt.none_str b t
    | _ => exact absurd (show false = true from fx) Bool.false_ne_true
  | bl a =>
    cases ry
    cases x with
    | non => cases rx; exact SeqAt.EqAt.bool_none a
    | bl b => cases rx; exact SeqAt.EqAt.bool_bool a b
    | int b => obtain ⟨t, rfl⟩ := rx; exact SeqAt.EqAt.bool_int a b t
    | str b => obtain ⟨t, rfl⟩ := rx; exact SeqAt.EqAt.bool_str a b t
    | _ => exact absurd (show false = true from fx) Bool.false_ne_true
  | int a =>
    obtain ⟨t', rfl⟩ := ry
    cases x with
    | non => cases rx; exact SeqAt.EqAt.int_none a t'
    | bl b => cases rx; exact SeqAt.EqAt.int_bool a t' b
    | int b => obtain ⟨t, rfl⟩ := rx; exact SeqAt.EqAt.int_int a t' b t
    | str b => obtain ⟨t, rfl⟩ := rx; exact SeqAt.EqAt.int_str a t' b t
    | _ => exact absurd (show false = true from fx) Bool.false_ne_true
  | str a =>
    obtain ⟨t', rfl⟩ := ry
    cases x with
    | non => cases rx; exact SeqAt.EqAt.str_none a t'
    | bl b => cases rx; exact SeqAt.EqAt.str_bool a t' b
    | int b => obtain ⟨t, rfl⟩ := rx; exact SeqAt.EqAt.str_int a t' b t
    | str b => obtain ⟨t, rfl⟩ := rx; exact SeqAt.EqAt.str_str a t' b t
    | _ => exact absurd (show false = true from fx) Bool.false_ne_true
  | _ => exact absurd (show false = true from fy) Bool.false_ne_true
/-- the items' answers, read off the values (a value's own answer does not lean on its token) -/
def eqU (x : V) (u : Value) : Bool := match u with
  | .none => eqV .non x
  | .bool b => eqV (.bl b) x
  | .int i _ => eqV (.int i) x
  | .str z _ => eqV (.str z) x
  | _ => false
theorem eqU_of {x y : V} {u : Value} (r : RelV y u) (f : flatV y = true) : eqU x u = eqV y x := by
  cases y with
  | non => cases r; rfl
  | bl b => cases r; rfl
  | int i => obtain ⟨t, rfl⟩ := r; rfl
  | str z => obtain ⟨t, rfl⟩ := r; rfl
  | _ => exact absurd (show false = true from f) Bool.false_ne_true
theorem any_eqU {x : V} : ∀ {xs : List V} {us : List Value}, Vals xs us → xs.all flatV = true → us.any (eqU x) = xs.any fun y => eqV y x
  | _, _, .nil, _ => rfl
  | y :: xs, u :: us, .cons r t, f => by
    rw [List.all_cons, Bool.and_eq_true] at f
    rw [List.any_cons, List.any_cons, eqU_of r f.1, any_eqU t f.2]
theorem mem_eqAt {A : Around} {s : Shared} {x : V} {v : Value} (rx : RelV x v) (fx : flatV x = true) : ∀ {xs : List V} {us : List Value}, Vals xs us → xs.all flatV = true → ∀ u ∈ us, SeqAt.EqAt A s u v (eqU x u)
  | _, _, .nil, _ => fun u hu => by cases hu
  | y :: xs, u :: us, .cons r t, f => fun u' hu => by
    rw [List.all_cons, Bool.and_eq_true] at f
    rcases List.mem_cons.mp hu with rfl | hu
    · rw [eqU_of r f.1]; exact eqAt_V r rx f.1 fx
    · exact mem_eqAt rx fx t f.2 u' hu
def inV (x : V) (xs : List V) : Bool := xs.any fun y => eqV y x
/-- x in a list or tuple of flat items -/
def rIn (K : PySem.W.Frag) (neg : Bool) : R2 := fun x y H Q => ∃ p xs, y = .ref p ∧ (SqL K H p xs ∨ SqT K H p xs) ∧ flatV x = true ∧ xs.all flatV = true ∧ Q (.bl (if neg then !inV x xs else inV x xs)) H
theorem op_notIn_seq : OpR X (compareOp .NotIn) (rIn X.K true) := by
  intro pins s σ H x y v u Q I rx ry h
  obtain ⟨p, xs, rfl, hq, fx, fs, q⟩ := h
  cases ry
  rcases hq with hq | hq
  · obtain ⟨its, r, pl, hz⟩ := I.list hq
    refine SeqAt.notIn_listAt (eqU x) pl.isList (fun w hw => mem_eqAt rx fx r fs w (by simpa using hw)) ⟨.bl _, H, I, rfl, ?_⟩
    rw [show its.toArray.any (eqU x) = its.any (eqU x) by simp, any_eqU r fs]
    exact q
  · obtain ⟨its, r, pl, hz⟩ := I.tuple hq
    refine SeqAt.notIn_tupleAt (eqU x) pl (fun w hw => mem_eqAt rx fx r fs w (by simpa using hw)) ⟨.bl _, H, I, rfl, ?_⟩
    rw [show its.toArray.any (eqU x) = its.any (eqU x) by simp, any_eqU r fs]
    exact q
theorem op_notIn_str : OpR X (compareOp .NotIn) (fun x y H Q => ∃ i j, x = .str i ∧ y = .str j ∧ Q (.bl (!(!(Builtin.Str.occurrences j i 0 j.length 1).isEmpty))) H) := by
  intro pins s σ H x y v u Q I rx ry h
  obtain ⟨i, j, rfl, rfl, q⟩ := h
  obtain ⟨t, rfl⟩ := rx
  obtain ⟨t', rfl⟩ := ry
  exact notIn_str ⟨.bl _, H, I, rfl, q⟩

/-! ### len, list(x), tuple(x) of any list or tuple that is read -/
theorem call_len_seq : CallR X (.builtin "len") (fun xs H Q => ∃ p ys, xs = [.ref p] ∧ (SqL X.K H p ys ∨ SqT X.K H p ys) ∧ Q (.int ys.length) H) := by
  intro pins s σ H xs us Q I r h
  obtain ⟨p, ys, rfl, hq, q⟩ := h
  obtain ⟨u, rfl, rx⟩ := vals1 r
  cases rx
  have hn := line63
  rcases hq with hq | hq
  · obtain ⟨its, r', pl, hz⟩ := I.list hq
    have hlen := r'.length
    exact Calls.call_len_list pl.isList (by simp only [List.size_toArray] <;> (first | lia | omega)) ⟨.int ys.length, H, I.tok _, ⟨s.toks + 1, by rw [List.size_toArray, hlen]⟩, q⟩
  · obtain ⟨its, r', pl, hz⟩ := I.tuple hq
    have hlen := r'.length
    exact len_tuple pl (by simp only [List.size_toArray] <;> (first | lia | omega)) ⟨.int ys.length, H, I.tok _, ⟨s.toks + 1, by rw [List.size_toArray, hlen]⟩, q⟩
theorem call_len_str : CallR X (.builtin "len") (fun xs H Q => ∃ z, xs = [.str z] ∧ z.length ≤ sizeLine ∧ Q (.int z.length) H) := by
  intro pins s σ H xs us Q I r h
  obtain ⟨z, rfl, hz, q⟩ := h
  obtain ⟨u, rfl, t, rfl⟩ := vals1 r
  have hn := line63
  exact len_str (by (first | lia | omega)) ⟨.int z.length, H, I.tok _, ⟨_, rfl⟩, q⟩
theorem CallR.or {f : Value} {r r' : List V → Hp → VK → Prop} (h : CallR X f r) (h' : CallR X f r') : CallR X f (fun xs H Q => r xs H Q ∨ r' xs H Q) := by
  intro pins s σ H xs us Q I rs q
  rcases q with q | q
  · exact h pins s σ H xs us Q I rs q
  · exact h' pins s σ H xs us Q I rs q

/-! ### the call of a builtin's method: o.m(..) -/
/-- the value is of that builtin type -/
def tyV (K : PySem.W.Frag) (T : String) (x : V) (H : Hp) : Prop := match x with
  | .str _ => T = "str"
  | .int _ => T = "int"
  | .ref p => (T = "list" ∧ ∃ xs, SqL K H p xs) ∨ (T = "tuple" ∧ ∃ o, K.lookup p = some o ∧ o.cls = .type "tuple" ∧ o.dict = none) ∨
      (T = "dict" ∧ ((∃ kvs, H p = some (.dK kvs)) ∨ ∃ kvs, H p = some (.dT kvs))) ∨ (T = "set" ∧ ∃ S n, H p = some (.set S n))
  | _ => False
theorem tyV_is {pins : List (Addr × Obj)} {σ : St} {H : Hp} {s : Shared} {T : String} {x : V} {v : Value} (I : Inv X pins σ H s) (r : RelV x v) (ty : tyV X.K T x H) :
    s.TypeIs v T ∧ ∀ a, v = .ref a → ∃ ob, s.heap.get? a = some ob ∧ ob.dict = none := by
  cases x with
  | str z =>
    obtain ⟨t, rfl⟩ := r
    cases (show T = "str" from ty)
    exact ⟨typeIs_str s z t, fun _ e => nomatch e⟩
  | int i =>
    obtain ⟨t, rfl⟩ := r
    cases (show T = "int" from ty)
    exact ⟨typeIs_int s i t, fun _ e => nomatch e⟩
  | ref p =>
    cases r
    rcases ty with ⟨rfl, xs, hq⟩ | ⟨rfl, o, hk, hc, hd⟩ | ⟨rfl, hk⟩ | ⟨rfl, S, n, hk⟩
    · obtain ⟨its, _, pl, _⟩ := I.list hq
      refine ⟨pl.isList.typeIs, fun a e => ?_⟩
      cases e
      obtain ⟨o, n, e, c, hd, _⟩ := pl
      exact ⟨o, e, hd⟩
    · refine ⟨⟨o, I.kIn p o hk, hc⟩, fun a e => ?_⟩
      cases e
      exact ⟨o, I.kIn _ o hk, hd⟩
    · have z : ∃ o, s.heap.get? p = some o ∧ o.ExactDict := by
        rcases hk with ⟨kvs, hk⟩ | ⟨kvs, hk⟩
        · obtain ⟨_, _, _, _, o, _, _, e, ex, _⟩ := I.hok p _ hk
          exact ⟨o, e, ex⟩
        · obtain ⟨_, _, _, _, o, _, _, e, ex, _⟩ := I.hok p _ hk
          exact ⟨o, e, ex⟩
      obtain ⟨o, e, ex⟩ := z
      refine ⟨⟨o, e, ex.1⟩, fun a e2 => ?_⟩
      cases e2
      exact ⟨o, e, ex.2.1⟩
    · obtain ⟨o, _, _, _, e, ex, _⟩ := I.hok p _ hk
      refine ⟨⟨o, e, ex.1⟩, fun a e2 => ?_⟩
      cases e2
      exact ⟨o, e, ex.2.1⟩
  | _ => exact False.elim ty
def tBM (K : PySem.W.Frag) (T : String) (r : V → List V → Hp → VK → Prop) (to : TE) (t : TA) : TE := fun σ H Q => to σ H fun x H1 => tyV K T x H1 ∧ t σ H1 fun xs H2 => r x xs H2 Q
variable {o e : Expr} {es : List Expr} {to : TE} {t : TA} {name : Str} {apos cpos : Pos} {T id : String} {r : V → List V → Hp → VK → Prop}
theorem pe_bm (pa : PlainAttrs T) (slot : Slot T name id) (hty : typeOf (.builtin id) = pure (.type "method_descriptor")) (hm : MtR X id r) (ho : PE X o to) (ha : PA X (e :: es) t)
    (hbase : attributeBase o name X.env (eval o X.env) = eval o X.env := by rfl)
    (hfew : ((backTo cpos (starEach (e :: es) X.env)).all (fun x => !x.1) && (backToKw cpos (keywordEach [] X.env)).all (fun x => x.1.isSome)
      && decide ((e :: es).length + ([] : List Keyword).length + (if ([] : List Keyword).isEmpty then 0 else 1) < 30)) = true := by rfl)
    (hline : (apos.endLine == cpos.line) = true := by rfl) (hs : starEach (e :: es) X.env = (false, eval e X.env) :: starEach es X.env := by rfl) (hplain : (backTo cpos (starEach es X.env)).any (·.1) = false := by rfl) :
    PE X (.Call (.Attribute o name apos) (e :: es) [] cpos) (tBM X.K T r to t) := by
  intro pins s σ H Q I h
  refine wpAny_Call_method_late hbase hfew hline rfl (thn (ho pins s σ H _ I h) fun v s1 hpt => ?_)
  obtain ⟨x, H1, I1, r1, ty, q1⟩ := hpt
  obtain ⟨h1, h2⟩ := tyV_is I1 r1 ty
  refine ⟨T, id, pa, slot, hty, h1, h2, ?_⟩
  have hA := ha cpos pins s1 σ H1 _ I1 q1
  rw [hs] at hA ⊢
  refine Calls.callWith_builtin (by show (false || (backTo cpos (starEach es X.env)).any (·.1)) = false; rw [hplain] <;> rfl) (Calls.evalArgs_plain ?_)
  exact thn hA fun us s2 ⟨vs, H2, I2, r2, q2⟩ => hm pins s2 σ H2 x vs v us Q I2 r1 r2 q2
/- xs.append(e), list.index on a module's tuple .. are MtR facts of 06m -/
end

/-- what the dict at a holds at the key y -/
def DGet (H : Hp) (a : Addr) (y : V) (r : Option V) : Prop :=
  (∃ kvs k, Rd H a (.dK kvs) ∧ y = kV k ∧ r = valV kvs k) ∨ ∃ kvs k b, Rd H a (.dT kvs) ∧ y = .ref b ∧ H b = some (.tup (k.map kV)) ∧ r = valV kvs k
/-- the heap behind a[y] = v -/
def DPut (H : Hp) (a : Addr) (y v : V) (H' : Hp) : Prop :=
  (∃ kvs k, H a = some (.dK kvs) ∧ y = kV k ∧ kvs.length < sizeLine ∧ H' = upd H a (.dK (putK kvs k v))) ∨
  ∃ kvs k b, H a = some (.dT kvs) ∧ y = .ref b ∧ H b = some (.tup (k.map kV)) ∧ kvs.length < sizeLine ∧ H' = upd H a (.dT (putK kvs k v))
theorem DGet.k {H : Hp} {a : Addr} {kvs : List (Key × V)} {k : Key} (e : H a = some (.dK kvs)) : DGet H a (kV k) (valV kvs k) := .inl ⟨kvs, k, .inl e, rfl, rfl⟩
theorem DGet.t {H : Hp} {a b : Addr} {kvs : List (List Key × V)} {k : List Key} (e : H a = some (.dT kvs)) (eb : H b = some (.tup (k.map kV))) : DGet H a (.ref b) (valV kvs k) := .inr ⟨kvs, k, b, .inl e, rfl, eb, rfl⟩
theorem DPut.k {H : Hp} {a : Addr} {kvs : List (Key × V)} {k : Key} {v : V} (e : H a = some (.dK kvs)) (hl : kvs.length < sizeLine) : DPut H a (kV k) v (upd H a (.dK (putK kvs k v))) := .inl ⟨kvs, k, e, rfl, hl, rfl⟩
theorem DPut.t {H : Hp} {a b : Addr} {kvs : List (List Key × V)} {k : List Key} {v : V} (e : H a = some (.dT kvs)) (eb : H b = some (.tup (k.map kV))) (hl : kvs.length < sizeLine) :
    DPut H a (.ref b) v (upd H a (.dT (putK kvs k v))) := .inr ⟨kvs, k, b, e, rfl, eb, hl, rfl⟩


end L2

namespace L2
open PySem PySem.Spec PyProof.Rows

def MtM (X : Cx) (id : String) (r : V → List V → Hp → VK → Prop) : Prop :=
  ∀ (pins : List (Addr × Obj)) (s : Shared) (σ : St) (H : Hp) (x : V) (xs : List V) (v : Value) (us : List Value) (Q : VK), Inv X pins σ H s → RelV x v → Vals xs us → r x xs H Q →
    wpAny (model X.prog X.w) X.A (call (.builtin id) (v :: us)) (EP X pins σ Q) X.xe s

/-! ### lists of values -/
theorem Vals.one : ∀ {x : V} {us : List Value}, Vals [x] us → ∃ u, us = [u] ∧ RelV x u
  | _, _, h => by
    cases h with
    | cons r t =>
      cases t
      exact ⟨_, rfl, r⟩
theorem Vals.two : ∀ {x y : V} {us : List Value}, Vals [x, y] us → ∃ u v, us = [u, v] ∧ RelV x u ∧ RelV y v
  | _, _, _, h => by
    cases h with
    | cons r t =>
      cases t with
      | cons q t =>
        cases t
        exact ⟨_, _, rfl, r, q⟩
theorem Vals.zero : ∀ {us : List Value}, Vals [] us → us = []
  | _, .nil => rfl
theorem Vals.dropLast {xs : List V} {us : List Value} (h : Vals xs us) : Vals xs.dropLast us.dropLast := by
  induction h with
  | nil => exact .nil
  | cons r t ih =>
    cases t with
    | nil => exact .nil
    | cons q t' => exact .cons r ih
theorem Vals.eraseIdx : ∀ {xs : List V} {us : List Value} (i : Nat), Vals xs us → Vals (xs.eraseIdx i) (us.eraseIdx i)
  | _, _, _, .nil => .nil
  | _, _, 0, .cons _ t => t
  | _, _, i + 1, .cons r t => .cons r (Vals.eraseIdx i t)
theorem Vals.reverse {xs : List V} {us : List Value} (h : Vals xs us) : Vals xs.reverse us.reverse := by
  induction h with
  | nil => exact .nil
  | cons r t ih => rw [List.reverse_cons, List.reverse_cons]; exact Vals.append ih (.cons r .nil)
theorem Vals.rep {xs : List V} {us : List Value} (h : Vals xs us) : ∀ k : Nat, Vals (List.replicate k xs).flatten (List.replicate k us).flatten
  | 0 => .nil
  | k + 1 => by
    rw [List.replicate_succ, List.replicate_succ, List.flatten_cons, List.flatten_cons]
    exact Vals.append h (Vals.rep h k)
theorem foldl_rep (its : List Value) : ∀ (k : Nat) (acc : List Value),
    List.foldl (fun x1 x2 => x1 ++ x2) acc.toArray (List.replicate k its.toArray) = (acc ++ (List.replicate k its).flatten).toArray
  | 0, acc => by simp
  | k + 1, acc => by
    have e : acc.toArray ++ its.toArray = (acc ++ its).toArray := by simp
    have e2 : (acc ++ its) ++ (List.replicate k its).flatten = acc ++ (List.replicate (k + 1) its).flatten := by
      rw [List.replicate_succ, List.flatten_cons, List.append_assoc]
    rw [← e2, ← foldl_rep its k (acc ++ its), ← e, List.replicate_succ, List.foldl_cons]

section
variable {X : Cx} {pins : List (Addr × Obj)} {σ : St} {H : Hp} {s : Shared} {a : Addr} {y v : V} {u r : Value} {o : Option V} {A : Around} {E : Value → Shared → Prop}

theorem Inv.big (I : Inv X pins σ H s) : sysModules < s.heap.objs.size := by
  have h : mainGlobals < s.heap.objs.size := (I.mod.glob.keeps I.bk).lt
  exact Nat.lt_trans (by decide) h

/-- y in d -/
theorem d_in {Q : Value → Shared → Prop} (hu : A.units + 1 < cLine) (I : Inv X pins σ H s) (g : DGet H a y o) (ry : RelV y u) (h : ∀ s', Inv X pins σ H s' → Q (.bool o.isSome) s') :
    wpAny (model X.prog X.w) A (compareOp .In u (.ref a)) Q E s := by
  rcases g with ⟨kvs, k, e, ey, l⟩ | ⟨kvs, k, b, e, ey, eb, l⟩
  · subst ey
    obtain ⟨z, hd, vs, rel, dd⟩ := dk_rd I.hok e
    refine wpAny_in_of (kV_is ry) hd dd.mapOf ?_
    rw [← (rel.val k).isSome_eq, ← l]
    exact h _ (I.tok _)
  · subst ey
    cases (show u = Value.ref b from ry)
    obtain ⟨z, hd, xs, rel, dd⟩ := dt_rd I.hok e
    refine wpAny_in_heap (tupleKind_room_in1 hu) (key_of I.hok eb) hd dd ?_
    have q := (rel.val k).isSome_eq
    rw [Option.isSome_map] at q
    rw [← q, ← l]
    exact h _ (I.tok _)
/-- a dict's object is replaced -/
theorem d_write {h' : Heap} {t' : Nat} {ob : HO} (I : Inv X pins σ H s) (mu : Mut (H a)) (hs : Heap.SameBut a s.heap h') (he : ∃ q, h'.get? a = some q) (new : ObjOk X.prog X.w (upd H a ob) h' a ob) :
    Inv X pins σ (upd H a ob) { s with heap := h', toks := t' } :=
  I.write (x := a) (e := a) mu (.inl rfl) (fun b q hb z => (hs.2 b hb).trans z) he new
theorem dk_new {P : Program} {w : World} {H' : Hp} {h' : Heap} {kvs : List (Key × V)} {vs : List (Key × Value)} (z : kvs.length ≤ sizeLine) (hd : (a == sysModules) = false) (rel : KV kvs vs) (dd : h'.DictOf (mixKind P w) a vs) :
    ObjOk P w H' h' a (.dK kvs) := ⟨z, hd, vs, rel, dd⟩
/-- d[y] = v -/
theorem d_setItem {H' : Hp} {Q : Unit → Shared → Prop} (hu : A.units + 1 < cLine) (I : Inv X pins σ H s) (g : DPut H a y v H') (ry : RelV y u) (rv : RelV v r) (h : ∀ s', Inv X pins σ H' s' → Q () s') :
    wpAny (model X.prog X.w) A (setItem (.ref a) u r) Q E s := by
  rcases g with ⟨kvs, k, e, ey, l, eH⟩ | ⟨kvs, k, b, e, ey, eb, l, eH⟩
  · subst ey eH
    obtain ⟨z, hd, vs, rel, dd⟩ := dk_of I.hok e
    have hz : vs.length ≤ sizeLine := by rw [← rel.length]; exact z
    have hl : (putK kvs k v).length ≤ sizeLine := by have := length_putK kvs k v; (first | lia | omega)
    refine wpAny_setItem_pairs (hsz := hz) (kV_is ry) dd fun h' dd' hs => h _ ?_
    have he : ∃ q, h'.get? a = some q := let ⟨q, _, _, hq, _⟩ := dd'; ⟨q, hq⟩
    exact d_write I (by rw [e]; exact True.intro) hs he (dk_new hl hd (rel.put k rv) dd')
  · subst ey eH
    cases (show u = Value.ref b from ry)
    obtain ⟨z, hd, xs, rel, dd⟩ := dt_of I.hok e
    have hz : xs.length ≤ sizeLine := by rw [← Paired.length rel]; exact z
    have hl : (putK kvs k v).length ≤ sizeLine := by have := length_putK kvs k v; (first | lia | omega)
    refine wpAny_setItem_heap (hsz := hz) (tupleKind_room_in1 hu) (key_of I.hok eb) dd fun h' dd' hs => h _ ?_
    obtain ⟨q, es, ep, hq, h2, h3, h4, _, h5⟩ := dd'
    refine d_write I (by rw [e]; exact True.intro) hs ⟨q, hq⟩ ⟨hl, hd, _, (rel.put k eb rv).keeps fun c ys ec => ?_, q, es, ep, hq, h2, h3, h4, h5⟩
    rw [upd_ne (ne_of ec e (fun z => nomatch z))]
    exact ec
variable {X : Cx} {pins : List (Addr × Obj)} {σ : St} {H : Hp} {s : Shared} {l b : Addr} {xs ys zs : List V}

/-! ### the two steps: a tracked list is rewritten, a new list is laid -/
theorem Inv.lset {its its' : List Value} {n : Nat} {f : Array Value → Array Value} {t' : Nat} (I : Inv X pins σ H s) (hH : H l = some (.lst xs))
    (e : s.heap.get? l = some { cls := .type "list", data := .seq its.toArray n }) (hf : f its.toArray = its'.toArray) (hv : Vals ys its') (hz : ys.length ≤ sizeLine) :
    Inv X pins σ (upd H l (.lst ys)) { s with heap := s.heap.update l (Obj.mapSeq f), toks := t' } := by
  have q := PySem.IsL.update e f
  rw [hf] at q
  refine I.write (x := l) (e := l) (by rw [hH]; exact trivial) (.inl rfl) (fun b' u hb hu => (Heap.get?_update_other s.heap (Obj.mapSeq f) (Ne.symm hb)).trans hu) ⟨_, q⟩ ?_
  exact ⟨hz, its', _, hv, q⟩
theorem Inv.lnew {its : List Value} {t' : Nat} (I : Inv X pins σ H s) (hv : Vals ys its) (hz : ys.length ≤ sizeLine) :
    Inv X pins σ (upd H s.heap.objs.size (.lst ys)) { s with heap := s.heap.push { cls := .type "list", data := .seq its.toArray }, toks := t' } :=
  I.laid (fun _ _ q => Heap.get?_push_of_some _ q) (Nat.le_refl _) ⟨hz, its, 0, hv, Heap.get?_push_size _ rfl⟩
theorem Inv.fresh (I : Inv X pins σ H s) : H s.heap.objs.size = none := I.hok.fresh (Nat.le_refl _)
theorem Inv.lstM (I : Inv X pins σ H s) (hH : H l = some (.lst xs)) : xs.length ≤ sizeLine ∧ ∃ (its : List Value) (n : Nat), Vals xs its ∧ xs.length = its.length ∧ s.heap.get? l = some { cls := .type "list", data := .seq its.toArray n } := by
  obtain ⟨z, its, n, r, e⟩ := I.hok l _ hH
  exact ⟨z, its, n, r, r.length, e⟩

theorem notLongL {n : Nat} (h : n ≤ sizeLine) : Builtin.List.listTooLong n = false := by
  unfold Builtin.List.listTooLong
  exact decide_eq_false (by (first | lia | omega))
end

section
variable {X : Cx} {pins : List (Addr × Obj)} {σ : St} {H : Hp} {s : Shared} {a : Addr} {kvs : List (Key × V)} {k : Key} {u : Value} {A : Around} {E : Value → Shared → Prop}
variable {X : Cx}

/-! ### methods -/
def rAppend : V → List V → Hp → VK → Prop := fun x vs H Q => ∃ l xs y, x = .ref l ∧ vs = [y] ∧ H l = some (.lst xs) ∧ xs.length < sizeLine ∧ Q .non (upd H l (.lst (xs ++ [y])))
theorem mt_append : MtM X "list.append" rAppend := by
  intro pins s σ H x vs v us Q I rx rv h
  obtain ⟨l, xs, y, rfl, rfl, hH, hz, q⟩ := h
  cases rx
  obtain ⟨u, rfl, ru⟩ := rv.one
  obtain ⟨z, its, n, r, hl, e⟩ := I.lstM hH
  refine call_meets F.slot_list_append ⟨_, e, rfl⟩ F.entry_list_append (F.args_list_append_2 _ _) (PySem.list_append l its.toArray n u (by rw [List.size_toArray]; (first | lia | omega))) ⟨e, ?_⟩
  refine ⟨.non, _, I.lset (its' := its ++ [u]) hH e (by simp) (r.append (.cons ru .nil)) ?_, rfl, q⟩
  rw [List.length_append, List.length_singleton]
  (first | lia | omega)






/-! ### list + list, list += list, list * int -/
def rCat : R2 := fun x y H Q => ∃ l b xs zs, x = .ref l ∧ y = .ref b ∧ H l = some (.lst xs) ∧ H b = some (.lst zs) ∧ xs.length + zs.length ≤ sizeLine ∧ ∀ p, H p = none → Q (.ref p) (upd H p (.lst (xs ++ zs)))
theorem op_cat : OpR X (binaryOp .Add) rCat := by
  intro pins s σ H x y v u Q I rx ry h
  obtain ⟨l, b, xs, zs, rfl, rfl, hH, hB, hz, q⟩ := h
  cases rx
  cases ry
  obtain ⟨z, its, n, r, hl, e⟩ := I.lstM hH
  obtain ⟨z2, its2, n2, r2, hl2, e2⟩ := I.lstM hB
  refine PySem.P.add_list e e2 ?_ (by rw [List.size_toArray, List.size_toArray]; (first | lia | omega))
  have ea : its.toArray ++ its2.toArray = (its ++ its2).toArray := by simp
  rw [ea]
  exact ⟨.ref _, _, I.lnew (t' := s.toks) (r.append r2) (by rw [List.length_append]; (first | lia | omega)), rfl, q _ I.fresh⟩
/-- a list times an int (a negative one is nothing) -/
def rRep : R2 := fun x y H Q => ∃ l k xs, x = .ref l ∧ y = .int k ∧ H l = some (.lst xs) ∧ -(2 ^ 63) ≤ k ∧ k < 2 ^ 63 ∧ xs.length * k.toNat ≤ sizeLine ∧
  ∀ p, H p = none → Q (.ref p) (upd H p (.lst (List.replicate k.toNat xs).flatten))
theorem len_rep {α : Type} (xs : List α) (k : Nat) : (List.replicate k xs).flatten.length = k * xs.length := by
  induction k with
  | zero => simp
  | succ k ih => rw [List.replicate_succ, List.flatten_cons, List.length_append, ih, Nat.succ_mul, Nat.add_comm]
theorem op_rep : OpR X (binaryOp .Mult) rRep := by
  intro pins s σ H x y v u Q I rx ry h
  obtain ⟨l, k, xs, rfl, rfl, hH, h1, h2, hz, q⟩ := h
  cases rx
  obtain ⟨t, rfl⟩ := ry
  obtain ⟨z, its, n, r, hl, e⟩ := I.lstM hH
  have hlen : its.toArray.size * k.toNat ≤ sizeLine := by rw [List.size_toArray, ← hl]; exact hz
  have hcap : ¬ its.toArray.size * k.toNat > (2 ^ 63 - 1) / 8 := by
    have : (sizeLine : Nat) ≤ (2 ^ 63 - 1) / 8 := by decide
    (first | lia | omega)
  have hfit : ¬ (!Builtin.List.listFitsIndex k) = true := by
    rw [fitsIndex_both h1 h2]
    exact Bool.false_ne_true
  have hlong : ¬ Builtin.List.listTooLong (its.toArray.size * k.toNat) = true := by
    rw [notLongL hlen]
    exact Bool.false_ne_true
  have hnew : List.foldl (fun x1 x2 => x1 ++ x2) #[] (List.replicate (if its.toArray.isEmpty = true then 0 else k.toNat) its.toArray) = (List.replicate k.toNat its).flatten.toArray := by
    have f0 : ∀ m : Nat, List.foldl (fun x1 x2 => x1 ++ x2) #[] (List.replicate m its.toArray) = (List.replicate m its).flatten.toArray := fun m => by
      have := foldl_rep its m []
      rw [List.nil_append] at this
      exact this
    rw [f0]
    cases its with
    | nil => simp
    | cons a r' => rw [if_neg (by simp)]
  refine wpAny_binaryOp_repeat_ref (T := "list") (U := "int") (by decide) ⟨_, e, rfl⟩ (fun s' => typeIs_int s' k t) noFill_list_mul F.fills_int_mul F.slot_int_rmul repeat_list F.slot_int_index.lookup
    (call_meets F.slot_int_rmul (typeIs_int s k t) F.entry_int_rmul (F.args_int_rmul_2 _ _) (int___rmul___int_list k t l its.toArray n)
      ⟨e, rfl, ⟨_, e, rfl⟩, call_meets F.slot_list_mul ⟨_, e, rfl⟩ F.entry_list_mul (F.args_list_mul_2 _ _) (AutoListH.list___mul___list_int_3 l its.toArray n k t hfit hcap hlong) ⟨e, ?_⟩⟩)
  rw [hnew]
  exact ⟨.ref _, _, I.lnew (t' := s.toks) (r.rep k.toNat) (by rw [len_rep, Nat.mul_comm]; exact hz), rfl, q _ I.fresh⟩

/-! ### del xs[i] -/
end


/-! ### readings and rules -/


/-- y in d, y not in d -/
def tDIn (ty td : TE) : TE := fun σ H Q => ty σ H fun y H1 => td σ H1 fun x H2 => ∃ a o, x = .ref a ∧ DGet H2 a y o ∧ Q (.bl o.isSome) H2
/-- d[y] = v -/
def sDPut (td ty tv : TE) : TS := fun D σ H => tv σ H fun v H1 => td σ H1 fun x H2 => ty σ H2 fun y H3 => ∃ a H4, x = .ref a ∧ DPut H3 a y v H4 ∧ D.nx σ H4

/-! ### xs[a:b] = ys -/
section
variable {X : Cx} {o i e value : Expr} {pos pos' tpos : Pos} {td ty tv : TE}
theorem pc_din (hu : X.A.units + 1 < cLine) (hi : PE X i ty) (ho : PE X o td) : PC X .In i o (tDIn ty td) := by
  intro pins s σ H Q I h
  refine thn (hi pins s σ H _ I h) fun iv s1 ⟨y, H1, I1, ry, q1⟩ => thn (ho pins s1 σ H1 _ I1 q1) fun u s2 hpt => ?_
  obtain ⟨x, H2, I2, rx, a, ov, ex, g, q2⟩ := hpt
  subst ex
  obtain rfl : u = Value.ref a := rx
  exact d_in hu I2 g ry fun s3 I3 => ⟨.bl ov.isSome, H2, I3, rfl, q2⟩
theorem ps_dput (hu : X.A.units + 1 < cLine) (ho : PE X o td) (hi : PE X i ty) (hv : PE X value tv) (hs : swapsWith value (some (.Subscript o i pos')) pos.line X.env = pure false) :
    PS X (.Assign [.Subscript o i pos'] value pos) (sDPut td ty tv) := by
  intro pins s σ H D I h
  refine wpAny_Assign_Subscript (thn (hv pins s σ H _ I h) fun r s1 ⟨v, H1, I1, rv, q1⟩ => thn (ho pins s1 σ H1 _ I1 q1) fun u s2 ⟨x, H2, I2, rx, q2⟩ => thn (hi pins s2 σ H2 _ I2 q2) fun iv s3 hpt => ?_) hs
  obtain ⟨y, H3, I3, ry, a, H4, ex, g, q3⟩ := hpt
  subst ex
  obtain rfl : u = Value.ref a := rx
  exact d_setItem hu I3 g ry rv fun s4 I4 => ⟨σ, H4, I4, q3⟩
end


/-! ### displays -/
theorem dt_empty {P : Program} {w : World} {H : Hp} (h : Heap) (hb : sysModules < h.objs.size) : ObjOk P w H (h.push { cls := .type "dict", data := .dict #[] }) h.objs.size (.dT []) :=
  ⟨Nat.zero_le _, beq_eq_false_iff_ne.mpr (Ne.symm (Nat.ne_of_lt hb)), [], .nil, _, #[], 0, Heap.get?_push_size _ rfl, ⟨rfl, rfl, rfl⟩, rfl, rfl, List.nodup_nil⟩
def tDNewT : TE := fun _ H Q => ∀ p, H p = none → Q (.ref p) (upd H p (.dT []))
section
variable {X : Cx} {pos : Pos}
theorem pe_dnewT : PE X (.Dict [] [] pos) tDNewT := fun pins s σ H Q I h =>
  wpAny_Dict_empty ⟨.ref s.heap.objs.size, _, I.laid (a := s.heap.objs.size) (o := .dT []) (t' := s.toks) (fun _ _ q => Heap.get?_push_of_some _ q) (Nat.le_refl _) (dt_empty s.heap I.big), rfl, h _ (I.hok.fresh (Nat.le_refl _))⟩
end


def mergeK (kvs more : List (Key × V)) : List (Key × V) := more.foldl (fun acc kv => putK acc kv.1 kv.2) kvs
theorem KV.merge : ∀ {more : List (Key × V)} {rs : List (Key × Value)} {kvs : List (Key × V)} {vs : List (Key × Value)}, KV more rs → KV kvs vs → KV (mergeK kvs more) (merged vs rs) := by
  intro more rs kvs vs r
  unfold KV at r
  induction r generalizing kvs vs with
  | nil => intro q; exact q
  | @cons p q ps qs h t ih =>
    intro r0
    have e : KV (putK kvs p.1 p.2) (stored vs q.1 q.2) := by
      have := r0.put p.1 h.2
      rw [← h.1]; exact this
    exact ih e


/-! ### methods -/


section
variable {X : Cx} {pins : List (Addr × Obj)} {σ : St} {H : Hp} {s : Shared} {a : Addr} {y d : V} {u r : Value} {o : Option V} {A : Around} {E : Value → Shared → Prop}
end

section
variable {X : Cx} {o e f : Expr} {apos cpos : Pos} {td ty tx : TE}
end

/-! ### dict(d): a copy -/
section
variable {X : Cx} {pins : List (Addr × Obj)} {σ : St} {H : Hp} {s : Shared} {a : Addr} {kvs : List (Key × V)} {A : Around} {E : Value → Shared → Prop}
variable {prog : Program} {w : World} {A : Around} {E : Value → Shared → Prop} {s : Shared}
set_option maxRecDepth 100000 in
end


section
variable {X : Cx} {pins : List (Addr × Obj)} {σ : St} {H : Hp} {s : Shared} {a : Addr} {y : V} {u : Value} {A : Around} {E : Value → Shared → Prop}
variable {X : Cx}
end
end L2

namespace Att
open PySem PySem.W PySem.Calls PyProof.Rows

/-! ### the script -/
theorem ints_of_wellAll {P : Params} {h : Heap} : ∀ (ns : List Int) (vs : List Value), WellAll P h vs (ns.map WData.int) → IntsAre vs ns := by
  intro ns
  induction ns with
  | nil =>
    intro vs w
    rw [List.map_nil] at w
    cases w
    exact .nil
  | cons n ns ih =>
    intro vs w
    rw [List.map_cons] at w
    cases w with
    | cons a b =>
      cases a
      exact .cons _ _ (ih _ b)

theorem script_of {l : OpenLaw} {n : Nat} (hn : l.most = some n) {P : Params} {h : Heap} {args : List WData} {vals : List Value}
    (hpre : l.row.toRowW.claim.pre args = true) (hwl : WellAll P h vals args) :
    ∃ a vs ns, vals = [Value.ref a] ∧ args = [WData.list (ns.map WData.int)] ∧ h.get? a = some { cls := .type "list", data := .seq vs.toArray } ∧ IntsAre vs ns ∧ ns.length ≤ n := by
  have hsh : WShape.hasAll [] args [.list .int] = true := (pre_splitW hpre).1
  have hc : l.pre.holds [] { args := args } = true := (pre_splitW hpre).2
  obtain ⟨d, r, rfl, h1, h2⟩ := hasAllW_cons hsh
  obtain rfl := hasAllW_nil h2
  obtain ⟨xs, rfl, h3⟩ := hasW_list h1
  obtain ⟨ns, rfl⟩ := items_int h3
  have hlen : ns.length ≤ n := by
    unfold OpenLaw.pre at hc
    have h4 : (WTm.not (.lt (.lit (.int (n : Int))) (.len (.arg 0)))).holds [] { args := [.list (ns.map .int)] } = true := by
      have h4 := (holds_andW hc).1
      rw [hn] at h4
      exact h4
    have h5 := condW_of h4 (w_not (w_lt w_lit (w_len_list (w_arg rfl))))
    rw [List.length_map] at h5
    refine Nat.le_of_not_lt fun q => ?_
    have q' : (n : Int) < ((ns.length : Nat) : Int) := by (first | lia | omega)
    first
      | (rw [decide_eq_true q'] at h5; exact absurd h5 (by decide))
      | (simp at h5; (first | lia | omega))
  cases hwl with
  | cons w1 w2 =>
    cases w2
    cases w1 with
    | list ho hall => exact ⟨_, _, ns, rfl, rfl, ho, ints_of_wellAll ns _ hall, hlen⟩

theorem post_true (l : OpenLaw) (args : List WData) : l.row.toRowW.claim.post args (.bool true) args = true :=
  postW_of (r := l.row.toRowW) (X := (true == true))
    (show WShape.has [] (.bool true) .bool = true by first | rfl | decide | simp [WShape.has, WShape.arms, WShape.armsAll])
    (show (WTm.eq .res (.lit (.bool true))).value [] { args := args, res := some (.bool true), after := args } = some (.bool (true == true)) from w_eq_bool (w_res rfl) w_lit) rfl

/-! ### the attachment: holds_open's last premise (the goal 'hc' behind k_head) from a wpAny of the law's body -/

/-- the same from a codeAny of the CALL (for a layer whose function contracts speak of calls) -/
theorem attach_call {l : OpenLaw} {n : Nat} {q : Program} {loose : List Str} {XP : (Str → Option Value) → Heap → Prop} {YP : World → Heap → Prop} {d : DefRec}
    (hn : l.most = some n) (hdf : d.params.defaults = [])
    (call : ∀ (w : World) (s₀ s₁ : Shared) (mg mb : Str → Option Value) (fa : Addr) (o : Obj) (pm cd doc : Value) (a : Addr) (vs : List Value) (ns : List Int),
      Ground q loose [] XP w s₀ mg mb s₁.heap → YP w s₁.heap →
      s₁.heap.get? fa = some o → o.data = .func (docDef d.name d.params d.body d.scope pm cd doc) → s₁.heap.CodeRec cd d.name → mg d.name = some (.ref fa) →
      s₁.heap.get? a = some { cls := .type "list", data := .seq vs.toArray } → IntsAre vs ns → ns.length ≤ n → s₁.gens = #[] →
      codeAny (model l.prog w) callerA (.call (.ref fa) ⟨[.ref a], []⟩) (fun r s' => r = .ok (.ret (.bool true)) ∧ OldK s₁.heap s'.heap ∧ s'.os = s₁.os ∧ AllBare s'.gens) s₁) :
    WalkO q loose XP YP l.row.toRowW d [] (fun f vs => PySem.call f vs) := by
  intro w s₀ s₁ mg mb G Y fa o pm cd doc dV kV ho hd hcd hD hmg hg args vals as hpre hlay hrd hwl hlo
  obtain rfl : dV = .none := Dflts.none hD hdf
  obtain rfl : kV = .none := Dflts.noKw hD
  obtain ⟨a, vs, ns, rfl, rfl, hobj, hints, hlen⟩ := script_of hn hpre hwl
  refine enter_call (codeAny_mono (call w s₀ s₁ mg mb fa o pm cd doc a vs ns G Y ho (fd_plain hd) hcd hmg hobj hints hlen hg) fun r s' hq => ?_)
  obtain ⟨rfl, h2, h3, h4⟩ := hq
  exact ⟨.inl ⟨.bool true, .bool true, [], rfl, fun _ => rfl, .bool true, post_true l _, fun _ => ⟨List.Pairwise.nil, fun _ hm => (nomatch hm)⟩⟩, h2, h3, h4⟩


/-! ### rules over ANY heap (no ledger) from facts about the written part K: the library's own take a ledger (News) for what they write -/
section
variable {prog : Program} {w : World} {A : Around} {E : Value → Shared → Prop} {s : Shared} {K : Frag}





/-! the whole heap as the ledger: makes every rule that writes through a ledger a rule over any heap -/
def ledger (h : Heap) (L d : Addr) : List (Addr × Obj) := (List.range h.objs.size).filterMap fun a => if a = L ∨ a = d then none else (h.get? a).map fun o => (a, o)

end
end Att

namespace L2
open PySem PySem.Spec PyProof.Rows

theorem vals_ints : ∀ {vs : List Value} {ns : List Int}, IntsAre vs ns → Vals (ns.map V.int) vs
  | _, _, .nil => .nil
  | _, _, .cons n t h => .cons ⟨t, rfl⟩ (vals_ints h)

/-- nothing is tracked but the script, known to the object (or it is an object of the module) -/
def Only (H : Hp) : Prop := ∀ b, H b = none ∨ ∃ o xs, H b = some (.frz o (.lst xs))

/-- THE HEAD: the law's promise, at the heap behind the top. F, the promise of the law's def, may use that base is part of the heap (so K.In base, base.Ns mainGlobals mg stand in Mod) -/
theorem law_call {P : Program} {w : World} {K : PySem.W.Frag} {mg mb : Str → Option Value} {CX : CXT} {k : Nat} {fa a : Addr} {fd : FuncData} {x : Str} {sp : Sp} {s₁ : Shared} {vs : List Value} {ns : List Int}
    (KX : K.In s₁.heap) (hns : s₁.heap.Ns mainGlobals mg) (hb : s₁.heap.Ns builtinsNs mb) (hbb : ∀ x : Str, x ≠ "__name__" → mb x = bootBuiltins x) (hlim : s₁.heap.NoLimit) (hg : s₁.gens = #[])
    (ha : s₁.heap.get? a = some { cls := .type "list", data := .seq vs.toArray }) (hi : IntsAre vs ns) (hl : ns.length ≤ sizeLine) (hr : Room k callerA)
    (F : ∀ base : Heap, K.In base → base.Ns mainGlobals mg → FnOk P w K mg base CX k fa fd [x] sp) (hbind : ∀ (s : Shared) (u : Value), BindsTo s fd ⟨[u], []⟩ [(x, u)])
    (hsp : ∀ H : Hp, Only H → SqL K H a (ns.map V.int) → sp [.ref a] H (fun v _ => v = .bl true) fun _ _ _ => False)
    (hCX : ∀ H e s', CX [] H s₁ (fun _ _ _ => False) e s' → False) :
    codeAny (model P w) callerA (.call (.ref fa) ⟨[.ref a], []⟩) (fun r s' => r = .ok (.ret (.bool true)) ∧ OldK s₁.heap s'.heap ∧ s'.os = s₁.os ∧ AllBare s'.gens) s₁ := by
  have rv := vals_ints hi
  have lenV := hi.length
  -- from an abstract heap in which nothing but the script may be tracked
  have core : ∀ H : Hp, Only H → SqL K H a (ns.map V.int) → HOk P w H s₁.heap → (∀ b, H b ≠ none → b = a) → (H a ≠ none → K.lookup a = none) →
      codeAny (model P w) callerA (.call (.ref fa) ⟨[.ref a], []⟩) (fun r s' => r = .ok (.ret (.bool true)) ∧ OldK s₁.heap s'.heap ∧ s'.os = s₁.os ∧ AllBare s'.gens) s₁ := by
    intro H hO hS hok hA hK
    have base_of : ∀ {b : Addr} {o : Obj}, s₁.heap.get? b = some o → H b = none → (hidT s₁.heap H).get? b = some o := fun e n => hidT_get e n
    have noA : ∀ {b : Addr} {o : Obj} {es : Array DictEntry} {ep : Nat}, s₁.heap.get? b = some o → o.data = .dict es ep → H b = none := fun {b o es ep} e d => by
      cases q : H b with
      | none => rfl
      | some u =>
        have e' : b = a := hA b (by rw [q]; simp)
        subst e'
        rw [ha] at e; cases e
        have d' : Data.seq vs.toArray _ = Data.dict es ep := d
        cases d'
    have nsK : ∀ {b : Addr} {m : Str → Option Value}, s₁.heap.Ns b m → (hidT s₁.heap H).Ns b m := fun {b m} ⟨o, es, ep, e, d, r⟩ => ⟨o, es, ep, base_of e (noA e d), d, r⟩
    have hKb : K.In (hidT s₁.heap H) := fun b o e => base_of (KX b o e) (by
      cases q : H b with
      | none => rfl
      | some u =>
        have e' : b = a := hA b (by rw [q]; simp)
        subst e'
        rw [hK (by rw [q]; simp)] at e; cases e)
    have hM : Mod K mg (hidT s₁.heap H) := ⟨hKb, nsK hns, ⟨mb, nsK hb, hbb⟩, let ⟨mc, h1, h2⟩ := hlim; ⟨mc, nsK h1, h2⟩⟩
    have e0 : Env0 P w K mg (hidT s₁.heap H) callerA [] s₁ H := ⟨rfl, hM, fun b o e => of_hidT e, Nat.le_of_eq (hidT_size _ _), trivial, fun b hb => absurd (show b ∈ ([] : List Addr) from hb) (by simp), hok, .of_eq hg⟩
    refine codeAny_mono ((F _ hKb (nsK hns)).run callerA [] s₁ H ⟨[.ref a], []⟩ [.ref a] [.ref a] _ _ hr e0 (hbind s₁ (.ref a)) (.cons rfl .nil) (hsp H hO hS)) fun r s' h => ?_
    cases r with
    | error e => exact (hCX H e s' h).elim
    | ok fl =>
      cases fl with
      | next => exact False.elim h
      | brk => exact False.elim h
      | cont => exact False.elim h
      | ret u =>
        obtain ⟨v, H', os, bare, un, hok', r', q⟩ := h
        have q' : v = .bl true := q
        subst q'
        obtain rfl : u = Value.bool true := r'
        refine ⟨rfl, OldK.of_keep fun b o e => ?_, os, bare⟩
        cases q : H b with
        | none => exact un.keep b o e q (by intro z; exact absurd (show b ∈ ([] : List Addr) from z) (by simp)) (by simp)
        | some u =>
          rcases hO b with z | ⟨ob, xs, z⟩
          · rw [q] at z; cases z
          · have z2 := un.frzs b ob _ z
            obtain ⟨e1, _⟩ := hok b _ z
            obtain ⟨e2, _⟩ := hok' b _ z2
            rw [e] at e1; cases e1
            exact e2
  cases hk : K.lookup a with
  | some o =>
    -- the script is one of the module's own objects
    have e := KX a o hk
    rw [ha] at e
    cases e
    refine core (fun _ => none) (fun _ => .inl rfl) (.inr ⟨_, vs.toArray, _, hk, rfl, rfl, rfl, by rw [List.size_toArray, lenV]; exact hl, by simpa using rv⟩) (fun b u z => by have z' : (none : Option HO) = some u := z; cases z') (fun b z => absurd rfl z) fun z => absurd rfl z
  | none =>
    refine core (fun b => if b = a then some (.frz { cls := .type "list", data := .seq vs.toArray } (.lst (ns.map V.int))) else none) (fun b => ?_) (.inl (.inr ⟨{ cls := .type "list", data := .seq vs.toArray }, if_pos rfl⟩)) (fun b u z => ?_) (fun b z => ?_) fun _ => hk
    · by_cases hb : b = a
      · exact .inr ⟨_, _, if_pos hb⟩
      · exact .inl (if_neg hb)
    · by_cases hb : b = a
      · have z' := (if_pos hb).symm.trans z
        cases z'
        subst hb
        exact ⟨ha, by rw [List.length_map]; exact hl, vs, _, rv, ha⟩
      · have z' := (if_neg hb).symm.trans z
        cases z'
    · by_cases hb : b = a
      · exact hb
      · exact absurd (if_neg hb) z
end L2

namespace L2
open PySem PySem.Spec PyProof.Rows

abbrev KOf {K : PySem.W.Frag} {h : Heap} (_ : K.In h) : PySem.W.Frag := K

/-- the goal that k_head leaves (case hc), from the law's promise. F gives the function object fd (K's own) once, then the promise over every base -/
theorem walk_of {l : PySem.W.OpenLaw} {n k : Nat} {q : Program} {loose : List Str} {XP : (Str → Option Value) → Heap → Prop} {YP : World → Heap → Prop} {d : DefRec} {K : Params → PySem.W.Frag} {CX : World → CXT} {sp : World → Sp} {x : Str}
    (hn : l.most = some n) (hn2 : n ≤ sizeLine) (hdf : d.params.defaults = []) (hr : Room k callerA)
    (hY : ∀ (w : World) (h : Heap), YP w h → (K w.params).In h)
    (F : ∀ (w : World) (mg : Str → Option Value) (fa : Addr) (h : Heap), (K w.params).In h → h.Ns mainGlobals mg → mg d.name = some (.ref fa) →
      ∃ fd : FuncData, (∀ (s : Shared) (u : Value), BindsTo s fd ⟨[u], []⟩ [(x, u)]) ∧
        ∀ base : Heap, (K w.params).In base → base.Ns mainGlobals mg → FnOk l.prog w (K w.params) mg base (CX w) k fa fd [x] (sp w))
    (hsp : ∀ (w : World) (H : Hp) (a : Addr) (ns : List Int), ns.length ≤ n → Only H → SqL (K w.params) H a (ns.map V.int) → sp w [.ref a] H (fun v _ => v = .bl true) fun _ _ _ => False)
    (hCX : ∀ (w : World) (H : Hp) (s : Shared) (e : Value) (s' : Shared), CX w [] H s (fun _ _ _ => False) e s' → False) :
    PySem.W.WalkO q loose XP YP l.row.toRowW d [] (fun f vs => PySem.call f vs) := by
  refine Att.attach_call hn hdf fun w s₀ s₁ mg mb fa o pm cd doc a vs ns G Y ho hd hcd hmg hobj hints hlen hg => ?_
  have KX := hY w _ Y
  obtain ⟨fd, hb, hF⟩ := F w mg fa _ KX G.T.g hmg
  exact law_call KX G.T.g G.T.b G.T.builtins G.T.nolimit hg hobj hints (Nat.le_trans hlen hn2) hr hF hb (fun H hO hS => hsp w H a ns hlen hO hS) fun H e s' => hCX w H s₁ e s'
end L2

/- THE LAST THEOREM (shape; LID, My.* are yours):
   My.Adr: a structure of the addresses that your layer names (classes, functions); My.Txt K t: a structure (Prop) of the equations over K;
   My.txt_mk : {K} {implicit addresses ..} (e1 : nsIn K mainGlobals "law" = some (some (.ref f))) (e2 : K.lookup f = some ⟨oc, od, .func (fnOf "law" "law" params body scope dV kV doc pm an cdv ct), sl⟩) (e3 : codeIn K cdv "law" = true) .. : ∃ t, My.Txt K t

set_option maxRecDepth 100000 in
set_option maxHeartbeats 0 in
theorem PySem.Challenge.cw_LID_holds : PySem.Challenge.rw_LID.Holds := by
  w_on; o_law; k_head; (case hw => w_witness2)
  k_fill
  refine L2.walk_of (l := PySem.Challenge.rw_LID) (n := 63) (k := 40) (x := "script") (CX := fun w => ..) (sp := fun _ => My.sp_law) rfl (by decide) rfl ⟨rfl, by decide, by decide⟩ (fun w h Y => PySem.W.kIn_of Y) ?F ?S ?C
  case F =>
    intro w mg fa h KX G hmg
    have T : ∃ t, My.Txt (L2.KOf KX) t := by
      dsimp only [L2.KOf]                          -- K must stand as «<heap const> w.params» for k_is
      refine' My.txt_mk ?e1 ?e2 ?e3 ..
      (case e1 => PySem.W.k_is)                    -- in the order: a name -> its address -> its object -> its parts
      (case e2 => PySem.W.k_is)
      ..
    obtain ⟨t, T⟩ := T
    have e0 := hmg.symm.trans (PySem.W.mg_of KX G T.law)
    cases e0                                       -- fa is the law's own address
    exact ⟨_, fun s u => .of_eq rfl, fun base kb nb => My.law_fn T kb nb⟩     -- if «.of_eq rfl» comes too early: refine' ⟨_, ?b, fun base kb nb => My.law_fn T kb nb⟩; exact fun s u => .of_eq rfl
  case S => exact fun w H a ns hl hO hS => ..
  case C => exact ..
(the tactic k_is has no namespace: write k_is) -/

/-! SHORT WORDS over the layer: a def of the text, its body, what a loop and a test want. -/
namespace L2
open PySem PySem.Spec PyProof.Rows

/-! ### the text by places -/
/-- the j-th statement of a class's body -/
def inClass (s : Stmt) (j : Nat) : Stmt := match s with
  | .ClassDef _ _ _ body _ _ _ _ _ _ _ => body.getD j (.Pass ⟨0, 0, 0, 0⟩)
  | _ => .Pass ⟨0, 0, 0, 0⟩
def defArgs (s : Stmt) : Arguments := match s with
  | .FunctionDef _ a _ _ _ _ _ _ _ _ => a
  | _ => { posonlyargs := [], args := [], vararg := none, kwonlyargs := [], kw_defaults := [], kwarg := none, defaults := [] }
def defBody (s : Stmt) : List Stmt := match s with
  | .FunctionDef _ _ b _ _ _ _ _ _ _ => b
  | _ => []
def defScope (s : Stmt) : Scope := match s with
  | .FunctionDef _ _ _ _ _ _ sc _ _ _ => sc
  | _ => { kind := .function, names := [], isGenerator := false, isCoroutine := false }

/-! ### no exception leaves a def -/
abbrev CX0 : CXT := fun _ _ _ _ _ _ => False
abbrev E0 : XK := fun _ _ _ => False
theorem pass0 {X : Cx} : Passes CX0 X E0 := fun _ _ _ _ _ _ _ h => h.elim

/-! ### a def (or method) of the text as it stands behind the top -/
structure Fun (K : PySem.W.Frag) (x qual : Str) (st : Stmt) (f : Addr) (fd : FuncData) : Prop where
  ex : ∃ (oc : Value) (od : Option Addr) (kV doc pm : Value) (an : Option Addr) (cdv ct : Value) (osl : Array (Option Value)),
    fd = PySem.W.fnOf x qual (defArgs st) (defBody st) (defScope st) .none kV doc pm an cdv ct ∧ K.lookup f = some ⟨oc, od, .func fd, osl⟩ ∧ PySem.W.codeIn K cdv qual = true
  kp : PySem.W.keepIn K (.ref f) = true
section
variable {P : Program} {w : World} {K : PySem.W.Frag} {mg : Str → Option Value} {base : Heap}
/-- THE RULE for a def: its body as a term of rules, and the reading of that term -/
theorem Fun.ok {x qual : Str} {st : Stmt} {f : Addr} {fd : FuncData} {N ps : List Str} {k : Nat} {sp : Sp} (F : Fun K x qual st f fd) (S : FnScope N ps (defScope st)) (len : ∀ vs H Q E, sp vs H Q E → vs.length = ps.length)
    (hbody : ∀ (cdv : Value) (A : Around) (outer : List Env) (s : Shared) (H : Hp) (vs : List V) (Q : VK) (E : XK), Room k (A.deeper (envOfC qual (defScope st) s.heap.objs.size f cdv)) → sp vs H Q E →
      ∃ t, PSs (cxOf CX0 P w K mg base N qual (defScope st) f cdv A outer s H E).nox (defBody st) t ∧ t { nx := fun _ H' => Q .non H', rt := Q } (start N vs) H) : FnOk P w K mg base CX0 (k + 1) f fd ps sp := by
  obtain ⟨oc, od, kV, doc, pm, an, cdv, ct, osl, rfl, lk, hcd⟩ := F.ex
  refine fn_of lk hcd S len fun A outer s H vs Q E hr hsp => ?_
  obtain ⟨t, h, q⟩ := hbody cdv A outer s H vs Q E hr hsp
  exact ⟨t, h.nox, q⟩
/-- how its arguments bind (no defaults): h is «fun _ _ _ _ _ _ us hl => match us, hl with | [_, _], _ => rfl», one _ a parameter -/
theorem Fun.binds {x qual : Str} {st : Stmt} {f : Addr} {fd : FuncData} {ps : List Str} (F : Fun K x qual st f fd)
    (h : ∀ (kV doc pm : Value) (an : Option Addr) (cdv ct : Value) (us : List Value), us.length = ps.length → bindArgs (PySem.W.fnOf x qual (defArgs st) (defBody st) (defScope st) .none kV doc pm an cdv ct) ⟨us, []⟩ = pure (ps.zip us)) : Binds K fd ps [] := by
  obtain ⟨oc, od, kV, doc, pm, an, cdv, ct, osl, rfl, lk, hcd⟩ := F.ex
  exact .all (h kV doc pm an cdv ct)
theorem fun_mk {x qual : Str} {st : Stmt} {f : Addr} {oc : Value} {od an : Option Addr} {osl : Array (Option Value)} {kV doc pm cdv ct : Value} (l : K.lookup f = some ⟨oc, od, .func (PySem.W.fnOf x qual (defArgs st) (defBody st) (defScope st) .none kV doc pm an cdv ct), osl⟩)
    (c : PySem.W.codeIn K cdv qual = true) (k : PySem.W.keepIn K (.ref f) = true) : Fun K x qual st f (PySem.W.fnOf x qual (defArgs st) (defBody st) (defScope st) .none kV doc pm an cdv ct) := ⟨⟨oc, od, kV, doc, pm, an, cdv, ct, osl, rfl, l, c⟩, k⟩
end
theorem hu_of {A : Around} {k : Nat} (hr : Room k A) : A.units + 1 < cLine := Nat.lt_of_le_of_lt (Nat.add_le_add_left (by decide : 1 ≤ 64) _) hr.units
theorem small1000 {n : Nat} (h : n ≤ 1000) : n < sizeLine := Nat.lt_of_le_of_lt h (by decide)

/-! ### expressions in short: the name that stands in the i-th slot -/
section
variable {X : Cx}
theorem pv (i : Nat) {x : Str} {pos : Pos} (hN : X.N[i]? = some x := by rfl) (hv : Vis X.env.scope x := by first | exact Or.inl rfl | exact Or.inr (Or.inl rfl) | exact Or.inr (Or.inr rfl)) (hd : (x == ("__debug__" : Str)) = false := by decide)
    (hcd : (x == ("__classdict__" : Str)) = false := by decide) : PE X (.Name x pos) (tVar i) := pe_var hN hv hd hcd
end

/-! ### tests -/
theorem iteF {A B : Prop} (h : B) : if false = true then A else B := by
  rw [if_neg Bool.false_ne_true]
  exact h
theorem iteT {A B : Prop} (h : A) : if true = true then A else B := by
  rw [if_pos rfl]
  exact h
theorem ite2 {c A B : Prop} [Decidable c] (h1 : c → A) (h2 : ¬ c → B) : if c then A else B := by
  by_cases h : c
  · rw [if_pos h]
    exact h1 h
  · rw [if_neg h]
    exact h2 h
theorem iteNS {c A B : Prop} [Decidable c] (hc : c) (h : B) : if (!decide c) = true then A else B := by
  rw [decide_eq_true hc]
  exact iteF h

/-! ### heaps -/
/-- all that was tracked is as it was -/
def Same (H H' : Hp) : Prop := ∀ b o, H b = some o → H' b = some o
theorem Same.refl (H : Hp) : Same H H := fun _ _ h => h
theorem Same.trans {H H1 H2 : Hp} (a : Same H H1) (b : Same H1 H2) : Same H H2 := fun c o h => b c o (a c o h)
theorem Same.free {H H' : Hp} (e : Same H H') {l : Addr} (h : H' l = Option.none) : H l = Option.none := by
  cases q : H l with
  | none => rfl
  | some o =>
    rw [e l o q] at h
    cases h
theorem Same.seq {K : PySem.W.Frag} {H H' : Hp} {a : Addr} {xs : List V} (e : Same H H') (h : SqL K H a xs) : SqL K H' a xs := by
  rcases h with (h | ⟨o, h⟩) | h
  · exact .inl (.inl (e _ _ h))
  · exact .inl (.inr ⟨o, e _ _ h⟩)
  · exact .inr h

/-! ### a dict's pairs: keys that differ -/
section
variable {κ : Type} [DecidableEq κ]
theorem nd_snoc : ∀ {l : List κ} {k : κ}, l.Nodup → ¬ k ∈ l → (l ++ [k]).Nodup
  | [], k, _, _ => by simp
  | a :: r, k, h, hk => by
    obtain ⟨h1, h2⟩ := List.nodup_cons.mp h
    show (a :: (r ++ [k])).Nodup
    refine List.nodup_cons.mpr ⟨fun m => ?_, nd_snoc h2 fun m => hk (List.mem_cons.mpr (Or.inr m))⟩
    rcases List.mem_append.mp m with q | q
    · exact h1 q
    · exact hk (List.mem_cons.mpr (Or.inl (List.mem_singleton.mp q).symm))
end
end L2
set_option Elab.async false
set_option linter.all false
set_option maxRecDepth 100000
set_option maxHeartbeats 4000000
namespace L2
open PySem PySem.Spec PyProof.Rows

/-! ### own part 1: exceptions of the text's own classes -/
theorem ObjOk.ex {P : Program} {w : World} {H : Hp} {h : Heap} {a : Addr} {o : HO} (x : ObjOk P w H h a o) : ∃ ob, h.get? a = some ob := by
  cases o with
  | lst xs => obtain ⟨_, _, _, _, e⟩ := x; exact ⟨_, e⟩
  | tup xs =>
    obtain ⟨_, _, _, p⟩ := x
    obtain ⟨ob, e, _⟩ := p
    exact ⟨ob, e⟩
  | dK kvs => obtain ⟨_, _, _, _, o, _, _, e, _⟩ := x; exact ⟨_, e⟩
  | dT kvs => obtain ⟨_, _, _, _, o, _, _, e, _⟩ := x; exact ⟨_, e⟩
  | set S n => obtain ⟨o, _, _, _, e, _⟩ := x; exact ⟨_, e⟩
  | ins C dx fs => obtain ⟨_, _, _, e, _⟩ := x; exact ⟨_, e⟩
  | own y => obtain ⟨_, e⟩ := x; exact ⟨_, e⟩
  | xd fs => obtain ⟨_, ⟨_, _, _, e, _⟩, _⟩ := x; exact ⟨_, e⟩
  | rng lo hi => obtain ⟨_, _, _, e⟩ := x; exact ⟨_, e⟩
  | frz ob u => obtain ⟨e, _⟩ := x; exact ⟨_, e⟩
  | tbl ps => exact ⟨_, (show h.get? a = some _ from x)⟩
  | met f y => exact ⟨_, (show h.get? a = some _ from x)⟩
  | ext φ => obtain ⟨_, e, _⟩ := x; exact e

/-- what an exception flies over: B holds all that is tracked, and all that was there, but the frames -/
structure Over (l : List Env) (H H' : Hp) (h0 h : Heap) (B : Heap) : Prop where
  trk : ∀ b o, h.get? b = some o → H' b ≠ none → B.get? b = some o
  old : ∀ b o, h0.get? b = some o → b ∉ frs l → ∃ o', B.get? b = some o' ∧ (H b = none → o' = o)

section
variable {P : Program} {w : World} {H H' : Hp} {h0 h1 h2 B : Heap} {l : List Env}
theorem hok_move (hk : HOk P w H h1) (t : ∀ b o, h1.get? b = some o → H b ≠ none → B.get? b = some o) (st : B.StaysIn h2) : HOk P w H h2 := fun a o e => by
  refine (hk a o e).stay (fun b u hb q => st b u (t b u q ?_)) (fun _ z => z) (fun _ _ z => z)
  rcases hb with rfl | z
  · rw [e]; exact fun z => nomatch z
  · rw [z]; exact fun z => nomatch z
theorem over_move (o : Over l H H' h0 h1 B) (hk : HOk P w H' h1) (st : B.StaysIn h2) : Over l H H' h0 h2 B := ⟨fun b ob e n => by
  cases q : H' b with
  | none => exact absurd q n
  | some u =>
    obtain ⟨o1, e1⟩ := (hk b u q).ex
    have e2 := o.trk b o1 e1 n
    have e3 := st _ _ e2
    rw [e] at e3
    cases e3
    exact e2, o.old⟩
theorem un_move (u : Un (frs l) [] H H' h0 h1) (o : Over l H H' h0 h1 B) (ff : h1.FunFrames B l) (st : B.StaysIn h2) (up : h1.UpToSlots h2) : Un (frs l) [] H H' h0 h2 where
  keep := fun b ob e n hb _ => by
    obtain ⟨o', e', q⟩ := o.old b ob e hb
    rw [q n] at e'
    exact st _ _ e'
  slot := fun b ob e n hb _ => by
    obtain ⟨sl, e1⟩ := u.slot b ob e n hb (by simp)
    obtain ⟨_, o1, e2, nf⟩ := ff.mem (show b ∈ l.filterMap (·.frame) from hb)
    rw [e1] at e2
    cases e2
    obtain ⟨sl', e3⟩ := up b _ e1 nf
    exact ⟨sl', e3⟩
  free := fun b ob e n _ => u.free b ob e n (by simp)
  there := fun b ob e _ => by
    by_cases hb : b ∈ frs l
    · obtain ⟨o1, e1⟩ := u.there b ob e (by simp)
      obtain ⟨_, o2, e2, nf⟩ := ff.mem (show b ∈ l.filterMap (·.frame) from hb)
      rw [e1] at e2
      cases e2
      obtain ⟨sl', e3⟩ := up b _ e1 nf
      exact ⟨_, e3⟩
    · obtain ⟨o', e', _⟩ := o.old b ob e hb
      exact ⟨o', st _ _ e'⟩
  tups := u.tups
  frzs := u.frzs
  tbls := u.tbls
end

/-- how an exception of an own class lies behind a call -/
def CXe (P : Program) (w : World) : CXT := fun outer H s E e s' =>
  ∃ (ea : Addr) (C a0 : Value) (H' : Hp) (B : Heap), e = .ref ea ∧ s'.os = s.os ∧ AllBare s'.gens ∧ Un (frs outer) [] H H' s.heap s'.heap ∧ HOk P w H' s'.heap ∧
    Heap.FlyingW B outer ea C a0 s'.heap ∧ H' ea = none ∧ Over outer H H' s.heap s'.heap B ∧ E C none H'

section
variable {P : Program} {w : World} {K : PySem.W.Frag} {mg : Str → Option Value} {base : Heap} {N : List Str} {qual : Str} {scope : Scope} {f : Addr} {cd : Value} {A : Around} {outer : List Env} {s : Shared} {H : Hp} {E E' : XK}
variable {pins : List (Addr × Obj)} {σ : St} {H1 : Hp} {s1 : Shared}

theorem fly_leave {B : Heap} {ea : Addr} {C a0 : Value} (I : Inv (cxOf (CXe P w) P w K mg base N qual scope f cd A outer s H E) pins σ H1 s1)
    (hfl : Heap.FlyingW B (envOfC qual scope s.heap.objs.size f cd :: outer) ea C a0 s1.heap) (hn : H1 ea = none) (o : Over outer H H1 s.heap s1.heap B) (hE : E C none H1) :
    (cxOf (CXe P w) P w K mg base N qual scope f cd A outer s H E).xe (.ref ea) s1 := by
  have ff : s1.heap.FunFrames B outer := hfl.2.2.1.2.2
  refine wpAny_leaves_onW (L := s.heap.objs.size) (outer := outer) I.ok.frames rfl hfl fun h' hf' up => ?_
  exact ⟨ea, C, a0, H1, B, rfl, I.os, I.bare, un_move (I.base : Un (frs outer) [] H H1 s.heap s1.heap) o ff hf'.1 up, hok_move I.hok o.trk hf'.1, hf', hn, over_move o I.hok hf'.1, hE⟩

/-- an exception of a callee goes on to the caller's caller -/
theorem passE (hE : ∀ C d H', E' C d H' → E C d H') : Passes (CXe P w) (cxOf (CXe P w) P w K mg base N qual scope f cd A outer s H E) E' := by
  intro pins σ H1 s1 e s' I hx
  obtain ⟨ea, C, a0, H', B, rfl, ho, hg, un, hok, hfl, hn, ov, hE'⟩ := hx
  have I' : Inv (cxOf (CXe P w) P w K mg base N qual scope f cd A outer s H E) pins σ H' s' := I.call' ho un hok hg (fun b z => nomatch z)
  refine fly_leave I' hfl hn ⟨ov.trk, fun b o e hb => ?_⟩ (hE _ _ _ hE')
  obtain ⟨o1, e1⟩ := I.base.there b o e (fun z => nomatch z)
  have nb : b ∉ frs (cxOf (CXe P w) P w K mg base N qual scope f cd A outer s H E).stack := fun z => by
    rcases List.mem_cons.mp (I.stkSub b z) with q | q
    · exact absurd q (Nat.ne_of_lt (Nat.lt_of_lt_of_le (Heap.lt_size e) I.ok.above))
    · exact hb q
  obtain ⟨o2, e2, q2⟩ := ov.old b o1 e1 nb
  refine ⟨o2, e2, fun n => ?_⟩
  have e3 := I.base.keep b o e n hb (fun z => nomatch z)
  rw [e1] at e3
  cases e3
  exact q2 (I.base.free b o e n (fun z => nomatch z))

/-- a new exception leaves the frame in which it was raised -/
theorem raise_leave {h' : Heap} {e C : Addr} {vs : List Value} (I : Inv (cxOf (CXe P w) P w K mg base N qual scope f cd A outer s H E) pins σ H1 s1)
    (hx : Heap.MadeExcOf s1.heap h' e (.ref C) vs) (hE : E (.ref C) none H1) : (cxOf (CXe P w) P w K mg base N qual scope f cd A outer s H E).xe (.ref e) { s1 with heap := h' } := by
  have hl0 := I.stack
  have hkb : (PySem.W.hideAll s1.heap (frs (envOfC qual scope s.heap.objs.size f cd :: outer))).StaysIn s1.heap := fun b o q => PySem.W.of_hideAll _ q
  have hl : s1.heap.FunFrames (PySem.W.hideAll s1.heap (frs (envOfC qual scope s.heap.objs.size f cd :: outer))) (envOfC qual scope s.heap.objs.size f cd :: outer) :=
    PySem.W.funFrames_hide hl0 fun env he a ha => List.mem_filterMap.mpr ⟨env, he, ha⟩
  have hn : H1 e = none := by
    cases q : H1 e with
    | none => rfl
    | some u =>
      obtain ⟨ob, z⟩ := (I.hok e u q).ex
      rw [hx.new] at z
      cases z
  have nof : ∀ b, H1 b ≠ none → b ∉ frs (envOfC qual scope s.heap.objs.size f cd :: outer) := fun b n z => n (I.stkFree b z)
  have o : Over outer H H1 s.heap s1.heap (PySem.W.hideAll s1.heap (frs (envOfC qual scope s.heap.objs.size f cd :: outer))) := by
    refine ⟨fun b o e n => PySem.W.hideAll_get _ e (nof b n), fun b o e hb => ?_⟩
    obtain ⟨o1, e1⟩ := I.base.there b o e (fun z => nomatch z)
    have nb : b ∉ frs (envOfC qual scope s.heap.objs.size f cd :: outer) := fun z => by
      rcases List.mem_cons.mp (I.stkSub b z) with q | q
      · exact absurd q (Nat.ne_of_lt (Nat.lt_of_lt_of_le (Heap.lt_size e) I.ok.above))
      · exact hb q
    refine ⟨o1, PySem.W.hideAll_get _ e1 nb, fun n => ?_⟩
    have e3 := I.base.keep b o e n hb (fun z => nomatch z)
    rw [e1] at e3
    exact Option.some.inj e3
  refine wpAny_leaves_madeW (L := s.heap.objs.size) (outer := outer) I.ok.frames rfl hkb hl hx fun h'' t fl _ _ up => ?_
  have up' : s1.heap.UpToSlots h'' := (Heap.UpToSlots.of_keeps hx.keeps).trans up
  exact ⟨e, .ref C, .ref t, H1, _, rfl, I.os, I.bare, un_move (I.base : Un (frs outer) [] H H1 s.heap s1.heap) o hl.2.2 fl.1 up', hok_move I.hok o.trk fl.1, fl, hn, over_move o I.hok fl.1, hE⟩
end

theorem passE0 {P : Program} {w : World} {X : Cx} : Passes (CXe P w) X E0 := by
  intro pins σ H1 s1 e s' I hx
  obtain ⟨ea, C, a0, H', B, _, _, _, _, _, _, _, _, hE⟩ := hx
  exact hE.elim

/-- an own exception class, as the top has made it -/
theorem exc_obj {K : PySem.W.Frag} {h : Heap} {C : Addr} {bmB : List Value} {newId : String} (kin : K.In h) (q : PySem.W.excIn K C bmB newId = true) :
    ∃ (bm : List Value) (N : Addr) (nm qn : Str) (bs : List Value) (hd : Bool) (sn : List Str) (sub : List Value) (ab : Bool) (col : Option Bool) (dd : Option Addr) (k0 k1 k2 k3 k5 : Option Value) (mN : Str → Option Value),
      h.get? C = some (excClassObj nm qn C N bs bm hd sn sub ab col dd k0 k1 k2 k3 k5 newId) ∧ h.Ns N mN ∧ mN "__init__" = none ∧ OwnTail h bmB bm := by
  unfold PySem.W.excIn at q
  split at q
  case h_2 => cases q
  case h_1 dd cd sl ho =>
    split at q
    case h_2 => cases q
    case h_1 C' bm k0 k1 k2 k3 n k5 em es =>
      rw [Bool.and_eq_true, Bool.and_eq_true, Bool.and_eq_true, Bool.and_eq_true, Bool.and_eq_true] at q
      obtain ⟨⟨⟨⟨⟨q1, q2⟩, q3⟩, q4⟩, q5⟩, q6⟩ := q
      have q1 : C' = C := eq_of_beq q1
      have q2 : n = newId := eq_of_beq q2
      have q6 := eq_of_beq q6
      subst q1 q2
      cases cd with
      | mk name bases mro ns qualname hasDict slotNames subclasses abstract collection hasDel =>
        have em' : mro = Value.ref C' :: bm := em
        have q3' : hasDel = false := by
          cases hasDel with
          | false => rfl
          | true => cases q3
        subst em' q3'
        have hsl : sl = #[k0, k1, k2, k3, some (.builtin n), k5] := by
          cases sl with
          | mk tl =>
            have es' : tl = [k0, k1, k2, k3, some (.builtin n), k5] := es
            rw [es']
        subst hsl
        exact ⟨bm, ns, name, qualname, bases, hasDict, slotNames, subclasses, abstract, collection, dd, k0, k1, k2, k3, k5, _, kin _ _ ho, .of_isNs (PySem.W.isNs_of_in kin q5), PySem.W.nsMap_none_of_in kin q5 q6, PySem.W.tail_of_in kin q4⟩

abbrev bmVE : List Value := [.type "ValueError", .type "Exception", .type "BaseException", .type "object"]
/-- raise C(e) -/
def tRaise (E : XK) (C : Addr) (ta : TA) : TS := fun _ σ H => ta σ H fun vs H1 => vs.length ≤ sizeLine ∧ E (.ref C) none H1
theorem ps_raise {X : Cx} {x : Str} {np cpos pos : Pos} {e0 : Expr} {ta : TA} {C : Addr} {E : XK} (hc : X.calm = true) (hg : Gl X x) (hm : X.mg x = some (.ref C)) (q : PySem.W.excIn X.K C bmVE "ValueError.__new__" = true) (ha : PA X [e0] ta)
    (hx : ∀ (pins : List (Addr × Obj)) (σ : St) (H : Hp) (s : Shared) (h' : Heap) (e : Addr) (vs : List Value), Inv X pins σ H s → Heap.MadeExcOf s.heap h' e (.ref C) vs → E (.ref C) none H → X.xe (.ref e) { s with heap := h' })
    (hst : starEach [e0] X.env = [(false, eval e0 X.env)] := by rfl) (hdb : (x == ("__debug__" : Str)) = false := by decide) :
    PS X (.Raise (some (.Call (.Name x np) [e0] [] cpos)) none pos) (tRaise E C ta) := by
  intro pins s σ H D I h
  obtain ⟨bm, N, nm, qn, bs, hd, sn, sub, ab, col, dd, k0, k1, k2, k3, k5, mN, hC, hN, hni, T⟩ := exc_obj I.ok.mod.kin q
  refine wpAny_Raise_call_subT (C := C) (nm := nm) (q := qn) (N := N) (bs := bs) (bm := bm) (hdct := hd) (sn := sn) (sub := sub) (ab := ab) (col := col) (dd := dd) (k0 := k0) (k1 := k1) (k2 := k2) (k3 := k3) (k5 := k5)
    PySem.F.excBase_ValueError (mN := mN) (T.hasType PySem.F.excBase_ValueError.hasBase) (I.ok.hd hc) (by rw [hst]; rfl) hni (ld_glob I hg hm ⟨rfl, ?_⟩ hdb)
  have ha' := ha cpos pins s σ H _ I h
  rw [hst] at ha' ⊢
  refine Calls.evalArgs_plain (wpAny_mono ha' (fun us s2 hq => ?_) fun _ _ y => y)
  obtain ⟨vs, H2, I2, r, hz, hE⟩ := hq
  exact ⟨rfl, by rw [← r.length]; exact hz, I2.bk _ _ hC, hN.keeps I2.bk, T.keeps I2.bk, fun h' e hm => hx pins σ H2 s2 h' e us I2 hm hE⟩

section
variable {P : Program} {w : World} {K : PySem.W.Frag} {mg : Str → Option Value} {base : Heap}
/-- a def of the text out of which exceptions come -/
theorem Fun.okE {x qual : Str} {st : Stmt} {f : Addr} {fd : FuncData} {N ps : List Str} {k : Nat} {sp : Sp} (F : Fun K x qual st f fd) (S : FnScope N ps (defScope st)) (len : ∀ vs H Q E, sp vs H Q E → vs.length = ps.length)
    (hbody : ∀ (cdv : Value) (A : Around) (outer : List Env) (s : Shared) (H : Hp) (vs : List V) (Q : VK) (E : XK), Room k (A.deeper (envOfC qual (defScope st) s.heap.objs.size f cdv)) → sp vs H Q E →
      ∃ t, PSs (cxOf (CXe P w) P w K mg base N qual (defScope st) f cdv A outer s H E) (defBody st) t ∧ t { nx := fun _ H' => Q .non H', rt := Q } (start N vs) H) : FnOk P w K mg base (CXe P w) (k + 1) f fd ps sp := by
  obtain ⟨oc, od, kV, doc, pm, an, cdv, ct, osl, rfl, lk, hcd⟩ := F.ex
  exact fn_of lk hcd S len fun A outer s H vs Q E hr hsp => hbody cdv A outer s H vs Q E hr hsp
end

/-! ### the exception at hand -/
def excO (a : Addr) (C : Value) : HO := .ext fun h => ∃ o vs, h.get? a = some o ∧ o.cls = C ∧ o.data = .fields vs
theorem excO_ok {P : Program} {w : World} {H : Hp} {h : Heap} {a : Addr} {C : Value} {o : Obj} {vs : Array Value} (e : h.get? a = some o) (c : o.cls = C) (d : o.data = .fields vs) : ObjOk P w H h a (excO a C) :=
  ⟨⟨o, vs, e, c, d⟩, ⟨o, e⟩, fun _ _ ⟨o, vs, e, c, d⟩ k => ⟨o, vs, k o e, c, d⟩⟩

/-- an object that was not told of before is tracked from now on -/
theorem Inv.track {X : Cx} {pins : List (Addr × Obj)} {σ : St} {H : Hp} {s : Shared} {a : Addr} {o : HO} (I : Inv X pins σ H s) (hn : H a = none) (h0 : ∀ ob, X.s₀.heap.get? a ≠ some ob) (hL : a ≠ X.env.locals)
    (hc : ∀ x c, X.env.cells.lookup x = some c → c ≠ a) (hp : ∀ p ∈ X.pn ++ pins, p.1 ≠ a) (ok : ObjOk X.prog X.w (upd H a o) s.heap a o) : Inv X pins σ (upd H a o) s := by
  have ne : ∀ b u, H b = some u → b ≠ a := fun b u e z => by rw [z, hn] at e; cases e
  refine ⟨I.ok, I.os, I.bare, ⟨I.base.keep, I.base.slot, fun b ob e n hx => ?_, I.base.there, fun b xs e => ?_, fun b ob xs e => ?_, fun b ps e => ?_⟩, I.loc, I.cell, ?_, fun x c e => ?_, fun p q => ?_, fun b u e => ?_, I.len⟩
  · rw [upd_ne (fun z => h0 ob (by rw [← z]; exact e))]
    exact I.base.free b ob e n hx
  · have q := I.base.tups b xs e
    rw [upd_ne (ne _ _ q)]
    exact q
  · have q := I.base.frzs b ob xs e
    rw [upd_ne (ne _ _ q)]
    exact q
  · obtain ⟨more, q⟩ := I.base.tbls b ps e
    exact ⟨more, by rw [upd_ne (ne _ _ q)]; exact q⟩
  · rw [upd_ne (Ne.symm hL)]
    exact I.free
  · rw [upd_ne (hc x c e)]
    exact I.freeC x c e
  · obtain ⟨z1, z2, z3⟩ := I.pin p q
    refine ⟨z1, ?_, z3⟩
    rw [upd_ne (hp p q)]
    exact z2
  · by_cases hb : b = a
    · subst hb
      rw [upd_same] at e
      cases e
      exact ok
    · rw [upd_ne hb] at e
      refine (I.hok b u e).stay (fun _ _ _ z => z) (fun c z => ?_) (fun c xs z => ?_)
      · rw [upd_ne (ne _ _ z)]; exact z
      · rw [upd_ne (ne _ _ z)]; exact z

/-- the name of an except clause goes -/
theorem goes_ok {X : Cx} {pins : List (Addr × Obj)} {σ : St} {H : Hp} {s : Shared} {M : Model} {A : Around} {E : Value → Shared → Prop} {i : Nat} {n : Str} {pos : Pos} {Q : Unit → Shared → Prop} (I : Inv X pins σ H s) (hN : X.N.Nodup)
    (hi : X.N[i]? = some n) (hk : X.env.scope.names.lookup n = some .local) (h : ∀ s', Inv X pins (σ.set i none) H s' → Q () s') : wpAny M A (do bindName X.env n .none; unbindBehindTheSuite X.env n pos) Q E s := by
  obtain ⟨m, hn, hl⟩ := id I.loc
  have hcls : (X.env.scope.kind == .class || (X.env.scope.kind == .module && X.env.locals != X.env.globals)) = false := by rw [I.ok.kind]; rfl
  have hiσ : i < σ.length := by rw [I.len]; exact (List.getElem?_eq_some_iff.mp hi).1
  refine wpAny_nameGoes_keeps hk hn hcls fun h' v hn' hs => ?_
  have neL : ∀ b o, X.s₀.heap.get? b = some o → b ≠ X.env.locals := fun b o e => Nat.ne_of_lt (Nat.lt_of_lt_of_le (Heap.lt_size e) I.ok.above)
  refine h _ ⟨I.ok, I.os, I.bare, ⟨fun b o e z hb hx => ?_, fun b o e z hb hx => ?_, I.base.free, fun b o e hx => ?_, I.base.tups, I.base.frzs, I.base.tbls⟩, ⟨_, hn', fun j y v' e1 e2 e3 => ?_⟩, fun y c e => ?_, I.free, I.freeC, fun p hp => ?_, fun b ob e => ?_, by simpa using I.len⟩
  · exact (hs.2 b (neL b o e)).trans (I.base.keep b o e z hb hx)
  · obtain ⟨sl, e1⟩ := I.base.slot b o e z hb hx
    exact ⟨sl, (hs.2 b (neL b o e)).trans e1⟩
  · obtain ⟨o', e1⟩ := I.base.there b o e hx
    exact ⟨o', (hs.2 b (neL b o e)).trans e1⟩
  · by_cases hj : j = i
    · subst hj
      rw [List.getElem?_set_self hiσ] at e2
      cases e2
    · rw [List.getElem?_set_ne (Ne.symm hj)] at e2
      obtain ⟨u', r', q⟩ := hl j y v' e1 e2 e3
      refine ⟨u', r', ?_⟩
      rcases q with ⟨k, e⟩ | ⟨k, c, e, z⟩
      · refine .inl ⟨k, ?_⟩
        have ny : y ≠ n := fun e => hj (nodup_ix hN e1 (e ▸ hi))
        show (if y = n then v else m y) = some u'
        rw [if_neg ny]
        exact e
      · exact .inr ⟨k, c, e, z.sameBut hs (I.cne y c e)⟩
  · obtain ⟨w', z⟩ := I.cell y c e
    exact ⟨w', z.sameBut hs (I.cne y c e)⟩
  · obtain ⟨e, z, ne, nf, d⟩ := I.pin p hp
    exact ⟨(hs.2 p.1 ne).trans e, z, ne, nf, d⟩
  · refine (I.hok b ob e).stay (fun c w' hc q => (hs.2 c ?_).trans q) (fun _ q => q) fun _ _ q => q
    rintro rfl
    rcases hc with z | z
    · have f := I.free
      rw [z, e] at f
      cases f
    · rw [I.free] at z
      cases z

/-! ### try .. except C as n -/
abbrev Cx.tr (X : Cx) (pl : List (Addr × Obj)) (W : Value → Shared → Prop) : Cx := { X with pn := pl, xe := W }
abbrev Cx.hnd (X : Cx) (pl : List (Addr × Obj)) (e : Value) : Cx := { X with A := X.A.mark (some e), calm := false, pn := pl, xe := fun _ _ => False }
section
variable {X : Cx} {pins pins' : List (Addr × Obj)} {σ : St} {H : Hp} {s : Shared} {W : Value → Shared → Prop} {e : Value}
theorem Inv.tr (I : Inv X pins σ H s) : Inv (X.tr (X.pn ++ pins) W) [] σ H s :=
  ⟨⟨I.ok.mod, I.ok.kind, I.ok.glob, I.ok.blt, I.ok.above, I.ok.inj, I.ok.has, I.ok.cab, I.ok.hd, I.ok.frames, I.ok.stk, I.ok.exf, I.ok.bs, I.ok.bsz, I.ok.noex, I.ok.exfs, I.ok.funs, I.ok.frf⟩,
    I.os, I.bare, I.base, I.loc, I.cell, I.free, I.freeC, fun p hp => I.pin p (by simpa using hp), I.hok, I.len⟩
theorem Inv.untr (ok : X.Ok) (I : Inv (X.tr (X.pn ++ pins) W) pins' σ H s) : Inv X pins σ H s :=
  ⟨ok, I.os, I.bare, I.base, I.loc, I.cell, I.free, I.freeC, fun p hp => I.pin p (List.mem_append_left _ hp), I.hok, I.len⟩
theorem Inv.hnd (I : Inv X pins σ H s) : Inv (X.hnd (X.pn ++ pins) e) [] σ H s :=
  ⟨⟨I.ok.mod, I.ok.kind, I.ok.glob, I.ok.blt, I.ok.above, I.ok.inj, I.ok.has, I.ok.cab, (fun z => nomatch z), I.ok.frames, I.ok.stk, I.ok.exf, I.ok.bs, I.ok.bsz, I.ok.noex, I.ok.exfs, I.ok.funs, I.ok.frf⟩,
    I.os, I.bare, I.base, I.loc, I.cell, I.free, I.freeC, fun p hp => I.pin p (by simpa using hp), I.hok, I.len⟩
theorem Inv.unhnd (ok : X.Ok) (I : Inv (X.hnd (X.pn ++ pins) e) pins' σ H s) : Inv X pins σ H s :=
  ⟨ok, I.os, I.bare, I.base, I.loc, I.cell, I.free, I.freeC, fun p hp => I.pin p (List.mem_append_left _ hp), I.hok, I.len⟩
end

/-- an exception of a callee, what is wanted of it by the frame's values at the call -/
def PassesS (CX : CXT) (X : Cx) (E : St → XK) : Prop := ∀ (pins : List (Addr × Obj)) (σ : St) (H : Hp) (s : Shared) (e : Value) (s' : Shared), Inv X pins σ H s → CX X.stack H s (E σ) e s' → X.xe e s'

def gone (i : Nat) (D : Ends) : Ends := { nx := fun σ H => D.nx (σ.set i none) H, rt := D.rt, bk := fun σ H => D.bk (σ.set i none) H, ct := fun σ H => D.ct (σ.set i none) H }
def tTry (K : PySem.W.Frag) (Cc : Addr) (i : Nat) (tb : (St → XK) → TS) (th : TS) : TS := fun D σ H =>
  tb (fun σ' C _ H' => ∀ ea, H' ea = none → PySem.W.exmOne K C (.ref Cc) = some true ∧ th (gone i D) (σ'.set i (some (.ref ea))) (upd H' ea (excO ea C))) D σ H

theorem ps_try {X : Cx} {x n : Str} {np hpos pos : Pos} {body suite : List Stmt} {b₀ : Stmt} {i : Nat} {Cc : Addr} {tb : (St → XK) → TS} {th : TS} (hst : X.stack = X.env :: X.outer) (hex : X.ex = []) (hf : X.env.frame = some X.env.locals) (hN : X.N.Nodup)
    (hi : X.N[i]? = some n) (hk : X.env.scope.names.lookup n = some .local) (hg : Gl X x) (hm : X.mg x = some (.ref Cc))
    (hb : ∀ (pl : List (Addr × Obj)) (W : Value → Shared → Prop) (Ek : St → XK), PassesS (CXe X.prog X.w) (X.tr pl W) Ek → PSs (X.tr pl W) body (tb Ek))
    (hh : ∀ (pl : List (Addr × Obj)) (ea : Addr), PSs (X.hnd pl (.ref ea)) (b₀ :: suite) th) (hdb : (x == ("__debug__" : Str)) = false := by decide) :
    PS X (.Try body [.ExceptHandler (some (.Name x np)) (some n) (b₀ :: suite) hpos] [] [] pos) (tTry X.K Cc i tb th) := by
  intro pins s σ H D I h
  refine wpAny_Try_except ?_
  have key : PassesS (CXe X.prog X.w) (X.tr (X.pn ++ pins) (fun e s' => wpAny (model X.prog X.w) X.A (noteFrame e X.env) (fun _ s₂ => wpAny (model X.prog X.w) X.A (setFlight e none) (fun _ s₃ =>
      wpAny (model X.prog X.w) X.A (handleBy e X.env [.ExceptHandler (some (.Name x np)) (some n) (b₀ :: suite) hpos]) (SP X pins D) X.xe s₃) X.xe s₂) X.xe s'))
      (fun σ' C _ H' => ∀ ea, H' ea = none → PySem.W.exmOne X.K C (.ref Cc) = some true ∧ th (gone i D) (σ'.set i (some (.ref ea))) (upd H' ea (excO ea C))) := by
    intro pins' σ' H1 s1 e s' I1 hx
    obtain ⟨ea, C, a0, H', B, rfl, ho, hgn, un, hok, hfl, hn, ov, hE⟩ := hx
    have hst' : (X.tr (X.pn ++ pins) (fun e s' => wpAny (model X.prog X.w) X.A (noteFrame e X.env) (fun _ s₂ => wpAny (model X.prog X.w) X.A (setFlight e none) (fun _ s₃ =>
      wpAny (model X.prog X.w) X.A (handleBy e X.env [.ExceptHandler (some (.Name x np)) (some n) (b₀ :: suite) hpos]) (SP X pins D) X.xe s₃) X.xe s₂) X.xe s')).stack = X.stack := rfl
    have hfl' : Heap.FlyingW B X.stack ea C a0 s'.heap := hfl
    have un' : Un (frs X.stack) [] H1 H' s1.heap s'.heap := un
    have ov' : Over X.stack H1 H' s1.heap s'.heap B := ov
    have hfr : X.A.frames = some X.stack := I.ok.frames
    obtain ⟨hm1, hth⟩ := hE ea hn
    have new1 : ∀ ob, s1.heap.get? ea ≠ some ob := fun ob z => by
      by_cases q : ea ∈ frs X.stack
      · obtain ⟨_, o2, e2, nf⟩ := hfl'.2.2.1.mem (show ea ∈ X.stack.filterMap (·.frame) from q)
        obtain ⟨oe, vs, _, _, _, e3, _, d3, _⟩ := hfl'.2.2.2
        rw [e2] at e3
        cases e3
        exact nf _ d3
      · obtain ⟨o', e', _⟩ := ov'.old ea ob z q
        have z2 : B.get? ea = none := hfl'.2.1
        rw [z2] at e'
        cases e'
    rw [hst] at hfr
    have hfl2 := hfl'
    rw [hst] at hfl2
    refine wpAny_looks_onW hfr hf hfl2 fun h4 held up4 => wpAny_landsW held fun h5 fl5 up5 => ?_
    have up := up4.trans up5
    have un5 := un_move un' ov' hfl'.2.2.1 fl5.1 up
    have hok5 := hok_move hok ov'.trk fl5.1
    have ov5 := over_move ov' hok fl5.1
    have I5 : Inv (X.tr (X.pn ++ pins) _) pins' σ' H' { s' with heap := h5 } := I1.call' (s' := { s' with heap := h5 }) ho un5 hok5 hgn (fun b z => nomatch z)
    have J5 : Inv X pins σ' H' { s' with heap := h5 } := I5.untr I.ok
    have Jh : Inv (X.hnd (X.pn ++ pins) (.ref ea)) [] σ' H' { s' with heap := h5 } := J5.hnd
    refine wpAny_handleBy_cons (codeAny_handlers_test (ld_glob Jh hg hm ?_ hdb)) (by intro z; cases z)
    obtain ⟨ob, hob, hobc⟩ := fl5.there
    have LT : PySem.W.Looks (model X.prog X.w) h5 (typeOf (.ref ea)) C := hobc ▸ (PySem.W.Looks.ld hob).andThen .now
    refine (PySem.W.exm_one Jh.kIn LT hm1).here ?_
    show codeAny _ _ (.handlers (.ref ea) [.ExceptHandler none (some n) (b₀ :: suite) hpos] X.env) _ _
    refine codeAny_handlers_suite_as ?_
    refine lands_againW fl5 fun h6 fl6 up6 => ?_
    have ff5 : h5.FunFrames B X.stack := by rw [hst]; exact fl5.2.2.1
    have un6 := un_move un5 ov5 ff5 fl6.1 up6
    have hok6 := hok_move hok5 ov5.trk fl6.1
    have I6 : Inv (X.tr (X.pn ++ pins) _) pins' σ' H' { s' with heap := h6 } := I1.call' (s' := { s' with heap := h6 }) ho un6 hok6 hgn (fun b z => nomatch z)
    have J6 : Inv X pins σ' H' { s' with heap := h6 } := I6.untr I.ok
    obtain ⟨oe, ws, eo1, eo2, eo3, _⟩ := fl6.first
    have K6 : Inv X pins σ' (upd H' ea (excO ea C)) { s' with heap := h6 } := by
      refine J6.track hn (fun ob z => ?_) (fun z => ?_) (fun y c ec z => ?_) (fun p hp z => ?_) (excO_ok eo1 eo2 eo3)
      · obtain ⟨o1, e1⟩ := I1.base.there ea ob z (by show ea ∉ X.ex; rw [hex]; exact fun z => nomatch z)
        exact new1 o1 e1
      · obtain ⟨m, ⟨oL, _, _, eL, _⟩, _⟩ := I1.loc
        exact new1 oL (by rw [z]; exact eL)
      · obtain ⟨v, oc, eC, _⟩ := I1.cell y c ec
        exact new1 oc (by rw [← z]; exact eC)
      · obtain ⟨e1, _⟩ := I1.pin p (List.mem_append_left _ hp)
        exact new1 p.2 (by rw [← z]; exact e1)
    have Kh : Inv (X.hnd (X.pn ++ pins) (.ref ea)) [] σ' (upd H' ea (excO ea C)) { s' with heap := h6 } := K6.hnd
    refine store_ok (X := X.hnd (X.pn ++ pins) (.ref ea)) Kh hN hi (.inl hk) (v := .ref ea) rfl (fun s7 I7 => ?_) (.inr hk)
    refine wpAny_mono (hh _ ea [] s7 _ _ _ I7 hth) (fun fl s8 q => ?_) (fun _ _ z => z.elim)
    show wpAny _ _ (do bindName X.env n .none; unbindBehindTheSuite X.env n hpos) (fun _ s₃ => SP X pins D fl s₃) X.xe s8
    cases fl with
    | next =>
      obtain ⟨σ8, H8, I8, q8⟩ := q
      exact goes_ok (I8.unhnd I.ok) hN hi hk fun s9 I9 => ⟨_, _, I9, q8⟩
    | brk =>
      obtain ⟨σ8, H8, I8, q8⟩ := q
      exact goes_ok (I8.unhnd I.ok) hN hi hk fun s9 I9 => ⟨_, _, I9, q8⟩
    | cont =>
      obtain ⟨σ8, H8, I8, q8⟩ := q
      exact goes_ok (I8.unhnd I.ok) hN hi hk fun s9 I9 => ⟨_, _, I9, q8⟩
    | ret u =>
      obtain ⟨v8, σ8, H8, I8, r8, q8⟩ := q
      exact goes_ok (I8.unhnd I.ok) hN hi hk fun s9 I9 => ⟨v8, _, _, I9, r8, q8⟩
  refine wpAny_mono (hb _ _ _ key [] s σ H D I.tr h) (fun fl s1 q => ?_) (fun e s1 q => q)
  cases fl with
  | next =>
    obtain ⟨σ8, H8, I8, q8⟩ := q
    exact wpAny_execs_nil ⟨σ8, H8, I8.untr I.ok, q8⟩
  | brk =>
    obtain ⟨σ8, H8, I8, q8⟩ := q
    exact ⟨σ8, H8, I8.untr I.ok, q8⟩
  | cont =>
    obtain ⟨σ8, H8, I8, q8⟩ := q
    exact ⟨σ8, H8, I8.untr I.ok, q8⟩
  | ret u =>
    obtain ⟨v8, σ8, H8, I8, r8, q8⟩ := q
    exact ⟨v8, σ8, H8, I8.untr I.ok, r8, q8⟩

end L2
set_option Elab.async false
set_option linter.all false
set_option maxRecDepth 100000
set_option maxHeartbeats 4000000
namespace L2
open PySem PySem.Spec PyProof.Rows

/-! ### own part 2: calls within a try, calls within an except suite -/
def tCallS (sp : Sp) (dvs : List V) (E : St → XK) (t : TA) : TE := fun σ H Q => t σ H fun vs H1 => sp (vs ++ dvs) H1 Q (E σ)

section
variable {X : Cx} {CX : CXT} {k : Nat} {f C : Addr} {fd : FuncData} {ps : List Str} {sp : Sp} {dvs : List V} {ds : List Value} {E : St → XK} {x m : Str} {p pos apos : Pos} {e o : Expr} {es : List Expr} {ta : TE} {t : TA}

theorem run_fnS {pins : List (Addr × Obj)} {σ : St} {H : Hp} {s : Shared} {Q : VK} {us : List Value} {vs : List V} (F : FnOk X.prog X.w X.K X.mg X.base CX k f fd ps sp) (hr : Room k X.A) (hb : Binds X.K fd ps ds) (hd : Vals dvs ds) (hx : PassesS CX X E)
    (I : Inv X pins σ H s) (r : Vals vs us) (h : sp (vs ++ dvs) H Q (E σ)) : wpAny (model X.prog X.w) X.A (call (.ref f) us) (EP X pins σ Q) X.xe s := by
  have r2 : Vals (vs ++ dvs) (us ++ ds) := r.append hd
  have hl : (us ++ ds).length = ps.length := by rw [← r2.length]; exact F.len _ _ _ _ h
  refine wpAny_call (codeAny_mono (F.run X.A X.stack s H ⟨us, []⟩ (us ++ ds) (vs ++ dvs) Q (E σ) hr I.env0 (hb s us I.kIn hl) r2 h) fun r s' hq => ?_)
  cases r with
  | error e => exact hx pins σ H s e s' I hq
  | ok fl =>
    cases fl with
    | ret u => exact I.after hq
    | next => exact False.elim hq
    | brk => exact False.elim hq
    | cont => exact False.elim hq


theorem pe_callS (F : FnOk X.prog X.w X.K X.mg X.base CX k f fd ps sp) (hr : Room k X.A) (hg : Gl X x) (hm : X.mg x = some (.ref f)) (hk : PySem.W.keepIn X.K (.ref f) = true) (hb : Binds X.K fd ps ds) (hd : Vals dvs ds) (hx : PassesS CX X E)
    (ha : PA X (e :: es) t) (hdb : (x == ("__debug__" : Str)) = false := by decide) (he : starEach (e :: es) X.env = (false, eval e X.env) :: starEach es X.env := by rfl) (hpl : (backTo pos (starEach es X.env)).any (·.1) = false := by rfl) :
    PE X (.Call (.Name x p) (e :: es) [] pos) (tCallS sp dvs E t) := by
  intro pins s σ H Q I h
  refine wpAny_Call_Name_kw (ld_glob I hg hm ?_ hdb)
  refine PySem.W.callWith_K (h₀ := X.base) I.ok.mod.kin hk (thn (ha pos pins s σ H _ I h) fun us s1 ⟨vs, H1, I1, r, q⟩ => ⟨I1.kIn, ?_⟩) he hpl
  exact run_fnS F hr hb hd hx I1 r q

end

/-! ### a def that is called from an except suite -/
structure RoomU (k : Nat) (A : Around) : Prop where
  dp : A.depth + 3 * k + 5 < recursionLimit
  un : A.units + 16 * k + 200 < cLine
theorem Room.u {k : Nat} {A : Around} (r : Room k A) (e : Value) : RoomU k (A.mark (some e)) := ⟨r.dp, r.un⟩
theorem RoomU.mono {j k : Nat} {A : Around} (r : RoomU k A) (h : j ≤ k) : RoomU j A := ⟨by have := r.dp; (first | lia | omega), by have := r.un; (first | lia | omega)⟩

structure FnOkU (P : Program) (w : World) (K : PySem.W.Frag) (mg : Str → Option Value) (base : Heap) (k : Nat) (f : Addr) (fd : FuncData) (ps : List Str) (sp : Sp) : Prop where
  len : ∀ vs H Q E, sp vs H Q E → vs.length = ps.length
  run : ∀ (A : Around) (outer : List Env) (s : Shared) (H : Hp) (args : Args) (us : List Value) (vs : List V) (Q : VK) (E : XK), RoomU k A → Env0 P w K mg base A outer s H → BindsTo s fd args (ps.zip us) → Vals vs us → sp vs H Q E →
    codeAny (model P w) A (.call (.ref f) args) (CR CX0 outer P w H s Q E) s

abbrev Cx.un (X : Cx) : Cx := { X with calm := false, xe := fun _ _ => False }
theorem Fun.okU {P : Program} {w : World} {K : PySem.W.Frag} {mg : Str → Option Value} {base : Heap} {x qual : Str} {st : Stmt} {f : Addr} {fd : FuncData} {N ps : List Str} {k : Nat} {sp : Sp} (F : Fun K x qual st f fd) (S : FnScope N ps (defScope st)) (len : ∀ vs H Q E, sp vs H Q E → vs.length = ps.length)
    (hbody : ∀ (cdv : Value) (A : Around) (outer : List Env) (s : Shared) (H : Hp) (vs : List V) (Q : VK) (E : XK), sp vs H Q E →
      ∃ t, PSs (cxOf CX0 P w K mg base N qual (defScope st) f cdv A outer s H E).un (defBody st) t ∧ t { nx := fun _ H' => Q .non H', rt := Q } (start N vs) H) : FnOkU P w K mg base (k + 1) f fd ps sp := by
  obtain ⟨oc, od, kV, doc, pm, an, cdv, ct, osl, rfl, lk, hcd⟩ := F.ex
  refine ⟨len, fun A outer s H args us vs Q E hr e0 hb r hsp => ?_⟩
  have hl := len _ _ _ _ hsp
  have KX : K.In s.heap := e0.mod.kin.keeps fun b o e => (e0.bs b o e).1
  have lim : s.heap.NoLimit := e0.mod.nolimit.keeps fun b o e => (e0.bs b o e).1
  have hkind : ∀ y ∈ ps.zip us, (defScope st).names.lookup y.1 = some .local ∨ ((defScope st).names.lookup y.1 = some .cell ∧ ((cellsFrom (s.heap.objs.size + 1) (defScope st).names []).lookup y.1).isSome = true) := fun ⟨n, v⟩ hy => by
    rcases S.par n (List.of_mem_zip hy).1 with q | q
    · exact .inl q
    · exact .inr ⟨q, PySem.W.cellsFrom_some _ _ _ (.inl q)⟩
  refine codeAny_call_function (by have := hr.dp; (first | lia | omega)) (KX _ _ lk) rfl S.co S.gen rfl (PySem.W.codeRec_of KX hcd) (hb _ _ _ _ ?_)
  refine wpAny_newFunctionEnv_cells S.kind hkind fun env he s1 x => ?_
  subst he
  refine ⟨lim.keeps x.toInCall.keep, codeAny_func ?_⟩
  obtain ⟨t, ht, hq⟩ := hbody cdv A outer s H vs Q E hsp
  have e1 : Env0 P w K mg base { A with handled := none } outer s H := ⟨e0.frames, e0.mod, e0.bs, e0.bsz, e0.funs, e0.frf, e0.hok, e0.bare⟩
  have I0 : Inv (cxOf CX0 P w K mg base N qual (defScope st) f cdv { A with handled := none } outer s H E) [] (start N vs) H s1 := inv_start S rfl e1 hl r x
  have I : Inv (cxOf CX0 P w K mg base N qual (defScope st) f cdv A outer s H E).un [] (start N vs) H s1 :=
    ⟨⟨I0.ok.mod, I0.ok.kind, I0.ok.glob, I0.ok.blt, I0.ok.above, I0.ok.inj, I0.ok.has, I0.ok.cab, (fun z => nomatch z), Around.frames_deeper e0.frames, I0.ok.stk, I0.ok.exf, I0.ok.bs, I0.ok.bsz, I0.ok.noex, I0.ok.exfs, I0.ok.funs, I0.ok.frf⟩,
      I0.os, I0.bare, I0.base, I0.loc, I0.cell, I0.free, I0.freeC, I0.pin, I0.hok, I0.len⟩
  refine wpAny_mono (ht [] s1 (start N vs) H _ I hq) (fun fl s' hs => ?_) fun e s' hs => False.elim hs
  have fin : ∀ {σ' : St} {H' : Hp} {v : V} {u : Value}, Inv (cxOf CX0 P w K mg base N qual (defScope st) f cdv A outer s H E).un [] σ' H' s' → RelV v u → Q v H' → CE outer P w H s Q u s' :=
    fun {σ' H' v u} J rv q => ⟨v, H', J.os, J.bare, J.base, J.hok, rv, q⟩
  cases fl with
  | ret u =>
    obtain ⟨v, σ', H', J, rv, q⟩ := hs
    exact fin J rv q
  | next =>
    obtain ⟨σ', H', J, q⟩ := hs
    exact fin (v := V.non) (u := Value.none) J rfl q
  | brk =>
    obtain ⟨_, _, _, q⟩ := hs
    exact False.elim q
  | cont =>
    obtain ⟨_, _, _, q⟩ := hs
    exact False.elim q

theorem pe_callU {X : Cx} {k : Nat} {f : Addr} {fd : FuncData} {ps : List Str} {sp : Sp} {E : XK} {x : Str} {p pos : Pos} {e : Expr} {es : List Expr} {t : TA} (F : FnOkU X.prog X.w X.K X.mg X.base k f fd ps sp) (hr : RoomU k X.A) (hg : Gl X x) (hm : X.mg x = some (.ref f)) (hk : PySem.W.keepIn X.K (.ref f) = true) (hb : Binds X.K fd ps [])
    (ha : PA X (e :: es) t) (hdb : (x == ("__debug__" : Str)) = false := by decide) (he : starEach (e :: es) X.env = (false, eval e X.env) :: starEach es X.env := by rfl) (hpl : (backTo pos (starEach es X.env)).any (·.1) = false := by rfl) :
    PE X (.Call (.Name x p) (e :: es) [] pos) (tCall sp [] E t) := by
  intro pins s σ H Q I h
  refine wpAny_Call_Name_kw (ld_glob I hg hm ?_ hdb)
  refine PySem.W.callWith_K (h₀ := X.base) I.ok.mod.kin hk (thn (ha pos pins s σ H _ I h) fun us s1 ⟨vs, H1, I1, r, q⟩ => ⟨I1.kIn, ?_⟩) he hpl
  have r2 : Vals (vs ++ []) (us ++ []) := r.append .nil
  have hl : (us ++ []).length = ps.length := by rw [← r2.length]; exact F.len _ _ _ _ q
  refine wpAny_call (codeAny_mono (F.run X.A X.stack s1 H1 ⟨us, []⟩ (us ++ []) (vs ++ []) Q E hr I1.env0 (hb s1 us I1.kIn hl) r2 q) fun r s' hq => ?_)
  cases r with
  | error e => exact False.elim hq
  | ok fl =>
    cases fl with
    | ret u => exact I1.after hq
    | next => exact False.elim hq
    | brk => exact False.elim hq
    | cont => exact False.elim hq

end L2
set_option Elab.async false
set_option linter.all false
set_option maxRecDepth 100000
set_option maxHeartbeats 4000000
namespace L2
open PySem PySem.Spec PyProof.Rows PySem.W

/-! ### own part 5: isinstance -/
/-- what the walk asks of an own exception class -/
structure XCl (K : Frag) (D : Addr) : Prop where
  ga : findIn K (.ref D) "__getattribute__" = some (some (.builtin "BaseException.__getattribute__"))
  gh : findIn K (.ref D) "__getattr__" = some none
  ha : findIn K (.ref D) "__class__" = some (some (.builtin "object.__class__"))
  hm : mroIn K D (.type "object") = some true
  hb : mroIn K D (.type "BaseException") = some true
  ci : (clsIn K D).isSome = true

section
variable {prog : Program} {w : World} {A : Around} {E : Value → Shared → Prop} {h : Heap} {g : Array GenState} {d : Drawn} {t : Nat} {os : OsState} {K : Frag} {a D : Addr} {o : Obj}
theorem xc_get {R : Result → Shared → Prop} (X : K.In h) (c : XCl K D) (hx : h.get? a = some o) (hc : o.cls = .ref D) (hq : R (.ok (.ret (.ref D))) ⟨h, g, d, t, os⟩) :
    codeAny (model prog w) A (.call (.builtin "getset_descriptor.__get__") ⟨[.builtin "object.__class__", .ref a, .ref D], []⟩) R ⟨h, g, d, t, os⟩ := by
  have hT5 : (⟨h, g, d, t, os⟩ : Shared).TypeIs (.builtin "object.__class__") "getset_descriptor" := F.typeOf_object_class
  have LS : Looks (model prog w) h (isSubtype (.ref D) (.type (".".intercalate ("object.__class__".cutAt '.').dropLast))) true := by rw [F.owner_object_class]; exact looks_mroIn X c.hm
  refine codeAny_call_builtin F.slot_gs_get.plain F.entry_gs_get (F.slot_gs_get.check _ _ _ _ _ _ _ _ hT5 (F.args_gs_get _ _ _) ?_)
  repeat (any_goals (first | assumption | (with_reducible refine wpAny_loadPart_at hx ?_; rw [hc]) | with_reducible refine Looks.at LS ?_ | wp_step))
  refine ⟨Code.quiet_builtin _ (by decide +kernel), codeAny_builtin F.entry_object_class ?_⟩
  repeat (any_goals (first | assumption | (with_reducible refine wpAny_loadPart_at hx ?_; rw [hc]) | wp_step))

theorem xc_check {nameV : Value} {Q : Unit → Shared → Prop} (X : K.In h) (c : XCl K D) (hx : h.get? a = some o) (hc : o.cls = .ref D) (hq : Q () ⟨h, g, d, t, os⟩) :
    wpAny (model prog w) A (checkBuiltinCall "BaseException.__getattribute__" ⟨[.ref a, nameV], []⟩) Q E ⟨h, g, d, t, os⟩ := by
  have hk : builtinKind "BaseException.__getattribute__" = some .slot := by decide +kernel
  have hsplit : splitId "BaseException.__getattribute__" = some ("BaseException", "__getattribute__") := by decide +kernel
  have LS : Looks (model prog w) h (isSubtype (.ref D) (.type "BaseException")) true := looks_mroIn X c.hb
  have ha := F.args_bexc_ga (.ref a) nameV
  simp only [checkBuiltinCall, hk, hsplit]
  refine wpAny_bind ?_
  · unfold isInstance
    repeat (first | (with_reducible refine wpAny_loadPart_at hx ?_; rw [hc]) | with_reducible refine Looks.at LS ?_ | wp_step)
    exact hq

theorem xc_entry {tk : Tok} {Q : Fin → Shared → Prop} (X : K.In h) (c : XCl K D) (hx : h.get? a = some o) (hc : o.cls = .ref D) (hq : Q (.done (.ret (.ref D))) ⟨h, g, d, t, os⟩) :
    wpAny (model prog w) A (Builtin.«object.__getattribute__» ⟨[.ref a, .str "__class__" tk], []⟩) Q E ⟨h, g, d, t, os⟩ := by
  have hT5 : (⟨h, g, d, t, os⟩ : Shared).TypeIs (.builtin "object.__class__") "getset_descriptor" := F.typeOf_object_class
  have f5 := F.typeOf_object_class
  have f6 := F.slot_gs_get.lookup
  have f7 := F.slot_gs_set.lookup
  have LA := looks_findIn (M := model prog w) X c.ha
  repeat (any_goals (first | assumption | (with_reducible refine wpAny_loadPart_at hx ?_; rw [hc]) | with_reducible refine Looks.at LA ?_ | wp_step))
  refine xc_get X c hx hc ?_
  repeat (any_goals (first | assumption | wp_step))

theorem xc_by {tk : Tok} {fill expr : Bool} {Q : Value → Shared → Prop} (X : K.In h) (c : XCl K D) (hx : h.get? a = some o) (hc : o.cls = .ref D) (hq : Q (.ref D) ⟨h, g, d, t, os⟩) :
    wpAny (model prog w) A (getAttrBy (.ref a) (.str "__class__" tk) fill expr) Q E ⟨h, g, d, t, os⟩ := by
  have f3 := F.attr_ValueError.ga.bind (.ref a)
  have hx0 : (expr && onTheHeap (Value.builtin "BaseException.__getattribute__")) = false := by cases expr <;> rfl
  have hx2 : (Value.builtin "BaseException.__getattribute__" == Value.builtin "object.__getattribute__") = false := by decide +kernel
  have hx1 : (onTheHeap (Value.ref D) && Value.builtin "BaseException.__getattribute__" == Value.builtin "object.__getattribute__") = false := by rw [hx2]; rfl
  have L1 := looks_findIn (M := model prog w) X c.ga
  have L2 := looks_findIn (M := model prog w) X c.gh
  repeat (any_goals (first | assumption | (with_reducible refine wpAny_loadPart_at hx ?_; rw [hc]) | with_reducible refine Looks.at L1 ?_ | with_reducible refine Looks.at L2 ?_ | wp_step))
  refine codeAny_call_builtin F.attr_ValueError.ga.plain F.entry_bexc_ga (xc_check X c hx hc (xc_entry X c hx hc ?_))
  repeat (any_goals (first | assumption | wp_step))

theorem xc_attr {Q : Option Value → Shared → Prop} (X : K.In h) (c : XCl K D) (hx : h.get? a = some o) (hc : o.cls = .ref D) (hq : Q (some (.ref D)) ⟨h, g, d, t + 1, os⟩) :
    wpAny (model prog w) A (getAttr? (.ref a) "__class__") Q E ⟨h, g, d, t, os⟩ := by
  unfold getAttr? getAttrBy?
  repeat (any_goals (first | assumption | with_reducible apply xc_by X c hx hc | wp_step))
end

def ExAt (a D : Addr) (h : Heap) : Prop := ∃ o, h.get? a = some o ∧ o.cls = .ref D
theorem kitx_exc {K : Frag} {a D : Addr} (c : XCl K D) : KitX K (.ref a) (.ref D) (ExAt a D) where
  ty := fun M h _ p => by
    obtain ⟨o, h1, h2⟩ := p
    exact h2 ▸ (Looks.ld h1).andThen .now
  it := fun _ _ X _ => by
    have hcD := c.ci
    unfold clsIn at hcD
    split at hcD
    · rename_i c' d' cd' sl' ho
      intro A' Q' E' s' k q
      unfold isType loadHead
      exact wpAny_bind (wpAny_loadPart (k _ _ (X _ _ ho)) (wpAny_pure q))
    · cases hcD
  ne := fun h tp dd its n sl X htp => by
    have hcD := c.ci
    refine Bool.eq_false_iff.mpr fun q => ?_
    have e : D = tp := Value.ref.inj (beq_iff_eq.mp q)
    subst e
    unfold clsIn at hcD
    split at hcD
    · rename_i c' d' cd' sl' ho
      have z := (X _ _ ho).symm.trans htp
      cases z
    · cases hcD
  ca := fun {_ _ _ _ _ s} X p k => by
    obtain ⟨o, h1, h2⟩ := p
    obtain ⟨h, g, d, t, os⟩ := s
    exact xc_attr X c h1 h2 k

/-- the type of a value, an own exception's too -/
inductive TyX (K : Frag) (H : Hp) : V → Value → Prop where
  | of {x : V} {t : Value} (h : TyOf K H x t) : TyX K H x t
  | exc {e D : Addr} (h : H e = some (excO e (.ref D))) (c : XCl K D) : TyX K H (.ref e) (.ref D)
inductive ClsV : V → Value → Prop where
  | ref (C : Addr) : ClsV (.ref C) (.ref C)
  | ty (T : String) : ClsV (.ty T) (.type T)
def rIsi (K : Frag) : List V → Hp → VK → Prop := fun vs H Q => ∃ x t c cv b, vs = [x, c] ∧ TyX K H x t ∧ ClsV c cv ∧ kitOne K t cv = some b ∧ Q (.bl b) H
theorem call_isi {X : Cx} : CallR X (.builtin "isinstance") (rIsi X.K) := by
  intro pins s σ H xs us Q I r h
  obtain ⟨x, t, c, cv, b, rfl, ht, hc, e, q⟩ := h
  obtain ⟨u, u', rfl, ru, ru'⟩ := r.two
  have hu : u' = cv := by cases hc <;> exact ru'
  subst hu
  cases ht with
  | of h => exact isinst_ok I ru h e fun tk => ⟨.bl b, H, I.tok tk, rfl, q⟩
  | @exc e' D h c' =>
    cases (show u = Value.ref e' from ru)
    obtain ⟨⟨o, vs, e1, e2, _⟩, _⟩ := (show ObjOk X.prog X.w H s.heap e' (excO e' (.ref D)) from I.hok e' _ h)
    exact kia_one (kitx_exc c') I.kIn ⟨o, e1, e2⟩ e (fun z => nomatch z) fun tk => ⟨.bl b, H, I.tok tk, rfl, q⟩
theorem kit_int_int (K : Frag) : kitOne K (.type "int") (.type "int") = some true := rfl
theorem kit_int_bool (K : Frag) : kitOne K (.type "int") (.type "bool") = some false := by kernel_rfl
theorem kit_list_list (K : Frag) : kitOne K (.type "list") (.type "list") = some true := rfl
end L2
set_option Elab.async false
set_option linter.all false
set_option maxRecDepth 100000
set_option maxHeartbeats 4000000
namespace L2
open PySem PySem.Spec PyProof.Rows

/-! ### own part 4: tuples of ints in lists; lists compared -/
theorem map_int_inj : ∀ {ks ls : List Int}, ks.map V.int = ls.map V.int → ks = ls
  | [], [], _ => rfl
  | [], _ :: _, h => by simp at h
  | _ :: _, [], h => by simp at h
  | k :: ks, l :: ls, h => by
    rw [List.map_cons, List.map_cons] at h
    obtain ⟨h1, h2⟩ := List.cons.inj h
    rw [V.int.inj h1, map_int_inj h2]
theorem all_range_eq (ks ls : List Int) : ((List.range (min ks.length ls.length)).all (fun j => decide (ks[j]? = ls[j]?)) && ks.length == ls.length) = decide (ks = ls) := by
  rw [Bool.eq_iff_iff]
  simp only [Bool.and_eq_true, List.all_eq_true, List.mem_range, decide_eq_true_eq, beq_iff_eq]
  constructor
  · rintro ⟨h1, h2⟩
    refine List.ext_getElem? fun i => ?_
    by_cases hi : i < ks.length
    · exact h1 i (by (first | lia | omega))
    · rw [List.getElem?_eq_none_iff.mpr (by (first | lia | omega)), List.getElem?_eq_none_iff.mpr (by (first | lia | omega))]
  · rintro rfl
    exact ⟨fun _ _ => rfl, rfl⟩

theorem ints_get {ks : List Int} {its : List Value} (r : Vals (ks.map V.int) its) {j : Nat} (h : j < its.toArray.size) : ∃ k t, ks[j]? = some k ∧ its.toArray[j] = Value.int k t := by
  have hl := r.length
  rw [List.length_map] at hl
  have hj : j < its.length := by simpa using h
  have hk : j < ks.length := by (first | lia | omega)
  obtain ⟨u, hu, ru⟩ := r.get (i := j) (x := V.int ks[j]) (by rw [List.getElem?_map, List.getElem?_eq_getElem hk]; rfl)
  obtain ⟨t, rfl⟩ := ru
  refine ⟨ks[j], t, List.getElem?_eq_getElem hk, ?_⟩
  have : its[j]? = some its[j] := List.getElem?_eq_getElem hj
  rw [this] at hu
  simpa using Option.some.inj hu

section
variable {X : Cx} {pins : List (Addr × Obj)} {σ : St} {H : Hp} {s : Shared} {A : Around}
theorem eqAt_tups {t u : Addr} {ks ls : List Int} (I : Inv X pins σ H s) (h1 : SqT X.K H t (ks.map V.int)) (h2 : SqT X.K H u (ls.map V.int)) (hu : A.units < cLine) : SeqAt.EqAt A s (.ref t) (.ref u) (decide (ks = ls)) := by
  by_cases e : t = u
  · subst e
    have q := I.tuple_inj h1 h2
    have q2 : ks = ls := map_int_inj q
    rw [q2, decide_eq_true rfl]
    exact SeqAt.EqAt.same _
  · obtain ⟨its, r1, p1, _⟩ := I.tuple h1
    obtain ⟨jts, r2, p2, _⟩ := I.tuple h2
    have l1 := r1.length
    have l2 := r2.length
    rw [List.length_map] at l1 l2
    have key := SeqAt.RcAt.tuples (A := A) (s := s) (l := t) (b := u) (items := its.toArray) (items2 := jts.toArray) (e := fun j => decide (ks[j]? = ls[j]?)) p1 p2 hu (fun j g1 g2 => by
      obtain ⟨k, t1, e1, e2⟩ := ints_get r1 g1
      obtain ⟨l, t2, e3, e4⟩ := ints_get r2 g2
      rw [e2, e4]
      show SeqAt.EqAt _ _ _ _ (decide (ks[j]? = ls[j]?))
      rw [e1, e3]
      have z := SeqAt.EqAt.int_int (A := A.in1) (s := s) k t1 l t2
      have z2 : (k == l) = decide (some k = some l) := by
        by_cases q : k = l
        · subst q; simp
        · rw [decide_eq_false (fun z => q (Option.some.inj z)), beq_eq_false_iff_ne.mpr q]
      rw [← z2]
      exact z)
    have key' := SeqAt.EqAt.of_refs e key
    have e1 : its.toArray.size = ks.length := by simp [l1]
    have e2 : jts.toArray.size = ls.length := by simp [l2]
    rw [e1, e2, all_range_eq] at key'
    exact key'
end

/-- the tuples at ts hold the ints kss -/
abbrev Tups (H : Hp) : List Addr → List (List Int) → Prop := Paired fun t ks => H t = some (.tup (ks.map V.int))
theorem Tups.same {H H' : Hp} (e : ∀ b xs, H b = some (.tup xs) → H' b = some (.tup xs)) {ts : List Addr} {kss : List (List Int)} (h : Tups H ts kss) : Tups H' ts kss := Paired.mapP h fun _ _ z => e _ _ z
theorem Tups.length {H : Hp} {ts : List Addr} {kss : List (List Int)} (h : Tups H ts kss) : ts.length = kss.length := Paired.length h
theorem Tups.append {H : Hp} : ∀ {ts us : List Addr} {kss lss : List (List Int)}, Tups H ts kss → Tups H us lss → Tups H (ts ++ us) (kss ++ lss)
  | _, _, _, _, .nil, b => b
  | _, _, _, _, .cons h a, b => .cons h (Tups.append a b)
theorem Tups.erase {H : Hp} : ∀ {ts : List Addr} {kss : List (List Int)} (i : Nat), Tups H ts kss → Tups H (ts.eraseIdx i) (kss.eraseIdx i)
  | _, _, _, .nil => .nil
  | _, _, 0, .cons _ r => r
  | _, _, i + 1, .cons h r => .cons h (Tups.erase i r)
theorem Tups.get {H : Hp} : ∀ {ts : List Addr} {kss : List (List Int)} {i : Nat} {t : Addr}, Tups H ts kss → ts[i]? = some t → ∃ ks, kss[i]? = some ks ∧ H t = some (.tup (ks.map V.int))
  | _, _, _, _, .nil, e => by simp at e
  | _, _, 0, _, .cons h _, e => by simp at e; subst e; exact ⟨_, rfl, h⟩
  | _, _, i + 1, t, .cons _ r, e => by
    obtain ⟨ks, h1, h2⟩ := Tups.get (i := i) (t := t) r (by simpa using e)
    exact ⟨ks, by simpa using h1, h2⟩
theorem Tups.vals {H : Hp} : ∀ {ts : List Addr} {kss : List (List Int)} {its : List Value}, Tups H ts kss → Vals (ts.map V.ref) its → its = ts.map Value.ref
  | _, _, _, .nil, r => by cases r; rfl
  | _, _, _, .cons _ q, r => by
    cases r with
    | cons a b =>
      cases a
      rw [List.map_cons, Tups.vals q b]

/-- is the tuple at the value v the one of ks -/
def isK (H : Hp) (ks : List Int) (v : Value) : Bool := match v with
  | .ref a => (match H a with
    | some (.tup xs) => decide (xs = ks.map V.int)
    | _ => false)
  | _ => false
theorem isK_of {H : Hp} {t : Addr} {ks ls : List Int} (h : H t = some (.tup (ls.map V.int))) : isK H ks (.ref t) = decide (ls = ks) := by
  unfold isK
  simp only [h]
  by_cases q : ls = ks
  · subst q; simp
  · rw [decide_eq_false q, decide_eq_false fun z => q (map_int_inj z)]
theorem any_isK {H : Hp} {ks : List Int} : ∀ {ts : List Addr} {kss : List (List Int)}, Tups H ts kss → (ts.map Value.ref).any (isK H ks) = decide (ks ∈ kss)
  | _, _, .nil => by simp
  | t :: _, l :: _, .cons h r => by
    rw [List.map_cons, List.any_cons, any_isK r, isK_of h]
    by_cases q : l = ks
    · subst q; simp
    · rw [decide_eq_false q, Bool.false_or]
      have q' : ¬ ks = l := fun z => q z.symm
      simp [q']

section
variable {X : Cx}
theorem mem_eqT {pins : List (Addr × Obj)} {σ : St} {H : Hp} {s : Shared} {A : Around} (I : Inv X pins σ H s) {t : Addr} {ks : List Int} (ht : H t = some (.tup (ks.map V.int))) (hu : A.units < cLine) : ∀ {ts : List Addr} {kss : List (List Int)}, Tups H ts kss →
    ∀ y ∈ (ts.map Value.ref).toArray, SeqAt.EqAt A s y (.ref t) (isK H ks y) := by
  intro ts kss h y hy
  obtain ⟨u, hm, rfl⟩ := List.mem_map.mp (by simpa using hy)
  obtain ⟨i, hi⟩ := List.getElem?_of_mem hm
  obtain ⟨ls, _, hls⟩ := h.get hi
  rw [isK_of hls]
  exact eqAt_tups I (SqT.of hls) (SqT.of ht) hu

/-- t in a list of tuples of ints -/
def rInT (neg : Bool) : R2 := fun x y H Q => ∃ t p ks ts kss, x = .ref t ∧ y = .ref p ∧ H t = some (.tup (ks.map V.int)) ∧ H p = some (.lst (ts.map V.ref)) ∧ Tups H ts kss ∧ Q (.bl (if neg then !decide (ks ∈ kss) else decide (ks ∈ kss))) H
theorem op_inT (hu : X.A.units + 1 < cLine) : OpR X (compareOp .In) (rInT false) := by
  intro pins s σ H x y v u Q I rx ry h
  obtain ⟨t, p, ks, ts, kss, rfl, rfl, ht, hp, hT, q⟩ := h
  cases rx
  cases ry
  obtain ⟨its, r, pl, _⟩ := I.list (SqL.of hp)
  have e := hT.vals r
  subst e
  refine SeqAt.in_listAt (isK H ks) pl.isList (mem_eqT I ht hu hT) ?_
  rw [show (ts.map Value.ref).toArray.any (isK H ks) = (ts.map Value.ref).any (isK H ks) by simp, any_isK hT]
  exact ⟨.bl _, H, I, rfl, q⟩

/-! ### two lists of flat items -/
def eqVs (xs ys : List V) : Bool := xs.length == ys.length && (List.range xs.length).all fun j => match xs[j]?, ys[j]? with
  | some x, some y => eqV x y
  | _, _ => false
theorem flat_get {xs : List V} {its : List Value} (r : Vals xs its) (f : xs.all flatV = true) {j : Nat} (h : j < its.toArray.size) : ∃ x, xs[j]? = some x ∧ flatV x = true ∧ RelV x its.toArray[j] := by
  have hl := r.length
  have hj : j < its.length := by simpa using h
  have hk : j < xs.length := by (first | lia | omega)
  obtain ⟨u, hu, ru⟩ := r.get (i := j) (x := xs[j]) (List.getElem?_eq_getElem hk)
  refine ⟨xs[j], List.getElem?_eq_getElem hk, List.all_eq_true.mp f _ (List.getElem_mem hk), ?_⟩
  have : its[j]? = some its[j] := List.getElem?_eq_getElem hj
  rw [this] at hu
  have e : its[j] = u := Option.some.inj hu
  simpa [e] using ru
def rEqL (K : PySem.W.Frag) (neg : Bool) : R2 := fun x y H Q => ∃ p q xs ys, x = .ref p ∧ y = .ref q ∧ SqL K H p xs ∧ SqL K H q ys ∧ xs.all flatV = true ∧ ys.all flatV = true ∧ Q (.bl (if neg then !eqVs xs ys else eqVs xs ys)) H
theorem op_eqL (hu : X.A.units < cLine) : OpR X (compareOp .Eq) (rEqL X.K false) := by
  intro pins s σ H x y v u Q I rx ry h
  obtain ⟨p, q, xs, ys, rfl, rfl, hp, hq, fx, fy, k⟩ := h
  cases rx
  cases ry
  obtain ⟨its, r1, p1, _⟩ := I.list hp
  obtain ⟨jts, r2, p2, _⟩ := I.list hq
  have l1 := r1.length
  have l2 := r2.length
  by_cases hl : xs.length = ys.length
  · refine SeqAt.eq_listAt (e := fun j => match xs[j]?, ys[j]? with | some x, some y => eqV x y | _, _ => false) p1.isList p2.isList (by simp; (first | lia | omega)) hu (fun j g1 g2 => ?_) ?_
    · obtain ⟨a, e1, f1, ra⟩ := flat_get r1 fx g1
      obtain ⟨b, e2, f2, rb⟩ := flat_get r2 fy g2
      rw [e1, e2]
      exact eqAt_V ra rb f1 f2
    · refine ⟨.bl _, H, I, rfl, ?_⟩
      have e : its.toArray.size = xs.length := by simp [l1]
      rw [e]
      have k' : Q (.bl (eqVs xs ys)) H := k
      unfold eqVs at k'
      rw [show (xs.length == ys.length) = true from by simp [hl], Bool.true_and] at k'
      exact k'
  · refine SeqAt.eq_list_lengthsAt p1.isList p2.isList (by simp; (first | lia | omega)) hu ⟨.bl _, H, I, rfl, ?_⟩
    have k' : Q (.bl (eqVs xs ys)) H := k
    unfold eqVs at k'
    rw [show (xs.length == ys.length) = false from by simp [hl], Bool.false_and] at k'
    exact k'
end

theorem eqVs_self (xs : List V) (h : xs.all flatV = true) : eqVs xs xs = true := by
  unfold eqVs
  rw [beq_self_eq_true, Bool.true_and, List.all_eq_true]
  intro j hj
  have hj' : j < xs.length := List.mem_range.mp hj
  rw [List.getElem?_eq_getElem hj']
  have f := List.all_eq_true.mp h _ (List.getElem_mem hj')
  cases e : xs[j] <;> rw [e] at f <;> first | (simp [eqV]; done) | cases f

/-! ### list.remove of a tuple of ints -/
section
open PySem.MeetsSeq

end


section
variable {X : Cx}
end
end L2
set_option Elab.async false
set_option linter.all false
set_option maxRecDepth 100000
set_option maxHeartbeats 4000000
namespace L2
open PySem PySem.Spec PyProof.Rows

/-! ### own part 3: list comprehensions, one clause over a name -/
theorem thx {α : Type} {t : Sem α} {Q Q' : α → Shared → Prop} {M : Model} {A : Around} {E : Value → Shared → Prop} {s : Shared} (h : wpAny M A t Q (fun _ _ => False) s) (hQ : ∀ a s, Q a s → Q' a s) : wpAny M A t Q' E s := wpAny_mono h hQ fun _ _ z => z.elim

/-- the cells that the block takes with it -/
def clOf (names : List (Str × NameKind)) (cells : List (Str × Addr)) (acc : List (Str × Addr)) : List (Str × Addr) := match names with
  | [] => acc
  | (n, k) :: r => clOf r cells (if k = .free then (match cells.lookup n with | some c => (n, c) :: acc | none => acc) else acc)
theorem clOf_sub {cells : List (Str × Addr)} : ∀ {names : List (Str × NameKind)} {acc : List (Str × Addr)}, (∀ y c, acc.lookup y = some c → cells.lookup y = some c) → ∀ y c, (clOf names cells acc).lookup y = some c → cells.lookup y = some c
  | [], _, h => h
  | (n, k) :: r, acc, h => by
    unfold clOf
    refine clOf_sub ?_
    intro y c e
    split at e
    · split at e
      · rename_i c' hc'
        rw [List.lookup_cons] at e
        split at e
        · rename_i q
          cases e
          rw [eq_of_beq q]
          exact hc'
        · exact h y c e
      · exact h y c e
    · exact h y c e
theorem clOf_keeps {cells : List (Str × Addr)} : ∀ {names : List (Str × NameKind)} {acc : List (Str × Addr)} {y : Str} {c : Addr}, acc.lookup y = some c → ∃ c', (clOf names cells acc).lookup y = some c'
  | [], _, _, c, h => ⟨c, h⟩
  | (n, k) :: r, acc, y, c, h => by
    unfold clOf
    split
    · split
      · rename_i c' hc'
        by_cases q : (y == n) = true
        · exact clOf_keeps (c := c') (by rw [List.lookup_cons, q])
        · refine clOf_keeps (c := c) ?_
          rw [List.lookup_cons]
          split
          · rename_i q'
            exact absurd q' q
          · exact h
      · exact clOf_keeps h
    · exact clOf_keeps h
theorem clOf_has {cells : List (Str × Addr)} {y : Str} {c : Addr} (hc : cells.lookup y = some c) : ∀ {names : List (Str × NameKind)} {acc : List (Str × Addr)}, (y, NameKind.free) ∈ names → ∃ c', (clOf names cells acc).lookup y = some c'
  | (n, k) :: r, acc, h => by
    unfold clOf
    rcases List.mem_cons.mp h with e | h'
    · cases e
      rw [if_pos rfl, hc]
      exact clOf_keeps (c := c) (by rw [List.lookup_cons, beq_self_eq_true])
    · exact clOf_has hc h'

abbrev compCx (X : Cx) (N' : List Str) (scope : Scope) (cl : List (Str × Addr)) (Ca : Addr) (s2 : Shared) (H2 : Hp) (fp : List Addr) (pl : List (Addr × Obj)) : Cx :=
  { X with N := N', s₀ := s2, H₀ := H2, env := compEnvC scope cl Ca X.env, outer := X.stack, ex := fp, fn := fun _ => false, pn := pl, xe := fun _ _ => False }

/-- the tests of a clause -/
def PTs (Y : Cx) (ifs : List Expr) (tt : TT) : Prop :=
  ∀ (pins : List (Addr × Obj)) (s : Shared) (σ : St) (H : Hp) (Q : Bool → Hp → Prop), Inv Y pins σ H s → tt σ H Q →
    wpAny (model Y.prog Y.w) Y.A (forIn ifs true fun c r => if r = true then do let ok ← isTrue c Y.env (eval c Y.env); pure (ForInStep.yield ok) else pure (ForInStep.yield r)) (TP Y pins σ Q) Y.xe s
def tYes : TT := fun _ H Q => Q true H
theorem pts_nil {Y : Cx} : PTs Y [] tYes := fun _ _ _ H _ I h => wpAny_tests_nil ⟨H, I, h⟩
theorem pts_one {Y : Cx} {c : Expr} {tt : TT} (h : PT Y c tt) : PTs Y [c] tt := fun pins s σ H Q I q => wpAny_tests_one (h pins s σ H Q I q)

/-- the values that the block sees: its own name, then the names of the def at js -/
def seen (js : List Nat) (σ : St) : St := js.map fun j => (σ[j]?).join

def tComp (wi : TI) (js : List Nat) (tt : TT) (te : TE) : TE := fun σ H Q => wi σ H fun J H1 => ∀ D, H1 D = none → ∃ W : Nat → Nat → List V → Hp → Prop, (∃ m, W 0 m [] (upd H1 D (.lst []))) ∧
  ∀ i m ys H, W i m ys H → H D = some (.lst ys) ∧ ys.length < sizeLine ∧ ((J.stop i H ∧ Q (.ref D) H) ∨ (J.go i H ∧ ∀ x H', J.yld i H x H' → tt (some x :: seen js σ) H' fun ok H2 =>
    if ok = true then te (some x :: seen js σ) H2 fun y H3 => H3 D = some (.lst ys) ∧ ∃ m', m' < m ∧ W (i + 1) m' (ys ++ [y]) (upd H3 D (.lst (ys ++ [y])))
    else ∃ m', m' < m ∧ W (i + 1) m' ys H2))

/-- the free names of the block, each a cell of the def, at its slot -/
inductive FrOk (X : Cx) (scope : Scope) : List Str → List Nat → Prop
  | nil : FrOk X scope [] []
  | cons {y : Str} {j : Nat} {fr : List Str} {js : List Nat} (hj : X.N[j]? = some y) (hX : X.env.kindOf y = some .cell ∨ X.env.kindOf y = some .free) (hY : (relabel scope X.env).names.lookup y = some .cell ∨ (relabel scope X.env).names.lookup y = some .free)
      (r : FrOk X scope fr js) : FrOk X scope (y :: fr) (j :: js)
theorem FrOk.at {X : Cx} {scope : Scope} : ∀ {fr : List Str} {js : List Nat}, FrOk X scope fr js → ∀ {k : Nat} {y : Str}, fr[k]? = some y →
    ∃ j, js[k]? = some j ∧ X.N[j]? = some y ∧ (X.env.kindOf y = some .cell ∨ X.env.kindOf y = some .free) ∧ ((relabel scope X.env).names.lookup y = some .cell ∨ (relabel scope X.env).names.lookup y = some .free)
  | _, _, .nil, k, y, e => by simp at e
  | _, _, .cons hj hX hY r, 0, y, e => by simp at e; subst e; exact ⟨_, rfl, hj, hX, hY⟩
  | _, _, .cons _ _ _ r, k + 1, y, e => by
    obtain ⟨j, h⟩ := FrOk.at r (k := k) (y := y) (by simpa using e)
    exact ⟨j, by simpa using h⟩
theorem FrOk.len {X : Cx} {scope : Scope} : ∀ {fr : List Str} {js : List Nat}, FrOk X scope fr js → fr.length = js.length
  | _, _, .nil => rfl
  | _, _, .cons _ _ _ r => by simp [FrOk.len r]

theorem relabel_lookup {scope : Scope} {env : Env} {y : Str} (h : (relabel scope env).names.lookup y = some .cell ∨ (relabel scope env).names.lookup y = some .free) (hc : ∀ z ∈ scope.names, z.2 ≠ .cell) : (y, NameKind.free) ∈ scope.names := by
  have aux : ∀ names : List (Str × NameKind), (∀ z ∈ names, z.2 ≠ .cell) → ((names.map fun (n, k) => if (k == .free && env.scope.kind == .function && env.kindOf n == some .cell) then (n, NameKind.cell) else (n, k)).lookup y = some .cell ∨
      (names.map fun (n, k) => if (k == .free && env.scope.kind == .function && env.kindOf n == some .cell) then (n, NameKind.cell) else (n, k)).lookup y = some .free) → (y, NameKind.free) ∈ names := by
    intro names
    induction names with
    | nil => intro _ h; simp at h
    | cons a r ih =>
      obtain ⟨n, k⟩ := a
      intro hc h
      have hk : k ≠ .cell := hc (n, k) List.mem_cons_self
      have ih' := ih fun z hz => hc z (List.mem_cons_of_mem _ hz)
      rw [List.map_cons] at h
      by_cases q : (y == n) = true
      · have e : y = n := eq_of_beq q
        subst e
        by_cases hf : k = .free
        · rw [hf]; exact List.mem_cons_self
        · have hb : (k == NameKind.free) = false := by
            cases k <;> first | rfl | exact absurd rfl hf
          simp only [hb, Bool.false_and, Bool.false_eq_true, if_false, List.lookup_cons, q] at h
          rcases h with h | h
          · exact absurd (Option.some.inj h) hk
          · exact absurd (Option.some.inj h) hf
      · refine List.mem_cons_of_mem _ (ih' ?_)
        have qf : (y == n) = false := by simpa using q
        dsimp only at h ⊢
        by_cases hc : (k == NameKind.free && env.scope.kind == ScopeKind.function && env.kindOf n == some NameKind.cell) = true
        · rw [if_pos hc] at h
          simp only [List.lookup_cons, qf] at h
          exact h
        · rw [if_neg hc] at h
          simp only [List.lookup_cons, qf] at h
          exact h
  exact aux scope.names hc h

/-- behind the block: the def's own state, and the block's namespace at Ca, which nobody else knows -/
structure Blk (X : Cx) (pins : List (Addr × Obj)) (σ : St) (Ca : Addr) (H' : Hp) (s' : Shared) : Prop where
  inv : Inv X pins σ H' s'
  ns : ∃ m, s'.heap.Ns Ca m
  hn : H' Ca = none
  hL : Ca ≠ X.env.locals
  h1 : X.s₀.heap.objs.size ≤ Ca
  h2 : ∀ x c, X.env.cells.lookup x = some c → c ≠ Ca
  h3 : ∀ p ∈ X.pn ++ pins, p.1 ≠ Ca
theorem Blk.change {X : Cx} {pins : List (Addr × Obj)} {σ : St} {Ca : Addr} {H' : Hp} {s' : Shared} (B : Blk X pins σ Ca H' s') {h' : Heap} (hs : Heap.SameBut Ca s'.heap h') : Inv X pins σ H' { s' with heap := h' } :=
  B.inv.turned (t' := s'.toks) (fun b o hb e => (hs.2 b hb).trans e) B.hn B.hL (.inr B.h1) B.h2 B.h3

theorem comp_core {X : Cx} {elt iter : Expr} {x : Str} {px pos : Pos} {ifs : List Expr} {scope so : Scope} {fr : List Str} {js : List Nat} {wi : TI} {tt : TT} {te : TE} (hc : X.calm = true) (hi : PI X (.Name x px) iter wi)
    (hso : X.env.scope = so) (hFr : FrOk X scope fr js) (hnd : (x :: fr).Nodup)
    (ht : ∀ (cl : List (Str × Addr)) (Ca : Addr) (s2 : Shared) (H2 : Hp) (fp : List Addr) (pl : List (Addr × Obj)), PTs (compCx X (x :: fr) scope cl Ca s2 H2 fp pl) ifs tt)
    (he : ∀ (cl : List (Str × Addr)) (Ca : Addr) (s2 : Shared) (H2 : Hp) (fp : List Addr) (pl : List (Addr × Obj)), PE (compCx X (x :: fr) scope cl Ca s2 H2 fp pl) elt te)
    (hclos : closureFor scope X.env = pure (clOf scope.names X.env.cells []) := by rfl) (hkind : scope.kind = .function := by rfl)
    (hnames : (scope.names.all fun y => (y.2 != NameKind.cell) && (y.2 != NameKind.local || scope.names.lookup y.1 == some NameKind.local) && (y.2 != NameKind.free || so.names.lookup y.1 == some NameKind.cell || so.names.lookup y.1 == some NameKind.free)) = true := by decide +kernel)
    (hx : scope.names.lookup x = some .local := by rfl) (hs : ∀ x, foldedSetIterable iter X.env x = pure x := by intro _; rfl) :
    ∀ {pins : List (Addr × Obj)} {s : Shared} {σ : St} {H : Hp} {Q : VK} {use : Option (Value → Sem Unit)} {Q0 : Value → Shared → Prop}, Inv X pins σ H s → tComp wi js tt te σ H Q →
      (∀ D Ca H' s', Blk X pins σ Ca H' s' → Q (.ref D) H' → compPost (model X.prog X.w) X.A X.xe use Q0 (.ref D) Ca (.ok .next) s') →
      wpAny (model X.prog X.w) X.A (comprehension (.ListComp elt [⟨.Name x px, iter, ifs, 0⟩] scope pos) scope X.env (firstIterPos [⟨.Name x px, iter, ifs, 0⟩] pos) (newList []) false (eval iter X.env) use) Q0 X.xe s := by
  intro pins s σ H Q use Q0 I h finQ
  have hn1 : ∀ y ∈ scope.names, y.2 ≠ .cell := fun y hy z => by
    have := List.all_eq_true.mp hnames y hy
    rw [z] at this
    simp at this
  have hn2 : ∀ y ∈ scope.names, y.2 = .local → scope.names.lookup y.1 = some .local := fun y hy z => by
    have := List.all_eq_true.mp hnames y hy
    rw [z] at this
    simpa using this
  have hn3 : ∀ y, (y, NameKind.free) ∈ scope.names → X.env.kindOf y = some .cell ∨ X.env.kindOf y = some .free := fun y hy => by
    have := List.all_eq_true.mp hnames _ hy
    show X.env.scope.names.lookup y = some .cell ∨ X.env.scope.names.lookup y = some .free
    rw [hso]
    simpa using this
  refine wpAny_comprehension_free (use := use) rfl hs hclos hkind hn2 (thn (hi pins s σ H _ I h) fun v s1 h1 => thn h1 fun itv s2 h2 => ?_)
  obtain ⟨it, fp, tn, J, H2, e, I2, T, st2, f2, q⟩ := h2
  subst e
  have hfp : ∀ b ∈ fp, b < s2.heap.objs.size := fun b hb => by
    obtain ⟨o, eo, _⟩ := T.obj _ _ st2 b hb
    exact Heap.lt_size eo
  refine wpAny_newObj_type (wpAny_newFunctionEnv hn1 (by intro y hy; simp at hy) (fun h1 hns hsb => ?_) hkind)
  dsimp only at hns hsb ⊢
  have hCa : (s2.heap.push { cls := .type "list", dict := none, data := .seq ([] : List Value).toArray }).objs.size = s2.heap.objs.size + 1 := Heap.size_push _ _
  rw [hCa] at hns hsb ⊢
  have keep : ∀ b o, s2.heap.get? b = some o → h1.get? b = some o := fun b o eb => by
    have lt := Heap.lt_size eb
    refine (hsb.2 b (Nat.ne_of_lt (Nat.lt_succ_of_lt lt))).trans ?_
    exact Heap.get?_push_of_some _ (Heap.get?_push_of_some _ eb)
  have hD : h1.get? s2.heap.objs.size = some { cls := .type "list", data := .seq ([] : List Value).toArray } := by
    refine (hsb.2 _ (Nat.ne_of_lt (Nat.lt_succ_self _))).trans ?_
    exact Heap.get?_push_of_some _ (Heap.get?_push_size _ rfl)
  have hH2D : H2 s2.heap.objs.size = none := I2.hok.fresh (Nat.le_refl _)
  have hlL : X.env.locals < s2.heap.objs.size := I2.lt
  -- the block's context
  have clsub := clOf_sub (cells := X.env.cells) (names := scope.names) (acc := []) (fun y c z => nomatch z)
  have okY : (compCx X (x :: fr) scope (clOf scope.names X.env.cells []) (s2.heap.objs.size + 1) s2 H2 fp (X.pn ++ pins)).Ok := by
    refine ⟨I.ok.mod, hkind, I.ok.glob, I.ok.blt, Nat.le_succ _, fun y z c e1 e2 => I.ok.inj y z c (clsub y c e1) (clsub z c e2), fun y hy => ?_, (fun y c z => nomatch z), I.ok.hd, I.ok.frames, .inl rfl, fun b hb => ?_, I2.bs, ?_, fun b o e1 hb => ?_, fun b hb z => ?_, I2.stack, fun b hb => I2.stkFree b hb⟩
    · have m := relabel_lookup hy hn1
      obtain ⟨c, hc'⟩ := I.ok.has y (hn3 y m)
      exact clOf_has hc' m
    · refine ⟨Nat.ne_of_lt (Nat.lt_succ_of_lt (hfp b hb)), fun y c e1 => (f2 b hb).2.2.2.2.1 y c (clsub y c e1)⟩
    · exact Nat.le_trans I2.ok.bsz I2.sz
    · rcases (f2 b hb).2.2.2.1 with z | z
      · exact I.ok.noex b o e1 z
      · exact absurd (Nat.lt_of_lt_of_le (Heap.lt_size (I.ok.bs b o e1).1) z) (Nat.lt_irrefl _)
    · rcases List.mem_cons.mp (I2.stkSub b z) with z | z
      · exact (f2 b hb).2.1 z
      · exact (f2 b hb).2.2.1 z
  have pinOk : ∀ p ∈ X.pn ++ pins, s2.heap.get? p.1 = some p.2 ∧ H2 p.1 = none ∧ p.1 ∉ frs X.stack ∧ ∀ v, p.2.data ≠ .cell v := fun p hp => by
    obtain ⟨z1, z2, z3, z4, z5⟩ := I2.pin p hp
    refine ⟨z1, z2, fun z => ?_, z5⟩
    rcases List.mem_cons.mp (I2.stkSub p.1 z) with z | z
    · exact z3 z
    · exact z4 z
  have IY : Inv (compCx X (x :: fr) scope (clOf scope.names X.env.cells []) (s2.heap.objs.size + 1) s2 H2 fp (X.pn ++ pins)) [] (none :: seen js σ) (upd H2 s2.heap.objs.size (.lst [])) { s2 with heap := h1, toks := s2.toks + ([] : List (Str × Value)).length } := by
    obtain ⟨m0, hn0, hl0⟩ := I2.loc
    refine ⟨okY, rfl, I2.bare, Un.laid keep (Nat.le_refl _) hH2D, ⟨_, hns, fun k y v e1 e2 e3 => ?_⟩, fun y c e1 => ?_, ?_, fun y c e1 => ?_, fun p hp => ?_, ?_, ?_⟩
    · cases k with
      | zero => simp at e2
      | succ k =>
        have e1' : fr[k]? = some y := by simpa using e1
        obtain ⟨j, hj, hjN, hX, hY⟩ := hFr.at e1'
        have e2' : (seen js σ)[k]? = some (some v) := by simpa using e2
        unfold seen at e2'
        rw [List.getElem?_map, hj] at e2'
        have e2'' : (σ[j]?).join = some v := Option.some.inj e2'
        have e4 : σ[j]? = some (some v) := by
          cases hσ : σ[j]? with
          | none => rw [hσ] at e2''; cases e2''
          | some o => rw [hσ] at e2''; cases o with
            | none => cases e2''
            | some w' => cases e2''; rfl
        obtain ⟨u, ru, lu⟩ := hl0 j y v hjN e4 (by rcases hX with z | z; exact .inr (.inl z); exact .inr (.inr z))
        refine ⟨u, ru, .inr ⟨hY, ?_⟩⟩
        rcases lu with ⟨z, _⟩ | ⟨_, c, hc1, hc2⟩
        · rcases hX with q' | q' <;> · rw [q'] at z; cases z
        · obtain ⟨c', hc'⟩ := clOf_has (acc := []) hc1 (relabel_lookup hY hn1)
          have e5 := clsub y c' hc'
          rw [hc1] at e5
          cases e5
          exact ⟨c, hc', hc2.keeps keep⟩
    · obtain ⟨v, z⟩ := I2.cell y c (clsub y c e1)
      exact ⟨v, z.keeps keep⟩
    · show upd H2 s2.heap.objs.size (.lst []) (s2.heap.objs.size + 1) = none
      rw [upd_ne (Nat.ne_of_gt (Nat.lt_succ_self _))]
      exact I2.hok.fresh (Nat.le_succ _)
    · have e2 := clsub y c e1
      obtain ⟨v, o, z, _⟩ := I2.cell y c e2
      rw [upd_ne (Nat.ne_of_lt (Heap.lt_size z))]
      exact I2.freeC y c e2
    · have hp' : p ∈ X.pn ++ pins := by simpa using hp
      obtain ⟨z1, z2, z3, z4⟩ := pinOk p hp'
      have lt := Heap.lt_size z1
      refine ⟨keep _ _ z1, ?_, Nat.ne_of_lt (Nat.lt_succ_of_lt lt), z3, z4⟩
      rw [upd_ne (Nat.ne_of_lt lt)]
      exact z2
    · refine I2.hok.laid keep (Nat.le_refl _) ⟨Nat.zero_le _, [], 0, .nil, hD⟩
    · show (none :: seen js σ).length = (x :: fr).length
      unfold seen
      rw [List.length_cons, List.length_map, List.length_cons, hFr.len]
  obtain ⟨W, ⟨m0, w0⟩, turn⟩ := q s2.heap.objs.size hH2D
  have statY : ∀ {H' : Hp}, (∀ b ∈ fp, H' b = none) → ∀ b ∈ fp, FpOk (compCx X (x :: fr) scope (clOf scope.names X.env.cells []) (s2.heap.objs.size + 1) s2 H2 fp (X.pn ++ pins)) [] H' b := fun hn b hb => by
    refine ⟨hn b hb, (okY.exf b hb).1, okY.exfs b hb, .inl hb, (okY.exf b hb).2, fun p hp => ?_⟩
    exact (f2 b hb).2.2.2.2.2 p (by simpa using hp)
  have fin : ∀ {σ' : St} {H' : Hp} {s' : Shared}, Inv (compCx X (x :: fr) scope (clOf scope.names X.env.cells []) (s2.heap.objs.size + 1) s2 H2 fp (X.pn ++ pins)) [] σ' H' s' → Q (.ref s2.heap.objs.size) H' →
      compPost (model X.prog X.w) X.A X.xe use Q0 (.ref s2.heap.objs.size) (s2.heap.objs.size + 1) (.ok .next) s' := fun {σ' H' s'} J q => by
    obtain ⟨m, hnm, _⟩ := J.loc
    have J' : Inv X pins σ H' s' := I2.call' J.os (J.base : Un (frs X.stack) fp H2 H' s2.heap s'.heap) J.hok J.bare fun b hb => ⟨(f2 b hb).2.2.2.1, (f2 b hb).2.1, (f2 b hb).2.2.2.2.1, (f2 b hb).2.2.2.2.2⟩
    refine finQ _ _ H' s' ⟨J', ⟨m, hnm⟩, J.free, Ne.symm (Nat.ne_of_lt (Nat.lt_succ_of_lt hlL)), Nat.le_succ_of_le I2.sz, fun y c ec => ?_, fun p hp => ?_⟩ q
    · obtain ⟨v, o, z, _⟩ := I2.cell y c ec
      exact Nat.ne_of_lt (Nat.lt_succ_of_lt (Heap.lt_size z))
    · exact Nat.ne_of_lt (Nat.lt_succ_of_lt (Heap.lt_size (pinOk p hp).1))
  have loop : ∀ s3 : Shared, s3 = { s2 with heap := h1, toks := s2.toks + ([] : List (Str × Value)).length } →
      codeAny (model X.prog X.w) X.A (.compLoop (.ListComp elt [⟨.Name x px, iter, ifs, 0⟩] scope pos) 0 (.ref it) (.ref s2.heap.objs.size) (compEnvC scope (clOf scope.names X.env.cells []) (s2.heap.objs.size + 1) X.env))
        (compPost (model X.prog X.w) X.A X.xe use Q0 (.ref s2.heap.objs.size) (s2.heap.objs.size + 1)) s3 := by
    rintro s3 rfl
    refine codeAny_compLoop_tests (fun n s' => ∃ i ys o H', Inv (compCx X (x :: fr) scope (clOf scope.names X.env.cells []) (s2.heap.objs.size + 1) s2 H2 fp (X.pn ++ pins)) [] (o :: seen js σ) H' s' ∧ tn i s'.heap ∧ (∀ b ∈ fp, H' b = none) ∧ W i n ys H') ?_ m0
      ⟨0, [], none, _, IY, T.keep _ _ _ st2 (fun b _ o z => keep b o z), fun b hb => by rw [upd_ne (Nat.ne_of_lt (hfp b hb))]; exact (f2 b hb).1, w0⟩
    rintro n s3 ⟨i, ys, o, H3, I3, st3, fr3, w3⟩
    obtain ⟨hD3, hlen, hw⟩ := turn i n ys H3 w3
    rcases hw with ⟨stop, qn⟩ | ⟨go, step⟩
    · refine thn (T.done (compCx X (x :: fr) scope (clOf scope.names X.env.cells []) (s2.heap.objs.size + 1) s2 H2 fp (X.pn ++ pins)) rfl rfl rfl hc i [] s3 _ H3 _ I3 (statY fr3) st3 stop) fun r s4 hpt => ?_
      obtain ⟨hr, I4⟩ := hpt
      subst hr
      exact fin I4 qn
    · refine thn (T.item (compCx X (x :: fr) scope (clOf scope.names X.env.cells []) (s2.heap.objs.size + 1) s2 H2 fp (X.pn ++ pins)) rfl rfl rfl hc i [] s3 _ H3 _ I3 (statY fr3) st3 go) fun r s4 hpt => ?_
      obtain ⟨u, hr, h4⟩ := hpt
      subst hr
      show wpAny _ _ (letOwnedTupleGo (.Name x px) (.ref it) u >>= fun _ => assign (.Name x px) _ u) _ _ _
      refine wpAny_bind (thn h4 fun _ s5 hpt => ?_)
      obtain ⟨xv, H5, I5, r5, y5, st5, fr5⟩ := hpt
      have I5' := I5.pinned (statY fr5) (T.obj _ _ st5)
      have hg : PG (compCx X (x :: fr) scope (clOf scope.names X.env.cells []) (s2.heap.objs.size + 1) s2 H2 fp (X.pn ++ pins)) (.Name x px) (gName 0) := pg_name (i := 0) hnd rfl (.inl (lookup_relabel_local hx)) (.inr (lookup_relabel_local hx))
      refine thx (hg _ s5 _ H5 xv u (fun σ' H' => σ' = some xv :: seen js σ ∧ H' = H5) I5' r5 ⟨rfl, rfl⟩) fun _ s6 hpt => ?_
      obtain ⟨σ6, H6, I6, e6, e6'⟩ := hpt
      subst e6 e6'
      have again : ∀ {H8 : Hp} {s8 : Shared} {ys' : List V}, Inv (compCx X (x :: fr) scope (clOf scope.names X.env.cells []) (s2.heap.objs.size + 1) s2 H2 fp (X.pn ++ pins)) ([] ++ pinsAt fp s5.heap) (some xv :: seen js σ) H8 s8 → (∃ m', m' < n ∧ W (i + 1) m' ys' H8) →
          ∃ m, m < n ∧ ∃ i ys o H', Inv (compCx X (x :: fr) scope (clOf scope.names X.env.cells []) (s2.heap.objs.size + 1) s2 H2 fp (X.pn ++ pins)) [] (o :: seen js σ) H' s8 ∧ tn i s8.heap ∧ (∀ b ∈ fp, H' b = none) ∧ W i m ys H' := fun {H8 s8 ys'} I8 ⟨m', hm, w8⟩ => by
        refine ⟨m', hm, i + 1, ys', some xv, H8, I8.unpinned, T.keep _ _ _ st5 fun b hb o e => (I8.pin (b, o) (List.mem_append_right _ (List.mem_append_right _ (mem_pinsAt hb e)))).1, fun b hb => ?_, w8⟩
        obtain ⟨o, e, d⟩ := T.obj _ _ st5 b hb
        exact (I8.pin (b, o) (List.mem_append_right _ (List.mem_append_right _ (mem_pinsAt hb e)))).2.1
      refine thx (ht _ _ _ _ _ _ _ s6 _ _ _ I6 (step xv _ y5)) fun ok s7 hpt => ?_
      obtain ⟨H7, I7, q7⟩ := hpt
      cases ok with
      | false =>
        simp only [Bool.false_eq_true, if_false] at q7 ⊢
        exact again I7 q7
      | true =>
        simp only [if_true] at q7 ⊢
        refine thx (he _ _ _ _ _ _ _ s7 _ _ _ I7 q7) fun yv s8 hpt => ?_
        obtain ⟨y, H8, I8, r8, hD8, hm8⟩ := hpt
        refine thx (mt_append _ s8 _ H8 (.ref s2.heap.objs.size) [y] (.ref s2.heap.objs.size) [yv] (fun v H9 => H9 = upd H8 s2.heap.objs.size (.lst (ys ++ [y]))) I8 rfl (.cons r8 .nil) ⟨_, ys, y, rfl, rfl, hD8, hlen, rfl⟩) fun _ s9 hpt => ?_
        obtain ⟨_, H9, I9, _, e9⟩ := hpt
        subst e9
        exact again I9 hm8
  exact codeAny_compStart_list (loop _ rfl) (T.self _ 0 _ _ _ (T.keep _ _ _ st2 fun b _ o z => keep b o z) (loop _ rfl))

theorem pe_comp {X : Cx} {elt iter : Expr} {x : Str} {px pos : Pos} {ifs : List Expr} {scope so : Scope} {fr : List Str} {js : List Nat} {wi : TI} {tt : TT} {te : TE} (hc : X.calm = true) (hi : PI X (.Name x px) iter wi)
    (hso : X.env.scope = so) (hFr : FrOk X scope fr js) (hnd : (x :: fr).Nodup)
    (ht : ∀ (cl : List (Str × Addr)) (Ca : Addr) (s2 : Shared) (H2 : Hp) (fp : List Addr) (pl : List (Addr × Obj)), PTs (compCx X (x :: fr) scope cl Ca s2 H2 fp pl) ifs tt)
    (he : ∀ (cl : List (Str × Addr)) (Ca : Addr) (s2 : Shared) (H2 : Hp) (fp : List Addr) (pl : List (Addr × Obj)), PE (compCx X (x :: fr) scope cl Ca s2 H2 fp pl) elt te)
    (hclos : closureFor scope X.env = pure (clOf scope.names X.env.cells []) := by rfl) (hkind : scope.kind = .function := by rfl)
    (hnames : (scope.names.all fun y => (y.2 != NameKind.cell) && (y.2 != NameKind.local || scope.names.lookup y.1 == some NameKind.local) && (y.2 != NameKind.free || so.names.lookup y.1 == some NameKind.cell || so.names.lookup y.1 == some NameKind.free)) = true := by decide +kernel)
    (hx : scope.names.lookup x = some .local := by rfl) (hs : ∀ x, foldedSetIterable iter X.env x = pure x := by intro _; rfl) :
    PE X (.ListComp elt [⟨.Name x px, iter, ifs, 0⟩] scope pos) (tComp wi js tt te) := by
  intro pins s σ H Q I h
  rw [eval_ListComp]
  refine comp_core hc hi hso hFr hnd ht he hclos hkind hnames hx hs I h fun D Ca H' s' B q => ?_
  obtain ⟨m, hm⟩ := B.ns
  exact ⟨m, hm, fun h' hs' => ⟨.ref D, H', B.change hs', rfl, q⟩⟩

/-- y = [.. for ..]: the store comes ahead of the block's end -/
def tCompSet (i : Nat) (wi : TI) (js : List Nat) (tt : TT) (te : TE) : TS := fun D σ H => tComp wi js tt te σ H fun v H' => D.nx (σ.set i (some v)) H'
theorem ps_compset {X : Cx} {elt iter : Expr} {x y : Str} {px py pos spos : Pos} {i : Nat} {ifs : List Expr} {scope so : Scope} {fr : List Str} {js : List Nat} {wi : TI} {tt : TT} {te : TE} (hc : X.calm = true) (hN : X.N.Nodup) (hiN : X.N[i]? = some y) (hy : X.env.scope.names.lookup y = some .local)
    (hsw : swapsWith (.ListComp elt [⟨.Name x px, iter, ifs, 0⟩] scope pos) (some (.Name y py)) spos.line X.env = pure true) (hi : PI X (.Name x px) iter wi)
    (hso : X.env.scope = so) (hFr : FrOk X scope fr js) (hnd : (x :: fr).Nodup)
    (ht : ∀ (cl : List (Str × Addr)) (Ca : Addr) (s2 : Shared) (H2 : Hp) (fp : List Addr) (pl : List (Addr × Obj)), PTs (compCx X (x :: fr) scope cl Ca s2 H2 fp pl) ifs tt)
    (he : ∀ (cl : List (Str × Addr)) (Ca : Addr) (s2 : Shared) (H2 : Hp) (fp : List Addr) (pl : List (Addr × Obj)), PE (compCx X (x :: fr) scope cl Ca s2 H2 fp pl) elt te)
    (hclos : closureFor scope X.env = pure (clOf scope.names X.env.cells []) := by rfl) (hkind : scope.kind = .function := by rfl)
    (hnames : (scope.names.all fun y => (y.2 != NameKind.cell) && (y.2 != NameKind.local || scope.names.lookup y.1 == some NameKind.local) && (y.2 != NameKind.free || so.names.lookup y.1 == some NameKind.cell || so.names.lookup y.1 == some NameKind.free)) = true := by decide +kernel)
    (hx : scope.names.lookup x = some .local := by rfl) (hs : ∀ x, foldedSetIterable iter X.env x = pure x := by intro _; rfl) :
    PS X (.Assign [.Name y py] (.ListComp elt [⟨.Name x px, iter, ifs, 0⟩] scope pos) spos) (tCompSet i wi js tt te) := by
  intro pins s σ H D I h
  rw [exec_Assign_Name_used _ _ _ _ hsw]
  refine wpAny_bind (wpAny_standAt (wpAny_bind ?_))
  show wpAny _ _ (do let _ ← comprehension (.ListComp elt [⟨.Name x px, iter, ifs, 0⟩] scope pos) scope X.env _ (newList []) false (eval iter X.env) (some (assign (.Name y py) X.env))) _ _ s
  refine wpAny_bind (thn (comp_core (use := some (assign (.Name y py) X.env)) (Q0 := fun _ s' => SP X pins D .next s') hc hi hso hFr hnd ht he hclos hkind hnames hx hs I h fun Da Ca H' s' B q => ?_) fun _ s' hq => wpAny_pure (wpAny_pure hq))
  obtain ⟨m, hm⟩ := B.ns
  show wpAny _ _ (assign (.Name y py) X.env (.ref Da)) _ _ _
  refine wpAny_assign_Name (store_ok2 B.inv hN hiN (.inl hy) (v := .ref Da) rfl (fun s'' I'' hpt => ?_) (.inr hy))
  obtain ⟨a, hsa, ha⟩ := hpt
  have na : Ca ≠ a := by
    rcases ha with rfl | ha
    · exact B.hL
    · exact Ne.symm (B.h2 y a ha)
  refine ⟨m, hm.sameBut hsa na, fun h' hs' => ⟨_, H', ?_, q⟩⟩
  exact I''.turned (t' := s''.toks) (fun b o hb e => (hs'.2 b hb).trans e) B.hn B.hL (.inr B.h1) B.h2 B.h3

/-! ### rules for a block's tests: the written part is named -/
def tTru (K : PySem.W.Frag) (ta : TE) : TT := fun σ H Q => ta σ H fun x H' => ∃ k, TruV K x H' k ∧ Q k H'
theorem pt_truthK (K : PySem.W.Frag) {X : Cx} {a : Expr} {ta : TE} (ha : PE X a ta) (he : ∀ whole, isTrue a X.env whole = (do let v ← whole; standAt a.pos; holding [v] (truthy v))) (h : X.K = K := by rfl) : PT X a (tTru K ta) := by
  subst h
  exact pt_truth ha he
theorem ix_listK (K : PySem.W.Frag) {X : Cx} (h : X.K = K := by rfl) : IxR X (rIxL K) := by
  subst h
  exact ix_list
def tOrT (t u : TT) : TT := fun σ H Q => t σ H Q ∨ u σ H Q
theorem PT.or {X : Cx} {e : Expr} {t u : TT} (h1 : PT X e t) (h2 : PT X e u) : PT X e (tOrT t u) := by
  intro pins s σ H Q I h
  rcases h with h | h
  · exact h1 pins s σ H Q I h
  · exact h2 pins s σ H Q I h
end L2
set_option Elab.async false
set_option linter.all false
set_option maxRecDepth 100000
set_option maxHeartbeats 4000000
namespace TS
open PySem PyProof.Rows
/-! ### own part 6: a list of any length is sorted to a list of the same items -/
def gallop' : Bool → Keyed → Array Keyed → Nat → Nat → Nat → StateT SortSt Sem (Option Nat) := sortPriv% PySem.Builtin.gallop
def mergeLo' : Array Keyed → Array Keyed → StateT SortSt Sem (Array Keyed) := sortPriv% PySem.Builtin.mergeLo
def mergeHi' : Array Keyed → Array Keyed → StateT SortSt Sem (Array Keyed) := sortPriv% PySem.Builtin.mergeHi

def askG (left : Bool) (key : Keyed) (arr : Array Keyed) (base i : Nat) : StateT SortSt Sem (Option Bool) := do
  let z ← elem' arr (base + i)
  if left then lt' z key else return (← lt' key z).map (!·)
theorem gallop_eq (left : Bool) (key : Keyed) (arr : Array Keyed) (base n hint : Nat) : gallop' left key arr base n hint = (do
    let mut last := 0
    let mut far := 1
    let mut lo := 0
    let mut hi := 0
    let some r ← askG left key arr base hint | return none
    if r then
      let top := n - hint
      for _ in [0:n] do
        if far ≥ top then break
        let some q ← askG left key arr base (hint + far) | return none
        if !q then break
        last := far
        far := 2 * far + 1
      lo := hint + last + 1
      hi := hint + min far top
    else
      let top := hint + 1
      for _ in [0:n] do
        if far ≥ top then break
        let some q ← askG left key arr base (hint - far) | return none
        if q then break
        last := far
        far := 2 * far + 1
      lo := hint + 1 - min far top
      hi := hint - last
    for _ in [0:n] do
      if lo ≥ hi then break
      let c := lo + (hi - lo) / 2
      let some q ← askG left key arr base c | return none
      if q then lo := c + 1 else hi := c
    return some hi) := rfl

def setGallop (g : Nat) : StateT SortSt Sem Unit := modify fun s => SortSt.mk' (kindOf s) (arrOf s) (pendingOf s) g (failedOf s)
theorem mergeLo_eq (a b : Array Keyed) : mergeLo' a b = (do
    rule "list.sort.merge-lo"
    let all := a.size + b.size
    let fin (o : Array Keyed) (i j : Nat) := o ++ a.extract i a.size ++ b.extract j b.size
    let finA (o : Array Keyed) (i j : Nat) := o ++ b.extract j b.size ++ a.extract i a.size
    let mut o : Array Keyed := #[← elem' b 0]
    let mut i := 0
    let mut j := 1
    if j == b.size then return fin o i j
    if i + 1 == a.size then return finA o i j
    let mut mg := gallopOf (← get)
    for _ in [0:all] do
      let mut ca := 0
      let mut cb := 0
      for _ in [0:all] do
        let some bw ← lt' (← elem' b j) (← elem' a i) | return fin o i j
        if bw then
          o := o.push (← elem' b j); j := j + 1; cb := cb + 1; ca := 0
          if j == b.size then return fin o i j
          if cb ≥ mg then break
        else
          o := o.push (← elem' a i); i := i + 1; ca := ca + 1; cb := 0
          if i + 1 == a.size then return finA o i j
          if ca ≥ mg then break
      rule "list.sort.gallop"
      mg := mg + 1
      for _ in [0:all] do
        if mg > 1 then mg := mg - 1
        setGallop mg
        let some k ← gallop' false (← elem' b j) a i (a.size - i) 0 | return fin o i j
        ca := k
        if k > 0 then
          o := o ++ a.extract i (i + k); i := i + k
          if i + 1 == a.size then return finA o i j
          if i == a.size then return fin o i j
        o := o.push (← elem' b j); j := j + 1
        if j == b.size then return fin o i j
        let some k ← gallop' true (← elem' a i) b j (b.size - j) 0 | return fin o i j
        cb := k
        if k > 0 then
          o := o ++ b.extract j (j + k); j := j + k
          if j == b.size then return fin o i j
        o := o.push (← elem' a i); i := i + 1
        if i + 1 == a.size then return finA o i j
        if ca < 7 && cb < 7 then break
      mg := mg + 1
      setGallop mg
    unsupported "internal:list.sort.merge-bound") := rfl
theorem mergeHi_eq (a b : Array Keyed) : mergeHi' a b = (do
    rule "list.sort.merge-hi"
    let all := a.size + b.size
    let fin (o : Array Keyed) (i j : Nat) := a.extract 0 i ++ b.extract 0 j ++ o.reverse
    let finB (o : Array Keyed) (i j : Nat) := b.extract 0 j ++ a.extract 0 i ++ o.reverse
    let mut i := a.size - 1
    let mut j := b.size
    let mut o : Array Keyed := #[← elem' a i]
    if i == 0 then return fin o i j
    if j == 1 then return finB o i j
    let mut mg := gallopOf (← get)
    for _ in [0:all] do
      let mut ca := 0
      let mut cb := 0
      for _ in [0:all] do
        let some aw ← lt' (← elem' b (j - 1)) (← elem' a (i - 1)) | return fin o i j
        if aw then
          i := i - 1; o := o.push (← elem' a i); ca := ca + 1; cb := 0
          if i == 0 then return fin o i j
          if ca ≥ mg then break
        else
          j := j - 1; o := o.push (← elem' b j); cb := cb + 1; ca := 0
          if j == 1 then return finB o i j
          if cb ≥ mg then break
      rule "list.sort.gallop"
      mg := mg + 1
      for _ in [0:all] do
        if mg > 1 then mg := mg - 1
        setGallop mg
        let some c ← gallop' false (← elem' b (j - 1)) a 0 i (i - 1) | return fin o i j
        let k := i - c
        ca := k
        if k > 0 then
          o := o ++ (a.extract c i).reverse; i := c
          if i == 0 then return fin o i j
        j := j - 1; o := o.push (← elem' b j)
        if j == 1 then return finB o i j
        let some c ← gallop' true (← elem' a (i - 1)) b 0 j (j - 1) | return fin o i j
        let k := j - c
        cb := k
        if k > 0 then
          o := o ++ (b.extract c j).reverse; j := c
          if j == 1 then return finB o i j
          if j == 0 then return fin o i j
        i := i - 1; o := o.push (← elem' a i)
        if i == 0 then return fin o i j
        if ca < 7 && cb < 7 then break
      mg := mg + 1
      setGallop mg
    unsupported "internal:list.sort.merge-bound") := rfl
theorem mergeAt_eq (i : Nat) : mergeAt' i = (do
    let t ← get
    let (some (sa, na, pw), some (sb, nb, _)) := ((pendingOf t)[i]?, (pendingOf t)[i + 1]?) | unsupported "internal:list.sort.pending"
    set (setPending t (((pendingOf t).setIfInBounds i (sa, na + nb, pw)).eraseIdxIfInBounds (i + 1)))
    let some k ← gallop' false (← elem' (arrOf t) sb) (arrOf t) sa na 0 | return false
    let (sa, na) := (sa + k, na - k)
    if na == 0 then return true
    let some nb ← gallop' true (← elem' (arrOf t) (sa + na - 1)) (arrOf t) sb nb (nb - 1) | return false
    if nb == 0 then return true
    let x := (arrOf t).extract sa sb
    let y := (arrOf t).extract sb (sb + nb)
    let z ← if na ≤ nb then mergeLo' x y else mergeHi' x y
    modify fun s => setArr s (z.toList.zipIdx.foldl (fun c (p, j) => c.setIfInBounds (sa + j) p) (arrOf s))
    return (failedOf (← get)).isNone) := rfl

section
variable {prog : Program} {w : World} {A : Around} {E : Value → Shared → Prop} {s : Shared}
/-- the comparisons come out, whatever they say -/
def LtOk (prog : Program) (w : World) (A : Around) (s : Shared) (κ : SortKind) (L : Keyed → Keyed → Bool) (S : Keyed → Prop) : Prop :=
  ∀ x y, S x → S y → ∀ (Q : Bool → Shared → Prop) (E : Value → Shared → Prop), Q (L x y) s → wpAny (model prog w) A (keyLt' κ x.1 y.1) Q E s
variable {κ : SortKind} {L : Keyed → Keyed → Bool} {S : Keyed → Prop}
theorem lt_ok {st : SortSt} {x y : Keyed} {Q : Option Bool → SortSt → Prop} (hL : LtOk prog w A s κ L S) (hk : kindOf st = κ) (hx : S x) (hy : S y) (h : Q (some (L x y)) st) : wpS (model prog w) A E s (lt' x y) Q st := by
  rw [lt'_eq]
  refine wpS_bind (wpS_get ?_)
  rw [hk]
  refine wpS_bind (wpS_lift (wpAny_attempt (hL x y hx hy _ _ ?_)))
  exact ⟨rfl, wpS_pure h⟩
theorem elem_ok {st : SortSt} {arr : Array Keyed} {i : Nat} {Q : Keyed → SortSt → Prop} (hi : i < arr.size) (h : Q arr[i] st) : wpS (model prog w) A E s (elem' arr i) Q st := by
  rw [elem'_eq, getElem?_pos arr i hi]
  exact wpS_pure h
theorem ask_ok {st : SortSt} {left : Bool} {key : Keyed} {arr : Array Keyed} {base i : Nat} {Q : Option Bool → SortSt → Prop} (hL : LtOk prog w A s κ L S) (hk : kindOf st = κ) (hkey : S key) (harr : ∀ z ∈ arr.toList, S z) (hi : base + i < arr.size)
    (h : ∀ b, Q (some b) st) : wpS (model prog w) A E s (askG left key arr base i) Q st := by
  unfold askG
  have hm : S arr[base + i] := harr _ (by simp)
  refine wpS_bind (elem_ok hi ?_)
  cases left with
  | true => exact lt_ok hL hk hm hkey (h _)
  | false => exact wpS_bind (lt_ok hL hk hkey hm (wpS_pure (h _)))

theorem loop_ok {M : Model} {σ β : Type} {a b : Nat} {f : Nat → β → StateT σ Sem (ForInStep β)} (I : β → σ → Prop) {Q : β → σ → Prop}
    (hstep : ∀ i c st, I c st → wpS M A E s (f i c) (fun r st' => match r with | .done c' => Q c' st' | .yield c' => I c' st') st) (hend : ∀ c st, I c st → Q c st) {c : β} {st : σ} (h : I c st) : wpS M A E s (forIn [a:b] c f) Q st :=
  wpS_forRange (fun _ c st => I c st) (fun i c st _ _ h => hstep i c st h) hend h

theorem gallop_ok {st : SortSt} {left : Bool} {key : Keyed} {arr : Array Keyed} {base n hint : Nat} {Q : Option Nat → SortSt → Prop} (hL : LtOk prog w A s κ L S) (hk : kindOf st = κ) (hkey : S key) (harr : ∀ z ∈ arr.toList, S z) (hh : hint < n) (hn : base + n ≤ arr.size)
    (h : ∀ k, k ≤ n → Q (some k) st) : wpS (model prog w) A E s (gallop' left key arr base n hint) Q st := by
  rw [gallop_eq]
  have fin : ∀ lo hi : Nat, hi ≤ n → wpS (model prog w) A E s (do
      let mut lo := lo
      let mut hi := hi
      for _ in [0:n] do
        if lo ≥ hi then break
        let c := lo + (hi - lo) / 2
        let some q ← askG left key arr base c | return none
        if q then lo := c + 1 else hi := c
      return some hi) Q st := by
    intro lo hi hhi
    refine wpS_bind (wpS_mono (loop_ok (I := fun c st' => st' = st ∧ ∃ l r, c = (none, l, r) ∧ r ≤ n) (Q := fun c st' => st' = st ∧ ∃ l r, c = (none, l, r) ∧ r ≤ n) ?_ (fun _ _ z => z) ⟨rfl, lo, hi, rfl, hhi⟩) ?_)
    · rintro i c st' ⟨rfl, l, r, rfl, hr⟩
      dsimp only
      by_cases hlr : l ≥ r
      · rw [if_pos hlr]
        exact wpS_pure ⟨rfl, l, r, rfl, hr⟩
      · rw [if_neg hlr]
        refine wpS_bind (ask_ok hL hk hkey harr (by (first | lia | omega)) fun q => ?_)
        cases q with
        | true => exact wpS_pure ⟨rfl, _, _, rfl, hr⟩
        | false => exact wpS_pure ⟨rfl, _, _, rfl, by (first | lia | omega)⟩
    · rintro c st' ⟨rfl, l, r, rfl, hr⟩
      exact wpS_pure (h r hr)
  refine wpS_bind (ask_ok hL hk hkey harr (by (first | lia | omega)) fun q => ?_)
  cases q with
  | true =>
    dsimp only
    rw [if_pos rfl]
    refine wpS_bind (wpS_mono (loop_ok (I := fun c st' => st' = st ∧ ∃ l r, c = (none, l, r)) (Q := fun c st' => st' = st ∧ ∃ l r, c = (none, l, r)) ?_ (fun _ _ z => z) ⟨rfl, _, _, rfl⟩) ?_)
    · rintro i c st' ⟨rfl, l, r, rfl⟩
      dsimp only
      by_cases hlr : r ≥ n - hint
      · rw [if_pos hlr]
        exact wpS_pure ⟨rfl, l, r, rfl⟩
      · rw [if_neg hlr]
        refine wpS_bind (ask_ok hL hk hkey harr (by (first | lia | omega)) fun q => ?_)
        cases q with
        | true => exact wpS_pure ⟨rfl, _, _, rfl⟩
        | false => exact wpS_pure ⟨rfl, _, _, rfl⟩
    · rintro c st' ⟨rfl, l, r, rfl⟩
      exact fin _ _ (by (first | lia | omega))
  | false =>
    dsimp only
    rw [if_neg (by simp)]
    refine wpS_bind (wpS_mono (loop_ok (I := fun c st' => st' = st ∧ ∃ l r, c = (none, l, r)) (Q := fun c st' => st' = st ∧ ∃ l r, c = (none, l, r)) ?_ (fun _ _ z => z) ⟨rfl, _, _, rfl⟩) ?_)
    · rintro i c st' ⟨rfl, l, r, rfl⟩
      dsimp only
      by_cases hlr : r ≥ hint + 1
      · rw [if_pos hlr]
        exact wpS_pure ⟨rfl, l, r, rfl⟩
      · rw [if_neg hlr]
        refine wpS_bind (ask_ok hL hk hkey harr (by (first | lia | omega)) fun q => ?_)
        cases q with
        | true => exact wpS_pure ⟨rfl, _, _, rfl⟩
        | false => exact wpS_pure ⟨rfl, _, _, rfl⟩
    · rintro c st' ⟨rfl, l, r, rfl⟩
      exact fin _ _ (by (first | lia | omega))

def Alike (st st' : SortSt) : Prop := ∃ g, st' = SortSt.mk' (kindOf st) (arrOf st) (pendingOf st) g (failedOf st)
theorem Alike.refl (st : SortSt) : Alike st st := ⟨gallopOf st, rfl⟩
theorem Alike.kind {st st' : SortSt} (h : Alike st st') : kindOf st' = kindOf st := by obtain ⟨g, rfl⟩ := h; rfl
theorem Alike.set {st st' : SortSt} (h : Alike st st') (g : Nat) : Alike st (SortSt.mk' (kindOf st') (arrOf st') (pendingOf st') g (failedOf st')) := by obtain ⟨g', rfl⟩ := h; exact ⟨g, rfl⟩
theorem setGallop_ok {st : SortSt} {g : Nat} {Q : Unit → SortSt → Prop} (h : Q () (SortSt.mk' (kindOf st) (arrOf st) (pendingOf st) g (failedOf st))) : wpS (model prog w) A E s (setGallop g) Q st := wpS_modify h

/-- what was laid out, and what is left of both -/
def Left (a b o : Array Keyed) (i j : Nat) : Prop := i ≤ a.size ∧ j ≤ b.size ∧ (o.toList ++ (a.toList.drop i ++ b.toList.drop j)).Perm (a.toList ++ b.toList)
theorem Left.pushB {a b o : Array Keyed} {i j : Nat} (h : Left a b o i j) (hj : j < b.size) : Left a b (o.push b[j]) i (j + 1) := by
  obtain ⟨h1, h2, h3⟩ := h
  refine ⟨h1, hj, List.Perm.trans ?_ h3⟩
  have e : b.toList.drop j = b[j] :: b.toList.drop (j + 1) := by rw [List.drop_eq_getElem_cons (by simpa using hj)]; simp
  rw [e, Array.toList_push, List.append_assoc]
  refine List.Perm.append_left _ ?_
  exact (List.perm_middle (l₁ := a.toList.drop i)).symm
theorem Left.pushA {a b o : Array Keyed} {i j : Nat} (h : Left a b o i j) (hi : i < a.size) : Left a b (o.push a[i]) (i + 1) j := by
  obtain ⟨h1, h2, h3⟩ := h
  refine ⟨hi, h2, List.Perm.trans ?_ h3⟩
  have e : a.toList.drop i = a[i] :: a.toList.drop (i + 1) := by rw [List.drop_eq_getElem_cons (by simpa using hi)]; simp
  rw [e, Array.toList_push, List.append_assoc]
  exact List.Perm.refl _
theorem extract_list (a : Array Keyed) (i k : Nat) : (a.extract i (i + k)).toList = (a.toList.drop i).take k := by
  rw [Array.toList_extract]
  simp [List.extract]
theorem Left.moreA {a b o : Array Keyed} {i j k : Nat} (h : Left a b o i j) (hk : i + k ≤ a.size) : Left a b (o ++ a.extract i (i + k)) (i + k) j := by
  obtain ⟨h1, h2, h3⟩ := h
  refine ⟨hk, h2, List.Perm.trans ?_ h3⟩
  rw [Array.toList_append, extract_list, List.append_assoc]
  refine List.Perm.append_left _ ?_
  rw [← List.append_assoc, ← List.drop_drop, List.take_append_drop]
theorem Left.moreB {a b o : Array Keyed} {i j k : Nat} (h : Left a b o i j) (hk : j + k ≤ b.size) : Left a b (o ++ b.extract j (j + k)) i (j + k) := by
  obtain ⟨h1, h2, h3⟩ := h
  refine ⟨h1, hk, List.Perm.trans ?_ h3⟩
  rw [Array.toList_append, extract_list, List.append_assoc]
  refine List.Perm.append_left _ ?_
  refine (List.perm_append_comm_assoc _ _ _).trans ?_
  refine List.Perm.append_left _ ?_
  rw [← List.drop_drop, List.take_append_drop]
theorem Left.fin {a b o : Array Keyed} {i j : Nat} (h : Left a b o i j) : (o ++ a.extract i a.size ++ b.extract j b.size).toList.Perm (a.toList ++ b.toList) := by
  obtain ⟨h1, h2, h3⟩ := h
  refine List.Perm.trans ?_ h3
  have e1 : (a.extract i a.size).toList = a.toList.drop i := by rw [Array.toList_extract]; simp [List.extract]; exact List.take_of_length_le (by simp)
  have e2 : (b.extract j b.size).toList = b.toList.drop j := by rw [Array.toList_extract]; simp [List.extract]; exact List.take_of_length_le (by simp)
  rw [Array.toList_append, Array.toList_append, e1, e2, List.append_assoc]
theorem Left.finA {a b o : Array Keyed} {i j : Nat} (h : Left a b o i j) : (o ++ b.extract j b.size ++ a.extract i a.size).toList.Perm (a.toList ++ b.toList) := by
  obtain ⟨h1, h2, h3⟩ := h
  refine List.Perm.trans ?_ h3
  have e1 : (a.extract i a.size).toList = a.toList.drop i := by rw [Array.toList_extract]; simp [List.extract]; exact List.take_of_length_le (by simp)
  have e2 : (b.extract j b.size).toList = b.toList.drop j := by rw [Array.toList_extract]; simp [List.extract]; exact List.take_of_length_le (by simp)
  rw [Array.toList_append, Array.toList_append, e1, e2, List.append_assoc]
  exact List.Perm.append_left _ List.perm_append_comm

theorem ite_ok {σ α : Type} {M : Model} {c : Prop} [Decidable c] {m1 m2 : StateT σ Sem α} {Q : α → σ → Prop} {st : σ} (h1 : c → wpS M A E s m1 Q st) (h2 : ¬ c → wpS M A E s m2 Q st) : wpS M A E s (if c then m1 else m2) Q st := by
  by_cases h : c
  · rw [if_pos h]; exact h1 h
  · rw [if_neg h]; exact h2 h
theorem beq_no {a b : Nat} (h : ¬ (a == b) = true) : ¬ a = b := fun z => h (by simpa using z)

theorem mergeLo_ok {st : SortSt} {a b : Array Keyed} {Q : Array Keyed → SortSt → Prop} (hL : LtOk prog w A s κ L S) (hk : kindOf st = κ) (hSa : ∀ z ∈ a.toList, S z) (hSb : ∀ z ∈ b.toList, S z) (ha : 1 ≤ a.size) (hb : 1 ≤ b.size)
    (h : ∀ z st', z.toList.Perm (a.toList ++ b.toList) → Alike st st' → Q z st') : wpS (model prog w) A E s (mergeLo' a b) Q st := by
  rw [mergeLo_eq]
  refine wpS_bind (wpS_lift (wpAny_rule ⟨rfl, ?_⟩))
  dsimp only
  refine wpS_bind (elem_ok (by (first | lia | omega)) ?_)
  have l0 : Left a b #[] 0 0 := ⟨Nat.zero_le _, Nat.zero_le _, by simp⟩
  have l1 : Left a b #[b[0]] 0 1 := l0.pushB (by (first | lia | omega))
  by_cases h1 : (1 == b.size) = true
  · rw [if_pos h1]
    exact wpS_pure (h _ _ l1.fin (Alike.refl _))
  · rw [if_neg h1]
    have h1' : 1 < b.size := by
      have : ¬ 1 = b.size := fun z => h1 (by simpa using z)
      (first | lia | omega)
    by_cases h2 : (0 + 1 == a.size) = true
    · rw [if_pos h2]
      exact wpS_pure (h _ _ l1.finA (Alike.refl _))
    · rw [if_neg h2]
      have h2' : 0 + 1 < a.size := by
        have : ¬ 0 + 1 = a.size := fun z => h2 (by simpa using z)
        (first | lia | omega)
      refine wpS_bind (wpS_get ?_)
      refine wpS_bind (wpS_mono (wpS_forRange (I := fun x (c : Option (Array Keyed) × Array Keyed × Nat × Nat × Nat) st1 => c.1 = none ∧ Left a b c.2.1 c.2.2.1 c.2.2.2.1 ∧ c.2.2.1 + 1 < a.size ∧ c.2.2.2.1 < b.size ∧ x + 1 ≤ c.2.2.1 + c.2.2.2.1 ∧ Alike st st1)
        (Q := fun c st1 => ∃ z, c.1 = some z ∧ z.toList.Perm (a.toList ++ b.toList) ∧ Alike st st1) ?step ?fin ⟨rfl, l1, h2', h1', Nat.le_refl _, Alike.refl _⟩) ?post)
      case post =>
        rintro c st1 ⟨z, hz, hp, al⟩
        rw [hz]
        exact wpS_pure (h z st1 hp al)
      case fin =>
        rintro c st1 ⟨_, hl, q1, q2, q3, _⟩
        exfalso
        (first | lia | omega)
      case step =>
        rintro x c st1 _ hx ⟨hc, hl, q1, q2, q3, al⟩
        refine wpS_bind (wpS_mono (loop_ok (I := fun (d : Option (Array Keyed) × Array Keyed × Nat × Nat × Nat × Nat) st2 => d.1 = none ∧ Left a b d.2.1 d.2.2.1 d.2.2.2.1 ∧ d.2.2.1 + 1 < a.size ∧ d.2.2.2.1 < b.size ∧ x + 1 ≤ d.2.2.1 + d.2.2.2.1 ∧ Alike st st2)
          (Q := fun d st2 => (∃ z, d.1 = some z ∧ z.toList.Perm (a.toList ++ b.toList) ∧ Alike st st2) ∨ (d.1 = none ∧ Left a b d.2.1 d.2.2.1 d.2.2.2.1 ∧ d.2.2.1 + 1 < a.size ∧ d.2.2.2.1 < b.size ∧ x + 1 ≤ d.2.2.1 + d.2.2.2.1 ∧ Alike st st2)) ?s1 (fun _ _ z => .inr z) ⟨rfl, hl, q1, q2, q3, al⟩) ?p1)
        case s1 =>
          rintro i d st2 ⟨hd, hl, q1, q2, q3, al⟩
          have hk2 : kindOf st2 = κ := al.kind.trans hk
          refine wpS_bind (elem_ok q2 (wpS_bind (elem_ok (by (first | lia | omega)) (wpS_bind (lt_ok hL hk2 (hSb _ (by simp)) (hSa _ (by simp)) ?_)))))
          dsimp only
          split
          · refine wpS_bind (elem_ok q2 ?_)
            split
            · exact wpS_pure (.inl ⟨_, rfl, (hl.pushB q2).fin, al⟩)
            · rename_i hne
              have hne' : ¬ d.2.2.2.1 + 1 = b.size := fun z => hne (by simpa using z)
              split
              · exact wpS_pure (.inr ⟨rfl, hl.pushB q2, q1, by dsimp only; (first | lia | omega), by dsimp only; (first | lia | omega), al⟩)
              · exact wpS_pure ⟨rfl, hl.pushB q2, q1, by dsimp only; (first | lia | omega), by dsimp only; (first | lia | omega), al⟩
          · refine wpS_bind (elem_ok (by (first | lia | omega)) ?_)
            split
            · exact wpS_pure (.inl ⟨_, rfl, (hl.pushA (by (first | lia | omega))).finA, al⟩)
            · rename_i hne
              have hne' : ¬ d.2.2.1 + 1 + 1 = a.size := fun z => hne (by simpa using z)
              split
              · exact wpS_pure (.inr ⟨rfl, hl.pushA (by (first | lia | omega)), by dsimp only; (first | lia | omega), q2, by dsimp only; (first | lia | omega), al⟩)
              · exact wpS_pure ⟨rfl, hl.pushA (by (first | lia | omega)), by dsimp only; (first | lia | omega), q2, by dsimp only; (first | lia | omega), al⟩
        case p1 =>
          rintro d st2 (⟨z, hz, hp, al⟩ | ⟨hd, hl, q1, q2, q3, al⟩)
          · rw [hz]
            exact wpS_pure ⟨z, rfl, hp, al⟩
          · rw [hd]
            dsimp only
            refine wpS_bind (wpS_lift (wpAny_rule ⟨rfl, ?_⟩))
            refine wpS_bind (wpS_mono (wpS_forRange (I := fun y (g : Option (Array Keyed) × Array Keyed × Nat × Nat × Nat × Nat × Nat) st3 => g.1 = none ∧ Left a b g.2.1 g.2.2.1 g.2.2.2.1 ∧ g.2.2.1 + 1 < a.size ∧ g.2.2.2.1 < b.size ∧ (x + 1 ≤ g.2.2.1 + g.2.2.2.1 ∧ (0 < y → x + 2 ≤ g.2.2.1 + g.2.2.2.1)) ∧ Alike st st3)
              (Q := fun g st3 => (∃ z, g.1 = some z ∧ z.toList.Perm (a.toList ++ b.toList) ∧ Alike st st3) ∨ (g.1 = none ∧ Left a b g.2.1 g.2.2.1 g.2.2.2.1 ∧ g.2.2.1 + 1 < a.size ∧ g.2.2.2.1 < b.size ∧ x + 2 ≤ g.2.2.1 + g.2.2.2.1 ∧ Alike st st3)) ?s2 (fun g st3 z => .inr ⟨z.1, z.2.1, z.2.2.1, z.2.2.2.1, z.2.2.2.2.1.2 (by (first | lia | omega)), z.2.2.2.2.2⟩) ⟨rfl, hl, q1, q2, ⟨q3, fun z => absurd z (by (first | lia | omega))⟩, al⟩) ?p2)
            case p2 =>
              rintro g st3 (⟨z, hz, hp, al⟩ | ⟨hd, hl, q1, q2, q3, al⟩)
              · rw [hz]
                exact wpS_pure ⟨z, rfl, hp, al⟩
              · rw [hd]
                dsimp only
                exact wpS_bind (setGallop_ok (wpS_pure ⟨rfl, hl, q1, q2, by dsimp only; (first | lia | omega), al.set _⟩))
            case s2 =>
              rintro y g st3 _ _ ⟨hg, hl, q1, q2, ⟨q3, _⟩, al⟩
              refine ite_ok (fun _ => ?_) (fun _ => ?_)
              all_goals
                refine wpS_bind (setGallop_ok ?_)
                have al2 := al.set (g.2.2.2.2.1 - 1)
                have al3 := al.set (g.2.2.2.2.1)
                refine wpS_bind (elem_ok q2 (wpS_bind (gallop_ok hL (al.kind.trans hk) (hSb _ (by simp)) hSa (by (first | lia | omega)) (by (first | lia | omega)) fun k hk1 => ?_)))
                refine ite_ok (fun hk2 => ?_) (fun hk2 => ?_)
                · have hlA := hl.moreA (k := k) (by (first | lia | omega))
                  refine ite_ok (fun z => ?_) (fun z1 => ?_)
                  · exact wpS_pure (.inl ⟨_, rfl, hlA.finA, by assumption⟩)
                  · have z1 := beq_no z1
                    refine ite_ok (fun z => ?_) (fun z2 => ?_)
                    · exact wpS_pure (.inl ⟨_, rfl, hlA.fin, by assumption⟩)
                    · have z2 := beq_no z2
                      have hlB := hlA.pushB q2
                      refine wpS_bind (elem_ok q2 (ite_ok (fun z => ?_) (fun z3 => ?_)))
                      · exact wpS_pure (.inl ⟨_, rfl, hlB.fin, by assumption⟩)
                      · have z3 := beq_no z3
                        refine wpS_bind (elem_ok (by (first | lia | omega)) (wpS_bind (gallop_ok hL (al.kind.trans hk) (hSa _ (by simp)) hSb (by (first | lia | omega)) (by (first | lia | omega)) fun k' hk3 => ?_)))
                        refine ite_ok (fun hk4 => ?_) (fun hk4 => ?_)
                        · have hlC := hlB.moreB (k := k') (by (first | lia | omega))
                          refine ite_ok (fun z => ?_) (fun z4 => ?_)
                          · exact wpS_pure (.inl ⟨_, rfl, hlC.fin, by assumption⟩)
                          · have z4 := beq_no z4
                            have hlD := hlC.pushA (by (first | lia | omega))
                            refine wpS_bind (elem_ok (by (first | lia | omega)) (ite_ok (fun z => ?_) (fun z5 => ?_)))
                            · exact wpS_pure (.inl ⟨_, rfl, hlD.finA, by assumption⟩)
                            · have z5 := beq_no z5
                              refine ite_ok (fun z => ?_) (fun z => ?_)
                              · exact wpS_pure (.inr ⟨rfl, hlD, by dsimp only; (first | lia | omega), by dsimp only; (first | lia | omega), by dsimp only; (first | lia | omega), by assumption⟩)
                              · exact wpS_pure ⟨rfl, hlD, by dsimp only; (first | lia | omega), by dsimp only; (first | lia | omega), ⟨by dsimp only; (first | lia | omega), fun _ => by dsimp only; (first | lia | omega)⟩, by assumption⟩
                        · have hlD := hlB.pushA (by (first | lia | omega))
                          refine wpS_bind (elem_ok (by (first | lia | omega)) (ite_ok (fun z => ?_) (fun z5 => ?_)))
                          · exact wpS_pure (.inl ⟨_, rfl, hlD.finA, by assumption⟩)
                          · have z5 := beq_no z5
                            refine ite_ok (fun z => ?_) (fun z => ?_)
                            · exact wpS_pure (.inr ⟨rfl, hlD, by dsimp only; (first | lia | omega), by dsimp only; (first | lia | omega), by dsimp only; (first | lia | omega), by assumption⟩)
                            · exact wpS_pure ⟨rfl, hlD, by dsimp only; (first | lia | omega), by dsimp only; (first | lia | omega), ⟨by dsimp only; (first | lia | omega), fun _ => by dsimp only; (first | lia | omega)⟩, by assumption⟩
                · have hlB := hl.pushB q2
                  refine wpS_bind (elem_ok q2 (ite_ok (fun z => ?_) (fun z3 => ?_)))
                  · exact wpS_pure (.inl ⟨_, rfl, hlB.fin, by assumption⟩)
                  · have z3 := beq_no z3
                    refine wpS_bind (elem_ok (by (first | lia | omega)) (wpS_bind (gallop_ok hL (al.kind.trans hk) (hSa _ (by simp)) hSb (by (first | lia | omega)) (by (first | lia | omega)) fun k' hk3 => ?_)))
                    refine ite_ok (fun hk4 => ?_) (fun hk4 => ?_)
                    · have hlC := hlB.moreB (k := k') (by (first | lia | omega))
                      refine ite_ok (fun z => ?_) (fun z4 => ?_)
                      · exact wpS_pure (.inl ⟨_, rfl, hlC.fin, by assumption⟩)
                      · have z4 := beq_no z4
                        have hlD := hlC.pushA (by (first | lia | omega))
                        refine wpS_bind (elem_ok (by (first | lia | omega)) (ite_ok (fun z => ?_) (fun z5 => ?_)))
                        · exact wpS_pure (.inl ⟨_, rfl, hlD.finA, by assumption⟩)
                        · have z5 := beq_no z5
                          refine ite_ok (fun z => ?_) (fun z => ?_)
                          · exact wpS_pure (.inr ⟨rfl, hlD, by dsimp only; (first | lia | omega), by dsimp only; (first | lia | omega), by dsimp only; (first | lia | omega), by assumption⟩)
                          · exact wpS_pure ⟨rfl, hlD, by dsimp only; (first | lia | omega), by dsimp only; (first | lia | omega), ⟨by dsimp only; (first | lia | omega), fun _ => by dsimp only; (first | lia | omega)⟩, by assumption⟩
                    · have hlD := hlB.pushA (by (first | lia | omega))
                      refine wpS_bind (elem_ok (by (first | lia | omega)) (ite_ok (fun z => ?_) (fun z5 => ?_)))
                      · exact wpS_pure (.inl ⟨_, rfl, hlD.finA, by assumption⟩)
                      · have z5 := beq_no z5
                        refine ite_ok (fun z => ?_) (fun z => ?_)
                        · exact wpS_pure (.inr ⟨rfl, hlD, by dsimp only; (first | lia | omega), by dsimp only; (first | lia | omega), by dsimp only; (first | lia | omega), by assumption⟩)
                        · exact wpS_pure ⟨rfl, hlD, by dsimp only; (first | lia | omega), by dsimp only; (first | lia | omega), ⟨by dsimp only; (first | lia | omega), fun _ => by dsimp only; (first | lia | omega)⟩, by assumption⟩

/-- what was laid out from behind, and what is left of both -/
def LeftH (a b o : Array Keyed) (i j : Nat) : Prop := i ≤ a.size ∧ j ≤ b.size ∧ (o.toList ++ (a.toList.take i ++ b.toList.take j)).Perm (a.toList ++ b.toList)
theorem take_prev (a : Array Keyed) {i : Nat} (h1 : 1 ≤ i) (h : i ≤ a.size) (h' : i - 1 < a.size) : a.toList.take i = a.toList.take (i - 1) ++ [a[i - 1]] := by
  obtain ⟨k, rfl⟩ : ∃ k, i = k + 1 := ⟨i - 1, by (first | lia | omega)⟩
  rw [List.take_add_one, List.getElem?_eq_getElem (by simp; (first | lia | omega))]
  simp
theorem LeftH.pushB {a b o : Array Keyed} {i j : Nat} (h : LeftH a b o i j) (hj : 1 ≤ j) (hj' : j - 1 < b.size) : LeftH a b (o.push b[j - 1]) i (j - 1) := by
  obtain ⟨h1, h2, h3⟩ := h
  refine ⟨h1, by (first | lia | omega), List.Perm.trans ?_ h3⟩
  rw [take_prev b hj h2 hj', Array.toList_push, List.append_assoc]
  refine List.Perm.append_left _ ?_
  rw [← List.append_assoc (List.take i a.toList)]
  exact List.perm_append_comm
theorem LeftH.pushA {a b o : Array Keyed} {i j : Nat} (h : LeftH a b o i j) (hi : 1 ≤ i) (hi' : i - 1 < a.size) : LeftH a b (o.push a[i - 1]) (i - 1) j := by
  obtain ⟨h1, h2, h3⟩ := h
  refine ⟨by (first | lia | omega), h2, List.Perm.trans ?_ h3⟩
  rw [take_prev a hi h1 hi', Array.toList_push, List.append_assoc]
  refine List.Perm.append_left _ ?_
  rw [← List.append_assoc]
  exact List.Perm.append_right _ List.perm_append_comm
theorem extract_list2 (a : Array Keyed) {c i : Nat} (h : c ≤ i) : a.toList.take i = a.toList.take c ++ (a.extract c i).toList := by
  obtain ⟨k, rfl⟩ : ∃ k, i = c + k := ⟨i - c, by (first | lia | omega)⟩
  rw [extract_list, List.take_add]
theorem LeftH.moreA {a b o : Array Keyed} {i j c : Nat} (h : LeftH a b o i j) (hc : c ≤ i) : LeftH a b (o ++ (a.extract c i).reverse) c j := by
  obtain ⟨h1, h2, h3⟩ := h
  refine ⟨by (first | lia | omega), h2, List.Perm.trans ?_ h3⟩
  rw [extract_list2 a hc, Array.toList_append, Array.toList_reverse, List.append_assoc]
  refine List.Perm.append_left _ ?_
  rw [← List.append_assoc]
  exact List.Perm.append_right _ ((List.Perm.append_right _ (List.reverse_perm _)).trans List.perm_append_comm)
theorem LeftH.moreB {a b o : Array Keyed} {i j c : Nat} (h : LeftH a b o i j) (hc : c ≤ j) : LeftH a b (o ++ (b.extract c j).reverse) i c := by
  obtain ⟨h1, h2, h3⟩ := h
  refine ⟨h1, by (first | lia | omega), List.Perm.trans ?_ h3⟩
  rw [extract_list2 b hc, Array.toList_append, Array.toList_reverse, List.append_assoc]
  refine List.Perm.append_left _ ?_
  rw [← List.append_assoc (List.take i a.toList)]
  exact (List.Perm.append_right _ (List.reverse_perm _)).trans List.perm_append_comm
theorem extract_zero (a : Array Keyed) (i : Nat) : (a.extract 0 i).toList = a.toList.take i := by
  have := extract_list a 0 i
  simpa using this
theorem LeftH.fin {a b o : Array Keyed} {i j : Nat} (h : LeftH a b o i j) : (a.extract 0 i ++ b.extract 0 j ++ o.reverse).toList.Perm (a.toList ++ b.toList) := by
  obtain ⟨h1, h2, h3⟩ := h
  refine List.Perm.trans ?_ h3
  rw [Array.toList_append, Array.toList_append, extract_zero, extract_zero, Array.toList_reverse]
  exact (List.Perm.append_left _ (List.reverse_perm _)).trans List.perm_append_comm
theorem LeftH.finB {a b o : Array Keyed} {i j : Nat} (h : LeftH a b o i j) : (b.extract 0 j ++ a.extract 0 i ++ o.reverse).toList.Perm (a.toList ++ b.toList) := by
  obtain ⟨h1, h2, h3⟩ := h
  refine List.Perm.trans ?_ h3
  rw [Array.toList_append, Array.toList_append, extract_zero, extract_zero, Array.toList_reverse]
  exact (List.Perm.append_left _ (List.reverse_perm _)).trans (List.perm_append_comm.trans (List.Perm.append_left _ List.perm_append_comm))

theorem mergeHi_ok {st : SortSt} {a b : Array Keyed} {Q : Array Keyed → SortSt → Prop} (hL : LtOk prog w A s κ L S) (hk : kindOf st = κ) (hSa : ∀ z ∈ a.toList, S z) (hSb : ∀ z ∈ b.toList, S z) (ha : 1 ≤ a.size) (hb : 1 ≤ b.size)
    (h : ∀ z st', z.toList.Perm (a.toList ++ b.toList) → Alike st st' → Q z st') : wpS (model prog w) A E s (mergeHi' a b) Q st := by
  rw [mergeHi_eq]
  refine wpS_bind (wpS_lift (wpAny_rule ⟨rfl, ?_⟩))
  dsimp only
  refine wpS_bind (elem_ok (by (first | lia | omega)) ?_)
  have l0 : LeftH a b #[] a.size b.size := ⟨Nat.le_refl _, Nat.le_refl _, by rw [List.take_of_length_le (by simp), List.take_of_length_le (by simp)]; exact List.Perm.refl _⟩
  have l1 : LeftH a b #[a[a.size - 1]] (a.size - 1) b.size := l0.pushA ha (by (first | lia | omega))
  refine ite_ok (fun _ => wpS_pure (h _ _ l1.fin (Alike.refl _))) (fun h1 => ?_)
  have h1' := beq_no h1
  refine ite_ok (fun _ => wpS_pure (h _ _ l1.finB (Alike.refl _))) (fun h2 => ?_)
  have h2' := beq_no h2
  refine wpS_bind (wpS_get ?_)
  refine wpS_bind (wpS_mono (wpS_forRange (I := fun x (c : Option (Array Keyed) × Nat × Nat × Array Keyed × Nat) st1 => c.1 = none ∧ LeftH a b c.2.2.2.1 c.2.1 c.2.2.1 ∧ 1 ≤ c.2.1 ∧ 2 ≤ c.2.2.1 ∧ c.2.1 + c.2.2.1 + x + 1 ≤ a.size + b.size ∧ Alike st st1)
    (Q := fun c st1 => ∃ z, c.1 = some z ∧ z.toList.Perm (a.toList ++ b.toList) ∧ Alike st st1) ?step ?fin ⟨rfl, l1, by dsimp only; (first | lia | omega), by dsimp only; (first | lia | omega), by dsimp only; (first | lia | omega), Alike.refl _⟩) ?post)
  case post =>
    rintro c st1 ⟨z, hz, hp, al⟩
    rw [hz]
    exact wpS_pure (h z st1 hp al)
  case fin =>
    rintro c st1 ⟨_, hl, q1, q2, q3, _⟩
    exfalso
    (first | lia | omega)
  case step =>
    rintro x c st1 _ hx ⟨hc, hl, q1, q2, q3, al⟩
    have hb1 := hl.1
    have hb2 := hl.2.1
    refine wpS_bind (wpS_mono (loop_ok (I := fun (d : Option (Array Keyed) × Nat × Nat × Array Keyed × Nat × Nat) st2 => d.1 = none ∧ LeftH a b d.2.2.2.1 d.2.1 d.2.2.1 ∧ 1 ≤ d.2.1 ∧ 2 ≤ d.2.2.1 ∧ d.2.1 + d.2.2.1 + x + 1 ≤ a.size + b.size ∧ Alike st st2)
      (Q := fun d st2 => (∃ z, d.1 = some z ∧ z.toList.Perm (a.toList ++ b.toList) ∧ Alike st st2) ∨ (d.1 = none ∧ LeftH a b d.2.2.2.1 d.2.1 d.2.2.1 ∧ 1 ≤ d.2.1 ∧ 2 ≤ d.2.2.1 ∧ d.2.1 + d.2.2.1 + x + 1 ≤ a.size + b.size ∧ Alike st st2)) ?s1 (fun _ _ z => .inr z) ⟨rfl, hl, q1, q2, q3, al⟩) ?p1)
    case s1 =>
      rintro i d st2 ⟨hd, hl, q1, q2, q3, al⟩
      have hb1 := hl.1
      have hb2 := hl.2.1
      have hk2 : kindOf st2 = κ := al.kind.trans hk
      refine wpS_bind (elem_ok (by (first | lia | omega)) (wpS_bind (elem_ok (by (first | lia | omega)) (wpS_bind (lt_ok hL hk2 (hSb _ (by simp)) (hSa _ (by simp)) ?_)))))
      refine ite_ok (fun _ => ?_) (fun _ => ?_)
      · have hlA := hl.pushA q1 (by (first | lia | omega))
        refine wpS_bind (elem_ok (by (first | lia | omega)) (ite_ok (fun _ => ?_) (fun z => ?_)))
        · exact wpS_pure (.inl ⟨_, rfl, hlA.fin, al⟩)
        · have z := beq_no z
          refine ite_ok (fun _ => ?_) (fun _ => ?_)
          · exact wpS_pure (.inr ⟨rfl, hlA, by dsimp only; (first | lia | omega), by dsimp only; (first | lia | omega), by dsimp only; (first | lia | omega), al⟩)
          · exact wpS_pure ⟨rfl, hlA, by dsimp only; (first | lia | omega), by dsimp only; (first | lia | omega), by dsimp only; (first | lia | omega), al⟩
      · have hlB := hl.pushB (by (first | lia | omega)) (by (first | lia | omega))
        refine wpS_bind (elem_ok (by (first | lia | omega)) (ite_ok (fun _ => ?_) (fun z => ?_)))
        · exact wpS_pure (.inl ⟨_, rfl, hlB.finB, al⟩)
        · have z := beq_no z
          refine ite_ok (fun _ => ?_) (fun _ => ?_)
          · exact wpS_pure (.inr ⟨rfl, hlB, by dsimp only; (first | lia | omega), by dsimp only; (first | lia | omega), by dsimp only; (first | lia | omega), al⟩)
          · exact wpS_pure ⟨rfl, hlB, by dsimp only; (first | lia | omega), by dsimp only; (first | lia | omega), by dsimp only; (first | lia | omega), al⟩
    case p1 =>
      rintro d st2 (⟨z, hz, hp, al⟩ | ⟨hd, hl, q1, q2, q3, al⟩)
      · rw [hz]
        exact wpS_pure ⟨z, rfl, hp, al⟩
      · rw [hd]
        dsimp only
        refine wpS_bind (wpS_lift (wpAny_rule ⟨rfl, ?_⟩))
        refine wpS_bind (wpS_mono (wpS_forRange (I := fun y (g : Option (Array Keyed) × Nat × Nat × Array Keyed × Nat × Nat × Nat) st3 => g.1 = none ∧ LeftH a b g.2.2.2.1 g.2.1 g.2.2.1 ∧ 1 ≤ g.2.1 ∧ 2 ≤ g.2.2.1 ∧ (g.2.1 + g.2.2.1 + x + 1 ≤ a.size + b.size ∧ (0 < y → g.2.1 + g.2.2.1 + x + 2 ≤ a.size + b.size)) ∧ Alike st st3)
          (Q := fun g st3 => (∃ z, g.1 = some z ∧ z.toList.Perm (a.toList ++ b.toList) ∧ Alike st st3) ∨ (g.1 = none ∧ LeftH a b g.2.2.2.1 g.2.1 g.2.2.1 ∧ 1 ≤ g.2.1 ∧ 2 ≤ g.2.2.1 ∧ g.2.1 + g.2.2.1 + x + 2 ≤ a.size + b.size ∧ Alike st st3)) ?s2 (fun g st3 z => .inr ⟨z.1, z.2.1, z.2.2.1, z.2.2.2.1, z.2.2.2.2.1.2 (by (first | lia | omega)), z.2.2.2.2.2⟩) ⟨rfl, hl, q1, q2, ⟨q3, fun z => absurd z (by (first | lia | omega))⟩, al⟩) ?p2)
        case p2 =>
          rintro g st3 (⟨z, hz, hp, al⟩ | ⟨hd, hl, q1, q2, q3, al⟩)
          · rw [hz]
            exact wpS_pure ⟨z, rfl, hp, al⟩
          · rw [hd]
            dsimp only
            exact wpS_bind (setGallop_ok (wpS_pure ⟨rfl, hl, q1, q2, by dsimp only; (first | lia | omega), al.set _⟩))
        case s2 =>
          rintro y g st3 _ _ ⟨hg, hl, q1, q2, ⟨q3, _⟩, al⟩
          have hb1 := hl.1
          have hb2 := hl.2.1
          refine ite_ok (fun _ => ?_) (fun _ => ?_)
          all_goals
            refine wpS_bind (setGallop_ok ?_)
            have al2 := al.set (g.2.2.2.2.1 - 1)
            have al3 := al.set (g.2.2.2.2.1)
            refine wpS_bind (elem_ok (by (first | lia | omega)) (wpS_bind (gallop_ok hL (al.kind.trans hk) (hSb _ (by simp)) hSa (by (first | lia | omega)) (by (first | lia | omega)) fun k hk1 => ?_)))
            refine ite_ok (fun hk2 => ?_) (fun hk2 => ?_)
            · have hlA := hl.moreA (c := k) hk1
              refine ite_ok (fun z => ?_) (fun z1 => ?_)
              · exact wpS_pure (.inl ⟨_, rfl, hlA.fin, by assumption⟩)
              · have z1 := beq_no z1
                have hlB := hlA.pushB (by (first | lia | omega)) (by (first | lia | omega))
                refine wpS_bind (elem_ok (by (first | lia | omega)) (ite_ok (fun z => ?_) (fun z3 => ?_)))
                · exact wpS_pure (.inl ⟨_, rfl, hlB.finB, by assumption⟩)
                · have z3 := beq_no z3
                  refine wpS_bind (elem_ok (by (first | lia | omega)) (wpS_bind (gallop_ok hL (al.kind.trans hk) (hSa _ (by simp)) hSb (by (first | lia | omega)) (by (first | lia | omega)) fun k' hk3 => ?_)))
                  refine ite_ok (fun hk4 => ?_) (fun hk4 => ?_)
                  · have hlC := hlB.moreB (c := k') hk3
                    refine ite_ok (fun z => ?_) (fun z4 => ?_)
                    · exact wpS_pure (.inl ⟨_, rfl, hlC.finB, by assumption⟩)
                    · have z4 := beq_no z4
                      refine ite_ok (fun z => ?_) (fun z6 => ?_)
                      · exact wpS_pure (.inl ⟨_, rfl, hlC.fin, by assumption⟩)
                      · have z6 := beq_no z6
                        have hlD := hlC.pushA (by (first | lia | omega)) (by (first | lia | omega))
                        refine wpS_bind (elem_ok (by (first | lia | omega)) (ite_ok (fun z => ?_) (fun z5 => ?_)))
                        · exact wpS_pure (.inl ⟨_, rfl, hlD.fin, by assumption⟩)
                        · have z5 := beq_no z5
                          refine ite_ok (fun z => ?_) (fun z => ?_)
                          · exact wpS_pure (.inr ⟨rfl, hlD, by dsimp only; (first | lia | omega), by dsimp only; (first | lia | omega), by dsimp only; (first | lia | omega), by assumption⟩)
                          · exact wpS_pure ⟨rfl, hlD, by dsimp only; (first | lia | omega), by dsimp only; (first | lia | omega), ⟨by dsimp only; (first | lia | omega), fun _ => by dsimp only; (first | lia | omega)⟩, by assumption⟩
                  · have hlD := hlB.pushA (by (first | lia | omega)) (by (first | lia | omega))
                    refine wpS_bind (elem_ok (by (first | lia | omega)) (ite_ok (fun z => ?_) (fun z5 => ?_)))
                    · exact wpS_pure (.inl ⟨_, rfl, hlD.fin, by assumption⟩)
                    · have z5 := beq_no z5
                      refine ite_ok (fun z => ?_) (fun z => ?_)
                      · exact wpS_pure (.inr ⟨rfl, hlD, by dsimp only; (first | lia | omega), by dsimp only; (first | lia | omega), by dsimp only; (first | lia | omega), by assumption⟩)
                      · exact wpS_pure ⟨rfl, hlD, by dsimp only; (first | lia | omega), by dsimp only; (first | lia | omega), ⟨by dsimp only; (first | lia | omega), fun _ => by dsimp only; (first | lia | omega)⟩, by assumption⟩
            · have hlB := hl.pushB (by (first | lia | omega)) (by (first | lia | omega))
              refine wpS_bind (elem_ok (by (first | lia | omega)) (ite_ok (fun z => ?_) (fun z3 => ?_)))
              · exact wpS_pure (.inl ⟨_, rfl, hlB.finB, by assumption⟩)
              · have z3 := beq_no z3
                refine wpS_bind (elem_ok (by (first | lia | omega)) (wpS_bind (gallop_ok hL (al.kind.trans hk) (hSa _ (by simp)) hSb (by (first | lia | omega)) (by (first | lia | omega)) fun k' hk3 => ?_)))
                refine ite_ok (fun hk4 => ?_) (fun hk4 => ?_)
                · have hlC := hlB.moreB (c := k') hk3
                  refine ite_ok (fun z => ?_) (fun z4 => ?_)
                  · exact wpS_pure (.inl ⟨_, rfl, hlC.finB, by assumption⟩)
                  · have z4 := beq_no z4
                    refine ite_ok (fun z => ?_) (fun z6 => ?_)
                    · exact wpS_pure (.inl ⟨_, rfl, hlC.fin, by assumption⟩)
                    · have z6 := beq_no z6
                      have hlD := hlC.pushA (by (first | lia | omega)) (by (first | lia | omega))
                      refine wpS_bind (elem_ok (by (first | lia | omega)) (ite_ok (fun z => ?_) (fun z5 => ?_)))
                      · exact wpS_pure (.inl ⟨_, rfl, hlD.fin, by assumption⟩)
                      · have z5 := beq_no z5
                        refine ite_ok (fun z => ?_) (fun z => ?_)
                        · exact wpS_pure (.inr ⟨rfl, hlD, by dsimp only; (first | lia | omega), by dsimp only; (first | lia | omega), by dsimp only; (first | lia | omega), by assumption⟩)
                        · exact wpS_pure ⟨rfl, hlD, by dsimp only; (first | lia | omega), by dsimp only; (first | lia | omega), ⟨by dsimp only; (first | lia | omega), fun _ => by dsimp only; (first | lia | omega)⟩, by assumption⟩
                · have hlD := hlB.pushA (by (first | lia | omega)) (by (first | lia | omega))
                  refine wpS_bind (elem_ok (by (first | lia | omega)) (ite_ok (fun z => ?_) (fun z5 => ?_)))
                  · exact wpS_pure (.inl ⟨_, rfl, hlD.fin, by assumption⟩)
                  · have z5 := beq_no z5
                    refine ite_ok (fun z => ?_) (fun z => ?_)
                    · exact wpS_pure (.inr ⟨rfl, hlD, by dsimp only; (first | lia | omega), by dsimp only; (first | lia | omega), by dsimp only; (first | lia | omega), by assumption⟩)
                    · exact wpS_pure ⟨rfl, hlD, by dsimp only; (first | lia | omega), by dsimp only; (first | lia | omega), ⟨by dsimp only; (first | lia | omega), fun _ => by dsimp only; (first | lia | omega)⟩, by assumption⟩

/-- the same items, no failure -/
structure PB (a₀ : Array Keyed) (κ : SortKind) (pd : Array (Nat × Nat × Nat)) (st : SortSt) : Prop where
  perm : (arrOf st).toList.Perm a₀.toList
  kind : kindOf st = κ
  failed : failedOf st = none
  pend : pendingOf st = pd
theorem PB.size {a₀ : Array Keyed} {pd : Array (Nat × Nat × Nat)} {st : SortSt} (h : PB a₀ κ pd st) : (arrOf st).size = a₀.size := by simpa using h.perm.length_eq
theorem PB.sat {a₀ : Array Keyed} {pd : Array (Nat × Nat × Nat)} {st : SortSt} (h : PB a₀ κ pd st) (h0 : ∀ z ∈ a₀.toList, S z) : ∀ z ∈ (arrOf st).toList, S z := fun z hz => h0 z (h.perm.mem_iff.mp hz)
theorem PB.setArr {a₀ : Array Keyed} {pd : Array (Nat × Nat × Nat)} {st : SortSt} (h : PB a₀ κ pd st) {xs : Array Keyed} (hp : xs.toList.Perm (arrOf st).toList) : PB a₀ κ pd (setArr st xs) := ⟨hp.trans h.perm, h.kind, h.failed, h.pend⟩
variable {a₀ : Array Keyed} {pd : Array (Nat × Nat × Nat)}
theorem ltAt_ok {st : SortSt} {i j : Nat} {Q : Option Bool → SortSt → Prop} (hL : LtOk prog w A s κ L S) (h0 : ∀ z ∈ a₀.toList, S z) (hB : PB a₀ κ pd st) (hi : i < a₀.size) (hj : j < a₀.size) (h : ∀ b, Q (some b) st) : wpS (model prog w) A E s (ltAt' i j) Q st := by
  rw [ltAt'_eq]
  refine wpS_bind (wpS_get ?_)
  have hs := hB.size
  have hS := hB.sat h0
  refine wpS_bind (elem_ok (arr := arrOf st) (by (first | lia | omega)) (wpS_bind (elem_ok (by (first | lia | omega)) (lt_ok hL hB.kind (hS _ (by simp)) (hS _ (by simp)) (h _)))))
theorem rev_ok {st : SortSt} {i j : Nat} {Q : Unit → SortSt → Prop} (hB : PB a₀ κ pd st) (h : ∀ st', PB a₀ κ pd st' → Q () st') : wpS (model prog w) A E s (reverseSlice' i j) Q st := by
  rw [reverseSlice'_eq]
  exact wpS_modify (h _ (hB.setArr (Array.perm_iff_toList_perm.mp (mirror_perm _ _ _ _))))
theorem move_ok {st : SortSt} {i j : Nat} {Q : Unit → SortSt → Prop} (hB : PB a₀ κ pd st) (h : ∀ st', PB a₀ κ pd st' → Q () st') : wpS (model prog w) A E s (moveDown' i j) Q st := by
  rw [moveDown'_eq]
  exact wpS_modify (h _ (hB.setArr (Array.perm_iff_toList_perm.mp (bubble_perm _ _ _))))

theorem binary_ok {st : SortSt} {lo n ok : Nat} {Q : Bool → SortSt → Prop} (hL : LtOk prog w A s κ L S) (h0 : ∀ z ∈ a₀.toList, S z) (hB : PB a₀ κ pd st) (hn : lo + n ≤ a₀.size) (h : ∀ st', PB a₀ κ pd st' → Q true st') : wpS (model prog w) A E s (binarySort' lo n ok) Q st := by
  rw [binarySort'_eq]
  refine wpS_bind (wpS_mono (wpS_forRange (I := fun _ c st' => c = (none, ()) ∧ PB a₀ κ pd st') (Q := fun c st' => c = (none, ()) ∧ PB a₀ κ pd st') ?_ (fun _ _ z => z) ⟨rfl, hB⟩) ?_)
  · rintro k c st1 _ hk ⟨rfl, hB1⟩
    refine wpS_bind (wpS_mono (loop_ok (I := fun c st' => st' = st1 ∧ ∃ l r, c = (none, l, r) ∧ r ≤ k) (Q := fun c st' => st' = st1 ∧ ∃ l r, c = (none, l, r) ∧ r ≤ k) ?_ (fun _ _ z => z) ⟨rfl, _, _, rfl, Nat.le_refl _⟩) ?_)
    · rintro i c st2 ⟨rfl, l, r, rfl, hr⟩
      refine ite_ok (fun _ => wpS_pure ⟨rfl, _, _, rfl, hr⟩) (fun hlr => ?_)
      dsimp only at hlr
      refine wpS_bind (ltAt_ok hL h0 hB1 (by (try dsimp only); (first | lia | omega)) (by (try dsimp only); (first | lia | omega)) fun b => ?_)
      cases b with
      | true => exact wpS_pure ⟨rfl, _, _, rfl, by (try dsimp only); (first | lia | omega)⟩
      | false => exact wpS_pure ⟨rfl, _, _, rfl, hr⟩
    · rintro c st2 ⟨rfl, l, r, rfl, hr⟩
      exact wpS_bind (move_ok hB1 fun st3 hB3 => wpS_pure ⟨rfl, hB3⟩)
  · rintro c st1 ⟨rfl, hB1⟩
    exact wpS_pure (h st1 hB1)

theorem run_ok {st : SortSt} {lo nrem : Nat} {Q : Option Nat → SortSt → Prop} (hL : LtOk prog w A s κ L S) (h0 : ∀ z ∈ a₀.toList, S z) (hB : PB a₀ κ pd st) (hn : lo + nrem ≤ a₀.size) (h1 : 1 ≤ nrem)
    (h : ∀ n st', 1 ≤ n → n ≤ nrem → PB a₀ κ pd st' → Q (some n) st') : wpS (model prog w) A E s (countRun' lo nrem) Q st := by
  rw [countRun'_eq]
  have tail : ∀ (n : Nat) (st1 : SortSt), 1 ≤ n → n ≤ nrem → PB a₀ κ pd st1 → wpS (model prog w) A E s (do
      reverseSlice' lo (lo + n)
      let mut n := n
      for _ in [n:nrem] do
        let some q ← ltAt' (lo + n) (lo + n - 1) | return none
        if q then break
        n := n + 1
      return some n) Q st1 := by
    intro n st1 hn1 hn2 hB1
    refine wpS_bind (rev_ok hB1 fun st2 hB2 => ?_)
    refine wpS_bind (wpS_mono (wpS_forRange (I := fun x (c : Option (Option Nat) × Nat) st' => st' = st2 ∧ c.1 = none ∧ c.2 = x) (Q := fun c st' => st' = st2 ∧ c.1 = none ∧ n ≤ c.2 ∧ c.2 ≤ nrem) ?_ (fun c st' z => ⟨z.1, z.2.1, by (first | lia | omega), by (first | lia | omega)⟩) ⟨rfl, rfl, rfl⟩) ?_)
    · rintro x ⟨r, m⟩ st3 hx1 hx2 ⟨rfl, hr, hm⟩
      dsimp only at hr hm
      subst hr hm
      refine wpS_bind (ltAt_ok hL h0 hB2 (by (try dsimp only); (first | lia | omega)) (by (try dsimp only); (first | lia | omega)) fun b => ?_)
      cases b with
      | true => exact wpS_pure ⟨rfl, rfl, hx1, by dsimp only; (first | lia | omega)⟩
      | false => exact wpS_pure ⟨rfl, rfl, rfl⟩
    · rintro ⟨r, m⟩ st3 ⟨rfl, hr, hm1, hm2⟩
      dsimp only at hr hm1 hm2
      subst hr
      exact wpS_pure (h m _ (by (first | lia | omega)) hm2 hB2)
  have desc : ∀ (n : Nat) (st1 : SortSt), 1 ≤ n → n < nrem → PB a₀ κ pd st1 → wpS (model prog w) A E s (do
      rule "list.sort.descending-run"
      let mut n := n
      n := n + 1
      let mut neq := 0
      for _ in [n:nrem] do
        let some q ← ltAt' (lo + n) (lo + n - 1) | return none
        if q then
          if neq > 0 then reverseSlice' (lo + n - (neq + 1)) (lo + n)
          neq := 0
        else
          let some q' ← ltAt' (lo + n - 1) (lo + n) | return none
          if q' then break
          neq := neq + 1
        n := n + 1
      if neq > 0 then reverseSlice' (lo + n - (neq + 1)) (lo + n)
      reverseSlice' lo (lo + n)
      for _ in [n:nrem] do
        let some q ← ltAt' (lo + n) (lo + n - 1) | return none
        if q then break
        n := n + 1
      return some n) Q st1 := by
    intro n st1 hn1 hn2 hB1
    refine wpS_bind (wpS_lift (wpAny_rule ⟨rfl, ?_⟩))
    dsimp only
    refine wpS_bind (wpS_mono (wpS_forRange (I := fun x (c : Option (Option Nat) × Nat × Nat) st' => PB a₀ κ pd st' ∧ c.1 = none ∧ c.2.1 = x) (Q := fun c st' => PB a₀ κ pd st' ∧ c.1 = none ∧ n + 1 ≤ c.2.1 ∧ c.2.1 ≤ nrem) ?_ (fun c st' z => ⟨z.1, z.2.1, by (first | lia | omega), by (first | lia | omega)⟩) ⟨hB1, rfl, rfl⟩) ?_)
    · rintro x ⟨r, m, q⟩ st3 hx1 hx2 ⟨hB3, hr, hm⟩
      dsimp only at hr hm
      subst hr hm
      refine wpS_bind (ltAt_ok hL h0 hB3 (by (try dsimp only); (first | lia | omega)) (by (try dsimp only); (first | lia | omega)) fun b => ?_)
      cases b with
      | true =>
        dsimp only
        rw [if_pos rfl]
        refine ite_ok (fun _ => ?_) (fun _ => ?_)
        · exact wpS_bind (rev_ok hB3 fun st4 hB4 => wpS_pure ⟨hB4, rfl, rfl⟩)
        · exact wpS_pure ⟨hB3, rfl, rfl⟩
      | false =>
        dsimp only
        rw [if_neg (by simp)]
        refine wpS_bind (ltAt_ok hL h0 hB3 (by (try dsimp only); (first | lia | omega)) (by (try dsimp only); (first | lia | omega)) fun b => ?_)
        cases b with
        | true => exact wpS_pure ⟨hB3, rfl, hx1, by dsimp only; (first | lia | omega)⟩
        | false => exact wpS_pure ⟨hB3, rfl, rfl⟩
    · rintro ⟨r, m, q⟩ st3 ⟨hB3, hr, hm1, hm2⟩
      dsimp only at hr hm1 hm2
      subst hr
      dsimp only
      refine ite_ok (fun _ => ?_) (fun _ => ?_)
      · exact wpS_bind (rev_ok hB3 fun st4 hB4 => tail m st4 (by (first | lia | omega)) hm2 hB4)
      · exact tail m st3 (by (first | lia | omega)) hm2 hB3
  dsimp only
  refine wpS_bind (wpS_mono (wpS_forRange (I := fun x (c : Option (Option Nat) × Nat) st' => st' = st ∧ c.1 = none ∧ c.2 = x) (Q := fun c st' => st' = st ∧ c.1 = none ∧ 1 ≤ c.2 ∧ c.2 ≤ nrem) ?_ (fun c st' z => ⟨z.1, z.2.1, by (first | lia | omega), by (first | lia | omega)⟩) ⟨rfl, rfl, rfl⟩) ?_)
  · rintro x ⟨r, m⟩ st3 hx1 hx2 ⟨rfl, hr, hm⟩
    dsimp only at hr hm
    subst hr hm
    refine wpS_bind (ltAt_ok hL h0 hB (by (try dsimp only); (first | lia | omega)) (by (try dsimp only); (first | lia | omega)) fun b => ?_)
    cases b with
    | true => exact wpS_pure ⟨rfl, rfl, hx1, by dsimp only; (first | lia | omega)⟩
    | false => exact wpS_pure ⟨rfl, rfl, rfl⟩
  · rintro ⟨r, m⟩ st3 ⟨rfl, hr, hm1, hm2⟩
    dsimp only at hr hm1 hm2
    subst hr
    dsimp only
    refine ite_ok (fun _ => wpS_pure (h m _ hm1 hm2 hB)) (fun hne => ?_)
    have hne := beq_no hne
    refine ite_ok (fun _ => ?_) (fun _ => ?_)
    · refine wpS_bind (ltAt_ok hL h0 hB (by (first | lia | omega)) (by (first | lia | omega)) fun b => ?_)
      cases b with
      | true => exact wpS_pure (h m _ hm1 hm2 hB)
      | false => exact wpS_bind (rev_ok hB fun st4 hB4 => desc m st4 hm1 (by (first | lia | omega)) hB4)
    · exact desc m _ hm1 (by (first | lia | omega)) hB

/-! the runs that stand next to one another -/
def Runs : List (Nat × Nat × Nat) → Nat → Nat → Prop
  | [], a, b => a = b
  | (x, n, _) :: r, a, b => x = a ∧ 1 ≤ n ∧ Runs r (a + n) b
theorem Runs.le : ∀ {l : List (Nat × Nat × Nat)} {a b : Nat}, Runs l a b → a ≤ b
  | [], _, _, h => Nat.le_of_eq h
  | (x, n, _) :: r, a, b, h => by have := Runs.le h.2.2; (first | lia | omega)
theorem Runs.two : ∀ {l : List (Nat × Nat × Nat)} {a b i sa na pw sb nb q : Nat}, Runs l a b → l[i]? = some (sa, na, pw) → l[i + 1]? = some (sb, nb, q) →
    sb = sa + na ∧ 1 ≤ na ∧ 1 ≤ nb ∧ sb + nb ≤ b ∧ Runs ((l.set i (sa, na + nb, pw)).eraseIdx (i + 1)) a b
  | [], _, _, _, _, _, _, _, _, _, _, e, _ => by simp at e
  | [_], _, _, _, _, _, _, _, _, _, _, _, e => by simp at e
  | (x, n, p) :: (y, m, p') :: r, a, b, 0, sa, na, pw, sb, nb, q, h, e1, e2 => by
    simp at e1 e2
    obtain ⟨rfl, rfl, rfl⟩ := e1
    obtain ⟨rfl, rfl, rfl⟩ := e2
    obtain ⟨rfl, h1, rfl, h2, h3⟩ := h
    refine ⟨rfl, h1, h2, Runs.le h3, ?_⟩
    show Runs ((x, n + m, p) :: r) x b
    exact ⟨rfl, by (first | lia | omega), by rw [← Nat.add_assoc]; exact h3⟩
  | (x, n, p) :: z :: r, a, b, i + 1, sa, na, pw, sb, nb, q, h, e1, e2 => by
    obtain ⟨rfl, h1, h3⟩ := h
    have e1' : (z :: r)[i]? = some (sa, na, pw) := by simpa using e1
    have e2' : (z :: r)[i + 1]? = some (sb, nb, q) := by simpa using e2
    obtain ⟨t1, t2, t3, t4, t5⟩ := Runs.two h3 e1' e2'
    exact ⟨t1, t2, t3, t4, rfl, h1, t5⟩
theorem Runs.snoc : ∀ {l : List (Nat × Nat × Nat)} {a b n q : Nat}, Runs l a b → 1 ≤ n → Runs (l ++ [(b, n, q)]) a (b + n)
  | [], a, b, n, q, h, hn => by
    have h : a = b := h
    subst h
    exact ⟨rfl, hn, rfl⟩
  | (x, m, _) :: r, a, b, n, q, h, hn => ⟨h.1, h.2.1, Runs.snoc h.2.2 hn⟩
theorem Runs.modify {f : Nat × Nat × Nat → Nat × Nat × Nat} (hf : ∀ x, (f x).1 = x.1 ∧ (f x).2.1 = x.2.1) : ∀ {l : List (Nat × Nat × Nat)} {a b : Nat} (i : Nat), Runs l a b → Runs (l.modify i f) a b
  | [], _, _, _, h => by simpa using h
  | (x, n, p) :: r, a, b, 0, h => by
    have e := hf (x, n, p)
    obtain ⟨y, m, q⟩ : Nat × Nat × Nat := f (x, n, p)
    rw [List.modify_cons]
    simp only [if_true]
    rcases hq : f (x, n, p) with ⟨y', m', q'⟩
    rw [hq] at e
    dsimp only at e
    obtain ⟨rfl, rfl⟩ := e
    exact h
  | (x, n, p) :: r, a, b, i + 1, h => by
    rw [List.modify_succ_cons]
    exact ⟨h.1, h.2.1, Runs.modify hf i h.2.2⟩

theorem fold_set : ∀ (l : List Keyed) (n p : Nat) (arr : Array Keyed), p + n + l.length ≤ arr.size →
    ((l.zipIdx n).foldl (fun c (x : Keyed × Nat) => c.setIfInBounds (p + x.2) x.1) arr).toList = arr.toList.take (p + n) ++ l ++ arr.toList.drop (p + n + l.length)
  | [], n, p, arr, h => by simp
  | x :: l, n, p, arr, h => by
    rw [List.zipIdx_cons, List.foldl_cons]
    have hl : p + n < arr.size := by simp at h; (first | lia | omega)
    rw [fold_set l (n + 1) p _ (by simp at h ⊢; (first | lia | omega))]
    simp only [Array.toList_setIfInBounds]
    have e1 : (arr.toList.set (p + n) x).take (p + (n + 1)) = arr.toList.take (p + n) ++ [x] := by
      rw [show p + (n + 1) = (p + n) + 1 by (first | lia | omega), List.take_add_one, List.getElem?_set_self (by simpa using hl)]
      simp [List.take_set_of_le]
    have e2 : (arr.toList.set (p + n) x).drop (p + (n + 1) + l.length) = arr.toList.drop (p + n + (x :: l).length) := by
      rw [List.drop_set_of_lt (by (first | lia | omega))]
      congr 1
      simp
      (first | lia | omega)
    rw [e1, e2]
    simp
theorem seg_perm {arr : Array Keyed} {z : Array Keyed} {p c q : Nat} (h1 : p ≤ c) (h2 : c ≤ q) (h3 : q ≤ arr.size) (hz : z.toList.Perm ((arr.extract p c).toList ++ (arr.extract c q).toList)) :
    (z.toList.zipIdx.foldl (fun a (x : Keyed × Nat) => a.setIfInBounds (p + x.2) x.1) arr).toList.Perm arr.toList := by
  have hlen : z.toList.length = q - p := by
    rw [hz.length_eq]
    simp
    (first | lia | omega)
  rw [fold_set _ 0 p arr (by (first | lia | omega))]
  have e : arr.toList = arr.toList.take (p + 0) ++ ((arr.extract p c).toList ++ (arr.extract c q).toList) ++ arr.toList.drop (p + 0 + z.toList.length) := by
    have t1 := extract_list2 arr h1
    have t2 := extract_list2 arr h2
    rw [← List.append_assoc, Nat.add_zero, ← t1, ← t2, hlen, show p + (q - p) = q by (first | lia | omega), List.take_append_drop]
  refine List.Perm.trans ?_ (List.Perm.of_eq e.symm)
  exact List.Perm.append_right _ (List.Perm.append_left _ hz)

theorem set_ok {M : Model} {σ : Type} {x st : σ} {Q : PUnit → σ → Prop} (h : Q ⟨⟩ x) : wpS M A E s (set x : StateT σ Sem PUnit) Q st := by
  unfold wpS
  rw [StateT.run_set]
  exact wpAny_pure ⟨rfl, h⟩
theorem mergeAt_ok {st : SortSt} {i lo : Nat} {Q : Bool → SortSt → Prop} (hL : LtOk prog w A s κ L S) (h0 : ∀ z ∈ a₀.toList, S z) (hB : PB a₀ κ (pendingOf st) st) (hR : Runs (pendingOf st).toList 0 lo) (hlo : lo ≤ a₀.size) (hi : i + 1 < (pendingOf st).size)
    (h : ∀ st', PB a₀ κ (pendingOf st') st' → Runs (pendingOf st').toList 0 lo → (pendingOf st').size + 1 = (pendingOf st).size → Q true st') : wpS (model prog w) A E s (mergeAt' i) Q st := by
  rw [mergeAt_eq]
  refine wpS_bind (wpS_get ?_)
  have e1 : (pendingOf st)[i]? = some (pendingOf st)[i] := getElem?_pos (pendingOf st) i (by (first | lia | omega))
  have e2 : (pendingOf st)[i + 1]? = some (pendingOf st)[i + 1] := getElem?_pos (pendingOf st) (i + 1) hi
  rcases d1 : (pendingOf st)[i] with ⟨sa, na, pw⟩
  rcases d2 : (pendingOf st)[i + 1] with ⟨sb, nb, q⟩
  rw [d1] at e1
  rw [d2] at e2
  rw [e1, e2]
  dsimp only
  have hsz := hB.size
  have hS := hB.sat h0
  obtain ⟨t1, t2, t3, t4, t5⟩ := Runs.two hR (by rw [Array.getElem?_toList]; exact e1) (by rw [Array.getElem?_toList]; exact e2)
  have pe : (((pendingOf st).setIfInBounds i (sa, na + nb, pw)).eraseIdxIfInBounds (i + 1)).toList = ((pendingOf st).toList.set i (sa, na + nb, pw)).eraseIdx (i + 1) := by
    rw [Array.eraseIdxIfInBounds, dif_pos (by simpa using hi), Array.toList_eraseIdx, Array.toList_setIfInBounds]
  refine wpS_bind (set_ok ?_)
  have done : ∀ st', PB a₀ κ (((pendingOf st).setIfInBounds i (sa, na + nb, pw)).eraseIdxIfInBounds (i + 1)) st' → Q true st' := fun st' hB' => by
    refine h st' ⟨hB'.perm, hB'.kind, hB'.failed, rfl⟩ ?_ ?_
    · rw [hB'.pend, pe]; exact t5
    · rw [hB'.pend]
      have hl := congrArg List.length pe
      rw [List.length_eraseIdx_of_lt (by simpa using hi), List.length_set, Array.length_toList, Array.length_toList] at hl
      (first | lia | omega)
  have hB1 : PB a₀ κ (((pendingOf st).setIfInBounds i (sa, na + nb, pw)).eraseIdxIfInBounds (i + 1)) (setPending st (((pendingOf st).setIfInBounds i (sa, na + nb, pw)).eraseIdxIfInBounds (i + 1))) := ⟨hB.perm, hB.kind, hB.failed, rfl⟩
  refine wpS_bind (elem_ok (by (first | lia | omega)) (wpS_bind (gallop_ok hL hB1.kind (hS _ (by simp)) hS (by (first | lia | omega)) (by (first | lia | omega)) fun k hk => ?_)))
  dsimp only
  refine ite_ok (fun _ => wpS_pure (done _ hB1)) (fun z1 => ?_)
  have z1 := beq_no z1
  refine wpS_bind (elem_ok (by (first | lia | omega)) (wpS_bind (gallop_ok hL hB1.kind (hS _ (by simp)) hS (by (first | lia | omega)) (by (first | lia | omega)) fun m hm => ?_)))
  dsimp only
  refine ite_ok (fun _ => wpS_pure (done _ hB1)) (fun z2 => ?_)
  have z2 := beq_no z2
  have s1 : ((arrOf st).extract (sa + k) sb).size = sb - (sa + k) := by simp; (first | lia | omega)
  have s2 : ((arrOf st).extract sb (sb + m)).size = m := by simp; (first | lia | omega)
  have m1 : ∀ z ∈ ((arrOf st).extract (sa + k) sb).toList, S z := fun z hz => hS z (by
    have := extract_list2 (arrOf st) (c := sa + k) (i := sb) (by (first | lia | omega))
    exact List.mem_of_mem_take (i := sb) (by rw [this]; exact List.mem_append_right _ hz))
  have m2 : ∀ z ∈ ((arrOf st).extract sb (sb + m)).toList, S z := fun z hz => hS z (by
    have := extract_list2 (arrOf st) (c := sb) (i := sb + m) (by (first | lia | omega))
    exact List.mem_of_mem_take (i := sb + m) (by rw [this]; exact List.mem_append_right _ hz))
  have last : ∀ (z : Array Keyed) (st' : SortSt), z.toList.Perm (((arrOf st).extract (sa + k) sb).toList ++ ((arrOf st).extract sb (sb + m)).toList) →
      Alike (setPending st (((pendingOf st).setIfInBounds i (sa, na + nb, pw)).eraseIdxIfInBounds (i + 1))) st' →
      wpS (model prog w) A E s (do
        modify fun s => setArr s (z.toList.zipIdx.foldl (fun c (p, j) => c.setIfInBounds (sa + k + j) p) (arrOf s))
        return (failedOf (← get)).isNone) Q st' := by
    rintro z st' hz ⟨g, rfl⟩
    refine wpS_bind (wpS_modify (wpS_bind (wpS_get ?_)))
    have hB2 : PB a₀ κ (((pendingOf st).setIfInBounds i (sa, na + nb, pw)).eraseIdxIfInBounds (i + 1)) (SortSt.mk' (kindOf st) (z.toList.zipIdx.foldl (fun c (x : Keyed × Nat) => c.setIfInBounds (sa + k + x.2) x.1) (arrOf st)) (((pendingOf st).setIfInBounds i (sa, na + nb, pw)).eraseIdxIfInBounds (i + 1)) g (failedOf st)) :=
      ⟨(seg_perm (by (first | lia | omega)) (by (first | lia | omega)) (by (first | lia | omega)) hz).trans hB.perm, hB.kind, hB.failed, rfl⟩
    have hf : (failedOf st).isNone = true := by rw [hB.failed]; rfl
    show wpS _ _ _ _ (pure ((failedOf st).isNone)) _ _
    rw [hf]
    exact wpS_pure (done _ hB2)
  refine ite_ok (fun _ => ?_) (fun _ => ?_)
  · exact wpS_bind (mergeLo_ok hL hB1.kind m1 m2 (by (first | lia | omega)) (by (first | lia | omega)) last)
  · exact wpS_bind (mergeHi_ok hL hB1.kind m1 m2 (by (first | lia | omega)) (by (first | lia | omega)) last)

theorem minRun_pos : ∀ (f n r : Nat), 1 ≤ n → 1 ≤ minRun' f n r
  | 0, n, r, h => by show 1 ≤ n + r; (first | lia | omega)
  | f + 1, n, r, h => by
    rw [minRun'_succ]
    by_cases z : n < 64
    · rw [if_pos z]; (first | lia | omega)
    · rw [if_neg z]
      exact minRun_pos f _ _ (by (first | lia | omega))

/-- the whole: the same items come out, whatever the comparisons say -/
theorem sortRuns_ok {st : SortSt} {Q : Unit → SortSt → Prop} (hL : LtOk prog w A s κ L S) (h0 : ∀ z ∈ a₀.toList, S z) (hB : PB a₀ κ #[] st) (h2 : 2 ≤ a₀.size)
    (h : ∀ st', (arrOf st').toList.Perm a₀.toList → failedOf st' = none → Q () st') : wpS (model prog w) A E s sortRuns' Q st := by
  rw [sortRuns'_eq]
  refine wpS_bind (wpS_get ?_)
  dsimp only
  have hsz := hB.size
  rw [hsz]
  have mp : 1 ≤ minRun' a₀.size a₀.size 0 := minRun_pos _ _ _ (by (first | lia | omega))
  refine wpS_bind (wpS_mono (wpS_forRange (I := fun x (c : Option Unit × Nat) st' => c.1 = none ∧ min x a₀.size ≤ c.2 ∧ c.2 ≤ a₀.size ∧ PB a₀ κ (pendingOf st') st' ∧ Runs (pendingOf st').toList 0 c.2)
    (Q := fun c st' => c.1 = none ∧ PB a₀ κ (pendingOf st') st' ∧ Runs (pendingOf st').toList 0 c.2 ∧ c.2 ≤ a₀.size) ?step (fun c st' z => ⟨z.1, z.2.2.2.1, z.2.2.2.2, z.2.2.1⟩) ⟨rfl, by dsimp only; (first | lia | omega), by dsimp only; (first | lia | omega), ⟨hB.perm, hB.kind, hB.failed, rfl⟩, by rw [hB.pend]; rfl⟩) ?post)
  case step =>
    rintro x ⟨r, lo⟩ st1 _ hx ⟨hr, q1, q2, hB1, hR1⟩
    dsimp only at hr q1 q2 hR1
    subst hr
    dsimp only
    refine ite_ok (fun z => wpS_pure ⟨rfl, hB1, hR1, q2⟩) (fun z => ?_)
    refine wpS_bind (run_ok (pd := pendingOf st1) hL h0 hB1 (by (first | lia | omega)) (by (first | lia | omega)) fun n st2 n1 n2 hB2 => ?_)
    have hp2 := hB2.pend
    dsimp only
    refine ite_ok (fun hlt => ?_) (fun hge => ?_)
    · refine wpS_bind (wpS_lift (wpAny_rule ⟨rfl, ?_⟩))
      refine wpS_bind (binary_ok hL h0 hB2 (by (first | lia | omega)) fun st3 hB3 => ?_)
      rw [if_neg (by simp)]
      refine wpS_bind (wpS_get ?_)
      have hpx := hB3.pend
      rw [hpx]
      cases hb : (pendingOf st1).back? with
      | none =>
        refine wpS_bind (wpS_modify (wpS_pure ⟨rfl, by dsimp only; (first | lia | omega), by dsimp only; (first | lia | omega), ⟨hB3.perm, hB3.kind, hB3.failed, rfl⟩, ?_⟩))
        show Runs ((pendingOf st3).push _).toList 0 _
        rw [hpx, Array.toList_push]
        exact Runs.snoc hR1 (by (first | lia | omega))
      | some v =>
        obtain ⟨s1, m1, p1⟩ := v
        dsimp only
        refine wpS_bind (wpS_mono (loop_ok (I := fun c st' => c = (none, ()) ∧ PB a₀ κ (pendingOf st') st' ∧ Runs (pendingOf st').toList 0 lo) (Q := fun c st' => c = (none, ()) ∧ PB a₀ κ (pendingOf st') st' ∧ Runs (pendingOf st').toList 0 lo) ?_ (fun _ _ z => z) ⟨rfl, ⟨hB3.perm, hB3.kind, hB3.failed, rfl⟩, by rw [hpx]; exact hR1⟩) ?_)
        · rintro i c st4 ⟨rfl, hB4, hR4⟩
          refine wpS_bind (wpS_get ?_)
          by_cases hps : (pendingOf st4).size > 1
          · rw [if_pos hps, getElem?_pos (pendingOf st4) ((pendingOf st4).size - 2) (by (first | lia | omega))]
            rcases (pendingOf st4)[(pendingOf st4).size - 2]'(by (first | lia | omega)) with ⟨u, v, older⟩
            dsimp only
            refine ite_ok (fun _ => wpS_pure ⟨rfl, hB4, hR4⟩) (fun _ => ?_)
            refine wpS_bind (mergeAt_ok hL h0 hB4 hR4 q2 (by (first | lia | omega)) fun st5 hB5 hR5 _ => ?_)
            rw [if_neg (by simp)]
            exact wpS_pure ⟨rfl, hB5, hR5⟩
          · rw [if_neg hps]
            exact wpS_pure ⟨rfl, hB4, hR4⟩
        · rintro c st4 ⟨rfl, hB4, hR4⟩
          dsimp only
          refine wpS_bind (wpS_modify (wpS_bind (wpS_modify (wpS_pure ⟨rfl, by dsimp only; (first | lia | omega), by dsimp only; (first | lia | omega), ⟨hB4.perm, hB4.kind, hB4.failed, rfl⟩, ?_⟩))))
          show Runs (((pendingOf st4).modify _ _).push _).toList 0 _
          rw [Array.toList_push, Array.toList_modify]
          refine Runs.snoc (Runs.modify ?_ _ hR4) (by (first | lia | omega))
          exact fun _ => ⟨rfl, rfl⟩
    · have hdummy : True := trivial
      refine wpS_bind (wpS_get ?_)
      have hpx := hB2.pend
      rw [hpx]
      cases hb : (pendingOf st1).back? with
      | none =>
        refine wpS_bind (wpS_modify (wpS_pure ⟨rfl, by dsimp only; (first | lia | omega), by dsimp only; (first | lia | omega), ⟨hB2.perm, hB2.kind, hB2.failed, rfl⟩, ?_⟩))
        show Runs ((pendingOf st2).push _).toList 0 _
        rw [hpx, Array.toList_push]
        exact Runs.snoc hR1 (by (first | lia | omega))
      | some v =>
        obtain ⟨s1, m1, p1⟩ := v
        dsimp only
        refine wpS_bind (wpS_mono (loop_ok (I := fun c st' => c = (none, ()) ∧ PB a₀ κ (pendingOf st') st' ∧ Runs (pendingOf st').toList 0 lo) (Q := fun c st' => c = (none, ()) ∧ PB a₀ κ (pendingOf st') st' ∧ Runs (pendingOf st').toList 0 lo) ?_ (fun _ _ z => z) ⟨rfl, ⟨hB2.perm, hB2.kind, hB2.failed, rfl⟩, by rw [hpx]; exact hR1⟩) ?_)
        · rintro i c st4 ⟨rfl, hB4, hR4⟩
          refine wpS_bind (wpS_get ?_)
          by_cases hps : (pendingOf st4).size > 1
          · rw [if_pos hps, getElem?_pos (pendingOf st4) ((pendingOf st4).size - 2) (by (first | lia | omega))]
            rcases (pendingOf st4)[(pendingOf st4).size - 2]'(by (first | lia | omega)) with ⟨u, v, older⟩
            dsimp only
            refine ite_ok (fun _ => wpS_pure ⟨rfl, hB4, hR4⟩) (fun _ => ?_)
            refine wpS_bind (mergeAt_ok hL h0 hB4 hR4 q2 (by (first | lia | omega)) fun st5 hB5 hR5 _ => ?_)
            rw [if_neg (by simp)]
            exact wpS_pure ⟨rfl, hB5, hR5⟩
          · rw [if_neg hps]
            exact wpS_pure ⟨rfl, hB4, hR4⟩
        · rintro c st4 ⟨rfl, hB4, hR4⟩
          dsimp only
          refine wpS_bind (wpS_modify (wpS_bind (wpS_modify (wpS_pure ⟨rfl, by dsimp only; (first | lia | omega), by dsimp only; (first | lia | omega), ⟨hB4.perm, hB4.kind, hB4.failed, rfl⟩, ?_⟩))))
          show Runs (((pendingOf st4).modify _ _).push _).toList 0 _
          rw [Array.toList_push, Array.toList_modify]
          refine Runs.snoc (Runs.modify ?_ _ hR4) (by (first | lia | omega))
          exact fun _ => ⟨rfl, rfl⟩
  case post =>
    rintro ⟨r, lo⟩ st1 ⟨hr, hB1, hR1, hlo⟩
    dsimp only at hr hR1 hlo
    subst hr
    dsimp only
    refine wpS_bind (wpS_mono (loop_ok (I := fun c st' => c = (none, ()) ∧ PB a₀ κ (pendingOf st') st' ∧ Runs (pendingOf st').toList 0 lo) (Q := fun c st' => c = (none, ()) ∧ PB a₀ κ (pendingOf st') st' ∧ Runs (pendingOf st').toList 0 lo) ?_ (fun _ _ z => z) ⟨rfl, hB1, hR1⟩) ?_)
    · rintro i c st4 ⟨rfl, hB4, hR4⟩
      refine wpS_bind (wpS_get ?_)
      refine ite_ok (fun _ => wpS_pure ⟨rfl, hB4, hR4⟩) (fun hps => ?_)
      refine wpS_bind (mergeAt_ok hL h0 hB4 hR4 hlo (by repeat' split
                                                        all_goals (first | lia | omega)) fun st5 hB5 hR5 _ => ?_)
      rw [if_neg (by simp)]
      exact wpS_pure ⟨rfl, hB5, hR5⟩
    · rintro c st4 ⟨rfl, hB4, hR4⟩
      exact wpS_pure (h _ hB4.perm hB4.failed)
end
end TS
set_option Elab.async false
set_option linter.all false
set_option maxRecDepth 100000
set_option maxHeartbeats 4000000
namespace L2
open PySem PySem.Spec PyProof.Rows PySem.W

/-! ### own part 7: sorted(a list of tuples of ints): the same items -/
/-- a tuple of ints lies at the value -/
def TupI (h : Heap) (v : Value) : Prop := ∃ a o xs n, v = .ref a ∧ h.get? a = some o ∧ o.cls = .type "tuple" ∧ o.data = .seq xs n ∧ 0 < xs.size ∧ ∀ y ∈ xs.toList, ∃ i t, y = Value.int i t
theorem TupI.keep {h h' : Heap} {v : Value} (t : TupI h v) (k : ∀ b o, v = .ref b → h.get? b = some o → h'.get? b = some o) : TupI h' v := by
  obtain ⟨a, o, xs, n, rfl, h1, h2⟩ := t
  exact ⟨a, o, xs, n, rfl, k a o rfl h1, h2⟩
section
variable {prog : Program} {w : World} {A : Around} {E : Value → Shared → Prop} {s : Shared}
theorem kat_ints {b fin : Bool} : ∀ (l : List (Value × Value)) (i : Nat), (∀ p ∈ l, ∃ x t y u, p = (Value.int x t, Value.int y u)) → ∃ r, ∀ Q : Bool → Shared → Prop, Q r s → KatLex prog w A b fin Q l i s
  | [], i, _ => ⟨fin, fun Q h => kat_nil h⟩
  | p :: r, i, h => by
    obtain ⟨x, t, y, u, rfl⟩ := h p List.mem_cons_self
    obtain ⟨c, hc⟩ := kat_ints (b := b) (fin := fin) r (i + 1) fun q hq => h q (List.mem_cons_of_mem _ hq)
    by_cases e : x = y
    · subst e
      refine ⟨c, fun Q hq => kat_cons (wpAny_eqBool_int ?_)⟩
      rw [beq_self_eq_true]
      exact kat_yes (hc Q hq)
    · refine ⟨decide (x < y), fun Q hq => kat_cons (wpAny_eqBool_int ?_)⟩
      rw [beq_eq_false_iff_ne.mpr e]
      refine kat_no ?_
      cases hf : (b && i == 0) with
      | true => exact oneLt_int hq
      | false => exact kat_one _ _ (lt_int hq)
theorem lt_ex {b : Bool} {x y : Value} (hx : TupI s.heap x) (hy : TupI s.heap y) : ∃ r, ∀ (Q : Bool → Shared → Prop) (E : Value → Shared → Prop), Q r s → wpAny (model prog w) A (keyLt' (tuples' b) x y) Q E s := by
  obtain ⟨a, o, xs, n, rfl, h1, _, h2, _, h3⟩ := hx
  obtain ⟨a', o', ys, n', rfl, g1, _, g2, _, g3⟩ := hy
  have hp : ∀ p ∈ xs.toList.zip ys.toList, ∃ x t y u, p = (Value.int x t, Value.int y u) := fun p hp => by
    obtain ⟨p1, p2⟩ := p
    obtain ⟨m1, m2⟩ := List.of_mem_zip hp
    obtain ⟨i, t, rfl⟩ := h3 _ m1
    obtain ⟨j, u, rfl⟩ := g3 _ m2
    exact ⟨i, t, j, u, rfl⟩
  obtain ⟨r, hr⟩ := kat_ints (prog := prog) (w := w) (A := A) (s := s) (b := b) (fin := decide (xs.size < ys.size)) (xs.toList.zip ys.toList) 0 hp
  exact ⟨r, fun Q E hq => kat_lt h1 h2 g1 g2 (hr Q hq)⟩
theorem ltOk_tups {b : Bool} : ∃ L : Keyed → Keyed → Bool, TS.LtOk prog w A s (tuples' b) L (fun z => TupI s.heap z.1) := by
  have key : ∀ x y : Keyed, ∃ r, TupI s.heap x.1 → TupI s.heap y.1 → ∀ (Q : Bool → Shared → Prop) (E : Value → Shared → Prop), Q r s → wpAny (model prog w) A (keyLt' (tuples' b) x.1 y.1) Q E s := fun x y => by
    by_cases h : TupI s.heap x.1 ∧ TupI s.heap y.1
    · obtain ⟨r, hr⟩ := lt_ex (prog := prog) (w := w) (A := A) (b := b) h.1 h.2
      exact ⟨r, fun _ _ => hr⟩
    · exact ⟨false, fun h1 h2 => absurd ⟨h1, h2⟩ h⟩
  exact ⟨fun x y => Classical.choose (key x y), fun x y hx hy Q E hq => Classical.choose_spec (key x y) hx hy Q E hq⟩
theorem kat_of {h : Heap} : ∀ {vs : List Value}, (∀ v ∈ vs, TupI h v) → ∃ fs, KatTups h vs fs ∧ fs.length = vs.length ∧ ∀ f ∈ fs, ∃ i t, f = Value.int i t
  | [], _ => ⟨[], KatTups.nil, rfl, fun f hf => by simp at hf⟩
  | v :: vs, hv => by
    obtain ⟨fs, h1, h2, h3⟩ := kat_of (vs := vs) fun x hx => hv x (List.mem_cons_of_mem _ hx)
    obtain ⟨a, o, xs, n, rfl, g1, g2, g3, g4, g5⟩ := hv v List.mem_cons_self
    have e0 : xs[0]? = some xs[0] := getElem?_pos xs 0 g4
    refine ⟨xs[0] :: fs, KatTups.cons g1 g2 g3 e0 h1, by simp [h2], fun f hf => ?_⟩
    rcases List.mem_cons.mp hf with rfl | hf
    · exact g5 _ (by simp)
    · exact h3 f hf

theorem list_sort_treeT {a : Addr} {vs : List Value} {n : Nat} {P : PySem.Fin → Shared → Prop} (ho : s.heap.get? a = some (seqObj "list" vs.toArray n)) (hz : vs.length ≤ 1000) (hT : ∀ v ∈ vs, TupI s.heap v)
    (h : ∀ out : List Value, out.Perm vs → P (.done (.ret .none)) { s with heap := sortedHeap s.heap a vs out.toArray }) : wpAny (model prog w) A (Builtin.«list.sort» ⟨[.ref a], []⟩) P E s := by
  rw [list_sort_plain]
  have ha : a < s.heap.objs.size := Heap.lt_size ho
  have zl : vs.length ≤ sizeLine := Nat.le_trans hz (by rw [sizeLine_eq]; (first | lia | omega))
  refine wpAny_bind (listItems_at ho rfl ?_)
  refine wpAny_bind (listUpdate_at ho rfl ?_ (by rw [List.size_toArray]; exact zl) (Nat.zero_le _))
  obtain ⟨e1, ho1⟩ : ∃ e1, (s.heap.update a (Obj.mapSeq fun _ => #[])).get? a = some (seqObj "list" #[] e1) := ⟨_, get?_update_seq ho (fun _ => #[])⟩
  refine wpAny_bind (seqEpoch_at ho1 rfl ?_)
  refine wpAny_bind (wpAny_newTuple ?_ (by show vs.length ≤ _; exact zl))
  refine wpAny_bind (wpAny_newList ?_ (Nat.zero_le _))
  refine wpAny_holding ?_
  have kp : ∀ b o, b ≠ a → s.heap.get? b = some o → (((s.heap.update a (Obj.mapSeq fun _ => #[])).push (seqObj "tuple" vs.toArray 0)).push (seqObj "list" #[] 0)).get? b = some o := fun b o hb e =>
    Heap.get?_push_of_some _ (Heap.get?_push_of_some _ (((Heap.SameBut.update s.heap a (Obj.mapSeq fun _ => (#[] : Array Value))).2 b hb).trans e))
  have ho6 : (((s.heap.update a (Obj.mapSeq fun _ => #[])).push (seqObj "tuple" vs.toArray 0)).push (seqObj "list" #[] 0)).get? a = some (seqObj "list" #[] e1) :=
    Heap.get?_push_of_some _ (Heap.get?_push_of_some _ ho1)
  have hT6 : ∀ v ∈ vs, TupI (((s.heap.update a (Obj.mapSeq fun _ => #[])).push (seqObj "tuple" vs.toArray 0)).push (seqObj "list" #[] 0)) v := fun v hv => (hT v hv).keep fun b o e q => by
    refine kp b o (fun z => ?_) q
    obtain ⟨a', o', xs, m, e', g1, g2, _⟩ := hT v hv
    rw [e] at e'
    cases e'
    rw [z, ho] at g1
    cases g1
    exact absurd (Value.type.inj g2) (by decide)
  show wpAny (model prog w) A _ P E { s with heap := ((s.heap.update a (Obj.mapSeq fun _ => #[])).push (seqObj "tuple" vs.toArray 0)).push (seqObj "list" #[] 0) }
  dsimp only
  have hsz : vs.toArray.size = vs.length := by simp
  have snd : (pairsOf vs).toList.map (·.2) = vs := by
    rw [pairsOf_toList]
    have : ∀ l : List Value, (l.zip l).map (·.2) = l := fun l => by
      induction l with
      | nil => rfl
      | cons x r ih => simp [ih]
    exact this vs
  have fin : ∀ st' : SortSt, (arrOf st').toList.Perm (pairsOf vs).toList → P (.done (.ret .none)) { s with heap := sortedHeap s.heap a vs ((arrOf st').map (·.2)) } := fun st' hp => by
    have e : (arrOf st').map (·.2) = ((arrOf st').toList.map (·.2)).toArray := by
      apply Array.toList_inj.mp
      simp
    rw [e]
    refine h _ ?_
    have := hp.map (·.2)
    rw [snd] at this
    exact this
  by_cases h2 : vs.toArray.size < 2
  · rw [if_pos h2, if_pos h2]
    refine wpAny_bind (wpAny_pure ?_)
    rw [StateT.run_pure]
    refine wpAny_bind (wpAny_pure ?_)
    dsimp only
    refine wpAny_bind (seqEpoch_at ho6 rfl ?_)
    refine wpAny_bind (listUpdate_at ho6 rfl ?_ (Nat.zero_le _) (by rw [Array.size_map]; show (pairsOf vs).size ≤ _; rw [pairsOf_size]; (first | lia | omega)))
    simp only [bne_self_eq_false, Bool.false_eq_true, if_false]
    exact wpAny_pure (fin (SortSt.mk' general' (vs.toArray.zip vs.toArray) #[] 7 none) (List.Perm.refl _))
  · rw [if_neg h2, if_neg h2]
    obtain ⟨fs, k1, k2, k3⟩ := kat_of hT6
    refine wpAny_bind (kat_kind (T := .type "int") k1 (by (first | lia | omega)) (fun v hv => ?_) rfl ?_)
    · obtain ⟨i, t, rfl⟩ := k3 v hv
      exact .now
    obtain ⟨L, hL⟩ := ltOk_tups (prog := prog) (w := w) (A := A) (s := { s with heap := ((s.heap.update a (Obj.mapSeq fun _ => #[])).push (seqObj "tuple" vs.toArray 0)).push (seqObj "list" #[] 0) }) (b := (Value.type "int" != Value.type "tuple"))
    refine wpAny_bind (wpAny_mono (TS.sortRuns_ok (a₀ := pairsOf vs) (st := SortSt.mk' (tuples' (Value.type "int" != Value.type "tuple")) (vs.toArray.zip vs.toArray) #[] 7 none)
      (Q := fun _ st' => (arrOf st').toList.Perm (pairsOf vs).toList ∧ failedOf st' = none) hL (fun z hz' => ?_) ⟨List.Perm.refl _, rfl, rfl, rfl⟩ (by rw [pairsOf_size]; (first | lia | omega)) fun st' a1 a2 => ⟨a1, a2⟩) ?_ fun _ _ e => e)
    · rw [pairsOf_toList] at hz'
      obtain ⟨z1, z2⟩ := z
      exact hT6 z1 (List.of_mem_zip hz').1
    rintro ⟨⟨⟩, st'⟩ s' ⟨rfl, hp, hf⟩
    dsimp only
    refine wpAny_bind (seqEpoch_at ho6 rfl ?_)
    refine wpAny_bind (listUpdate_at ho6 rfl ?_ (Nat.zero_le _) (by
      have e1 := hp.length_eq
      have e2 := pairsOf_size vs
      have e3 : (arrOf st').size = vs.length := by simpa [e2] using e1
      rw [Array.size_map]
      (first | lia | omega)))
    rw [hf]
    simp only [bne_self_eq_false, Bool.false_eq_true, if_false]
    exact wpAny_pure (fin st' hp)

theorem sortedT {l : Addr} {vs : List Value} {Q : Value → Shared → Prop} (hl : s.heap.IsList l vs.toArray) (hz : vs.length ≤ 1000) (hT : ∀ v ∈ vs, TupI s.heap v)
    (h : ∀ out : List Value, out.Perm vs → Q (.ref (s.heap.objs.size + 1)) { s with heap := sortedAll s.heap vs out.toArray }) : wpAny (model prog w) A (call (.builtin "sorted") [.ref l]) Q E s := by
  have zl : vs.length ≤ sizeLine := Nat.le_trans hz (by rw [sizeLine_eq]; (first | lia | omega))
  refine Calls.call_function_entry kind_sorted plain_sorted entry_sorted (args_sorted1 _) ?_
  unfold Builtin.«sorted»
  refine wpAny_bind (m := checkCount "sorted" 1 1 _) (wpAny_pure ?_)
  refine wpAny_bind (collect_list hl ?_ zl)
  refine wpAny_bind (wpAny_newList ?_ zl)
  have hsz : ((s.heap.push (seqObj "list" #[] 0)).update s.heap.objs.size (Obj.mapSeq (· ++ vs.toArray))).objs.size = s.heap.objs.size + 1 := by
    rw [Heap.size_update, size_push']
  have hoL : (((s.heap.push (seqObj "list" #[] 0)).update s.heap.objs.size (Obj.mapSeq (· ++ vs.toArray))).push (seqObj "list" vs.toArray 0)).get? (s.heap.objs.size + 1) = some (seqObj "list" vs.toArray 0) := by
    rw [← hsz]; exact Heap.get?_push_size _ rfl
  have hT2 : ∀ v ∈ vs, TupI (((s.heap.push (seqObj "list" #[] 0)).update s.heap.objs.size (Obj.mapSeq (· ++ vs.toArray))).push (seqObj "list" vs.toArray 0)) v := fun v hv => (hT v hv).keep fun b o e q =>
    Heap.get?_push_of_some _ (((Heap.SameBut.update _ _ _).2 b (Nat.ne_of_lt (Heap.lt_size q))).trans (Heap.get?_push_of_some _ q))
  show wpAny _ _ _ _ _ { s with heap := ((s.heap.push (seqObj "list" #[] 0)).update s.heap.objs.size (Obj.mapSeq (· ++ vs.toArray))).push (seqObj "list" vs.toArray 0) }
  rw [hsz]
  refine wpAny_bind (wpAny_holding (wpAny_call_entry slot_list_sort ⟨_, hoL, rfl⟩ entry_list_sort (list_sort_treeT hoL hz hT2 fun out hp => ⟨_, rfl, ?_⟩) (args_list_sort _)))
  exact wpAny_pure ⟨_, rfl, h out hp⟩
end

/-- the ints of the tuple at a -/
def tupK (H : Hp) (a : Addr) : List Int := match H a with
  | some (.tup xs) => xs.map fun x => match x with | .int i => i | _ => 0
  | _ => []
theorem tupK_of {H : Hp} {a : Addr} {ks : List Int} (h : H a = some (.tup (ks.map V.int))) : tupK H a = ks := by
  unfold tupK
  rw [h]
  simp [List.map_map, Function.comp_def]
theorem Tups.toMap {H : Hp} : ∀ {ts : List Addr} {kss : List (List Int)}, Tups H ts kss → kss = ts.map (tupK H) ∧ ∀ t ∈ ts, H t = some (.tup ((tupK H t).map V.int))
  | _, _, .nil => ⟨rfl, fun t ht => by simp at ht⟩
  | t :: ts, k :: kss, .cons h r => by
    obtain ⟨h1, h2⟩ := Tups.toMap r
    refine ⟨by rw [List.map_cons, tupK_of h, ← h1], fun u hu => ?_⟩
    rcases List.mem_cons.mp hu with rfl | hu
    · rw [tupK_of h]; exact h
    · exact h2 u hu
theorem Tups.ofMap {H : Hp} : ∀ {ts : List Addr}, (∀ t ∈ ts, H t = some (.tup ((tupK H t).map V.int))) → Tups H ts (ts.map (tupK H))
  | [], _ => .nil
  | t :: ts, h => .cons (h t List.mem_cons_self) (Tups.ofMap fun u hu => h u (List.mem_cons_of_mem _ hu))
theorem vals_refs : ∀ ts : List Addr, Vals (ts.map V.ref) (ts.map Value.ref)
  | [] => .nil
  | _ :: ts => .cons rfl (vals_refs ts)
def refA : Value → Addr
  | .ref a => a
  | _ => 0

def rSortT : List V → Hp → VK → Prop := fun xs H Q => ∃ l ts kss, xs = [.ref l] ∧ H l = some (.lst (ts.map V.ref)) ∧ Tups H ts kss ∧ (∀ ks ∈ kss, ks ≠ []) ∧ ts.length ≤ 1000 ∧
  ∀ l' ts' kss', H l' = none → Tups H ts' kss' → kss'.Perm kss → Q (.ref l') (upd H l' (.lst (ts'.map V.ref)))
theorem call_sortedT {X : Cx} : CallR X (.builtin "sorted") rSortT := by
  intro pins s σ H xs us Q I r h
  obtain ⟨l, ts, kss, rfl, hl, hT, hne, hz, q⟩ := h
  obtain ⟨u, rfl, ru⟩ := vals1 r
  cases ru
  obtain ⟨hz2, its, n, ri, hlen, e⟩ := I.lstM hl
  have ei := hT.vals ri
  subst ei
  obtain ⟨em, ht⟩ := hT.toMap
  refine sortedT (vs := ts.map Value.ref) ⟨_, e, rfl, n, rfl⟩ (by simpa using hz) (fun v hv => ?_) fun out hp => ?_
  · obtain ⟨t, hm, rfl⟩ := List.mem_map.mp hv
    have e2 := ht t hm
    obtain ⟨its, rr, ⟨o, g1, g2, m, g3⟩, _⟩ := I.tuple (SqT.of e2)
    have hk : tupK H t ≠ [] := hne _ (by rw [em]; exact List.mem_map_of_mem hm)
    have hlen := rr.length
    rw [List.length_map] at hlen
    refine ⟨t, o, its.toArray, m, rfl, g1, g2, g3, ?_, fun y hy => ?_⟩
    · have : 0 < (tupK H t).length := List.length_pos_iff.mpr hk
      simp
      (first | lia | omega)
    · have hy' : y ∈ its := by simpa using hy
      obtain ⟨i, hi⟩ := List.getElem?_of_mem hy'
      have hil : i < its.toArray.size := by simpa using (List.getElem?_eq_some_iff.mp hi).1
      obtain ⟨k, t', _, e5⟩ := ints_get rr hil
      have e6 : its.toArray[i] = y := by
        obtain ⟨_, e7⟩ := List.getElem?_eq_some_iff.mp hi
        simpa using e7
      exact ⟨k, t', by rw [← e6, e5]⟩
  · have hout : out = (out.map refA).map Value.ref := by
      rw [List.map_map]
      have : ∀ l : List Value, (∀ v ∈ l, ∃ t, v = Value.ref t) → l = l.map (Value.ref ∘ refA) := fun l => by
        induction l with
        | nil => intro _; rfl
        | cons x r ih =>
          intro hx
          obtain ⟨t, rfl⟩ := hx x List.mem_cons_self
          rw [List.map_cons, ← ih fun v hv => hx v (List.mem_cons_of_mem _ hv)]
          rfl
      refine this out fun v hv => ?_
      obtain ⟨t, _, rfl⟩ := List.mem_map.mp (hp.mem_iff.mp hv)
      exact ⟨t, rfl⟩
    have hpt : (out.map refA).Perm ts := by
      have := hp.map refA
      rw [List.map_map] at this
      have e : ts.map (refA ∘ Value.ref) = ts := by
        have : (refA ∘ Value.ref) = id := rfl
        rw [this, List.map_id]
      rw [e] at this
      exact this
    have hT' : Tups H (out.map refA) ((out.map refA).map (tupK H)) := Tups.ofMap fun t hm => ht t (hpt.mem_iff.mp hm)
    obtain ⟨c, ec⟩ := sortedAll_at s.heap (ts.map Value.ref) out.toArray
    have ho : ObjOk X.prog X.w (upd H (s.heap.objs.size + 1) (.lst ((out.map refA).map V.ref))) (sortedAll s.heap (ts.map Value.ref) out.toArray) (s.heap.objs.size + 1) (.lst ((out.map refA).map V.ref)) := by
      refine ⟨?_, (out.map refA).map Value.ref, c, vals_refs _, ?_⟩
      · rw [List.length_map, List.length_map, hp.length_eq, List.length_map]
        exact Nat.le_of_lt (small1000 hz)
      · rw [← hout]
        exact ec
    exact ⟨.ref (s.heap.objs.size + 1), _, I.laid (t' := s.toks) (fun b o e => sortedAll_old e) (Nat.le_succ _) ho, rfl, q _ _ _ (I.hok.fresh (Nat.le_succ _)) hT' (by rw [em]; exact hpt.map _)⟩
end L2
set_option Elab.async false
set_option linter.all false
set_option maxRecDepth 100000
set_option maxHeartbeats 4000000
namespace L2
open PySem PySem.Spec PyProof.Rows

/-! ### own part 8: lists of tuples of ints compared; comprehensions over a list -/
section
variable {X : Cx}
end
end L2
set_option Elab.async false
set_option linter.all false
set_option maxRecDepth 100000
set_option maxHeartbeats 4000000
namespace L2
open PySem PySem.Spec PyProof.Rows PySem.W

/-! ### own part 13: texts: split, join, f-strings -/
theorem str_ext {x y : Str} (h : x.cps.toList = y.cps.toList) : x = y := by
  obtain ⟨x⟩ := x
  obtain ⟨y⟩ := y
  congr 1
  exact Array.toList_inj.mp h
theorem str_app (x y : Str) : (x ++ y).cps.toList = x.cps.toList ++ y.cps.toList := by
  show (x.cps ++ y.cps).toList = _
  rw [Array.toList_append]
theorem len_list (x : Str) : x.length = x.cps.toList.length := by simp [Str.length]
theorem len_app (x y : Str) : (x ++ y).length = x.length + y.length := by
  rw [len_list, str_app, List.length_append, ← len_list, ← len_list]
theorem app_cut {c : Nat} : ∀ {x z A B : List Nat}, c ∉ x → c ∉ z → x ++ c :: A = z ++ c :: B → x = z ∧ A = B
  | [], [], A, B, _, _, e => ⟨rfl, (List.cons.inj e).2⟩
  | [], d :: z, A, B, _, hz, e => by
    have := (List.cons.inj e).1
    exact absurd (by rw [this]; exact List.mem_cons_self) hz
  | d :: x, [], A, B, hx, _, e => by
    have := (List.cons.inj e).1
    exact absurd (by rw [this]; exact List.mem_cons_self) hx
  | d :: x, d' :: z, A, B, hx, hz, e => by
    obtain ⟨e1, e2⟩ := List.cons.inj e
    obtain ⟨e3, e4⟩ := app_cut (fun m => hx (List.mem_cons_of_mem _ m)) (fun m => hz (List.mem_cons_of_mem _ m)) e2
    exact ⟨by rw [e1, e3], e4⟩
theorem join_two (c : Nat) (x y : Str) (r : List Str) : (Str.join ⟨#[c]⟩ (x :: y :: r)).cps.toList = x.cps.toList ++ c :: (Str.join ⟨#[c]⟩ (y :: r)).cps.toList := by
  rw [Str.join.eq_3 _ _ _ (by simp), str_app, str_app]
  simp
theorem join_uniq {c : Nat} : ∀ {l m : List Str}, l ≠ [] → m ≠ [] → (∀ p ∈ l, c ∉ p.cps.toList) → (∀ p ∈ m, c ∉ p.cps.toList) → Str.join ⟨#[c]⟩ l = Str.join ⟨#[c]⟩ m → l = m
  | [], _, h, _, _, _, _ => absurd rfl h
  | _ :: _, [], _, h, _, _, _ => absurd rfl h
  | [x], [y], _, _, _, _, e => by
    rw [Str.join.eq_2, Str.join.eq_2] at e
    rw [e]
  | [x], y :: z :: r, _, _, hl, _, e => by
    have e' := congrArg (fun s => s.cps.toList) e
    rw [Str.join.eq_2, join_two] at e'
    exact absurd (by rw [e']; simp) (hl x (by simp))
  | x :: z :: r, [y], _, _, _, hm, e => by
    have e' := congrArg (fun s => s.cps.toList) e
    rw [Str.join.eq_2, join_two] at e'
    exact absurd (by rw [← e']; simp) (hm y (by simp))
  | x :: z :: r, y :: z' :: r', _, _, hl, hm, e => by
    have e' := congrArg (fun s => s.cps.toList) e
    rw [join_two, join_two] at e'
    obtain ⟨e1, e2⟩ := app_cut (hl x (by simp)) (hm y (by simp)) e'
    have := join_uniq (l := z :: r) (m := z' :: r') (by simp) (by simp) (fun p hp => hl p (List.mem_cons_of_mem _ hp)) (fun p hp => hm p (List.mem_cons_of_mem _ hp)) (str_ext e2)
    rw [str_ext e1, this]
/-- the parts of a text by one sign -/
def spl (x : Str) (c : Nat) : List Str := PySem.Txt.split x ⟨#[c]⟩
theorem spl_ne (x : Str) (c : Nat) : spl x c ≠ [] := fun z => by
  have := split_pos x ⟨#[c]⟩
  have z : PySem.Txt.split x ⟨#[c]⟩ = [] := z
  rw [z] at this
  exact absurd this (by decide)
theorem spl_is {x : Str} {c : Nat} {l : List Str} (hl : l ≠ []) (hf : ∀ p ∈ l, c ∉ p.cps.toList) (e : Str.join ⟨#[c]⟩ l = x) : spl x c = l :=
  join_uniq (spl_ne x c) hl (fun p hp => StrLaws.split_free x c p hp) hf ((StrLaws.join_split x ⟨#[c]⟩).trans e.symm)
theorem spl_free {x : Str} {c : Nat} {p : Str} (h : p ∈ spl x c) : c ∉ p.cps.toList := StrLaws.split_free x c p h
theorem spl_join (x : Str) (c : Nat) : Str.join ⟨#[c]⟩ (spl x c) = x := StrLaws.join_split x ⟨#[c]⟩
theorem spl_short {x : Str} {c : Nat} {p : Str} (h : p ∈ spl x c) : p.length ≤ x.length := part_short h
theorem spl_len (x : Str) (c : Nat) : (spl x c).length ≤ x.length + 1 := by
  have := split_weight x ⟨#[c]⟩ (by show 1 ≤ 1; decide)
  show (PySem.Txt.split x ⟨#[c]⟩).length ≤ _
  (first | lia | omega)
/-- joined and a sign behind: one empty part more -/
theorem join_snoc (c : Nat) : ∀ {l : List Str}, l ≠ [] → Str.join ⟨#[c]⟩ (l ++ [⟨#[]⟩]) = Str.join ⟨#[c]⟩ l ++ ⟨#[c]⟩
  | [], h => absurd rfl h
  | [x], _ => by
    apply str_ext
    rw [List.cons_append, List.nil_append, join_two, Str.join.eq_2, str_app, Str.join.eq_2]
  | x :: y :: r, _ => by
    apply str_ext
    have ih := join_snoc c (l := y :: r) (by simp)
    rw [List.cons_append, List.cons_append, join_two, ← List.cons_append, ih, str_app, str_app, join_two]
    simp
theorem spl_snoc (x : Str) (c : Nat) : spl (x ++ ⟨#[c]⟩) c = spl x c ++ [⟨#[]⟩] := by
  refine spl_is (by simp) (fun p hp => ?_) ?_
  · rcases List.mem_append.mp hp with hp | hp
    · exact spl_free hp
    · rw [List.mem_singleton.mp hp]
      simp
  · rw [join_snoc c (spl_ne x c), spl_join]
/-- the last part is empty: the text is empty or ends with the sign -/
theorem spl_last {x : Str} {c : Nat} (h : (spl x c).getLast? = some ⟨#[]⟩) : x = ⟨#[]⟩ ∨ ∃ y, x = y ++ ⟨#[c]⟩ ∧ spl x c = spl y c ++ [⟨#[]⟩] := by
  have e : spl x c = (spl x c).dropLast ++ [⟨#[]⟩] := by
    have hn := spl_ne x c
    rw [List.getLast?_eq_some_getLast hn] at h
    have := List.dropLast_concat_getLast hn
    rw [Option.some.inj h] at this
    exact this.symm
  by_cases q : (spl x c).dropLast = []
  · left
    rw [q] at e
    have := spl_join x c
    rw [e] at this
    exact this.symm
  · right
    refine ⟨Str.join ⟨#[c]⟩ (spl x c).dropLast, ?_, ?_⟩
    · rw [← join_snoc c q, ← e, spl_join]
    · rw [spl_is q (fun p hp => spl_free (List.dropLast_subset _ hp)) rfl, ← e]
/-- all parts one behind another -/
def cat (l : List Str) : Str := ⟨(l.flatMap fun p => p.cps.toList).toArray⟩
theorem cat_app (l m : List Str) : cat (l ++ m) = cat l ++ cat m := by
  apply str_ext
  rw [str_app]
  unfold cat
  simp
theorem cat_one (x : Str) : cat [x] = x := by
  apply str_ext
  unfold cat
  simp
theorem cat_len : ∀ {l : List Str} {B : Nat}, (∀ p ∈ l, p.length ≤ B) → (cat l).length ≤ l.length * B
  | [], B, _ => by show 0 ≤ _; exact Nat.zero_le _
  | x :: r, B, h => by
    have ih := cat_len (l := r) fun p hp => h p (List.mem_cons_of_mem _ hp)
    have hx := h x List.mem_cons_self
    have e : cat (x :: r) = x ++ cat r := by rw [← cat_one x, ← cat_app, cat_one]; rfl
    rw [e, len_app, List.length_cons, Nat.add_mul, Nat.one_mul]
    (first | lia | omega)
theorem glued_cat (l : List Str) : Builtin.Str.glued ⟨#[]⟩ l = cat l := by
  have key : ∀ (l : List Str) (acc : Array Nat), (l.foldl (fun acc p => acc ++ (#[] : Array Nat) ++ p.cps) acc).toList = acc.toList ++ l.flatMap fun p => p.cps.toList := fun l => by
    induction l with
    | nil => intro acc; simp
    | cons x r ih => intro acc; rw [List.foldl_cons, ih]; simp
  apply str_ext
  unfold Builtin.Str.glued
  dsimp only
  rw [key]
  unfold cat
  cases l with
  | nil => rfl
  | cons x r => simp

section
variable {X : Cx}
theorem vals_from : ∀ (l : List Str) (t : Nat), Vals (l.map V.str) (strsFrom t l)
  | [], _ => .nil
  | x :: l, t => .cons ⟨_, rfl⟩ (vals_from l (t + 1))
theorem strs_of : ∀ {ys : List Str} {its : List Value}, Vals (ys.map V.str) its → ∃ l : List (Str × Tok), its = strValues l ∧ l.map (·.1) = ys
  | [], _, .nil => ⟨[], rfl, rfl⟩
  | y :: ys, _, .cons r t => by
    obtain ⟨tk, rfl⟩ := r
    obtain ⟨l, rfl, rfl⟩ := strs_of t
    exact ⟨(y, tk) :: l, rfl, rfl⟩
/-- x.split(y) -/
def rSplit : V → List V → Hp → VK → Prop := fun x vs H Q => ∃ z y, x = .str z ∧ vs = [.str y] ∧ (y.length == 0) = false ∧ z.length + 2 ≤ sizeLine ∧ ∀ l, H l = none → Q (.ref l) (upd H l (.lst ((PySem.Txt.split z y).map V.str)))
theorem mt_split : MtM X "str.split" rSplit := by
  intro pins s σ H x vs v us Q I rx rv h
  obtain ⟨z, y, rfl, rfl, hy, hz, q⟩ := h
  obtain ⟨t, rfl⟩ := rx
  obtain ⟨u, rfl, ru⟩ := rv.one
  obtain ⟨t', rfl⟩ := ru
  have fin : ∀ (its : List Value) (tk : Nat), Vals ((PySem.Txt.split z y).map V.str) its → EP X pins σ Q (.ref s.heap.objs.size) { s with heap := s.heap.push { cls := .type "list", data := .seq its.toArray }, toks := tk } := fun its tk r =>
    ⟨.ref s.heap.objs.size, _, I.laid (t' := tk) (o := .lst ((PySem.Txt.split z y).map V.str)) (fun b ob q => Heap.get?_push_of_some _ q) (Nat.le_refl _) ⟨by
      rw [List.length_map]
      have := split_le z y
      (first | lia | omega), its, 0, r, Heap.get?_push_size _ rfl⟩, rfl, q _ (I.hok.fresh (Nat.le_refl _))⟩
  by_cases h1 : (decide (z.length < y.length) || decide (Builtin.Str.strKind z < Builtin.Str.strKind y)) = true
  · have e : PySem.Txt.split z y = [z] := by unfold PySem.Txt.split; rw [if_pos h1]
    exact call_meets F.slot_str_split (typeIs_str s z t) F.entry_str_split (F.args_str_split_2 _ _) (meets_str_split_cannot_occur z y t t' h1) (fin [.str z t] s.toks (by rw [e]; exact .cons ⟨_, rfl⟩ .nil))
  · have h1' : (decide (z.length < y.length) || decide (Builtin.Str.strKind z < Builtin.Str.strKind y)) = false := by simpa using h1
    by_cases h2 : (Builtin.Str.occurrences z y 0 z.length (z.length + 1)).isEmpty = true
    · have e : PySem.Txt.split z y = [z] := by unfold PySem.Txt.split; rw [if_neg h1, if_pos h2]
      exact call_meets F.slot_str_split (typeIs_str s z t) F.entry_str_split (F.args_str_split_2 _ _) (meets_str_split_not_found z y t t' h1' hy h2) (fin [.str z t] s.toks (by rw [e]; exact .cons ⟨_, rfl⟩ .nil))
    · have h2' : (Builtin.Str.occurrences z y 0 z.length (z.length + 1)).isEmpty = false := by simpa using h2
      have e : PySem.Txt.split z y = Builtin.Str.partsBetween z (Builtin.Str.occurrences z y 0 z.length (z.length + 1)) y.length := by unfold PySem.Txt.split; rw [if_neg h1, if_neg h2]
      have hl := split_le z y
      rw [e] at hl
      exact call_meets F.slot_str_split (typeIs_str s z t) F.entry_str_split (F.args_str_split_2 _ _) (meets_str_split_sep z y t t' h1' hy h2' (by (first | lia | omega)) (by (first | lia | omega))) (fin _ _ (by rw [e]; exact vals_from _ _))
/-- "".join(a list of texts) -/
def rJoin0 : V → List V → Hp → VK → Prop := fun x vs H Q => ∃ l ys, x = .str ⟨#[]⟩ ∧ vs = [.ref l] ∧ H l = some (.lst (ys.map V.str)) ∧ (cat ys).length ≤ sizeLine ∧ Q (.str (cat ys)) H
theorem join_ok {sep : Str} {ys : List Str} (h : (ys.map (·.length)).sum + ys.length * sep.length ≤ sizeLine) : JoinOk sep ys = true := by
  unfold JoinOk
  have e : Array.foldl (fun x1 (x2 : Str) => x1 + x2.length + sep.length) 0 ys.toArray = (ys.map (·.length)).sum + ys.length * sep.length := StrLaws.joinTotal sep ys
  rw [e]
  unfold Builtin.Str.tooLong
  rw [decide_eq_false (by (first | lia | omega))]
  rfl
theorem sum_cat : ∀ ys : List Str, (ys.map (·.length)).sum = (cat ys).length
  | [] => rfl
  | x :: r => by
    have e : cat (x :: r) = x ++ cat r := by rw [← cat_one x, ← cat_app, cat_one]; rfl
    rw [e, len_app, List.map_cons, List.sum_cons, sum_cat r]
theorem mt_join0 : MtM X "str.join" rJoin0 := by
  intro pins s σ H x vs v us Q I rx rv h
  obtain ⟨l, ys, rfl, rfl, hl, hz, q⟩ := h
  obtain ⟨t, rfl⟩ := rx
  obtain ⟨u, rfl, ru⟩ := rv.one
  cases ru
  obtain ⟨_, its, n, r, hlen, e⟩ := I.lstM hl
  obtain ⟨ps, rfl, rfl⟩ := strs_of r
  refine SC.join ⟨_, e, rfl, n, rfl⟩ rfl (join_ok (by rw [sum_cat]; show _ + _ * 0 ≤ _; (first | lia | omega))) fun t' k => ?_
  have eg : PySem.Txt.join ⟨#[]⟩ (ps.map (·.1)) = cat (ps.map (·.1)) := glued_cat _
  rw [eg]
  exact ⟨.str _, H, I.tok _, ⟨_, rfl⟩, q⟩

end
end L2
set_option Elab.async false
set_option linter.all false
set_option maxRecDepth 100000
set_option maxHeartbeats 4000000
namespace Kn
open PySem L2
/-! ### own part 14: what a text writes -/
/-- a number as it is written -/
def nS (n : Nat) : Str := (toString (n : Int) : String)
def numOf (w : Str) : Option Nat := (List.range 21).find? fun n => decide (w = nS n)
theorem nS_inj : ∀ i, i < 21 → ∀ j, j < 21 → nS i = nS j → i = j := by decide +kernel
theorem nS_free : ∀ i, i < 21 → 32 ∉ (nS i).cps.toList ∧ 10 ∉ (nS i).cps.toList ∧ (nS i).length ≤ 2 := by decide +kernel
theorem numOf_iff {w : Str} {n : Nat} : numOf w = some n ↔ n < 21 ∧ w = nS n := by
  unfold numOf
  constructor
  · intro h
    have h1 := List.find?_some h
    have h2 := List.mem_of_find?_eq_some h
    exact ⟨List.mem_range.mp h2, of_decide_eq_true h1⟩
  · rintro ⟨h1, rfl⟩
    cases e : (List.range 21).find? fun m => decide (nS n = nS m) with
    | none =>
      have := List.find?_eq_none.mp e n (List.mem_range.mpr h1)
      exact absurd (decide_eq_true rfl) this
    | some m =>
      have h0 := List.find?_some e
      have h3 : nS n = nS m := of_decide_eq_true h0
      have h4 := List.mem_range.mp (List.mem_of_find?_eq_some e)
      rw [nS_inj n h1 m h4 h3]
theorem numOf_nS {n : Nat} (h : n < 21) : numOf (nS n) = some n := numOf_iff.mpr ⟨h, rfl⟩
/-- a line of two guests -/
def twoP (n : Nat) (line : Str) : Option (List Int) := match spl line 32 with
  | [x, y] => match numOf x, numOf y with
    | some i, some j => if i < j ∧ j < n then some [(i : Int), (j : Int)] else none
    | _, _ => none
  | _ => none
def rdP (n : Nat) : List Str → List (List Int) → Option (List (List Int))
  | [], acc => some acc
  | x :: r, acc => match twoP n x with
    | some ks => if ks ∈ acc then none else rdP n r (acc ++ [ks])
    | none => none
def headP (line : Str) : Option Nat := match spl line 32 with
  | [x, y] => if x = ("guests" : Str) then (match numOf y with
    | some m => if 1 ≤ m then some m else none
    | none => none) else none
  | _ => none
/-- what lines write -/
def linesP : List Str → Option (Nat × List (List Int))
  | h :: r => match headP h with
    | some n => (rdP n r []).map fun kss => (n, kss)
    | none => none
  | [] => none
def readP (text : Str) : Option (Nat × List (List Int)) := if (spl text 10).getLast? = some ⟨#[]⟩ then linesP (spl text 10).dropLast else none
theorem twoP_some {n : Nat} {line : Str} {ks : List Int} (h : twoP n line = some ks) : ∃ i j : Nat, spl line 32 = [nS i, nS j] ∧ i < j ∧ j < n ∧ i < 21 ∧ j < 21 ∧ ks = [(i : Int), (j : Int)] := by
  unfold twoP at h
  split at h
  · rename_i x y e
    split at h
    · rename_i i j e1 e2
      obtain ⟨g1, rfl⟩ := numOf_iff.mp e1
      obtain ⟨g2, rfl⟩ := numOf_iff.mp e2
      split at h
      · rename_i q
        exact ⟨i, j, e, q.1, q.2, g1, g2, (Option.some.inj h).symm⟩
      · cases h
    · cases h
  · cases h
theorem twoP_of {n : Nat} {line : Str} {i j : Nat} (e : spl line 32 = [nS i, nS j]) (hij : i < j) (hj : j < n) (i21 : i < 21) (j21 : j < 21) : twoP n line = some [(i : Int), (j : Int)] := by
  unfold twoP
  rw [e]
  dsimp only
  rw [numOf_nS i21, numOf_nS j21]
  dsimp only
  rw [if_pos ⟨hij, hj⟩]
theorem headP_some {line : Str} {n : Nat} (h : headP line = some n) : 1 ≤ n ∧ n ≤ 20 ∧ spl line 32 = [("guests" : Str), nS n] := by
  unfold headP at h
  split at h
  · rename_i x y e
    split at h
    · rename_i q
      split at h
      · rename_i m e1
        obtain ⟨g1, rfl⟩ := numOf_iff.mp e1
        split at h
        · rename_i q2
          cases h
          exact ⟨q2, by (first | lia | omega), by rw [e, q]⟩
        · cases h
      · cases h
    · cases h
  · cases h
theorem headP_of {line : Str} {n : Nat} (h1 : 1 ≤ n) (h2 : n ≤ 20) (e : spl line 32 = [("guests" : Str), nS n]) : headP line = some n := by
  unfold headP
  rw [e]
  dsimp only
  rw [if_pos rfl, numOf_nS (by (first | lia | omega))]
  dsimp only
  rw [if_pos h1]
/-- the pairs that are read -/
structure RdOk (n : Nat) (kss : List (List Int)) : Prop where
  nd : kss.Nodup
  mem : ∀ ks ∈ kss, ∃ i j : Nat, i < j ∧ j < n ∧ ks = [(i : Int), (j : Int)]
theorem rdP_ok {n : Nat} : ∀ {ls : List Str} {acc kss : List (List Int)}, rdP n ls acc = some kss → RdOk n acc → RdOk n kss
  | [], acc, kss, h, ok => by cases h; exact ok
  | x :: r, acc, kss, h, ok => by
    unfold rdP at h
    split at h
    · rename_i ks e
      split at h
      · cases h
      · rename_i q
        refine rdP_ok h ⟨List.nodup_append.mpr ⟨ok.nd, by simp, fun y hy z hz e => q ?_⟩, fun y hy => ?_⟩
        · rw [← List.mem_singleton.mp hz, ← e]; exact hy
        · rcases List.mem_append.mp hy with hy | hy
          · exact ok.mem y hy
          · obtain ⟨i, j, _, h1, h2, _, _, h3⟩ := twoP_some e
            exact ⟨i, j, h1, h2, by rw [List.mem_singleton.mp hy]; exact h3⟩
    · cases h
theorem linesP_ok {ls : List Str} {n : Nat} {kss : List (List Int)} (h : linesP ls = some (n, kss)) : RdOk n kss ∧ 1 ≤ n ∧ n ≤ 20 := by
  unfold linesP at h
  split at h
  · split at h
    · rename_i m e
      cases q : rdP m _ [] with
      | none => rw [q] at h; cases h
      | some r =>
        rw [q] at h
        cases h
        obtain ⟨h1, h2, _⟩ := headP_some e
        exact ⟨rdP_ok q ⟨List.nodup_nil, fun ks hk => by simp at hk⟩, h1, h2⟩
    · cases h
  · cases h
/-! the text of a hall -/
def lnS (i j : Nat) : Str := nS i ++ (" " : Str) ++ nS j ++ ("\n" : Str)
def hdS (n : Nat) : Str := ("guests" : Str) ++ (" " : Str) ++ nS n ++ ("\n" : Str)
def ksS (ks : List Int) : Str := match ks with
  | [i, j] => lnS i.toNat j.toNat
  | _ => ⟨#[]⟩
def showT (n : Nat) (kss : List (List Int)) : Str := cat (hdS n :: kss.map ksS)
theorem nl_is : ("\n" : Str) = ⟨#[10]⟩ := by decide +kernel
theorem bl_is : (" " : Str) = ⟨#[32]⟩ := by decide +kernel
end Kn
set_option Elab.async false
set_option linter.all false
set_option maxRecDepth 100000
set_option maxHeartbeats 4000000
namespace L2
open PySem PySem.Spec PyProof.Rows PySem.W

/-! ### own part 15: texts cut, walked, read as numbers -/
section
variable {X : Cx}
def cutS (z : Str) (lo hi : Option Int) : Str := ⟨(List.filterMap (fun i => z.cps[i]?) (Builtin.Str.strSliceIndices lo hi 1 z.length)).toArray⟩
theorem cutS_len (z : Str) (lo hi : Option Int) : (cutS z lo hi).length ≤ z.length := by
  unfold cutS
  rw [len_list]
  exact Nat.le_trans (List.length_filterMap_le _ _) (sliceIndices_le lo hi z.length)
/-- t[lo:hi] of a text -/
def rSlS : V → Option Int → Option Int → Hp → VK → Prop := fun x lo hi H Q => ∃ z, x = .str z ∧ z.length ≤ sizeLine ∧ ∀ y, (y = z ∧ (Builtin.Str.strSliceIndices lo hi 1 z.length).length = z.length) ∨ y = cutS z lo hi → y.length ≤ z.length → Q (.str y) H
theorem part_of {v : Value} {o : Option Int} (h : IsPart v o) : ∃ l : Option (Int × Tok), v = partValue l ∧ l.map (fun x => x.fst) = o := by
  cases h with
  | none => exact ⟨none, rfl, rfl⟩
  | int i t => exact ⟨some (i, t), rfl, rfl⟩
theorem sl_str : SlR X rSlS := by
  intro pins s σ H x v vl vu lo hi sl Q I rx hs pl pu h
  obtain ⟨z, rfl, hz, q⟩ := h
  obtain ⟨t, rfl⟩ := rx
  obtain ⟨l, rfl, rfl⟩ := part_of pl
  obtain ⟨u, rfl, rfl⟩ := part_of pu
  refine ⟨"str", _, slot_str_getitem.lookup, typeIs_str s z t, ?_⟩
  refine wpAny_getItem_str_slice (l := l) (u := u) (st := none) hs rfl ?_
  unfold sliceMade
  split
  · rename_i c
    rw [Bool.and_eq_true] at c
    exact ⟨.str z, H, I, ⟨_, rfl⟩, q z (.inl ⟨rfl, eq_of_beq c.2⟩) (Nat.le_refl _)⟩
  · exact ⟨Nat.le_trans (cutS_len z _ _) hz, .str _, H, I.tok _, ⟨_, rfl⟩, q (cutS z _ _) (.inr rfl) (cutS_len _ _ _)⟩
/-- (t + one sign)[:-1] is t -/
theorem cut_last {t y : Str} {c : Nat} (h : (y = t ++ ⟨#[c]⟩ ∧ (Builtin.Str.strSliceIndices none (some (-1)) 1 (t ++ ⟨#[c]⟩).length).length = (t ++ ⟨#[c]⟩).length) ∨ y = cutS (t ++ ⟨#[c]⟩) none (some (-1))) : y = t := by
  have hl : (t ++ ⟨#[c]⟩).length = t.length + 1 := by rw [len_app]; rfl
  have e : Builtin.Str.strSliceIndices none (some (-1)) 1 (t ++ ⟨#[c]⟩).length = Builtin.Str.strSliceIndices (some ((0 : Nat) : Int)) (some ((t.length : Nat) : Int)) 1 (t ++ ⟨#[c]⟩).length := by
    rw [StrLaws.sliceIdx_none_lo, StrLaws.sliceIdx_neg_hi _ _ (by decide) (by rw [hl]; (first | lia | omega)), hl]
    congr 2
    (first | lia | omega)
  rcases h with ⟨_, h⟩ | h
  · rw [e, StrLaws.strSliceIndices_plain (Nat.zero_le _) (by rw [hl]; (first | lia | omega)), List.length_map, List.length_range, hl] at h
    (first | lia | omega)
  · rw [h]
    unfold cutS
    rw [e, StrLaws.sliced_plain _ (Nat.zero_le _) (by rw [hl]; (first | lia | omega))]
    apply str_ext
    rw [str_app]
    simp [len_list]
/-- for sign in a text -/
def Its (z : Str) : It := ⟨fun i _ => i < z.length, fun i H x H' => H' = H ∧ ∃ c, z.cps.toList[i]? = some c ∧ x = .str ⟨#[c]⟩, fun i _ => z.length ≤ i⟩
theorem turn_strA {P : Program} {w : World} {K : PySem.W.Frag} {tg : Expr} (z : Str) (t : Tok) (it : Addr) : Turn P w K tg (Its z) [it] it (fun i h => h.IsStrIter it "str_ascii_iterator" z t i) where
  mem := by simp
  obj := fun i h st b hb => by
    have e : b = it := by simpa using hb
    subst e
    obtain ⟨o, e, c, d⟩ := st
    exact ⟨o, e, fun v z => by rw [d] at z; cases z⟩
  keep := fun i h h' st k => by
    obtain ⟨o, e, c, d⟩ := st
    exact ⟨o, k it (by simp) o e, c, d⟩
  item := by
    intro X hP hw hK hc i pins s σ H E I hf st hg
    subst hP hw hK
    have hg : i < z.length := hg
    have hi : i < z.cps.size := hg
    obtain ⟨f0, f1, f2, f3, f4, f5⟩ := hf it (by simp)
    refine wpAny_pyNext_ascii_item st (c := z.cps[i]) (getElem?_pos z.cps i hi) fun h' st' sb => ?_
    have I1 : Inv X pins σ H { s with heap := h', toks := s.toks + 1 } := I.turned (t' := s.toks + 1) (fun b o hb e => (sb.2 b hb).trans e) f0 f1 f3 f4 f5
    obtain ⟨o, e, c, d⟩ := id st'
    exact ⟨_, rfl, go_of (s := { s with heap := h', toks := s.toks + 1 }) e c d (by decide) ⟨.str ⟨#[z.cps[i]]⟩, H, I1, ⟨_, rfl⟩, ⟨rfl, _, by rw [Array.getElem?_toList]; exact getElem?_pos z.cps i hi, rfl⟩, st', fun b hb => (hf b hb).1⟩⟩
  done := by
    intro X hP hw hK hc i pins s σ H E I hf st hg
    subst hP hw hK
    have hg : z.length ≤ i := hg
    obtain ⟨f0, f1, f2, f3, f4, f5⟩ := hf it (by simp)
    exact wpAny_pyNext_ascii_end (I.ok.hd hc) st (getElem?_neg z.cps i (by have : z.cps.size ≤ i := hg; (first | lia | omega))) fun h' eb => ⟨rfl, I.turned (t' := s.toks) (fun b o hb e => eb b o hb e) f0 f1 f3 f4 f5⟩
  self := fun _ _ _ _ _ st h => wpAny_pyIter_striter_ascii st h
theorem turn_strW {P : Program} {w : World} {K : PySem.W.Frag} {tg : Expr} (z : Str) (t : Tok) (it : Addr) : Turn P w K tg (Its z) [it] it (fun i h => h.IsStrIter it "str_iterator" z t i) where
  mem := by simp
  obj := fun i h st b hb => by
    have e : b = it := by simpa using hb
    subst e
    obtain ⟨o, e, c, d⟩ := st
    exact ⟨o, e, fun v z => by rw [d] at z; cases z⟩
  keep := fun i h h' st k => by
    obtain ⟨o, e, c, d⟩ := st
    exact ⟨o, k it (by simp) o e, c, d⟩
  item := by
    intro X hP hw hK hc i pins s σ H E I hf st hg
    subst hP hw hK
    have hg : i < z.length := hg
    have hi : i < z.cps.size := hg
    obtain ⟨f0, f1, f2, f3, f4, f5⟩ := hf it (by simp)
    refine wpAny_pyNext_wide_item st (c := z.cps[i]) (getElem?_pos z.cps i hi) fun h' st' sb => ?_
    have I1 : Inv X pins σ H { s with heap := h', toks := s.toks + 1 } := I.turned (t' := s.toks + 1) (fun b o hb e => (sb.2 b hb).trans e) f0 f1 f3 f4 f5
    obtain ⟨o, e, c, d⟩ := id st'
    exact ⟨_, rfl, go_of (s := { s with heap := h', toks := s.toks + 1 }) e c d (by decide) ⟨.str ⟨#[z.cps[i]]⟩, H, I1, ⟨_, rfl⟩, ⟨rfl, _, by rw [Array.getElem?_toList]; exact getElem?_pos z.cps i hi, rfl⟩, st', fun b hb => (hf b hb).1⟩⟩
  done := by
    intro X hP hw hK hc i pins s σ H E I hf st hg
    subst hP hw hK
    have hg : z.length ≤ i := hg
    obtain ⟨f0, f1, f2, f3, f4, f5⟩ := hf it (by simp)
    exact wpAny_pyNext_wide_end (I.ok.hd hc) st (getElem?_neg z.cps i (by have : z.cps.size ≤ i := hg; (first | lia | omega))) fun h' eb => ⟨rfl, I.turned (t' := s.toks) (fun b o hb e => eb b o hb e) f0 f1 f3 f4 f5⟩
  self := fun _ _ _ _ _ st h => wpAny_pyIter_striter_wide st h
def iStr (tl : TE) : TI := fun σ H R => tl σ H fun x H1 => ∃ z, x = .str z ∧ R (Its z) H1
theorem pi_str {tg l : Expr} {tl : TE} (hl : PE X l tl) : PI X tg l (iStr tl) := by
  intro pins s σ H R I h
  refine thn (hl pins s σ H _ I h) fun v s1 hpt => ?_
  obtain ⟨x, H1, I1, r1, z, e, q⟩ := hpt
  subst e
  obtain ⟨t, rfl⟩ := r1
  cases hb : (z.cps.all fun x => decide (x < 128)) with
  | true =>
    refine wpAny_pyIter_ascii hb ?_
    refine ⟨s1.heap.objs.size, [s1.heap.objs.size], _, _, H1, rfl, I1.kept (t' := s1.toks) fun b o e => Heap.get?_push_of_some _ e, turn_strA z t _, ⟨_, Heap.get?_push_size _ rfl, rfl, rfl⟩, fun b hb => ?_, q⟩
    have e : b = s1.heap.objs.size := by simpa using hb
    subst e
    exact I1.fpOk (Nat.le_refl _) (I1.hok.fresh (Nat.le_refl _))
  | false =>
    refine wpAny_pyIter_wide hb ?_
    refine ⟨s1.heap.objs.size, [s1.heap.objs.size], _, _, H1, rfl, I1.kept (t' := s1.toks) fun b o e => Heap.get?_push_of_some _ e, turn_strW z t _, ⟨_, Heap.get?_push_size _ rfl, rfl, rfl⟩, fun b hb => ?_, q⟩
    have e : b = s1.heap.objs.size := by simpa using hb
    subst e
    exact I1.fpOk (Nat.le_refl _) (I1.hok.fresh (Nat.le_refl _))
theorem for_str {z : Str} {g : TG} {tb : TS} {D : Ends} {σ : St} {H : Hp} (Pv : Nat → St → Hp → Prop) (h0 : Pv 0 σ H)
    (hs : ∀ i c σ H, z.cps.toList[i]? = some c → Pv i σ H → g (.str ⟨#[c]⟩) σ H fun σ2 H2 => tb { D with nx := Pv (i + 1), ct := Pv (i + 1), bk := D.nx } σ2 H2) (hd : ∀ σ H, Pv z.length σ H → D.nx σ H) :
    ∃ W : Nat → Nat → St → Hp → Prop, (∃ m, W 0 m σ H) ∧ ∀ i m σ H, W i m σ H →
      ((Its z).stop i H ∧ D.nx σ H) ∨ ((Its z).go i H ∧ ∃ N : St → Hp → Prop, (∀ σ' H', N σ' H' → ∃ m', m' < m ∧ W (i + 1) m' σ' H') ∧ ∀ x H', (Its z).yld i H x H' → g x σ H' fun σ2 H2 => tb { D with nx := N, ct := N, bk := D.nx } σ2 H2) := by
  refine ⟨fun i m σ H => m = z.length - i ∧ i ≤ z.length ∧ Pv i σ H, ⟨z.length, by simp, Nat.zero_le _, h0⟩, ?_⟩
  rintro i m σ H ⟨rfl, hi, p⟩
  by_cases hlt : i < z.length
  · refine .inr ⟨hlt, Pv (i + 1), fun σ' H' p' => ⟨z.length - (i + 1), by (first | lia | omega), rfl, hlt, p'⟩, fun x H' y => ?_⟩
    obtain ⟨e, c, hc, y⟩ := y
    subst e y
    exact hs i c σ _ hc p
  · have e : i = z.length := by (first | lia | omega)
    subst e
    exact .inl ⟨Nat.le_refl _, hd σ H p⟩
/-- int(text) -/
theorem call_int_text : CallR X (.type "int") (fun xs H Q => ∃ z n, xs = [.str z] ∧ PySem.intText? z = some n ∧ z.length ≤ 640 ∧ Q (.int n) H) := by
  intro pins s σ H xs us Q I r h
  obtain ⟨z, n, rfl, e, hz, q⟩ := h
  obtain ⟨u, rfl, ru⟩ := r.one
  obtain ⟨t, rfl⟩ := ru
  exact KIN.call_text e hz ⟨.int n, H, I.tok _, ⟨_, rfl⟩, q⟩
/-- sep.join(a list of texts) -/
theorem glued_len (sep : Str) (ys : List Str) : (Builtin.Str.glued sep ys).length ≤ (cat ys).length + ys.length * sep.length := by
  have key : ∀ (l : List Str) (acc : Array Nat), (l.foldl (fun acc p => acc ++ sep.cps ++ p.cps) acc).size = acc.size + ((cat l).length + l.length * sep.length) := fun l => by
    induction l with
    | nil => intro acc; show acc.size = acc.size + (0 + 0 * _); (first | lia | omega)
    | cons x r ih =>
      intro acc
      have e : cat (x :: r) = x ++ cat r := by rw [← cat_one x, ← cat_app, cat_one]; rfl
      rw [List.foldl_cons, ih, e, len_app, Array.size_append, Array.size_append, List.length_cons, Nat.add_mul, Nat.one_mul]
      show acc.size + sep.length + x.length + _ = _
      (first | lia | omega)
  unfold Builtin.Str.glued Str.length
  dsimp only
  rw [key]
  show _ ≤ (cat ys).length + ys.length * sep.length
  cases ys with
  | nil => show 0 + (0 + 0 * _) ≤ _; (first | lia | omega)
  | cons x r =>
    have e : cat (x :: r) = x ++ cat r := by rw [← cat_one x, ← cat_app, cat_one]; rfl
    rw [e, len_app, List.length_cons, Nat.add_mul, Nat.one_mul]
    show x.length + ((cat r).length + r.length * _) ≤ _
    (first | lia | omega)
def rJoin : V → List V → Hp → VK → Prop := fun x vs H Q => ∃ sep l ys, x = .str sep ∧ vs = [.ref l] ∧ H l = some (.lst (ys.map V.str)) ∧ (cat ys).length + ys.length * sep.length ≤ sizeLine ∧ ∀ z : Str, z.length ≤ (cat ys).length + ys.length * sep.length → Q (.str z) H
theorem mt_join : MtM X "str.join" rJoin := by
  intro pins s σ H x vs v us Q I rx rv h
  obtain ⟨sep, l, ys, rfl, rfl, hl, hz, q⟩ := h
  obtain ⟨t, rfl⟩ := rx
  obtain ⟨u, rfl, ru⟩ := rv.one
  cases ru
  obtain ⟨_, its, n, r, hlen, e⟩ := I.lstM hl
  obtain ⟨ps, rfl, rfl⟩ := strs_of r
  refine SC.join ⟨_, e, rfl, n, rfl⟩ rfl (join_ok (by rw [sum_cat]; exact hz)) fun t' k => ?_
  exact ⟨.str _, H, I.tok _, ⟨_, rfl⟩, q _ (glued_len _ _)⟩
/-- a op1 b op2 c op3 d, as a test -/
def tChain3 (r r' r'' : R2) (ta tb tc td : TE) : TT := fun σ H Q => ta σ H fun x H1 => tb σ H1 fun y H2 => r x y H2 fun z H3 => ∃ k, z = .bl k ∧
  (if k = true then tc σ H3 fun w' H4 => r' y w' H4 fun z' H5 => ∃ k', z' = .bl k' ∧ (if k' = true then td σ H5 fun v H6 => r'' w' v H6 fun z2 H7 => ∃ k2, z2 = .bl k2 ∧ Q k2 H7 else Q false H5) else Q false H3)
theorem pt_chain3 {a b c d : Expr} {ta tb tc td : TE} {pos : Pos} {op op' op'' : CmpOp} {r r' r'' : R2} (ho : OpR X (compareOp op) r) (ho' : OpR X (compareOp op') r') (ho'' : OpR X (compareOp op'') r'') (ha : PE X a ta) (hb : PE X b tb) (hc : PE X c tc) (hd : PE X d td)
    (hm : lastMarks [op, op', op''] [b, c, d] = false := by with_unfolding_all rfl) : PT X (.Compare a [op, op', op''] [b, c, d] pos) (tChain3 r r' r'' ta tb tc td) := by
  intro pins s σ H Q I h
  refine isTrue_chain (thn (ha pins s σ H _ I h) fun v s1 ⟨x, H1, I1, r1, q1⟩ => test_link (thn (hb pins s1 σ H1 _ I1 q1) fun u s2 ⟨y, H2, I2, r2, q2⟩ =>
    thn (ho pins s2 σ H2 x y v u _ I2 r1 r2 q2) fun d s3 ⟨z, H3, I3, r3, k, e, q3⟩ => ?_)) hm
  subst e
  cases r3
  refine wpAny_truthy_bool ?_
  cases k with
  | false => exact ite_ff ⟨H3, I3, q3⟩
  | true =>
    refine ite_tt (test_link (thn (hc pins s3 σ H3 _ I3 q3) fun w' s4 ⟨z', H4, I4, r4, q4⟩ => thn (ho' pins s4 σ H4 y z' u w' _ I4 r2 r4 q4) fun d' s5 hpt => ?_))
    obtain ⟨z2, H5, I5, r5, k2, e2, q5⟩ := hpt
    subst e2
    cases r5
    refine wpAny_truthy_bool ?_
    cases k2 with
    | false => exact ite_ff ⟨H5, I5, q5⟩
    | true =>
      refine ite_tt (test_last (thn (hd pins s5 σ H5 _ I5 q5) fun w2 s6 ⟨z3, H6, I6, r6, q6⟩ => thn (ho'' pins s6 σ H6 z' z3 w' w2 _ I6 r4 r6 q6) fun d2 s7 hpt => ?_))
      obtain ⟨z4, H7, I7, r7, k3, e3, q7⟩ := hpt
      subst e3
      cases r7
      exact wpAny_truthy_bool ⟨H7, I7, q7⟩
/-- xs[::k] of a list: some of its items -/
theorem vals_pick {xs : List V} {its : List Value} (r : Vals xs its) : ∀ is : List Nat, Vals (is.filterMap fun i => xs[i]?) (is.filterMap fun i => its.toArray[i]?)
  | [] => .nil
  | i :: is => by
    have ih := vals_pick r is
    have e : its.toArray[i]? = its[i]? := by simp
    cases q : xs[i]? with
    | none =>
      have q' : its[i]? = none := by
        rw [List.getElem?_eq_none_iff] at q ⊢
        rw [← r.length]
        exact q
      rw [List.filterMap_cons_none q, List.filterMap_cons_none (e.trans q')]
      exact ih
    | some x =>
      obtain ⟨u, hu, ru⟩ := r.get q
      rw [List.filterMap_cons_some q, List.filterMap_cons_some (e.trans hu)]
      exact .cons ru ih
theorem fm_map {α β : Type} {f : α → Option β} {g : α → β} : ∀ {l : List α}, (∀ x ∈ l, f x = some (g x)) → l.filterMap f = l.map g
  | [], _ => rfl
  | x :: r, h => by
    rw [List.filterMap_cons_some (h x List.mem_cons_self), List.map_cons, fm_map fun y hy => h y (List.mem_cons_of_mem _ hy)]
theorem pick_rev (xs : List V) : ((List.range xs.length).map fun k => xs.length - 1 - k).filterMap (fun i => xs[i]?) = xs.reverse := by
  rw [List.filterMap_map]
  have e : (List.range xs.length).filterMap ((fun i => xs[i]?) ∘ fun k => xs.length - 1 - k) = (List.range xs.length).map fun k => xs.reverse[k]?.getD .non := by
    refine fm_map fun k hk => ?_
    have hk := List.mem_range.mp hk
    show xs[xs.length - 1 - k]? = some (xs.reverse[k]?.getD .non)
    rw [List.getElem?_reverse hk, List.getElem?_eq_getElem (show xs.length - 1 - k < xs.length by (first | lia | omega))]
    rfl
  rw [e]
  apply List.ext_getElem?
  intro i
  by_cases hi : i < xs.length
  · rw [List.getElem?_map, List.getElem?_range hi]
    show some (xs.reverse[i]?.getD .non) = _
    rw [List.getElem?_eq_getElem (show i < xs.reverse.length by rw [List.length_reverse]; exact hi)]
    rfl
  · rw [List.getElem?_eq_none (by rw [List.length_map, List.length_range]; (first | lia | omega)), List.getElem?_eq_none (by rw [List.length_reverse]; (first | lia | omega))]
def tStep (K : PySem.W.Frag) (te : TE) (ts : TO) : TE := fun σ H Q => te σ H fun x H1 => ts σ H1 fun k H2 => ∃ a xs, x = .ref a ∧ k ≠ some 0 ∧ SqL K H2 a xs ∧ ∀ p ys, H2 p = none → ys.length ≤ xs.length → (∀ y ∈ ys, y ∈ xs) → (k = some (-1) → ys = xs.reverse) → Q (.ref p) (upd H2 p (.lst ys))
theorem pe_step {e st : Expr} {te : TE} {ts : TO} {p2 pos : Pos} (he : PE X e te) (hs : PO X (some st) ts) : PE X (.Subscript e (.Slice none none (some st) p2) pos) (tStep X.K te ts) := by
  intro pins s σ H Q I h
  refine Subscript_ (thn (he pins s σ H _ I h) fun v s1 hpt => ?_)
  obtain ⟨x, H1, I1, r1, q1⟩ := hpt
  refine wpAny_Slice ?_
  rw [evalPart_none]
  refine wpAny_pure (wpAny_pure (thn (hs pins s1 σ H1 _ I1 q1) fun vs s3 hpt => ?_))
  obtain ⟨k, H3, I3, ps, a, xs, ex, k0, hx, q3⟩ := hpt
  subst ex
  cases r1
  have I4 : Inv X pins σ H3 { s3 with heap := s3.heap.push { cls := .type "slice", data := .fields #[.none, .none, vs] } } := I3.kept (t' := s3.toks) fun b ob q => Heap.get?_push_of_some _ q
  obtain ⟨its, r, ht, hz⟩ := I4.list hx
  have hlen := r.length
  have hle : (sliceRange (sliceBounds none none k its.toArray.size).fst (sliceBounds none none k its.toArray.size).snd.fst (sliceBounds none none k its.toArray.size).snd.snd).length ≤ its.toArray.size := by
    have k0' : k.getD 1 ≠ 0 := by
      cases k with
      | none => decide
      | some j => exact fun z => k0 (by rw [show j = 0 from z])
    exact sliceIndicesBy_le none none (k.getD 1) k0' its.toArray.size
  refine tail_any (ops := [.ref a, .ref s3.heap.objs.size]) ht.isList.typeIs slot_list_getitem.lookup (wpAny_getItem_list_slice ht.isList (Heap.IsSliceOf.new ..) .none .none ps k0 ?_ (by rw [List.size_toArray] <;> (first | lia | omega))) (by with_unfolding_all rfl)
  refine ⟨.ref _, _, I4.laid (t' := s3.toks) (o := .lst _) (fun b ob q => Heap.get?_push_of_some _ q) (Nat.le_refl _) ⟨?_, _, 0, vals_pick r _, Heap.get?_push_size _ rfl⟩, rfl, q3 _ _ (I4.hok.fresh (Nat.le_refl _)) ?_ ?_ ?_⟩
  · refine Nat.le_trans (List.length_filterMap_le _ _) (Nat.le_trans hle ?_)
    rw [List.size_toArray]
    (first | lia | omega)
  · refine Nat.le_trans (List.length_filterMap_le _ _) (Nat.le_trans hle ?_)
    rw [List.size_toArray]
    (first | lia | omega)
  · intro y hy
    obtain ⟨i, _, e⟩ := List.mem_filterMap.mp hy
    exact List.mem_of_getElem? e
  · rintro rfl
    have e := PyProof.Rows.picked_rev its.toArray.size
    have e2 : sliceRange (sliceBounds none none (some (-1)) its.toArray.size).fst (sliceBounds none none (some (-1)) its.toArray.size).snd.fst (sliceBounds none none (some (-1)) its.toArray.size).snd.snd = (List.range its.toArray.size).map fun k => its.toArray.size - 1 - k := e
    rw [e2, List.size_toArray, ← hlen]
    exact pick_rev xs
end
end L2
set_option Elab.async false
set_option linter.all false
set_option maxRecDepth 100000
set_option maxHeartbeats 4000000
namespace L2
open PySem PySem.Spec PyProof.Rows PySem.W
/-! ### own part 16: a block with two names -/
def tComp2 (K : PySem.W.Frag) (wi : TI) (js : List Nat) (te : TE) : TE := fun σ H Q => wi σ H fun J H1 => ∀ D, H1 D = none → ∃ W : Nat → Nat → List V → Hp → Prop, (∃ m, W 0 m [] (upd H1 D (.lst []))) ∧
  ∀ i m ys H, W i m ys H → H D = some (.lst ys) ∧ ys.length < sizeLine ∧ ((J.stop i H ∧ Q (.ref D) H) ∨ (J.go i H ∧ ∀ x H', J.yld i H x H' → ∃ t xa xb, x = .ref t ∧ SqT K H' t [xa, xb] ∧
    te (some xa :: some xb :: seen js σ) H' fun y H3 => H3 D = some (.lst ys) ∧ ∃ m', m' < m ∧ W (i + 1) m' (ys ++ [y]) (upd H3 D (.lst (ys ++ [y])))))
theorem comp_core2 {X : Cx} {elt iter : Expr} {x z : Str} {px pz pt pos : Pos} {kt : Nat} {scope so : Scope} {fr : List Str} {js : List Nat} {wi : TI} {te : TE} {K : PySem.W.Frag} (hc : X.calm = true) (hi : PI X (.Tuple [.Name x px, .Name z pz] kt pt) iter wi)
    (hso : X.env.scope = so) (hFr : FrOk X scope fr js) (hnd : (x :: z :: fr).Nodup)
    (he : ∀ (cl : List (Str × Addr)) (Ca : Addr) (s2 : Shared) (H2 : Hp) (fp : List Addr) (pl : List (Addr × Obj)), PE (compCx X (x :: z :: fr) scope cl Ca s2 H2 fp pl) elt te)
    (hclos : closureFor scope X.env = pure (clOf scope.names X.env.cells []) := by rfl) (hkind : scope.kind = .function := by rfl)
    (hnames : (scope.names.all fun y => (y.2 != NameKind.cell) && (y.2 != NameKind.local || scope.names.lookup y.1 == some NameKind.local) && (y.2 != NameKind.free || so.names.lookup y.1 == some NameKind.cell || so.names.lookup y.1 == some NameKind.free)) = true := by decide +kernel)
    (hx : scope.names.lookup x = some .local := by rfl) (hz : scope.names.lookup z = some .local := by rfl) (hK : X.K = K := by rfl) (hs : ∀ x, foldedSetIterable iter X.env x = pure x := by intro _; rfl) :
    ∀ {pins : List (Addr × Obj)} {s : Shared} {σ : St} {H : Hp} {Q : VK} {use : Option (Value → Sem Unit)} {Q0 : Value → Shared → Prop}, Inv X pins σ H s → tComp2 K wi js te σ H Q →
      (∀ D Ca H' s', Blk X pins σ Ca H' s' → Q (.ref D) H' → compPost (model X.prog X.w) X.A X.xe use Q0 (.ref D) Ca (.ok .next) s') →
      wpAny (model X.prog X.w) X.A (comprehension (.ListComp elt [⟨.Tuple [.Name x px, .Name z pz] kt pt, iter, [], 0⟩] scope pos) scope X.env (firstIterPos [⟨.Tuple [.Name x px, .Name z pz] kt pt, iter, [], 0⟩] pos) (newList []) false (eval iter X.env) use) Q0 X.xe s := by
  intro pins s σ H Q use Q0 I h finQ
  have hn1 : ∀ y ∈ scope.names, y.2 ≠ .cell := fun y hy z => by
    have := List.all_eq_true.mp hnames y hy
    rw [z] at this
    simp at this
  have hn2 : ∀ y ∈ scope.names, y.2 = .local → scope.names.lookup y.1 = some .local := fun y hy z => by
    have := List.all_eq_true.mp hnames y hy
    rw [z] at this
    simpa using this
  have hn3 : ∀ y, (y, NameKind.free) ∈ scope.names → X.env.kindOf y = some .cell ∨ X.env.kindOf y = some .free := fun y hy => by
    have := List.all_eq_true.mp hnames _ hy
    show X.env.scope.names.lookup y = some .cell ∨ X.env.scope.names.lookup y = some .free
    rw [hso]
    simpa using this
  refine wpAny_comprehension_free (use := use) rfl hs hclos hkind hn2 (thn (hi pins s σ H _ I h) fun v s1 h1 => thn h1 fun itv s2 h2 => ?_)
  obtain ⟨it, fp, tn, J, H2, e, I2, T, st2, f2, q⟩ := h2
  subst e
  have hfp : ∀ b ∈ fp, b < s2.heap.objs.size := fun b hb => by
    obtain ⟨o, eo, _⟩ := T.obj _ _ st2 b hb
    exact Heap.lt_size eo
  refine wpAny_newObj_type (wpAny_newFunctionEnv hn1 (by intro y hy; simp at hy) (fun h1 hns hsb => ?_) hkind)
  dsimp only at hns hsb ⊢
  have hCa : (s2.heap.push { cls := .type "list", dict := none, data := .seq ([] : List Value).toArray }).objs.size = s2.heap.objs.size + 1 := Heap.size_push _ _
  rw [hCa] at hns hsb ⊢
  have keep : ∀ b o, s2.heap.get? b = some o → h1.get? b = some o := fun b o eb => by
    have lt := Heap.lt_size eb
    refine (hsb.2 b (Nat.ne_of_lt (Nat.lt_succ_of_lt lt))).trans ?_
    exact Heap.get?_push_of_some _ (Heap.get?_push_of_some _ eb)
  have hD : h1.get? s2.heap.objs.size = some { cls := .type "list", data := .seq ([] : List Value).toArray } := by
    refine (hsb.2 _ (Nat.ne_of_lt (Nat.lt_succ_self _))).trans ?_
    exact Heap.get?_push_of_some _ (Heap.get?_push_size _ rfl)
  have hH2D : H2 s2.heap.objs.size = none := I2.hok.fresh (Nat.le_refl _)
  have hlL : X.env.locals < s2.heap.objs.size := I2.lt
  -- the block's context
  have clsub := clOf_sub (cells := X.env.cells) (names := scope.names) (acc := []) (fun y c z => nomatch z)
  have okY : (compCx X (x :: z :: fr) scope (clOf scope.names X.env.cells []) (s2.heap.objs.size + 1) s2 H2 fp (X.pn ++ pins)).Ok := by
    refine ⟨I.ok.mod, hkind, I.ok.glob, I.ok.blt, Nat.le_succ _, fun y z c e1 e2 => I.ok.inj y z c (clsub y c e1) (clsub z c e2), fun y hy => ?_, (fun y c z => nomatch z), I.ok.hd, I.ok.frames, .inl rfl, fun b hb => ?_, I2.bs, ?_, fun b o e1 hb => ?_, fun b hb z => ?_, I2.stack, fun b hb => I2.stkFree b hb⟩
    · have m := relabel_lookup hy hn1
      obtain ⟨c, hc'⟩ := I.ok.has y (hn3 y m)
      exact clOf_has hc' m
    · refine ⟨Nat.ne_of_lt (Nat.lt_succ_of_lt (hfp b hb)), fun y c e1 => (f2 b hb).2.2.2.2.1 y c (clsub y c e1)⟩
    · exact Nat.le_trans I2.ok.bsz I2.sz
    · rcases (f2 b hb).2.2.2.1 with z | z
      · exact I.ok.noex b o e1 z
      · exact absurd (Nat.lt_of_lt_of_le (Heap.lt_size (I.ok.bs b o e1).1) z) (Nat.lt_irrefl _)
    · rcases List.mem_cons.mp (I2.stkSub b z) with z | z
      · exact (f2 b hb).2.1 z
      · exact (f2 b hb).2.2.1 z
  have pinOk : ∀ p ∈ X.pn ++ pins, s2.heap.get? p.1 = some p.2 ∧ H2 p.1 = none ∧ p.1 ∉ frs X.stack ∧ ∀ v, p.2.data ≠ .cell v := fun p hp => by
    obtain ⟨z1, z2, z3, z4, z5⟩ := I2.pin p hp
    refine ⟨z1, z2, fun z => ?_, z5⟩
    rcases List.mem_cons.mp (I2.stkSub p.1 z) with z | z
    · exact z3 z
    · exact z4 z
  have IY : Inv (compCx X (x :: z :: fr) scope (clOf scope.names X.env.cells []) (s2.heap.objs.size + 1) s2 H2 fp (X.pn ++ pins)) [] (none :: none :: seen js σ) (upd H2 s2.heap.objs.size (.lst [])) { s2 with heap := h1, toks := s2.toks + ([] : List (Str × Value)).length } := by
    obtain ⟨m0, hn0, hl0⟩ := I2.loc
    refine ⟨okY, rfl, I2.bare, Un.laid keep (Nat.le_refl _) hH2D, ⟨_, hns, fun k y v e1 e2 e3 => ?_⟩, fun y c e1 => ?_, ?_, fun y c e1 => ?_, fun p hp => ?_, ?_, ?_⟩
    · cases k with
      | zero => simp at e2
      | succ k =>
       cases k with
       | zero => simp at e2
       | succ k =>
        have e1' : fr[k]? = some y := by simpa using e1
        obtain ⟨j, hj, hjN, hX, hY⟩ := hFr.at e1'
        have e2' : (seen js σ)[k]? = some (some v) := by simpa using e2
        unfold seen at e2'
        rw [List.getElem?_map, hj] at e2'
        have e2'' : (σ[j]?).join = some v := Option.some.inj e2'
        have e4 : σ[j]? = some (some v) := by
          cases hσ : σ[j]? with
          | none => rw [hσ] at e2''; cases e2''
          | some o => rw [hσ] at e2''; cases o with
            | none => cases e2''
            | some w' => cases e2''; rfl
        obtain ⟨u, ru, lu⟩ := hl0 j y v hjN e4 (by rcases hX with z | z; exact .inr (.inl z); exact .inr (.inr z))
        refine ⟨u, ru, .inr ⟨hY, ?_⟩⟩
        rcases lu with ⟨z, _⟩ | ⟨_, c, hc1, hc2⟩
        · rcases hX with q' | q' <;> · rw [q'] at z; cases z
        · obtain ⟨c', hc'⟩ := clOf_has (acc := []) hc1 (relabel_lookup hY hn1)
          have e5 := clsub y c' hc'
          rw [hc1] at e5
          cases e5
          exact ⟨c, hc', hc2.keeps keep⟩
    · obtain ⟨v, z⟩ := I2.cell y c (clsub y c e1)
      exact ⟨v, z.keeps keep⟩
    · show upd H2 s2.heap.objs.size (.lst []) (s2.heap.objs.size + 1) = none
      rw [upd_ne (Nat.ne_of_gt (Nat.lt_succ_self _))]
      exact I2.hok.fresh (Nat.le_succ _)
    · have e2 := clsub y c e1
      obtain ⟨v, o, z, _⟩ := I2.cell y c e2
      rw [upd_ne (Nat.ne_of_lt (Heap.lt_size z))]
      exact I2.freeC y c e2
    · have hp' : p ∈ X.pn ++ pins := by simpa using hp
      obtain ⟨z1, z2, z3, z4⟩ := pinOk p hp'
      have lt := Heap.lt_size z1
      refine ⟨keep _ _ z1, ?_, Nat.ne_of_lt (Nat.lt_succ_of_lt lt), z3, z4⟩
      rw [upd_ne (Nat.ne_of_lt lt)]
      exact z2
    · refine I2.hok.laid keep (Nat.le_refl _) ⟨Nat.zero_le _, [], 0, .nil, hD⟩
    · show (none :: none :: seen js σ).length = (x :: z :: fr).length
      unfold seen
      rw [List.length_cons, List.length_cons, List.length_map, List.length_cons, List.length_cons, hFr.len]
  obtain ⟨W, ⟨m0, w0⟩, turn⟩ := q s2.heap.objs.size hH2D
  have statY : ∀ {H' : Hp}, (∀ b ∈ fp, H' b = none) → ∀ b ∈ fp, FpOk (compCx X (x :: z :: fr) scope (clOf scope.names X.env.cells []) (s2.heap.objs.size + 1) s2 H2 fp (X.pn ++ pins)) [] H' b := fun hn b hb => by
    refine ⟨hn b hb, (okY.exf b hb).1, okY.exfs b hb, .inl hb, (okY.exf b hb).2, fun p hp => ?_⟩
    exact (f2 b hb).2.2.2.2.2 p (by simpa using hp)
  have fin : ∀ {σ' : St} {H' : Hp} {s' : Shared}, Inv (compCx X (x :: z :: fr) scope (clOf scope.names X.env.cells []) (s2.heap.objs.size + 1) s2 H2 fp (X.pn ++ pins)) [] σ' H' s' → Q (.ref s2.heap.objs.size) H' →
      compPost (model X.prog X.w) X.A X.xe use Q0 (.ref s2.heap.objs.size) (s2.heap.objs.size + 1) (.ok .next) s' := fun {σ' H' s'} J q => by
    obtain ⟨m, hnm, _⟩ := J.loc
    have J' : Inv X pins σ H' s' := I2.call' J.os (J.base : Un (frs X.stack) fp H2 H' s2.heap s'.heap) J.hok J.bare fun b hb => ⟨(f2 b hb).2.2.2.1, (f2 b hb).2.1, (f2 b hb).2.2.2.2.1, (f2 b hb).2.2.2.2.2⟩
    refine finQ _ _ H' s' ⟨J', ⟨m, hnm⟩, J.free, Ne.symm (Nat.ne_of_lt (Nat.lt_succ_of_lt hlL)), Nat.le_succ_of_le I2.sz, fun y c ec => ?_, fun p hp => ?_⟩ q
    · obtain ⟨v, o, z, _⟩ := I2.cell y c ec
      exact Nat.ne_of_lt (Nat.lt_succ_of_lt (Heap.lt_size z))
    · exact Nat.ne_of_lt (Nat.lt_succ_of_lt (Heap.lt_size (pinOk p hp).1))
  have loop : ∀ s3 : Shared, s3 = { s2 with heap := h1, toks := s2.toks + ([] : List (Str × Value)).length } →
      codeAny (model X.prog X.w) X.A (.compLoop (.ListComp elt [⟨.Tuple [.Name x px, .Name z pz] kt pt, iter, [], 0⟩] scope pos) 0 (.ref it) (.ref s2.heap.objs.size) (compEnvC scope (clOf scope.names X.env.cells []) (s2.heap.objs.size + 1) X.env))
        (compPost (model X.prog X.w) X.A X.xe use Q0 (.ref s2.heap.objs.size) (s2.heap.objs.size + 1)) s3 := by
    rintro s3 rfl
    refine PyProof.Rows.LCp.codeAny_compLoop_pair (fun n s' => ∃ i ys o o' H', Inv (compCx X (x :: z :: fr) scope (clOf scope.names X.env.cells []) (s2.heap.objs.size + 1) s2 H2 fp (X.pn ++ pins)) [] (o :: o' :: seen js σ) H' s' ∧ tn i s'.heap ∧ (∀ b ∈ fp, H' b = none) ∧ W i n ys H') ?_ m0
      ⟨0, [], none, none, _, IY, T.keep _ _ _ st2 (fun b _ o z => keep b o z), fun b hb => by rw [upd_ne (Nat.ne_of_lt (hfp b hb))]; exact (f2 b hb).1, w0⟩
    rintro n s3 ⟨i, ys, o, o', H3, I3, st3, fr3, w3⟩
    obtain ⟨hD3, hlen, hw⟩ := turn i n ys H3 w3
    rcases hw with ⟨stop, qn⟩ | ⟨go, step⟩
    · refine thn (T.done (compCx X (x :: z :: fr) scope (clOf scope.names X.env.cells []) (s2.heap.objs.size + 1) s2 H2 fp (X.pn ++ pins)) rfl rfl rfl hc i [] s3 _ H3 _ I3 (statY fr3) st3 stop) fun r s4 hpt => ?_
      obtain ⟨hr, I4⟩ := hpt
      subst hr
      exact fin I4 qn
    · refine thn (T.item (compCx X (x :: z :: fr) scope (clOf scope.names X.env.cells []) (s2.heap.objs.size + 1) s2 H2 fp (X.pn ++ pins)) rfl rfl rfl hc i [] s3 _ H3 _ I3 (statY fr3) st3 go) fun r s4 hpt => ?_
      obtain ⟨u, hr, h4⟩ := hpt
      subst hr
      refine thn h4 fun _ s5 hpt => ?_
      obtain ⟨xv, H5, I5, r5, y5, st5, fr5⟩ := hpt
      have I5' := I5.pinned (statY fr5) (T.obj _ _ st5)
      obtain ⟨ta, xa, xb, e5, ht5, yes5⟩ := step xv _ y5
      subst e5
      have hg : PG (compCx X (x :: z :: fr) scope (clOf scope.names X.env.cells []) (s2.heap.objs.size + 1) s2 H2 fp (X.pn ++ pins)) (.Tuple [.Name x px, .Name z pz] kt pt) (gTup X.K 2 (gCons (gName 0) (gCons (gName 1) gNil))) :=
        pg_tup hc (pgs_cons (pg_name (i := 0) hnd rfl (.inl (lookup_relabel_local hx)) (.inr (lookup_relabel_local hx))) (pgs_cons (pg_name (i := 1) hnd rfl (.inl (lookup_relabel_local hz)) (.inr (lookup_relabel_local hz))) pgs_nil))
      refine thx (hg _ s5 _ H5 (.ref ta) u (fun σ' H' => σ' = some xa :: some xb :: seen js σ ∧ H' = H5) I5' r5 (by subst hK; exact ⟨ta, [xa, xb], rfl, ht5, rfl, xa, [xb], rfl, xb, [], rfl, rfl, rfl, rfl⟩)) fun _ s6 hpt => ?_
      obtain ⟨σ6, H6, I6, e6, e6'⟩ := hpt
      subst e6 e6'
      have again : ∀ {H8 : Hp} {s8 : Shared} {ys' : List V}, Inv (compCx X (x :: z :: fr) scope (clOf scope.names X.env.cells []) (s2.heap.objs.size + 1) s2 H2 fp (X.pn ++ pins)) ([] ++ pinsAt fp s5.heap) (some xa :: some xb :: seen js σ) H8 s8 → (∃ m', m' < n ∧ W (i + 1) m' ys' H8) →
          ∃ m, m < n ∧ ∃ i ys o o' H', Inv (compCx X (x :: z :: fr) scope (clOf scope.names X.env.cells []) (s2.heap.objs.size + 1) s2 H2 fp (X.pn ++ pins)) [] (o :: o' :: seen js σ) H' s8 ∧ tn i s8.heap ∧ (∀ b ∈ fp, H' b = none) ∧ W i m ys H' := fun {H8 s8 ys'} I8 ⟨m', hm, w8⟩ => by
        refine ⟨m', hm, i + 1, ys', some xa, some xb, H8, I8.unpinned, T.keep _ _ _ st5 fun b hb o e => (I8.pin (b, o) (List.mem_append_right _ (List.mem_append_right _ (mem_pinsAt hb e)))).1, fun b hb => ?_, w8⟩
        obtain ⟨o, e, d⟩ := T.obj _ _ st5 b hb
        exact (I8.pin (b, o) (List.mem_append_right _ (List.mem_append_right _ (mem_pinsAt hb e)))).2.1
      refine thx (he _ _ _ _ _ _ _ s6 _ _ _ I6 yes5) fun yv s8 hpt => ?_
      obtain ⟨y, H8, I8, r8, hD8, hm8⟩ := hpt
      refine thx (mt_append _ s8 _ H8 (.ref s2.heap.objs.size) [y] (.ref s2.heap.objs.size) [yv] (fun v H9 => H9 = upd H8 s2.heap.objs.size (.lst (ys ++ [y]))) I8 rfl (.cons r8 .nil) ⟨_, ys, y, rfl, rfl, hD8, hlen, rfl⟩) fun _ s9 hpt => ?_
      obtain ⟨_, H9, I9, _, e9⟩ := hpt
      subst e9
      exact again I9 hm8
  exact codeAny_compStart_list (loop _ rfl) (T.self _ 0 _ _ _ (T.keep _ _ _ st2 fun b _ o z => keep b o z) (loop _ rfl))

theorem pe_comp2 {X : Cx} {elt iter : Expr} {x z : Str} {px pz pt pos : Pos} {kt : Nat} {scope so : Scope} {fr : List Str} {js : List Nat} {wi : TI} {te : TE} {K : PySem.W.Frag} (hc : X.calm = true) (hi : PI X (.Tuple [.Name x px, .Name z pz] kt pt) iter wi)
    (hso : X.env.scope = so) (hFr : FrOk X scope fr js) (hnd : (x :: z :: fr).Nodup)
    (he : ∀ (cl : List (Str × Addr)) (Ca : Addr) (s2 : Shared) (H2 : Hp) (fp : List Addr) (pl : List (Addr × Obj)), PE (compCx X (x :: z :: fr) scope cl Ca s2 H2 fp pl) elt te)
    (hclos : closureFor scope X.env = pure (clOf scope.names X.env.cells []) := by rfl) (hkind : scope.kind = .function := by rfl)
    (hnames : (scope.names.all fun y => (y.2 != NameKind.cell) && (y.2 != NameKind.local || scope.names.lookup y.1 == some NameKind.local) && (y.2 != NameKind.free || so.names.lookup y.1 == some NameKind.cell || so.names.lookup y.1 == some NameKind.free)) = true := by decide +kernel)
    (hx : scope.names.lookup x = some .local := by rfl) (hz : scope.names.lookup z = some .local := by rfl) (hK : X.K = K := by rfl) (hs : ∀ x, foldedSetIterable iter X.env x = pure x := by intro _; rfl) :
    PE X (.ListComp elt [⟨.Tuple [.Name x px, .Name z pz] kt pt, iter, [], 0⟩] scope pos) (tComp2 K wi js te) := by
  intro pins s σ H Q I h
  rw [eval_ListComp]
  refine comp_core2 hc hi hso hFr hnd he hclos hkind hnames hx hz hK hs I h fun D Ca H' s' B q => ?_
  obtain ⟨m, hm⟩ := B.ns
  exact ⟨m, hm, fun h' hs' => ⟨.ref D, H', B.change hs', rfl, q⟩⟩

end L2
set_option Elab.async false
set_option linter.all false
set_option maxRecDepth 100000
set_option maxHeartbeats 4000000
namespace Kn
open PySem L2
/-! ### own part 17: a number as the law reads it -/
def digs (l : List Nat) : Bool := l.all fun c => decide (48 ≤ c ∧ c ≤ 57)
def odd2 (w : Str) : Prop := w.length < 1 ∨ 2 < w.length ∨ (w.length = 2 ∧ w.cps.toList[0]? = some 48)
instance (w : Str) : Decidable (odd2 w) := by unfold odd2; infer_instance
def numZ (w : Str) : Int := if odd2 w then -1 else if digs w.cps.toList = true then (NumText.digitsVal w.cps.toList : Int) else -1
theorem numZ_nS : ∀ n, n < 21 → numZ (nS n) = (n : Int) := by decide +kernel
theorem one_nS : ∀ c, c < 58 → 48 ≤ c → (⟨#[c]⟩ : Str) = nS (NumText.digitsVal [c]) ∧ NumText.digitsVal [c] < 21 := by decide +kernel
theorem two_nS : ∀ c, c < 58 → 49 ≤ c → ∀ d, d < 58 → 48 ≤ d → NumText.digitsVal [c, d] < 21 → (⟨#[c, d]⟩ : Str) = nS (NumText.digitsVal [c, d]) := by decide +kernel
theorem numZ_back {w : Str} {n : Nat} (h : numZ w = (n : Int)) (hn : n < 21) : w = nS n := by
  unfold numZ at h
  split at h
  · (first | lia | omega)
  · rename_i ho
    split at h
    · rename_i hd
      have hv : NumText.digitsVal w.cps.toList = n := by (first | lia | omega)
      unfold odd2 at ho
      rw [len_list] at ho
      unfold digs at hd
      have all := List.all_eq_true.mp hd
      obtain ⟨arr⟩ := w
      have ew : (⟨arr⟩ : Str) = ⟨arr.toList.toArray⟩ := by rw [Array.toArray_toList]
      dsimp only at *
      rw [ew]
      revert ho all hv
      generalize arr.toList = l
      intro ho hv all
      match l, ho, all, hv with
      | [], ho, _, _ => exact absurd (.inl (by decide)) ho
      | [c], _, all, hv =>
        have := of_decide_eq_true (all c (by simp))
        rw [← hv]
        exact (one_nS c (by (first | lia | omega)) this.1).1
      | [c, d], ho, all, hv =>
        have h1 := of_decide_eq_true (all c (by simp))
        have h2 := of_decide_eq_true (all d (by simp))
        have hc : c ≠ 48 := fun z => ho (.inr (.inr ⟨rfl, by rw [z]; rfl⟩))
        rw [← hv]
        exact two_nS c (by (first | lia | omega)) (by (first | lia | omega)) d (by (first | lia | omega)) h2.1 (by (first | lia | omega))
      | _ :: _ :: _ :: _, ho, _, _ => exact absurd (.inr (.inl (by simp))) ho
    · (first | lia | omega)
theorem twoP_Z {n : Nat} {line x y : Str} (hn : n ≤ 20) (e : spl line 32 = [x, y]) (h0 : 0 ≤ numZ x) (h1 : numZ x < numZ y) (h2 : numZ y < n) : twoP n line = some [numZ x, numZ y] := by
  obtain ⟨i, hi⟩ : ∃ i : Nat, numZ x = i := ⟨(numZ x).toNat, by (first | lia | omega)⟩
  obtain ⟨j, hj⟩ : ∃ j : Nat, numZ y = j := ⟨(numZ y).toNat, by (first | lia | omega)⟩
  rw [hi, hj]
  have ex := numZ_back hi (by (first | lia | omega))
  have ey := numZ_back hj (by (first | lia | omega))
  exact twoP_of (by rw [e, ex, ey]) (by (first | lia | omega)) (by (first | lia | omega)) (by (first | lia | omega)) (by (first | lia | omega))
theorem twoP_no {n : Nat} {line : Str} (h : ∀ x y, spl line 32 = [x, y] → ¬ (0 ≤ numZ x ∧ numZ x < numZ y ∧ numZ y < n)) : twoP n line = none := by
  cases e : twoP n line with
  | none => rfl
  | some ks =>
    obtain ⟨i, j, e1, h1, h2, h3, h4, _⟩ := twoP_some e
    refine absurd ⟨?_, ?_, ?_⟩ (h _ _ e1)
    · rw [numZ_nS i h3]; (first | lia | omega)
    · rw [numZ_nS i h3, numZ_nS j h4]; (first | lia | omega)
    · rw [numZ_nS j h4]; (first | lia | omega)
theorem headP_Z {line y : Str} {n : Nat} (e : spl line 32 = [("guests" : Str), y]) (hz : numZ y = (n : Int)) (h1 : 1 ≤ n) (h2 : n ≤ 20) : headP line = some n :=
  headP_of h1 h2 (by rw [e, numZ_back hz (by (first | lia | omega))])
theorem headP_no {line : Str} (h : ∀ y, spl line 32 = [("guests" : Str), y] → ¬ (1 ≤ numZ y ∧ numZ y ≤ 20)) : headP line = none := by
  cases e : headP line with
  | none => rfl
  | some n =>
    obtain ⟨h1, h2, e1⟩ := headP_some e
    refine absurd ?_ (h _ e1)
    rw [numZ_nS n (by (first | lia | omega))]
    (first | lia | omega)
/-- a text that ends with a line end: its lines -/
theorem readP_snoc (t : Str) : readP (t ++ ⟨#[10]⟩) = linesP (spl t 10) := by
  unfold readP
  rw [spl_snoc, if_pos List.getLast?_concat, List.dropLast_concat]
theorem readP_other {t : Str} (h : t.cps.toList.getLast? ≠ some 10) : readP t = none := by
  unfold readP
  split
  · rename_i hl
    rcases spl_last hl with rfl | ⟨y, rfl, _⟩
    · have e2 : spl ⟨#[]⟩ 10 = [⟨#[]⟩] := spl_is (by simp) (fun p hp => by rw [List.mem_singleton.mp hp]; decide) (Str.join.eq_2 _ _)
      rw [e2]
      rfl
    · refine absurd ?_ h
      rw [str_app]
      exact List.getLast?_concat
  · rfl
theorem ends_with {t : Str} {c : Nat} (h : t.cps.toList.getLast? = some c) : ∃ y, t = y ++ ⟨#[c]⟩ := by
  obtain ⟨l, e⟩ : ∃ l, t.cps.toList = l ++ [c] := by
    have hn : t.cps.toList ≠ [] := fun z => by rw [z] at h; cases h
    rw [List.getLast?_eq_some_getLast hn] at h
    exact ⟨t.cps.toList.dropLast, by rw [← Option.some.inj h, List.dropLast_concat_getLast]⟩
  refine ⟨⟨l.toArray⟩, str_ext ?_⟩
  rw [str_app, e]
end Kn
set_option Elab.async false
set_option linter.all false
set_option maxRecDepth 100000
set_option maxHeartbeats 4000000
namespace Kn
open PySem L2
/-! ### the text by places -/
def top (i : Nat) : Stmt := PySem.Challenge.pw_knowthree_k12_halls_read_or_refused.main.body.getD i (.Pass ⟨0, 0, 0, 0⟩)
abbrev sInit : Stmt := inClass (top 13) 0
abbrev sMany : Stmt := inClass (top 13) 1
abbrev sMeet : Stmt := inClass (top 13) 2
abbrev sKnow : Stmt := inClass (top 13) 4
abbrev sKnown : Stmt := inClass (top 13) 5
abbrev sStr : Stmt := inClass (top 13) 6
abbrev sNeed : Stmt := inClass (top 13) 7
abbrev sSet : Stmt := inClass (top 13) 8
abbrev sNM : Stmt := top 12
abbrev sRead : Stmt := top 16
abbrev sGT : Stmt := top 17
abbrev sMT : Stmt := top 18
abbrev sTW : Stmt := top 19
abbrev sNT : Stmt := top 20
abbrev sCell : Stmt := top 22
abbrev sWhole : Stmt := top 23
abbrev sMn : Stmt := top 24
abbrev sPB : Stmt := top 25
abbrev sLKn : Stmt := top 26
abbrev sNums : Stmt := top 27
abbrev sMarks : Stmt := top 28
abbrev sSame : Stmt := top 29
abbrev sLSg : Stmt := top 30
abbrev sLSp : Stmt := top 31
abbrev sLNu : Stmt := top 32
abbrev sDue : Stmt := top 33
abbrev sLaw : Stmt := top 34
/-! ### the data -/
abbrev Knw := Nat → Nat → Bool
def setK (kn : Knw) (i j : Nat) (b : Bool) : Knw := fun x y => if (x = i ∧ y = j) ∨ (x = j ∧ y = i) then b else kn x y
def rowV (kn : Knw) (n i : Nat) : List V := (List.range n).map fun j => V.bl (kn i j)
structure HallAt (C : Addr) (H : Hp) (p r : Addr) (as : List Addr) (n : Nat) (kn : Knw) : Prop where
  ob : ∃ dx, H p = some (.ins C dx [(("rows" : Str), V.ref r)])
  rws : H r = some (.lst (as.map V.ref))
  len : as.length = n
  nd : as.Nodup
  row : ∀ i a, as[i]? = some a → H a = some (.lst (rowV kn n i))
  n1 : 1 ≤ n
  n20 : n ≤ 20
section
variable {C : Addr} {H H' : Hp} {p r : Addr} {as : List Addr} {n : Nat} {kn : Knw}
theorem HallAt.rna (h : HallAt C H p r as n kn) : r ∉ as := fun m => by
  obtain ⟨i, hi⟩ := List.getElem?_of_mem m
  have e := h.row i r hi
  rw [h.rws] at e
  have e2 : as.map V.ref = rowV kn n i := HO.lst.inj (Option.some.inj e)
  have h1 := h.n1
  have hl := h.len
  cases as with
  | nil => simp at m
  | cons a as =>
    have e3 := congrArg List.head? e2
    unfold rowV at e3
    obtain ⟨k, rfl⟩ : ∃ k, n = k + 1 := ⟨n - 1, by (first | lia | omega)⟩
    rw [List.range_succ_eq_map] at e3
    simp at e3
theorem HallAt.pna (h : HallAt C H p r as n kn) : p ∉ as := fun m => by
  obtain ⟨i, hi⟩ := List.getElem?_of_mem m
  obtain ⟨dx, e⟩ := h.ob
  rw [h.row i p hi] at e
  cases e
theorem HallAt.mono (h : HallAt C H p r as n kn) (e : ∀ b o, H b = some o → (b = p ∨ b = r ∨ b ∈ as) → H' b = some o) : HallAt C H' p r as n kn := by
  obtain ⟨dx, h1⟩ := h.ob
  exact ⟨⟨dx, e _ _ h1 (.inl rfl)⟩, e _ _ h.rws (.inr (.inl rfl)), h.len, h.nd, fun i a hi => e _ _ (h.row i a hi) (.inr (.inr (List.mem_of_getElem? hi))), h.n1, h.n20⟩
theorem HallAt.same (h : HallAt C H p r as n kn) (e : Same H H') : HallAt C H' p r as n kn := h.mono fun b o q _ => e b o q
theorem HallAt.at (h : HallAt C H p r as n kn) {i : Nat} (hi : i < n) : ∃ a, as[i]? = some a ∧ H a = some (.lst (rowV kn n i)) := by
  have hl := h.len
  exact ⟨as[i], List.getElem?_eq_getElem (by (first | lia | omega)), h.row i _ (List.getElem?_eq_getElem (by (first | lia | omega)))⟩
end
theorem rowV_len (kn : Knw) (n i : Nat) : (rowV kn n i).length = n := by unfold rowV; simp
theorem rowV_at {kn : Knw} {n i j : Nat} (h : j < n) : (rowV kn n i)[j]? = some (.bl (kn i j)) := by
  unfold rowV
  rw [List.getElem?_map, List.getElem?_range h]
  rfl

/-- the addresses of the classes -/
structure Ad where
  C : Addr
  eH : Addr
  eNo : Addr
  eSame : Addr
  eKnow : Addr
  eStr : Addr
  eBad : Addr
  eTxt : Addr
/-- what the walk asks of the text as the top has made it -/
structure Txt (K : PySem.W.Frag) (mg : Str → Option Value) (a : Ad) : Prop where
  cl : Cls K a.C
  nR : NoAttr K a.C "rows"
  mgC : mg "Hall" = some (.ref a.C)
  mgNo : mg "NoGuest" = some (.ref a.eNo)
  mgSame : mg "SameGuest" = some (.ref a.eSame)
  mgKnow : mg "KnowAlready" = some (.ref a.eKnow)
  mgStr : mg "Strangers" = some (.ref a.eStr)
  mgBad : mg "BadHall" = some (.ref a.eBad)
  xNo : PySem.W.excIn K a.eNo bmVE "ValueError.__new__" = true
  xSame : PySem.W.excIn K a.eSame bmVE "ValueError.__new__" = true
  xKnow : PySem.W.excIn K a.eKnow bmVE "ValueError.__new__" = true
  xStr : PySem.W.excIn K a.eStr bmVE "ValueError.__new__" = true
  xBad : PySem.W.excIn K a.eBad bmVE "ValueError.__new__" = true
  few : ∃ t, mg "FEWEST_GUESTS" = some (.int 1 t)
  most : ∃ t, mg "MOST_GUESTS" = some (.int 20 t)
  len : mg "len" = none
  range : mg "range" = none
/-- a def of the text -/
structure Fs (K : PySem.W.Frag) (mg : Str → Option Value) (x : Str) (st : Stmt) (ps : List Str) (f : Addr) (fd : FuncData) : Prop where
  F : Fun K x x st f fd
  b : Binds K fd ps []
  m : mg x = some (.ref f)
/-- a method of the text -/
structure Ms (K : PySem.W.Frag) (C : Addr) (m qual : Str) (st : Stmt) (ps : List Str) (f : Addr) (fd : FuncData) : Prop where
  F : Fun K m qual st f fd
  b : Binds K fd ps []
  me : Meth K C m f

/-! ### the promises -/
def okG (n : Nat) (g : Int) : Prop := 0 ≤ g ∧ g < n
instance (n : Nat) (g : Int) : Decidable (okG n g) := by unfold okG; infer_instance
def spNeed (a : Ad) : Sp := fun vs H Q E => ∃ p r as n kn g, vs = [.ref p, .int g] ∧ HallAt a.C H p r as n kn ∧ (okG n g → Q .non H) ∧ (¬ okG n g → E (.ref a.eNo) none H)

section
variable {P : Program} {w : World} {K : PySem.W.Frag} {mg : Str → Option Value} {base : Heap} {a : Ad}
theorem scNeed : FnScope ["self", "guest"] ["self", "guest"] (defScope sNeed) := ⟨rfl, rfl, rfl, by decide +kernel, rfl, by decide +kernel, by decide +kernel⟩
theorem ok_need {f : Addr} {fd : FuncData} (F : Fun K "need_guest" "Hall.need_guest" sNeed f fd) (T : Txt K mg a) : FnOk P w K mg base (CXe P w) 1 f fd ["self", "guest"] (spNeed a) := by
  refine F.okE scNeed (fun vs H Q E h => ?_) (fun cdv A outer s H vs Q E hr h => ?_)
  · obtain ⟨p, r, as, n, kn, g, rfl, _⟩ := h
    rfl
  · obtain ⟨p, r, as, n, kn, g, rfl, hH, k1, k2⟩ := h
    obtain ⟨dx, hp⟩ := hH.ob
    have hlen := hH.len
    refine ⟨_, pss_one (ps_if (PW.pt (pw_or (pt_cmpR op_lt (pv 1) pe_int (nomark _)) (pw_or1 (pt_cmpR op_ge (pv 1) (pe_callB call_len_seq (by rfl) T.len PySem.boot_len (pa_cons (pe_fld (pv 0) rfl) pa_nil)) (nomark _)))))
      (pss_one (ps_raise rfl rfl T.mgNo T.xNo (pa_cons pe_str pa_nil) (fun pins σ H s h' e vs I hm hE => raise_leave I hm hE))) pss_nil), ?_⟩
    have bad : ¬ okG n g → (1 : Nat) ≤ sizeLine ∧ E (.ref a.eNo) none H := fun h => ⟨by decide, k2 h⟩
    refine ⟨_, rfl, _, _, rfl, rfl, _, rfl, ?_⟩
    refine ite2 (fun h => ?_) (fun h => ?_)
    · have h' : g < 0 := of_decide_eq_true h
      exact iteT (bad fun z => by unfold okG at z; (first | lia | omega))
    · have h' : ¬ g < 0 := fun z => h (decide_eq_true z)
      refine ⟨_, rfl, _, rfl, p, a.C, dx, _, _, rfl, hp, T.cl, T.nR, rfl, r, _, rfl, .inl (SqL.of hH.rws), _, _, rfl, rfl, _, rfl, ?_⟩
      refine ite2 (fun h => ?_) (fun h => ?_)
      · have h2 := of_decide_eq_true h
        rw [List.length_map, hlen] at h2
        exact bad fun z => by unfold okG at z; (first | lia | omega)
      · have h2 : ¬ (((as.map V.ref).length : Int) ≤ g) := fun z => h (decide_eq_true z)
        rw [List.length_map, hlen] at h2
        exact k1 ⟨by (first | lia | omega), by (first | lia | omega)⟩
/-! ### know, settle, meet, part -/
def refuse (a : Ad) (n : Nat) (g h : Int) (E : XK) (H : Hp) : Prop := (¬ (okG n g ∧ okG n h) → E (.ref a.eNo) none H) ∧ (okG n g → okG n h → g = h → E (.ref a.eSame) none H)
def spKnow (a : Ad) : Sp := fun vs H Q E => ∃ p r as n kn g h, vs = [.ref p, .int g, .int h] ∧ HallAt a.C H p r as n kn ∧ refuse a n g h E H ∧ (okG n g → okG n h → g ≠ h → Q (.bl (kn g.toNat h.toNat)) H)
def spSettle (a : Ad) : Sp := fun vs H Q _ => ∃ p r as n kn i j b, vs = [.ref p, .int i, .int j, .bl b] ∧ HallAt a.C H p r as n kn ∧ okG n i ∧ okG n j ∧ i ≠ j ∧
  ∀ H', HallAt a.C H' p r as n (setK kn i.toNat j.toNat b) → (∀ c o, H c = some o → c ∉ as → H' c = some o) → Q .non H'
def spMeet (a : Ad) : Sp := fun vs H Q E => ∃ p r as n kn g h, vs = [.ref p, .int g, .int h] ∧ HallAt a.C H p r as n kn ∧ refuse a n g h E H ∧ (okG n g → okG n h → g ≠ h → kn g.toNat h.toNat = true → E (.ref a.eKnow) none H) ∧
  (okG n g → okG n h → g ≠ h → kn g.toNat h.toNat = false → ∀ H', HallAt a.C H' p r as n (setK kn g.toNat h.toNat true) → (∀ c o, H c = some o → c ∉ as → H' c = some o) → Q .non H')

theorem atI_int {α : Type} {xs : List α} {i : Int} {v : α} (h0 : 0 ≤ i) (h : xs[i.toNat]? = some v) : atI xs i = some v := by
  have e : ((i.toNat : Nat) : Int) = i := Int.toNat_of_nonneg h0
  rw [← e]
  exact atI_nat h
theorem rows_at {H : Hp} {p r : Addr} {as : List Addr} {n : Nat} {kn : Knw} (h : HallAt a.C H p r as n kn) {g : Int} (hg : okG n g) : ∃ b, as[g.toNat]? = some b ∧ atI (as.map V.ref) g = some (.ref b) ∧ H b = some (.lst (rowV kn n g.toNat)) := by
  have h0 := hg.1
  have h1 := hg.2
  obtain ⟨b, e, hb⟩ := h.at (i := g.toNat) (by (first | lia | omega))
  exact ⟨b, e, atI_int h0 (by rw [List.getElem?_map, e]; rfl), hb⟩
theorem row_at (kn : Knw) (n i : Nat) {h : Int} (hh : okG n h) : atI (rowV kn n i) h = some (.bl (kn i h.toNat)) := by
  have h0 := hh.1
  have h1 := hh.2
  exact atI_int h0 (rowV_at (by (first | lia | omega)))
theorem scKnow : FnScope ["self", "one", "other"] ["self", "one", "other"] (defScope sKnow) := ⟨rfl, rfl, rfl, by decide +kernel, rfl, by decide +kernel, by decide +kernel⟩
theorem ok_know {f fN : Addr} {fd fdN : FuncData} (F : Fun K "know" "Hall.know" sKnow f fd) (T : Txt K mg a) (N : Ms K a.C "need_guest" "Hall.need_guest" sNeed ["self", "guest"] fN fdN) : FnOk P w K mg base (CXe P w) 2 f fd ["self", "one", "other"] (spKnow a) := by
  have GN : FnOk P w K mg base (CXe P w) 1 fN fdN ["self", "guest"] (spNeed a) := ok_need N.F T
  refine F.okE scKnow (fun vs H Q E h => ?_) (fun cdv A outer s H vs Q E hr h => ?_)
  · obtain ⟨p, r, as, n, kn, g, h, rfl, _⟩ := h
    rfl
  · obtain ⟨p, r, as, n, kn, g, h, rfl, hH, ⟨e1, e2⟩, k⟩ := h
    obtain ⟨dx, hp⟩ := hH.ob
    refine ⟨_, pss_cons (ps_expr (pe_meth (pv 0) T.cl N.me GN hr N.b .nil (passE fun _ _ _ z => z) (pa_cons (pv 1) pa_nil)))
      (pss_cons (ps_expr (pe_meth (pv 0) T.cl N.me GN hr N.b .nil (passE fun _ _ _ z => z) (pa_cons (pv 2) pa_nil)))
      (pss_cons (ps_if (pt_cmpR op_eq (pv 1) (pv 2) (nomark _)) (pss_one (ps_raise rfl rfl T.mgSame T.xSame (pa_cons pe_str pa_nil) (fun pins σ H s h' e vs I hm hE => raise_leave I hm hE))) pss_nil)
      (pss_one (ps_ret (pe_ix ix_list (pe_ix ix_list (pe_fld (pv 0) rfl) (pv 1) (fun _ _ => rfl)) (pv 2) (fun _ _ => rfl)))))), ?_⟩
    refine ⟨_, rfl, p, dx, _, rfl, hp, rfl, _, rfl, p, r, as, n, kn, g, rfl, hH, fun og => ?_, fun ng => e1 fun z => ng z.1⟩
    refine ⟨_, rfl, p, dx, _, rfl, hp, rfl, _, rfl, p, r, as, n, kn, h, rfl, hH, fun oh => ?_, fun nh => e1 fun z => nh z.2⟩
    refine ⟨_, rfl, _, rfl, rfl, _, rfl, ite2 (fun z => ?_) (fun z => ?_)⟩
    · have z' : g = h := V.int.inj (of_decide_eq_true z)
      exact ⟨by show 1 ≤ sizeLine; decide, e2 og oh z'⟩
    · have z' : g ≠ h := fun q => z (decide_eq_true (by rw [q]))
      obtain ⟨b, _, h1, h2⟩ := rows_at hH og
      exact ⟨_, rfl, p, a.C, dx, _, _, rfl, hp, T.cl, T.nR, rfl, _, rfl, r, _, g, _, rfl, rfl, SqL.of hH.rws, h1, _, rfl, b, _, h, _, rfl, rfl, SqL.of h2, row_at kn n _ oh, k og oh z'⟩
theorem rowV_set (kn : Knw) (n i j : Nat) (b : Bool) (h : i ≠ j) : (rowV kn n i).set j (.bl b) = rowV (setK kn i j b) n i := by
  apply List.ext_getElem?
  intro y
  by_cases hy : y < n
  · rw [rowV_at hy, List.getElem?_set]
    by_cases e : j = y
    · subst e
      rw [if_pos rfl, rowV_len, if_pos hy]
      simp [setK]
    · rw [if_neg e, rowV_at hy]
      have : setK kn i j b i y = kn i y := by
        unfold setK
        rw [if_neg]
        rintro (⟨_, q⟩ | ⟨q, _⟩)
        · exact e q.symm
        · exact h q
      rw [this]
  · rw [List.getElem?_eq_none_iff.mpr (by rw [List.length_set, rowV_len]; (first | lia | omega)), List.getElem?_eq_none_iff.mpr (by rw [rowV_len]; (first | lia | omega))]
theorem setK_comm (kn : Knw) (i j : Nat) (b : Bool) : setK kn i j b = setK kn j i b := by
  funext x y
  unfold setK
  have : ((x = i ∧ y = j) ∨ (x = j ∧ y = i)) = ((x = j ∧ y = i) ∨ (x = i ∧ y = j)) := propext Or.comm
  simp only [this]
theorem rowV_off (kn : Knw) (n i j x : Nat) (b : Bool) (h1 : x ≠ i) (h2 : x ≠ j) : rowV (setK kn i j b) n x = rowV kn n x := by
  unfold rowV
  refine List.map_congr_left fun y _ => ?_
  have : setK kn i j b x y = kn x y := by
    unfold setK
    rw [if_neg]
    rintro (⟨q, _⟩ | ⟨q, _⟩)
    · exact h1 q
    · exact h2 q
  rw [this]
theorem ixN_int {n : Nat} {i : Int} (h : okG n i) : ixN n i = some i.toNat := by
  unfold ixN
  rw [if_pos h.1, if_pos h.2]
theorem nodup_ne {as : List Addr} (nd : as.Nodup) {i j : Nat} {b c : Addr} (hi : as[i]? = some b) (hj : as[j]? = some c) (h : i ≠ j) : b ≠ c := fun z => by
  subst z
  obtain ⟨h1, e1⟩ := List.getElem?_eq_some_iff.mp hi
  obtain ⟨h2, e2⟩ := List.getElem?_eq_some_iff.mp hj
  exact h ((List.getElem_inj nd).mp (e1.trans e2.symm))
theorem scSet : FnScope ["self", "one", "other", "acquainted"] ["self", "one", "other", "acquainted"] (defScope sSet) := ⟨rfl, rfl, rfl, by decide +kernel, rfl, by decide +kernel, by decide +kernel⟩
theorem ok_settle {f : Addr} {fd : FuncData} (F : Fun K "settle" "Hall.settle" sSet f fd) (T : Txt K mg a) : FnOk P w K mg base (CXe P w) 1 f fd ["self", "one", "other", "acquainted"] (spSettle a) := by
  refine F.okE scSet (fun vs H Q E h => ?_) (fun cdv A outer s H vs Q E hr h => ?_)
  · obtain ⟨p, r, as, n, kn, i, j, b, rfl, _⟩ := h
    rfl
  · obtain ⟨p, r, as, n, kn, i, j, b, rfl, hH, oi, oj, nij, k⟩ := h
    obtain ⟨dx, hp⟩ := hH.ob
    obtain ⟨c, c1, c2, c3⟩ := rows_at hH oi
    obtain ⟨d, d1, d2, d3⟩ := rows_at hH oj
    have hij : i.toNat ≠ j.toNat := fun z => nij (by have := oi.1; have := oj.1; (first | lia | omega))
    have ncd : c ≠ d := nodup_ne hH.nd c1 d1 hij
    have nrc : r ≠ c := fun z => hH.rna (z ▸ List.mem_of_getElem? c1)
    have nrd : r ≠ d := fun z => hH.rna (z ▸ List.mem_of_getElem? d1)
    have npc : p ≠ c := fun z => hH.pna (z ▸ List.mem_of_getElem? c1)
    have npd : p ≠ d := fun z => hH.pna (z ▸ List.mem_of_getElem? d1)
    refine ⟨_, pss_cons (ps_asg (pv 3) (pg_sub (pe_ix ix_list (pe_fld (pv 0) rfl) (pv 1) (fun _ _ => rfl)) (pv 2) set_list))
      (pss_one (ps_asg (pv 3) (pg_sub (pe_ix ix_list (pe_fld (pv 0) rfl) (pv 2) (fun _ _ => rfl)) (pv 1) set_list))), ?_⟩
    refine ⟨_, rfl, _, rfl, p, a.C, dx, _, _, rfl, hp, T.cl, T.nR, rfl, _, rfl, r, _, i, _, rfl, rfl, SqL.of hH.rws, c2, _, rfl, c, _, j, _, rfl, rfl, c3, ixN_int (by rw [rowV_len]; exact oj), ?_⟩
    refine ⟨_, rfl, _, rfl, p, a.C, dx, _, _, rfl, (by rw [upd_ne npc]; exact hp), T.cl, T.nR, rfl, _, rfl, r, _, j, _, rfl, rfl, SqL.of (by rw [upd_ne nrc]; exact hH.rws), d2, _, rfl, d, _, i, _, rfl, rfl, (by rw [upd_ne ncd.symm]; exact d3), ixN_int (by rw [rowV_len]; exact oi), ?_⟩
    refine k _ ⟨⟨dx, by rw [upd_ne npd, upd_ne npc]; exact hp⟩, by rw [upd_ne nrd, upd_ne nrc]; exact hH.rws, hH.len, hH.nd, fun x e hx => ?_, hH.n1, hH.n20⟩ fun e o he hn => ?_
    · by_cases h1 : e = d
      · subst h1
        have hxj : x = j.toNat := Classical.byContradiction fun z => nodup_ne hH.nd hx d1 z rfl
        rw [upd_same, hxj, setK_comm, ← rowV_set _ _ _ _ _ (Ne.symm hij)]
      · rw [upd_ne h1]
        by_cases h2 : e = c
        · subst h2
          have hxi : x = i.toNat := Classical.byContradiction fun z => nodup_ne hH.nd hx c1 z rfl
          rw [upd_same, hxi, ← rowV_set _ _ _ _ _ hij]
        · rw [upd_ne h2, rowV_off _ _ _ _ _ _ (fun z => h2 (by subst z; rw [c1] at hx; exact (Option.some.inj hx).symm)) (fun z => h1 (by subst z; rw [d1] at hx; exact (Option.some.inj hx).symm))]
          exact hH.row x e hx
    · have n1 : e ≠ d := fun z => hn (z ▸ List.mem_of_getElem? d1)
      have n2 : e ≠ c := fun z => hn (z ▸ List.mem_of_getElem? c1)
      rw [upd_ne n1, upd_ne n2]
      exact he
theorem scMeet : FnScope ["self", "one", "other"] ["self", "one", "other"] (defScope sMeet) := ⟨rfl, rfl, rfl, by decide +kernel, rfl, by decide +kernel, by decide +kernel⟩
theorem ok_meet {f fN fK fS : Addr} {fd fdN fdK fdS : FuncData} (F : Fun K "meet" "Hall.meet" sMeet f fd) (T : Txt K mg a) (N : Ms K a.C "need_guest" "Hall.need_guest" sNeed ["self", "guest"] fN fdN)
    (MK : Ms K a.C "know" "Hall.know" sKnow ["self", "one", "other"] fK fdK) (MS : Ms K a.C "settle" "Hall.settle" sSet ["self", "one", "other", "acquainted"] fS fdS) : FnOk P w K mg base (CXe P w) 3 f fd ["self", "one", "other"] (spMeet a) := by
  have GK : FnOk P w K mg base (CXe P w) 2 fK fdK ["self", "one", "other"] (spKnow a) := ok_know MK.F T N
  have GS : FnOk P w K mg base (CXe P w) 1 fS fdS ["self", "one", "other", "acquainted"] (spSettle a) := ok_settle MS.F T
  refine F.okE scMeet (fun vs H Q E h => ?_) (fun cdv A outer s H vs Q E hr h => ?_)
  · obtain ⟨p, r, as, n, kn, g, h, rfl, _⟩ := h
    rfl
  · obtain ⟨p, r, as, n, kn, g, h, rfl, hH, re, k1, k2⟩ := h
    obtain ⟨dx, hp⟩ := hH.ob
    have hr1 : Room 1 _ := hr.mono (by decide)
    refine ⟨_, pss_cons (ps_if (pt_truth (pe_meth (pv 0) T.cl MK.me GK hr MK.b .nil (passE fun _ _ _ z => z) (pa_cons (pv 1) (pa_cons (pv 2) pa_nil))) (fun _ => rfl))
        (pss_one (ps_raise rfl rfl T.mgKnow T.xKnow (pa_cons pe_str pa_nil) (fun pins σ H s h' e vs I hm hE => raise_leave I hm hE))) pss_nil)
      (pss_one (ps_expr (pe_meth (pv 0) T.cl MS.me GS hr1 MS.b .nil (passE fun _ _ _ z => z) (pa_cons (pv 1) (pa_cons (pv 2) (pa_cons pe_bl pa_nil)))))), ?_⟩
    refine ⟨_, rfl, p, dx, _, rfl, hp, rfl, _, rfl, _, rfl, p, r, as, n, kn, g, h, rfl, hH, re, fun og oh ne => ⟨_, rfl, ite2 (fun z => ?_) (fun z => ?_)⟩⟩
    · exact ⟨by show 1 ≤ sizeLine; decide, k1 og oh ne z⟩
    · exact ⟨_, rfl, p, dx, _, rfl, hp, rfl, _, rfl, _, rfl, p, r, as, n, kn, g, h, true, rfl, hH, og, oh, ne, fun H' h1 h2 => k2 og oh ne (by simpa using z) H' h1 h2⟩
/-! ### many, known, strangers -/
def spMany (a : Ad) : Sp := fun vs H Q _ => ∃ p r as n kn, vs = [.ref p] ∧ HallAt a.C H p r as n kn ∧ Q (.int n) H
theorem scMany : FnScope ["self"] ["self"] (defScope sMany) := ⟨rfl, rfl, rfl, by decide +kernel, rfl, by decide +kernel, by decide +kernel⟩
theorem ok_many {f : Addr} {fd : FuncData} (F : Fun K "many" "Hall.many" sMany f fd) (T : Txt K mg a) : FnOk P w K mg base (CXe P w) 1 f fd ["self"] (spMany a) := by
  refine F.okE scMany (fun vs H Q E h => ?_) (fun cdv A outer s H vs Q E hr h => ?_)
  · obtain ⟨p, r, as, n, kn, rfl, _⟩ := h
    rfl
  · obtain ⟨p, r, as, n, kn, rfl, hH, k⟩ := h
    obtain ⟨dx, hp⟩ := hH.ob
    have hlen := hH.len
    refine ⟨_, pss_one (ps_ret (pe_callB call_len_seq (by rfl) T.len PySem.boot_len (pa_cons (pe_fld (pv 0) rfl) pa_nil))), ?_⟩
    refine ⟨_, rfl, p, a.C, dx, _, _, rfl, hp, T.cl, T.nR, rfl, r, _, rfl, .inl (SqL.of hH.rws), ?_⟩
    show Q (.int ((as.map V.ref).length : Nat)) H
    rw [List.length_map, hlen]
    exact k
def intsV (l : List Nat) : List V := l.map fun j => V.int (j : Nat)
/-- a comprehension over range(n) whose items the list L tells -/
def cW (L : Nat → List V) (n : Nat) (H1 : Hp) (D : Addr) : Nat → Nat → List V → Hp → Prop := fun i m ys H => m = n - i ∧ i ≤ n ∧ ys = L i ∧ Same H1 H ∧ H D = some (.lst ys)
theorem same_new {H1 H : Hp} {D : Addr} {o : HO} (s : Same H1 H) (h : H1 D = none) : Same H1 (upd H D o) := fun b u e => by
  rw [upd_ne (ne_of_none e h)]
  exact s b u e
theorem cW_yes {L : Nat → List V} {n : Nat} {H1 : Hp} {D : Addr} {i : Nat} {y : V} {H3 : Hp} (hi : i < n) (hD : H1 D = none) (s : Same H1 H3) (h : H3 D = some (.lst (L i))) (e : L (i + 1) = L i ++ [y]) :
    H3 D = some (.lst (L i)) ∧ ∃ m', m' < n - i ∧ cW L n H1 D (i + 1) m' (L i ++ [y]) (upd H3 D (.lst (L i ++ [y]))) :=
  ⟨h, n - (i + 1), by (first | lia | omega), rfl, hi, e.symm, same_new s hD, upd_same⟩
theorem cW_no {L : Nat → List V} {n : Nat} {H1 : Hp} {D : Addr} {i : Nat} {H2 : Hp} (hi : i < n) (s : Same H1 H2) (h : H2 D = some (.lst (L i))) (e : L (i + 1) = L i) :
    ∃ m', m' < n - i ∧ cW L n H1 D (i + 1) m' (L i) H2 := ⟨n - (i + 1), by (first | lia | omega), rfl, hi, e.symm, s, h⟩
theorem comp_range {n : Nat} {js : List Nat} {tt : TT} {te : TE} {σ : St} {H1 : Hp} {R : Addr → Hp → Prop} (L : Nat → List V) (h0 : L 0 = []) (hn : n ≤ 1000) (hL : ∀ i, i ≤ n → (L i).length ≤ i)
    (step : ∀ D i H, i < n → H1 D = none → Same H1 H → H D = some (.lst (L i)) → tt (some (.int (i : Nat)) :: seen js σ) H fun ok H2 =>
      if ok = true then te (some (.int (i : Nat)) :: seen js σ) H2 fun y H3 => H3 D = some (.lst (L i)) ∧ ∃ m', m' < n - i ∧ cW L n H1 D (i + 1) m' (L i ++ [y]) (upd H3 D (.lst (L i ++ [y]))) else ∃ m', m' < n - i ∧ cW L n H1 D (i + 1) m' (L i) H2)
    (hd : ∀ D H, H1 D = none → Same H1 H → H D = some (.lst (L n)) → R D H) : ∀ D, H1 D = none → ∃ W : Nat → Nat → List V → Hp → Prop, (∃ m, W 0 m [] (upd H1 D (.lst []))) ∧
  ∀ i m ys H, W i m ys H → H D = some (.lst ys) ∧ ys.length < sizeLine ∧ (((Itr 0 n).stop i H ∧ R D H) ∨ ((Itr 0 n).go i H ∧ ∀ x H', (Itr 0 n).yld i H x H' → tt (some x :: seen js σ) H' fun ok H2 =>
    if ok = true then te (some x :: seen js σ) H2 fun y H3 => H3 D = some (.lst ys) ∧ ∃ m', m' < m ∧ W (i + 1) m' (ys ++ [y]) (upd H3 D (.lst (ys ++ [y])))
    else ∃ m', m' < m ∧ W (i + 1) m' ys H2)) := by
  intro D hD
  refine ⟨cW L n H1 D, ⟨n, rfl, Nat.zero_le _, h0.symm, same_new (Same.refl _) hD, upd_same⟩, ?_⟩
  rintro i m ys H ⟨rfl, hi, rfl, s, h⟩
  refine ⟨h, small1000 (Nat.le_trans (hL i hi) (Nat.le_trans hi hn)), ?_⟩
  by_cases hlt : i < n
  · refine .inr ⟨hlt, fun x H' y => ?_⟩
    obtain ⟨e1, e2⟩ := y
    subst e1
    have e3 : x = .int (i : Nat) := by rw [e2, Int.zero_add]
    rw [e3]
    exact step D i _ hlt hD s h
  · have e : i = n := by (first | lia | omega)
    subst e
    exact .inl ⟨Nat.le_refl _, hd D H hD s h⟩

theorem filt_len {α : Type} (f : Nat → Bool) (g : Nat → α) (i : Nat) : (((List.range i).filter f).map g).length ≤ i := by
  rw [List.length_map]
  exact Nat.le_trans (List.length_filter_le _ _) (by simp)
theorem filt_yes {α : Type} {f : Nat → Bool} (g : Nat → α) {i : Nat} (h : f i = true) : ((List.range (i + 1)).filter f).map g = ((List.range i).filter f).map g ++ [g i] := by
  rw [List.range_succ, List.filter_append, List.map_append]
  simp [h]
theorem filt_no {α : Type} {f : Nat → Bool} (g : Nat → α) {i : Nat} (h : f i = false) : ((List.range (i + 1)).filter f).map g = ((List.range i).filter f).map g := by
  rw [List.range_succ, List.filter_append, List.map_append]
  simp [h]
/-- a new list of these guests comes out, and nothing else is touched -/
def gives (H : Hp) (Q : VK) (xs : List V) : Prop := ∀ l H', H l = none → Same H H' → H' l = some (.lst xs) → Q (.ref l) H'
def knownL (kn : Knw) (n i : Nat) : List Nat := (List.range n).filter fun j => kn i j
def strL (kn : Knw) (n i : Nat) : List Nat := (List.range n).filter fun j => decide (j ≠ i) && !kn i j
def spKnown (a : Ad) : Sp := fun vs H Q E => ∃ p r as n kn g, vs = [.ref p, .int g] ∧ HallAt a.C H p r as n kn ∧ (¬ okG n g → E (.ref a.eNo) none H) ∧ (okG n g → gives H Q (intsV (knownL kn n g.toNat)))
def spStr (a : Ad) : Sp := fun vs H Q E => ∃ p r as n kn g, vs = [.ref p, .int g] ∧ HallAt a.C H p r as n kn ∧ (¬ okG n g → E (.ref a.eNo) none H) ∧ (okG n g → gives H Q (intsV (strL kn n g.toNat)))
theorem scKnown : FnScope ["self", "guest", "row"] ["self", "guest"] (defScope sKnown) := ⟨rfl, rfl, rfl, by decide +kernel, rfl, by decide +kernel, by decide +kernel⟩
theorem ok_known {f fN : Addr} {fd fdN : FuncData} (F : Fun K "known" "Hall.known" sKnown f fd) (T : Txt K mg a) (N : Ms K a.C "need_guest" "Hall.need_guest" sNeed ["self", "guest"] fN fdN) : FnOk P w K mg base (CXe P w) 2 f fd ["self", "guest"] (spKnown a) := by
  have GN : FnOk P w K mg base (CXe P w) 1 fN fdN ["self", "guest"] (spNeed a) := ok_need N.F T
  refine F.okE scKnown (fun vs H Q E h => ?_) (fun cdv A outer s H vs Q E hr h => ?_)
  · obtain ⟨p, r, as, n, kn, g, rfl, _⟩ := h
    rfl
  · obtain ⟨p, r, as, n, kn, g, rfl, hH, e1, k⟩ := h
    obtain ⟨dx, hp⟩ := hH.ob
    have h20 := hH.n20
    refine ⟨_, pss_cons (ps_expr (pe_meth (pv 0) T.cl N.me GN hr N.b .nil (passE fun _ _ _ z => z) (pa_cons (pv 1) pa_nil)))
      (pss_cons (ps_set (i := 2) scKnown.nd rfl (Or.inr rfl) (pe_ix ix_list (pe_fld (pv 0) rfl) (pv 1) (fun _ _ => rfl)))
      (pss_one (ps_ret (pe_comp (so := defScope sKnown) rfl (pi_range1 rfl T.range (pa_cons (pe_callB call_len_seq (by rfl) T.len PySem.boot_len (pa_cons (pv 2) pa_nil)) pa_nil)) rfl (.cons (y := "row") (j := 2) rfl (.inl rfl) (.inl rfl) .nil) (by decide +kernel)
        (fun _ _ _ _ _ _ => pts_one (pt_truthK K (pe_ix (ix_listK K) (pv 1) (pv 0) (fun _ _ => rfl)) (fun _ => rfl))) (fun _ _ _ _ _ _ => pv 0))))), ?_⟩
    refine ⟨_, rfl, p, dx, _, rfl, hp, rfl, _, rfl, p, r, as, n, kn, g, rfl, hH, fun og => ?_, fun ng => e1 ng⟩
    obtain ⟨b, b1, b2, b3⟩ := rows_at hH og
    refine ⟨_, rfl, p, a.C, dx, _, _, rfl, hp, T.cl, T.nR, rfl, _, rfl, r, _, g, _, rfl, rfl, SqL.of hH.rws, b2, ?_⟩
    refine ⟨_, rfl, b, _, rfl, .inl (SqL.of b3), ((rowV kn n g.toNat).length : Nat), rfl, by rw [rowV_len]; (first | lia | omega), by rw [rowV_len]; (first | lia | omega), ?_⟩
    have el : (((rowV kn n g.toNat).length : Nat) : Int).toNat = n := by rw [rowV_len]; (first | lia | omega)
    rw [el]
    refine comp_range (fun i => intsV ((List.range i).filter fun j => kn g.toNat j)) rfl (by (first | lia | omega)) (fun i _ => filt_len _ _ i) (fun D i H1 hi hD sm hl => ?_) (fun D H1 hD sm hl => k og D H1 hD sm hl)
    refine ⟨_, rfl, _, rfl, b, _, _, _, rfl, rfl, SqL.of (sm b _ b3), atI_nat (rowV_at hi), _, rfl, ite2 (fun z => ?_) (fun z => ?_)⟩
    · exact ⟨_, rfl, cW_yes (L := fun i => intsV ((List.range i).filter fun j => kn g.toNat j)) hi hD sm hl (filt_yes _ z)⟩
    · exact cW_no (L := fun i => intsV ((List.range i).filter fun j => kn g.toNat j)) hi sm hl (filt_no _ (by simpa using z))
theorem scStr : FnScope ["self", "guest", "row"] ["self", "guest"] (defScope sStr) := ⟨rfl, rfl, rfl, by decide +kernel, rfl, by decide +kernel, by decide +kernel⟩
theorem ok_strangers {f fN : Addr} {fd fdN : FuncData} (F : Fun K "strangers" "Hall.strangers" sStr f fd) (T : Txt K mg a) (N : Ms K a.C "need_guest" "Hall.need_guest" sNeed ["self", "guest"] fN fdN) : FnOk P w K mg base (CXe P w) 2 f fd ["self", "guest"] (spStr a) := by
  have GN : FnOk P w K mg base (CXe P w) 1 fN fdN ["self", "guest"] (spNeed a) := ok_need N.F T
  refine F.okE scStr (fun vs H Q E h => ?_) (fun cdv A outer s H vs Q E hr h => ?_)
  · obtain ⟨p, r, as, n, kn, g, rfl, _⟩ := h
    rfl
  · obtain ⟨p, r, as, n, kn, g, rfl, hH, e1, k⟩ := h
    obtain ⟨dx, hp⟩ := hH.ob
    have h20 := hH.n20
    refine ⟨_, pss_cons (ps_expr (pe_meth (pv 0) T.cl N.me GN hr N.b .nil (passE fun _ _ _ z => z) (pa_cons (pv 1) pa_nil)))
      (pss_cons (ps_set (i := 2) scStr.nd rfl (Or.inr rfl) (pe_ix ix_list (pe_fld (pv 0) rfl) (pv 1) (fun _ _ => rfl)))
      (pss_one (ps_ret (pe_comp (so := defScope sStr) rfl (pi_range1 rfl T.range (pa_cons (pe_callB call_len_seq (by rfl) T.len PySem.boot_len (pa_cons (pv 2) pa_nil)) pa_nil)) rfl (.cons (y := "guest") (j := 1) rfl (.inl rfl) (.inl rfl) (.cons (y := "row") (j := 2) rfl (.inl rfl) (.inl rfl) .nil)) (by decide +kernel)
        (fun _ _ _ _ _ _ => pts_one (PW.pt (pw_and (pt_cmpR op_ne (pv 0) (pv 1) (nomark _)) (pw_and1 (pt_not (pt_truthK K (pe_ix (ix_listK K) (pv 2) (pv 0) (fun _ _ => rfl)) (fun _ => rfl))))))) (fun _ _ _ _ _ _ => pv 0))))), ?_⟩
    refine ⟨_, rfl, p, dx, _, rfl, hp, rfl, _, rfl, p, r, as, n, kn, g, rfl, hH, fun og => ?_, fun ng => e1 ng⟩
    obtain ⟨b, b1, b2, b3⟩ := rows_at hH og
    refine ⟨_, rfl, p, a.C, dx, _, _, rfl, hp, T.cl, T.nR, rfl, _, rfl, r, _, g, _, rfl, rfl, SqL.of hH.rws, b2, ?_⟩
    refine ⟨_, rfl, b, _, rfl, .inl (SqL.of b3), ((rowV kn n g.toNat).length : Nat), rfl, by rw [rowV_len]; (first | lia | omega), by rw [rowV_len]; (first | lia | omega), ?_⟩
    have el : (((rowV kn n g.toNat).length : Nat) : Int).toNat = n := by rw [rowV_len]; (first | lia | omega)
    have hg0 := og.1
    rw [el]
    refine comp_range (fun i => intsV ((List.range i).filter fun j => decide (j ≠ g.toNat) && !kn g.toNat j)) rfl (by (first | lia | omega)) (fun i _ => filt_len _ _ i) (fun D i H1 hi hD sm hl => ?_) (fun D H1 hD sm hl => k og D H1 hD sm hl)
    have ei : decide (V.int (i : Nat) = V.int g) = decide (i = g.toNat) := by
      by_cases q : i = g.toNat
      · rw [decide_eq_true q, decide_eq_true (by rw [q, Int.toNat_of_nonneg hg0])]
      · rw [decide_eq_false q, decide_eq_false fun z => q (by have := V.int.inj z; (first | lia | omega))]
    refine ⟨_, rfl, _, rfl, rfl, _, rfl, ite2 (fun z => ?_) (fun z => ?_)⟩
    · rw [ei] at z
      have z' : i ≠ g.toNat := by simpa using z
      refine ⟨_, rfl, _, rfl, b, _, _, _, rfl, rfl, SqL.of (sm b _ b3), atI_nat (rowV_at hi), _, rfl, ite2 (fun y => ?_) (fun y => ?_)⟩
      · exact ⟨_, rfl, cW_yes (L := fun i => intsV ((List.range i).filter fun j => decide (j ≠ g.toNat) && !kn g.toNat j)) hi hD sm hl (filt_yes _ (by show (decide (i ≠ g.toNat) && !kn g.toNat i) = true; rw [decide_eq_true z', Bool.true_and]; exact y))⟩
      · exact cW_no (L := fun i => intsV ((List.range i).filter fun j => decide (j ≠ g.toNat) && !kn g.toNat j)) hi sm hl (filt_no _ (by show (decide (i ≠ g.toNat) && !kn g.toNat i) = false; rw [decide_eq_true z', Bool.true_and]; simpa using y))
    · rw [ei] at z
      have z' : i = g.toNat := by simpa using z
      exact iteF (cW_no (L := fun i => intsV ((List.range i).filter fun j => decide (j ≠ g.toNat) && !kn g.toNat j)) hi sm hl (filt_no _ (by show (decide (i ≠ g.toNat) && !kn g.toNat i) = false; rw [decide_eq_false fun q => q z']; rfl)))
/-! ### a new hall -/
theorem tYes_ok {σ : St} {H : Hp} {A B : Hp → Prop} (h : A H) : tYes σ H fun ok H2 => if ok = true then A H2 else B H2 := by
  show if true = true then A H else B H
  exact iteT h
def spInit (a : Ad) : Sp := fun vs H Q E => ∃ p dx m, vs = [.ref p, .int m] ∧ H p = some (.ins a.C dx []) ∧ (¬ (1 ≤ m ∧ m ≤ 20) → E (.ref a.eBad) none H) ∧
  (1 ≤ m → m ≤ 20 → ∀ r as H', HallAt a.C H' p r as m.toNat (fun _ _ => false) → H r = none → (∀ b ∈ as, H b = none) → (∀ b o, H b = some o → b ≠ p → H' b = some o) → Q .non H')
theorem rep_row (n i : Nat) : (List.replicate n [V.bl false]).flatten = rowV (fun _ _ => false) n i := by
  unfold rowV
  induction n with
  | zero => rfl
  | succ n ih =>
    rw [List.range_succ, List.map_append, ← ih, List.replicate_succ', List.flatten_append]
    rfl
def spNM (a : Ad) : Sp := fun vs H Q E => ∃ m : Int, vs = [.int m] ∧ (¬ (1 ≤ m ∧ m ≤ 20) → E (.ref a.eBad) none H) ∧ (1 ≤ m → m ≤ 20 → Q .non H)
theorem scNM : FnScope ["many"] ["many"] (defScope sNM) := ⟨rfl, rfl, rfl, by decide +kernel, rfl, by decide +kernel, by decide +kernel⟩
theorem ok_nm {f : Addr} {fd : FuncData} (F : Fun K "need_many" "need_many" sNM f fd) (T : Txt K mg a) : FnOk P w K mg base (CXe P w) 1 f fd ["many"] (spNM a) := by
  obtain ⟨t1, m1⟩ := T.few
  obtain ⟨t2, m2⟩ := T.most
  refine F.okE scNM (fun vs H Q E h => ?_) (fun cdv A outer s H vs Q E hr h => ?_)
  · obtain ⟨m, rfl, _⟩ := h
    rfl
  · obtain ⟨m, rfl, e1, k⟩ := h
    refine ⟨_, pss_one (ps_if (PW.pt (pw_or (pt_cmpR op_lt (pv 0) (pe_glob rfl m1 (v := .int 1) ⟨_, rfl⟩) (nomark _)) (pw_or1 (pt_cmpR op_gt (pv 0) (pe_glob rfl m2 (v := .int 20) ⟨_, rfl⟩) (nomark _)))))
        (pss_one (ps_raise rfl rfl T.mgBad T.xBad (pa_cons pe_str pa_nil) (fun pins σ H s h' e vs I hm hE => raise_leave I hm hE))) pss_nil), ?_⟩
    have bad : ¬ (1 ≤ m ∧ m ≤ 20) → (1 : Nat) ≤ sizeLine ∧ E (.ref a.eBad) none H := fun h => ⟨by decide, e1 h⟩
    refine ⟨_, rfl, _, _, rfl, rfl, _, rfl, ite2 (fun z => ?_) (fun z => ?_)⟩
    · have z' : m < 1 := of_decide_eq_true z
      exact iteT (bad fun q => by (first | lia | omega))
    have z1 : ¬ m < 1 := fun q => z (decide_eq_true q)
    refine ⟨_, rfl, _, _, rfl, rfl, _, rfl, ite2 (fun z => ?_) (fun z => ?_)⟩
    · have z' : 20 < m := of_decide_eq_true z
      exact bad fun q => by (first | lia | omega)
    have z2 : ¬ 20 < m := fun q => z (decide_eq_true q)
    exact k (by (first | lia | omega)) (by (first | lia | omega))
theorem scInit : FnScope ["self", "many"] ["self", "many"] (defScope sInit) := ⟨rfl, rfl, rfl, by decide +kernel, rfl, by decide +kernel, by decide +kernel⟩
theorem ok_init {f fM : Addr} {fd fdM : FuncData} (F : Fun K "__init__" "Hall.__init__" sInit f fd) (T : Txt K mg a) (NM : Fs K mg "need_many" sNM ["many"] fM fdM) : FnOk P w K mg base (CXe P w) 2 f fd ["self", "many"] (spInit a) := by
  have GM : FnOk P w K mg base (CXe P w) 1 fM fdM ["many"] (spNM a) := ok_nm NM.F T
  refine F.okE scInit (fun vs H Q E h => ?_) (fun cdv A outer s H vs Q E hr h => ?_)
  · obtain ⟨p, dx, m, rfl, _⟩ := h
    rfl
  · obtain ⟨p, dx, m, rfl, hp, e1, k⟩ := h
    refine ⟨_, pss_cons (ps_expr (pe_call GM hr rfl NM.m NM.F.kp NM.b .nil (passE fun _ _ _ z => z) (pa_cons (pv 1) pa_nil)))
      (pss_one (ps_fld (pv 0) (pe_comp (so := defScope sInit) rfl (pi_range1 rfl T.range (pa_cons (pv 1) pa_nil)) rfl (.cons (y := "many") (j := 1) rfl (.inl rfl) (.inl rfl) .nil) (by decide +kernel)
        (fun _ _ _ _ _ _ => pts_nil) (fun _ _ _ _ _ _ => pe_op op_rep (pe_lst (pa_cons pe_bl pa_nil)) (pv 1))) rfl)), ?_⟩
    refine ⟨_, rfl, m, rfl, e1, fun z1 z2 => ?_⟩
    obtain ⟨n, rfl⟩ : ∃ n : Nat, m = (n : Int) := ⟨m.toNat, by (first | lia | omega)⟩
    have k' := k (by (first | lia | omega)) (by (first | lia | omega))
    rw [Int.toNat_natCast] at k'
    refine ⟨_, rfl, (n : Int), rfl, by (first | lia | omega), by (first | lia | omega), fun D hD => ?_⟩
    rw [Int.toNat_natCast]
    have npD : p ≠ D := ne_of_none hp hD
    refine ⟨fun i mm ys H' => mm = n - i ∧ i ≤ n ∧ ∃ as : List Addr, ys = as.map V.ref ∧ as.length = i ∧ as.Nodup ∧ (∀ b ∈ as, H' b = some (.lst (rowV (fun _ _ => false) n 0)) ∧ H b = none ∧ b ≠ D) ∧ Same H H' ∧ H' D = some (.lst ys),
      ⟨n, rfl, Nat.zero_le _, [], rfl, rfl, List.nodup_nil, fun b hb => by simp at hb, same_new (Same.refl _) hD, upd_same⟩, ?_⟩
    rintro i mm ys H' ⟨rfl, hi, as, rfl, hal, nd, rw', sm, hl⟩
    refine ⟨hl, small1000 (by rw [List.length_map]; (first | lia | omega)), ?_⟩
    by_cases hlt : i < n
    · refine .inr ⟨hlt, fun x H2 y => ?_⟩
      obtain ⟨y1, y2⟩ := y
      subst y1
      refine tYes_ok ⟨by show 1 ≤ sizeLine; decide, fun p1 hp1 => ⟨_, rfl, p1, (n : Int), _, rfl, rfl, upd_same, by (first | lia | omega), by (first | lia | omega), ?_, fun p2 hp2 => ?_⟩⟩
      · rw [Int.toNat_natCast]
        show 1 * n ≤ sizeLine
        exact Nat.le_of_lt (small1000 (by (first | lia | omega)))
      · rw [Int.toNat_natCast, rep_row n 0]
        have n12 : p1 ≠ p2 := ne_of_none upd_same hp2
        have hp2' : H2 p2 = none := by
          rw [upd_ne (Ne.symm n12)] at hp2
          exact hp2
        have nD1 : D ≠ p1 := ne_of_none hl hp1
        have nD2 : D ≠ p2 := ne_of_none hl hp2'
        have f1 : H p1 = none := sm.free hp1
        have f2 : H p2 = none := sm.free hp2'
        refine ⟨by rw [upd_ne nD2, upd_ne nD1]; exact hl, n - (i + 1), by (first | lia | omega), rfl, hlt, as ++ [p2], by rw [List.map_append]; rfl, by rw [List.length_append, hal]; rfl, ?_, fun b hb => ?_, ?_, upd_same⟩
        · refine nd_snoc nd fun hb => ?_
          have := (rw' p2 hb).1
          rw [hp2'] at this
          cases this
        · rcases List.mem_append.mp hb with hb | hb
          · obtain ⟨q1, q2, q3⟩ := rw' b hb
            have m1 : b ≠ p1 := ne_of_none q1 hp1
            have m2 : b ≠ p2 := ne_of_none q1 hp2'
            exact ⟨by rw [upd_ne q3, upd_ne m2, upd_ne m1]; exact q1, q2, q3⟩
          · have e : b = p2 := List.mem_singleton.mp hb
            subst e
            exact ⟨by rw [upd_ne (Ne.symm nD2), upd_same], f2, Ne.symm nD2⟩
        · exact same_new (same_new (same_new sm f1) f2) hD
    · have e : i = n := by (first | lia | omega)
      subst e
      refine .inl ⟨Nat.le_refl _, _, rfl, p, a.C, dx, [], rfl, sm p _ hp, T.cl, T.nR, (by show 0 < 1000; decide), ?_⟩
      refine k' D as _ ⟨⟨dx, upd_same⟩, by rw [upd_ne (Ne.symm npD)]; exact hl, hal, nd, fun j b hj => ?_, by (first | lia | omega), by (first | lia | omega)⟩ hD (fun b hb => (rw' b hb).2.1) fun b o e hb => ?_
      · have hb := List.mem_of_getElem? hj
        have q := rw' b hb
        rw [upd_ne (Ne.symm (ne_of_none hp q.2.1))]
        rw [q.1, ← rep_row _ 0, ← rep_row _ j]
      · rw [upd_ne hb]
        exact sm b o e
end
end Kn
set_option Elab.async false
set_option linter.all false
set_option maxRecDepth 100000
set_option maxHeartbeats 4000000
namespace Kn
open PySem L2
/-! ### what the law's own defs ask of the text -/
structure Lx (K : PySem.W.Frag) (mg : Str → Option Value) (a : Ad) : Prop where
  T : Txt K mg a
  zIsi : mg "isinstance" = none
  zInt : mg "int" = none
  zBool : mg "bool" = none
  zList : mg "list" = none
  zMin : mg "min" = none
  zMax : mg "max" = none
  zVe : mg "ValueError" = none
  mgH : mg "HallError" = some (.ref a.eH)
/-- an own exception class and its place among the six -/
structure XRow (K : PySem.W.Frag) (a : Ad) (D : Addr) (m : Nat) : Prop where
  c : XCl K D
  k0 : PySem.W.kitOne K (.ref D) (.ref a.eNo) = some (decide (0 = m))
  k1 : PySem.W.kitOne K (.ref D) (.ref a.eSame) = some (decide (1 = m))
  k2 : PySem.W.kitOne K (.ref D) (.ref a.eKnow) = some (decide (2 = m))
  k3 : PySem.W.kitOne K (.ref D) (.ref a.eStr) = some (decide (3 = m))
  k4 : PySem.W.kitOne K (.ref D) (.ref a.eBad) = some (decide (4 = m))
  k5 : PySem.W.kitOne K (.ref D) (.ref a.eTxt) = some (decide (5 = m))
  kv : PySem.W.kitOne K (.ref D) (.type "ValueError") = some true
  em : PySem.W.exmOne K (.ref D) (.ref a.eH) = some true
  lt : m < 6
/-! ### the promises of the law's own defs -/
def spWhole : Sp := fun vs H Q _ => ∃ i, vs = [.int i] ∧ Q (.bl true) H
def spNums : Sp := fun vs H Q _ => ∃ p q l, vs = [.ref p, .ref q] ∧ H p = some (.lst (intsV l)) ∧ H q = some (.lst (intsV l)) ∧ Q (.bl true) H
def marksL (m : Nat) : List V := (List.range 7).map fun k => V.bl (decide (k = m))
def spMarks (K : PySem.W.Frag) (a : Ad) : Sp := fun vs H Q _ => ∃ e D m, vs = [.ref e] ∧ H e = some (excO e (.ref D)) ∧ XRow K a D m ∧ gives H Q (marksL m)
def pr (g h : Int) : List Int := [if h < g then h else g, if h > g then h else g]
/-- the pairs at q are kss -/
def PairsAt (H : Hp) (q : Addr) (kss : List (List Int)) : Prop := (∃ ts, H q = some (.lst (ts.map V.ref)) ∧ Tups H ts kss) ∨ ∃ kvs, H q = some (.dT kvs) ∧ ∀ ks : List Int, (valV kvs (ks.map Sum.inl : List Key)).isSome = decide (ks ∈ kss)
def spLKn : Sp := fun vs H Q _ => ∃ (q : Addr) (n : Nat) (g : Int) (kss : List (List Int)), vs = [.ref q, .int (n : Nat), .int g] ∧ n ≤ 20 ∧ PairsAt H q kss ∧ gives H Q (intsV ((List.range n).filter fun j => decide (pr g (j : Nat) ∈ kss)))
theorem flat_intsV (l : List Nat) : (intsV l).all flatV = true := by unfold intsV; simp [List.all_map, flatV]
section
variable {P : Program} {w : World} {K : PySem.W.Frag} {mg : Str → Option Value} {base : Heap} {a : Ad}
theorem scWhole : FnScope ["found"] ["found"] (defScope sWhole) := ⟨rfl, rfl, rfl, by decide +kernel, rfl, by decide +kernel, by decide +kernel⟩
theorem ok_whole {f : Addr} {fd : FuncData} (F : Fun K "_law_whole" "_law_whole" sWhole f fd) (L : Lx K mg a) : FnOk P w K mg base CX0 1 f fd ["found"] spWhole := by
  refine F.ok scWhole (fun vs H Q E h => ?_) (fun cdv A outer s H vs Q E hr h => ?_)
  · obtain ⟨i, rfl, _⟩ := h
    rfl
  · obtain ⟨i, rfl, q⟩ := h
    refine ⟨_, pss_one (ps_ret (pe_and (pe_callB call_isi (by rfl) L.zIsi (by decide +kernel) (pa_cons (pv 0) (pa_cons (pe_bltn (v := .ty "int") rfl L.zInt (by decide +kernel) rfl) pa_nil)))
      (pe_one (pe_not (pe_callB call_isi (by rfl) L.zIsi (by decide +kernel) (pa_cons (pv 0) (pa_cons (pe_bltn (v := .ty "bool") rfl L.zBool (by decide +kernel) rfl) pa_nil))))))), ?_⟩
    refine ⟨_, rfl, _, _, _, _, _, rfl, .of (.int i), .ty _, kit_int_int _, _, rfl, iteT ?_⟩
    exact ⟨_, rfl, _, _, _, _, _, rfl, .of (.int i), .ty _, kit_int_bool _, _, rfl, q⟩
end
section
variable {P : Program} {w : World} {K : PySem.W.Frag} {mg : Str → Option Value} {base : Heap} {a : Ad}
theorem scNums : FnScope ["found", "due", "number"] ["found", "due"] (defScope sNums) := ⟨rfl, rfl, rfl, by decide +kernel, rfl, by decide +kernel, by decide +kernel⟩
theorem ok_nums {f fW : Addr} {fd fdW : FuncData} (F : Fun K "_law_numbers" "_law_numbers" sNums f fd) (L : Lx K mg a) (W : Fs K mg "_law_whole" sWhole ["found"] fW fdW) : FnOk P w K mg base CX0 2 f fd ["found", "due"] spNums := by
  have GW : FnOk P w K mg base CX0 1 fW fdW ["found"] spWhole := ok_whole W.F L
  refine F.ok scNums (fun vs H Q E h => ?_) (fun cdv A outer s H vs Q E hr h => ?_)
  · obtain ⟨p, q, l, rfl, _⟩ := h
    rfl
  · obtain ⟨p, q, l, rfl, hp, hq, k⟩ := h
    refine ⟨_, pss_cons (ps_if (pt_not (pt_truth (pe_callB call_isi (by rfl) L.zIsi (by decide +kernel) (pa_cons (pv 0) (pa_cons (pe_bltn (v := .ty "list") rfl L.zList (by decide +kernel) rfl) pa_nil))) (fun _ => rfl))) (pss_one (ps_ret pe_bl)) pss_nil)
      (pss_cons (ps_for PassesOwn.never rfl (pi_list (pv 0)) (pg_name (i := 2) scNums.nd rfl (Or.inl rfl))
        (pss_one (ps_if (pt_not (pt_truth (pe_call GW hr rfl W.m W.F.kp W.b .nil pass0 (pa_cons (pv 2) pa_nil)) (fun _ => rfl))) (pss_one (ps_ret pe_bl)) pss_nil)))
      (pss_one (ps_ret (pe_cmpR (op_eqL hr.units0) (pv 0) (pv 1) (nomark _))))), ?_⟩
    refine ⟨_, rfl, _, _, _, _, _, rfl, .of (.lst hp), .ty _, kit_list_list _, _, rfl, iteF ?_⟩
    refine ⟨_, rfl, p, rfl, ⟨_, SqL.of hp⟩, for_list (K := K) (a := p) (xs := intsV l) (fun i σ H2 => H2 = H ∧ ∃ v, σ = [some (.ref p), some (.ref q), v]) ⟨rfl, none, rfl⟩ (fun i σ H2 _ ⟨e, _⟩ => by rw [e]; exact SqL.of hp) ?_ ?_⟩
    · rintro i y σ H2 hi ⟨rfl, v, rfl⟩
      obtain ⟨z, rfl⟩ : ∃ z, y = V.int z := by
        unfold intsV at hi
        rw [List.getElem?_map] at hi
        cases e : l[i]? with
        | none => rw [e] at hi; cases hi
        | some z => rw [e] at hi; exact ⟨_, (Option.some.inj hi).symm⟩
      exact ⟨_, rfl, z, rfl, _, rfl, iteF ⟨rfl, _, rfl⟩⟩
    · rintro σ H2 ⟨rfl, v, rfl⟩
      refine ⟨_, rfl, _, rfl, p, q, _, _, rfl, rfl, SqL.of hp, SqL.of hq, flat_intsV l, flat_intsV l, ?_⟩
      rw [eqVs_self _ (flat_intsV l)]
      exact k
end
section
variable {P : Program} {w : World} {K : PySem.W.Frag} {mg : Str → Option Value} {base : Heap} {a : Ad}
theorem scMarks : FnScope ["e", "marks"] ["e"] (defScope sMarks) := ⟨rfl, rfl, rfl, by decide +kernel, rfl, by decide +kernel, by decide +kernel⟩
theorem ok_marks {f : Addr} {fd : FuncData} (F : Fun K "_law_marks_of" "_law_marks_of" sMarks f fd) (L : Lx K mg a) (mt : mg "NoText" = some (.ref a.eTxt)) : FnOkU P w K mg base 1 f fd ["e"] (spMarks K a) := by
  refine F.okU scMarks (fun vs H Q E h => ?_) (fun cdv A outer s H vs Q E h => ?_)
  · obtain ⟨e, D, m, rfl, _⟩ := h
    rfl
  · obtain ⟨e, D, m, rfl, he, X, k⟩ := h
    refine ⟨_, pss_cons (ps_set (i := 1) scMarks.nd rfl (Or.inl rfl) (pe_lst
        (pa_cons (pe_callB call_isi (by rfl) L.zIsi (by decide +kernel) (pa_cons (pv 0) (pa_cons (pe_glob (v := .ref a.eNo) rfl L.T.mgNo rfl) pa_nil)))
        (pa_cons (pe_callB call_isi (by rfl) L.zIsi (by decide +kernel) (pa_cons (pv 0) (pa_cons (pe_glob (v := .ref a.eSame) rfl L.T.mgSame rfl) pa_nil)))
        (pa_cons (pe_callB call_isi (by rfl) L.zIsi (by decide +kernel) (pa_cons (pv 0) (pa_cons (pe_glob (v := .ref a.eKnow) rfl L.T.mgKnow rfl) pa_nil)))
        (pa_cons (pe_callB call_isi (by rfl) L.zIsi (by decide +kernel) (pa_cons (pv 0) (pa_cons (pe_glob (v := .ref a.eStr) rfl L.T.mgStr rfl) pa_nil))) pa_nil))))))
      (pss_one (ps_ret (pe_op op_cat (pv 1) (pe_lst
        (pa_cons (pe_callB call_isi (by rfl) L.zIsi (by decide +kernel) (pa_cons (pv 0) (pa_cons (pe_glob (v := .ref a.eBad) rfl L.T.mgBad rfl) pa_nil)))
        (pa_cons (pe_callB call_isi (by rfl) L.zIsi (by decide +kernel) (pa_cons (pv 0) (pa_cons (pe_glob (v := .ref a.eTxt) rfl mt rfl) pa_nil)))
        (pa_cons (pe_not (pe_callB call_isi (by rfl) L.zIsi (by decide +kernel) (pa_cons (pv 0) (pa_cons (pe_bltn (v := .ty "ValueError") rfl L.zVe (by decide +kernel) rfl) pa_nil)))) pa_nil))))))), ?_⟩
    refine ⟨_, rfl, _, _, _, _, _, rfl, .exc he X.c, .ref _, X.k0, _, rfl, _, _, _, _, _, rfl, .exc he X.c, .ref _, X.k1, _, rfl, _, _, _, _, _, rfl, .exc he X.c, .ref _, X.k2, _, rfl, _, _, _, _, _, rfl, .exc he X.c, .ref _, X.k3, (by show 4 ≤ sizeLine; decide), fun l1 h1 => ?_⟩
    have n1 : e ≠ l1 := ne_of_none he h1
    have he1 : ∀ o, upd H l1 o e = some (excO e (.ref D)) := fun o => by rw [upd_ne n1]; exact he
    refine ⟨_, rfl, _, rfl, _, _, _, _, _, rfl, .exc (he1 _) X.c, .ref _, X.k4, _, rfl, _, _, _, _, _, rfl, .exc (he1 _) X.c, .ref _, X.k5, _, rfl, _, _, _, _, _, rfl, .exc (he1 _) X.c, .ty _, X.kv, _, rfl, (by show 3 ≤ sizeLine; decide), fun l2 h2 => ?_⟩
    have n12 : l1 ≠ l2 := ne_of_none upd_same h2
    refine ⟨l1, l2, _, _, rfl, rfl, (by rw [upd_ne n12, upd_same]), upd_same, (by show 4 + 3 ≤ sizeLine; decide), fun l3 h3 => ?_⟩
    have f2 : H l2 = none := by rw [upd_ne (Ne.symm n12)] at h2; exact h2
    have s2 : Same H (upd (upd H l1 (.lst [.bl (decide (0 = m)), .bl (decide (1 = m)), .bl (decide (2 = m)), .bl (decide (3 = m))])) l2 (.lst [.bl (decide (4 = m)), .bl (decide (5 = m)), .bl (!true)])) := same_new (same_new (Same.refl _) h1) f2
    have f3 : H l3 = none := s2.free h3
    refine k l3 _ f3 (same_new s2 f3) ?_
    have e6 : decide (6 = m) = false := decide_eq_false (by have := X.lt; (first | lia | omega))
    rw [upd_same]
    show some (HO.lst [.bl (decide (0 = m)), .bl (decide (1 = m)), .bl (decide (2 = m)), .bl (decide (3 = m)), .bl (decide (4 = m)), .bl (decide (5 = m)), .bl false]) = some (HO.lst (marksL m))
    unfold marksL
    rw [show (List.range 7).map (fun k => V.bl (decide (k = m))) = [.bl (decide (0 = m)), .bl (decide (1 = m)), .bl (decide (2 = m)), .bl (decide (3 = m)), .bl (decide (4 = m)), .bl (decide (5 = m)), .bl (decide (6 = m))] from rfl, e6]
end
section
variable {P : Program} {w : World} {K : PySem.W.Frag} {mg : Str → Option Value} {base : Heap} {a : Ad}
theorem scLKn : FnScope ["pairs", "many", "guest"] ["pairs", "many", "guest"] (defScope sLKn) := ⟨rfl, rfl, rfl, by decide +kernel, rfl, by decide +kernel, by decide +kernel⟩
theorem ok_lkn {f : Addr} {fd : FuncData} (F : Fun K "_law_known" "_law_known" sLKn f fd) (L : Lx K mg a) : FnOk P w K mg base CX0 1 f fd ["pairs", "many", "guest"] spLKn := by
  refine F.ok scLKn (fun vs H Q E h => ?_) (fun cdv A outer s H vs Q E hr h => ?_)
  · obtain ⟨q, n, g, kss, rfl, _⟩ := h
    rfl
  · obtain ⟨q, n, g, kss, rfl, hn, hP, k⟩ := h
    have hu := hu_of hr
    refine ⟨_, pss_one (ps_ret (pe_comp (so := defScope sLKn) rfl (pi_range1 rfl L.T.range (pa_cons (pv 1) pa_nil)) rfl (.cons (y := "pairs") (j := 0) rfl (.inl rfl) (.inl rfl) (.cons (y := "guest") (j := 2) rfl (.inl rfl) (.inl rfl) .nil)) (by decide +kernel)
      (fun _ _ _ _ _ _ => pts_one (PT.or
        (pt_cmpR (op_inT hu) (pe_tup (pa_cons (pe_callB (call_min2 rfl) (by rfl) L.zMin (by decide +kernel) (pa_cons (pv 2) (pa_cons (pv 0) pa_nil))) (pa_cons (pe_callB (call_max2 rfl) (by rfl) L.zMax (by decide +kernel) (pa_cons (pv 2) (pa_cons (pv 0) pa_nil))) pa_nil))) (pv 1) (by with_unfolding_all rfl))
        (pt_cmp (pc_din hu (pe_tup (pa_cons (pe_callB (call_min2 rfl) (by rfl) L.zMin (by decide +kernel) (pa_cons (pv 2) (pa_cons (pv 0) pa_nil))) (pa_cons (pe_callB (call_max2 rfl) (by rfl) L.zMax (by decide +kernel) (pa_cons (pv 2) (pa_cons (pv 0) pa_nil))) pa_nil))) (pv 1))))) (fun _ _ _ _ _ _ => pv 0))), ?_⟩
    refine ⟨_, rfl, (n : Int), rfl, by (first | lia | omega), by (first | lia | omega), ?_⟩
    rw [Int.toNat_natCast]
    refine comp_range (fun i => intsV ((List.range i).filter fun j => decide (pr g (j : Nat) ∈ kss))) rfl (by (first | lia | omega)) (fun i _ => filt_len _ _ i) (fun D i H1 hi hD sm hl => ?_) (fun D H1 hD sm hl => k D H1 hD sm hl)
    rcases hP with ⟨ts, hq, hT⟩ | ⟨kvs, hq, hv⟩
    · refine .inl ⟨_, rfl, _, rfl, g, (i : Int), rfl, _, rfl, _, rfl, g, (i : Int), rfl, (by show 2 ≤ sizeLine; decide), fun t ht => ?_⟩
      have nq : q ≠ t := ne_of_none (sm q _ hq) ht
      have nD : D ≠ t := ne_of_none hl ht
      have st : Same H (upd H1 t (.tup [.int (if (i : Int) < g then (i : Int) else g), .int (if (i : Int) > g then (i : Int) else g)])) := same_new sm (sm.free ht)
      refine ⟨_, rfl, t, q, pr g (i : Nat), ts, kss, rfl, rfl, upd_same, (by rw [upd_ne nq]; exact sm q _ hq), hT.same (fun b xs e => st b _ e), _, rfl, ite2 (fun z => ?_) (fun z => ?_)⟩
      · exact ⟨_, rfl, cW_yes (L := fun i => intsV ((List.range i).filter fun j => decide (pr g (j : Nat) ∈ kss))) hi hD st (by rw [upd_ne nD]; exact hl) (filt_yes _ z)⟩
      · exact cW_no (L := fun i => intsV ((List.range i).filter fun j => decide (pr g (j : Nat) ∈ kss))) hi st (by rw [upd_ne nD]; exact hl) (filt_no _ (Bool.eq_false_iff.mpr z))
    · refine .inr ⟨_, rfl, _, rfl, g, (i : Int), rfl, _, rfl, _, rfl, g, (i : Int), rfl, (by show 2 ≤ sizeLine; decide), fun t ht => ?_⟩
      have nq : q ≠ t := ne_of_none (sm q _ hq) ht
      have nD : D ≠ t := ne_of_none hl ht
      have st : Same H (upd H1 t (.tup [.int (if (i : Int) < g then (i : Int) else g), .int (if (i : Int) > g then (i : Int) else g)])) := same_new sm (sm.free ht)
      have hdg := DGet.t (H := upd H1 t (.tup [.int (if (i : Int) < g then (i : Int) else g), .int (if (i : Int) > g then (i : Int) else g)])) (a := q) (b := t) (kvs := kvs) (k := (pr g (i : Nat)).map Sum.inl) (by rw [upd_ne nq]; exact sm q _ hq) (by rw [upd_same]; rfl)
      refine ⟨_, rfl, q, _, rfl, hdg, _, rfl, ?_⟩
      rw [hv]
      refine ite2 (fun z => ?_) (fun z => ?_)
      · exact ⟨_, rfl, cW_yes (L := fun i => intsV ((List.range i).filter fun j => decide (pr g (j : Nat) ∈ kss))) hi hD st (by rw [upd_ne nD]; exact hl) (filt_yes _ z)⟩
      · exact cW_no (L := fun i => intsV ((List.range i).filter fun j => decide (pr g (j : Nat) ∈ kss))) hi st (by rw [upd_ne nD]; exact hl) (filt_no _ (Bool.eq_false_iff.mpr z))
end
/-! ### the pairs and who knows whom -/
theorem pr_eq (i j g h : Int) : pr i j = pr g h ↔ (i = g ∧ j = h) ∨ (i = h ∧ j = g) := by
  unfold pr
  constructor
  · intro z
    obtain ⟨z1, z2⟩ := List.cons.inj z
    have z3 := (List.cons.inj z2).1
    split at z1 <;> split at z1 <;> split at z3 <;> split at z3 <;> (first | lia | omega)
  · rintro (⟨rfl, rfl⟩ | ⟨rfl, rfl⟩)
    · rfl
    · congr 1
      · split <;> split <;> (first | lia | omega)
      · congr 1
        split <;> split <;> (first | lia | omega)
structure Rel (n : Nat) (kn : Knw) (kss : List (List Int)) : Prop where
  nd : kss.Nodup
  mem : ∀ i j : Nat, i < n → j < n → kn i j = decide (pr (i : Int) (j : Int) ∈ kss)
theorem Rel.nil (n : Nat) : Rel n (fun _ _ => false) [] := ⟨List.nodup_nil, fun i j _ _ => by simp⟩
theorem era_mem : ∀ {kss : List (List Int)} {ks x : List Int}, kss.Nodup → (x ∈ kss.eraseIdx (kss.idxOf ks) ↔ x ∈ kss ∧ x ≠ ks)
  | [], ks, x, _ => by simp
  | k :: r, ks, x, nd => by
    obtain ⟨n1, n2⟩ := List.nodup_cons.mp nd
    rw [List.idxOf_cons]
    by_cases q : (k == ks) = true
    · have e : k = ks := eq_of_beq q
      subst e
      rw [q]
      show x ∈ r ↔ _
      constructor
      · intro h
        exact ⟨List.mem_cons_of_mem _ h, fun z => n1 (z ▸ h)⟩
      · rintro ⟨h, hn⟩
        rcases List.mem_cons.mp h with h | h
        · exact absurd h hn
        · exact h
    · have qf : (k == ks) = false := by simpa using q
      have ne : k ≠ ks := fun z => q (by rw [z]; exact beq_self_eq_true _)
      rw [qf]
      show x ∈ k :: r.eraseIdx (r.idxOf ks) ↔ _
      rw [List.mem_cons, List.mem_cons, era_mem n2]
      constructor
      · rintro (h | ⟨h, hn⟩)
        · exact ⟨.inl h, fun z => ne (h.symm.trans z)⟩
        · exact ⟨.inr h, hn⟩
      · rintro ⟨h | h, hn⟩
        · exact .inl h
        · exact .inr ⟨h, hn⟩
section
variable {n : Nat} {kn : Knw} {kss : List (List Int)} {g h : Int}
theorem cond_iff (hg : okG n g) (hh : okG n h) (i j : Nat) : ((i = g.toNat ∧ j = h.toNat) ∨ (i = h.toNat ∧ j = g.toNat)) ↔ pr (i : Int) (j : Int) = pr g h := by
  rw [pr_eq]
  have := hg.1
  have := hh.1
  (first | lia | omega)
theorem Rel.at (R : Rel n kn kss) (hg : okG n g) (hh : okG n h) : kn g.toNat h.toNat = decide (pr g h ∈ kss) := by
  have h1 := hg.1
  have h2 := hh.1
  have h3 := hg.2
  have h4 := hh.2
  rw [R.mem g.toNat h.toNat (by (first | lia | omega)) (by (first | lia | omega)), Int.toNat_of_nonneg h1, Int.toNat_of_nonneg h2]
theorem Rel.add (R : Rel n kn kss) (hg : okG n g) (hh : okG n h) (hm : pr g h ∉ kss) : Rel n (setK kn g.toNat h.toNat true) (kss ++ [pr g h]) := by
  refine ⟨nd_snoc R.nd hm, fun i j hi hj => ?_⟩
  unfold setK
  by_cases q : (i = g.toNat ∧ j = h.toNat) ∨ (i = h.toNat ∧ j = g.toNat)
  · rw [if_pos q]
    have e := (cond_iff hg hh i j).mp q
    rw [e]
    simp
  · rw [if_neg q, R.mem i j hi hj]
    have e : pr (i : Int) (j : Int) ≠ pr g h := fun z => q ((cond_iff hg hh i j).mpr z)
    have e2 : (pr (i : Int) (j : Int) ∈ kss ++ [pr g h]) ↔ pr (i : Int) (j : Int) ∈ kss := by
      rw [List.mem_append, List.mem_singleton]
      exact ⟨fun z => z.resolve_right e, .inl⟩
    rw [Bool.eq_iff_iff, decide_eq_true_iff, decide_eq_true_iff, e2]
theorem Rel.del (R : Rel n kn kss) (hg : okG n g) (hh : okG n h) : Rel n (setK kn g.toNat h.toNat false) (kss.eraseIdx (kss.idxOf (pr g h))) := by
  refine ⟨R.nd.sublist (List.eraseIdx_sublist _ _), fun i j hi hj => ?_⟩
  unfold setK
  by_cases q : (i = g.toNat ∧ j = h.toNat) ∨ (i = h.toNat ∧ j = g.toNat)
  · rw [if_pos q]
    have e := (cond_iff hg hh i j).mp q
    symm
    refine decide_eq_false fun z => ?_
    exact ((era_mem R.nd).mp z).2 e
  · rw [if_neg q, R.mem i j hi hj]
    have e : pr (i : Int) (j : Int) ≠ pr g h := fun z => q ((cond_iff hg hh i j).mpr z)
    rw [Bool.eq_iff_iff, decide_eq_true_iff, decide_eq_true_iff, era_mem R.nd]
    exact ⟨fun z => ⟨z, e⟩, fun z => z.1⟩
end
/-! ### the hall's methods and the law's own defs, as they are called -/
structure Mc (P : Program) (w : World) (K : PySem.W.Frag) (mg : Str → Option Value) (base : Heap) (C : Addr) (m : Str) (ps : List Str) (k : Nat) (sp : Sp) : Prop where
  ex : ∃ (f : Addr) (fd : FuncData), Meth K C m f ∧ Binds K fd ps [] ∧ FnOk P w K mg base (CXe P w) k f fd ps sp
structure Fc (P : Program) (w : World) (K : PySem.W.Frag) (mg : Str → Option Value) (base : Heap) (x : Str) (ps : List Str) (k : Nat) (sp : Sp) : Prop where
  ex : ∃ (f : Addr) (fd : FuncData), mg x = some (.ref f) ∧ PySem.W.keepIn K (.ref f) = true ∧ Binds K fd ps [] ∧ FnOk P w K mg base CX0 k f fd ps sp
structure FcU (P : Program) (w : World) (K : PySem.W.Frag) (mg : Str → Option Value) (base : Heap) (x : Str) (ps : List Str) (k : Nat) (sp : Sp) : Prop where
  ex : ∃ (f : Addr) (fd : FuncData), mg x = some (.ref f) ∧ PySem.W.keepIn K (.ref f) = true ∧ Binds K fd ps [] ∧ FnOkU P w K mg base k f fd ps sp
structure HX (P : Program) (w : World) (K : PySem.W.Frag) (mg : Str → Option Value) (base : Heap) (a : Ad) : Prop where
  L : Lx K mg a
  know : Mc P w K mg base a.C "know" ["self", "one", "other"] 2 (spKnow a)
  meet : Mc P w K mg base a.C "meet" ["self", "one", "other"] 3 (spMeet a)
  many : Mc P w K mg base a.C "many" ["self"] 1 (spMany a)
  known : Mc P w K mg base a.C "known" ["self", "guest"] 2 (spKnown a)
  strangers : Mc P w K mg base a.C "strangers" ["self", "guest"] 2 (spStr a)
  need_guest : Mc P w K mg base a.C "need_guest" ["self", "guest"] 1 (spNeed a)
  make : ∃ (f : Addr) (fd : FuncData), Mk K a.C f ∧ Binds K fd ["self", "many"] [] ∧ FnOk P w K mg base (CXe P w) 2 f fd ["self", "many"] (spInit a)
theorem putK_len {κ : Type} [DecidableEq κ] (kvs : List (κ × V)) (k : κ) (v : V) : (putK kvs k v).length ≤ kvs.length + 1 := by
  unfold putK
  split
  · rw [List.length_map]; exact Nat.le_succ _
  · rw [List.length_append]; exact Nat.le_refl _
theorem flat_marks (m : Nat) : (marksL m).all flatV = true := by unfold marksL; simp [List.all_map, flatV]
theorem op_notIn_seqK (K : PySem.W.Frag) {X : Cx} (h : X.K = K := by rfl) : OpR X (compareOp .NotIn) (rIn K true) := by
  subst h
  exact op_notIn_seq
theorem inV_ints (i : Nat) (l : List Nat) : inV (.int (i : Nat)) (intsV l) = decide (i ∈ l) := by
  unfold inV intsV
  induction l with
  | nil => simp
  | cons x r ih =>
    rw [List.map_cons, List.any_cons, ih]
    have e : eqV (V.int (x : Nat)) (V.int (i : Nat)) = decide (i = x) := by
      show ((x : Int) == (i : Int)) = decide (i = x)
      by_cases q : i = x
      · subst q; simp
      · rw [decide_eq_false q, beq_eq_false_iff_ne]
        (first | lia | omega)
    rw [e]
    by_cases q : i = x
    · subst q; simp
    · rw [decide_eq_false q, Bool.false_or]
      simp [q]
/-! ### all that a hall tells -/
def spSame (a : Ad) : Sp := fun vs H Q _ => ∃ (p r : Addr) (as : List Addr) (q : Addr) (ts : List Addr) (kss : List (List Int)) (n : Nat) (kn : Knw), vs = [.ref p, .ref q, .int (n : Nat)] ∧ HallAt a.C H p r as n kn ∧ H q = some (.lst (ts.map V.ref)) ∧ Tups H ts kss ∧ Rel n kn kss ∧
  kss.length ≤ 1000 ∧ ∀ H', Same H H' → Q (.bl true) H'
theorem known_rel {n : Nat} {kn : Knw} {kss : List (List Int)} (R : Rel n kn kss) {i : Nat} (hi : i < n) : (List.range n).filter (fun j => decide (pr (i : Nat) (j : Nat) ∈ kss)) = knownL kn n i := by
  unfold knownL
  refine List.filter_congr fun j hj => ?_
  rw [R.mem i j hi (List.mem_range.mp hj)]
theorem str_rel {n : Nat} {kn : Knw} (i : Nat) : (List.range n).filter (fun j => decide (j ≠ i) && !decide (j ∈ knownL kn n i)) = strL kn n i := by
  unfold strL
  refine List.filter_congr fun j hj => ?_
  have : decide (j ∈ knownL kn n i) = kn i j := by
    unfold knownL
    rw [Bool.eq_iff_iff, decide_eq_true_iff, List.mem_filter]
    exact ⟨fun z => z.2, fun z => ⟨hj, z⟩⟩
  rw [this]
section
variable {P : Program} {w : World} {K : PySem.W.Frag} {mg : Str → Option Value} {base : Heap} {a : Ad}
theorem scSame : FnScope ["hall", "pairs", "many", "told", "there", "pair", "guest", "due", "others"] ["hall", "pairs", "many"] (defScope sSame) := ⟨rfl, rfl, rfl, by decide +kernel, rfl, by decide +kernel, by decide +kernel⟩
theorem ok_same {f : Addr} {fd : FuncData} (F : Fun K "_law_same" "_law_same" sSame f fd) (HX : HX P w K mg base a) (W : Fc P w K mg base "_law_whole" ["found"] 1 spWhole) (Nm : Fc P w K mg base "_law_numbers" ["found", "due"] 2 spNums)
    (LK : Fc P w K mg base "_law_known" ["pairs", "many", "guest"] 1 spLKn) : FnOk P w K mg base CX0 3 f fd ["hall", "pairs", "many"] (spSame a) := by
  obtain ⟨f1, fd1, m1, b1, G1⟩ := HX.many.ex
  obtain ⟨f2, fd2, m2, b2, G2⟩ := HX.known.ex
  obtain ⟨f3, fd3, m3, b3, G3⟩ := HX.strangers.ex
  obtain ⟨fW, fdW, mW, kW, bW, GW⟩ := W.ex
  obtain ⟨fN, fdN, mN, kN, bN, GN⟩ := Nm.ex
  obtain ⟨fK, fdK, mK, kK, bK, GK⟩ := LK.ex
  have L := HX.L
  refine F.ok scSame (fun vs H Q E h => ?_) (fun cdv A outer s H vs Q E hr h => ?_)
  · obtain ⟨p, r, as, q, ts, kss, n, kn, rfl, _⟩ := h
    rfl
  · obtain ⟨p, r, as, q, ts, kss, n, kn, rfl, hH, hq, hT, R, hlen, k⟩ := h
    have hu := hu_of hr
    have hr1 : Room 1 _ := hr.mono (by decide)
    have n1 := hH.n1
    have n20 := hH.n20
    refine ⟨_, pss_cons (ps_set (i := 3) scSame.nd rfl (Or.inl rfl) (pe_meth0 (pv 0) L.T.cl m1 G1 hr1 b1 .nil passE0))
      (pss_cons (ps_if (PW.pt (pw_or (pt_not (pt_truth (pe_call GW hr1 rfl mW kW bW .nil pass0 (pa_cons (pv 3) pa_nil)) (fun _ => rfl))) (pw_or1 (pt_cmpR op_ne (pv 3) (pv 2) (nomark _))))) (pss_one (ps_ret pe_bl)) pss_nil)
      (pss_cons (ps_set (i := 4) scSame.nd rfl (Or.inl rfl) pe_dnewT)
      (pss_cons (ps_for PassesOwn.never rfl (pi_list (pv 1)) (pg_name (i := 5) scSame.nd rfl (Or.inl rfl)) (pss_one (ps_dput hu (pv 4) (pv 5) pe_bl rfl)))
      (pss_cons (ps_for PassesOwn.never rfl (pi_range1 rfl L.T.range (pa_cons (pv 2) pa_nil)) (pg_name (i := 6) scSame.nd rfl (Or.inr rfl))
        (pss_cons (ps_set (i := 7) scSame.nd rfl (Or.inr rfl) (pe_call GK hr1 rfl mK kK bK .nil pass0 (pa_cons (pv 4) (pa_cons (pv 2) (pa_cons (pv 6) pa_nil)))))
        (pss_cons (ps_compset (i := 8) (so := defScope sSame) rfl scSame.nd rfl rfl rfl (pi_range1 rfl L.T.range (pa_cons (pv 2) pa_nil)) rfl (.cons (y := "guest") (j := 6) rfl (.inl rfl) (.inl rfl) (.cons (y := "due") (j := 7) rfl (.inl rfl) (.inl rfl) .nil)) (by decide +kernel)
          (fun _ _ _ _ _ _ => pts_one (PW.pt (pw_and (pt_cmpR op_ne (pv 0) (pv 1) (nomark _)) (pw_and1 (pt_cmpR (op_notIn_seqK K) (pv 0) (pv 2) (by with_unfolding_all rfl)))))) (fun _ _ _ _ _ _ => pv 0))
        (pss_one (ps_if (PW.pt (pw_or (pt_not (pt_truth (pe_call GN hr rfl mN kN bN .nil pass0 (pa_cons (pe_meth (pv 0) L.T.cl m2 G2 hr b2 .nil passE0 (pa_cons (pv 6) pa_nil)) (pa_cons (pv 7) pa_nil))) (fun _ => rfl)))
          (pw_or1 (pt_not (pt_truth (pe_call GN hr rfl mN kN bN .nil pass0 (pa_cons (pe_meth (pv 0) L.T.cl m3 G3 hr b3 .nil passE0 (pa_cons (pv 6) pa_nil)) (pa_cons (pv 8) pa_nil))) (fun _ => rfl)))))) (pss_one (ps_ret pe_bl)) pss_nil)))))
      (pss_one (ps_ret pe_bl)))))), ?_⟩
    obtain ⟨dx, hp⟩ := hH.ob
    -- told
    refine ⟨_, rfl, p, dx, _, rfl, hp, rfl, p, r, as, n, kn, rfl, hH, ?_⟩
    refine ⟨_, rfl, _, rfl, _, rfl, iteF ⟨_, rfl, _, rfl, rfl, _, rfl, iteNS rfl ?_⟩⟩
    -- there
    refine fun d hd => ?_
    have s0 : Same H (upd H d (.dT [])) := same_new (Same.refl _) hd
    refine ⟨_, rfl, q, rfl, ⟨_, SqL.of (s0 q _ hq)⟩, for_list (K := K) (a := q) (xs := ts.map V.ref) (fun i σ H2 => i ≤ kss.length ∧ Same H H2 ∧ (∃ kvs, H2 d = some (.dT kvs) ∧ kvs.length ≤ i ∧ ∀ ks : List Int, (valV kvs (ks.map Sum.inl : List Key)).isSome = decide (ks ∈ kss.take i)) ∧ ∃ v, σ = [some (.ref p), some (.ref q), some (.int (n : Nat)), some (.int (n : Nat)), some (.ref d), v, none, none, none])
      ⟨Nat.zero_le _, s0, ⟨[], upd_same, Nat.le_refl _, fun ks => by simp [valV_nil]⟩, none, rfl⟩ (fun i σ H2 _ ⟨_, s2, _⟩ => SqL.of (s2 q _ hq)) ?_ ?_⟩
    · rintro i y σ H2 hi ⟨hil, s2, ⟨kvs, hk, hkl, hkv⟩, v, rfl⟩
      rw [List.getElem?_map] at hi
      cases e : ts[i]? with
      | none => rw [e] at hi; cases hi
      | some t =>
        rw [e] at hi
        cases hi
        obtain ⟨ks, e1, e2⟩ := hT.get e
        have hil2 : i < kss.length := (List.getElem?_eq_some_iff.mp e1).1
        have ekv : (ks.map Sum.inl : List Key).map kV = ks.map V.int := by rw [List.map_map]; rfl
        refine ⟨_, rfl, _, rfl, d, _, rfl, DPut.t (k := ks.map Sum.inl) hk (by rw [ekv]; exact s2 t _ e2) (small1000 (by (first | lia | omega))), ?_⟩
        refine ⟨hil2, same_new s2 hd, ⟨_, upd_same, ?_, fun ls => ?_⟩, _, rfl⟩
        · refine Nat.le_trans (putK_len _ _ _) (by (first | lia | omega))
        · rw [valV_put]
          have ei : kss.take (i + 1) = kss.take i ++ [ks] := by rw [List.take_add_one, e1]; rfl
          by_cases z : (ls.map Sum.inl : List Key) = ks.map Sum.inl
          · have z' : ls = ks := by
              have := congrArg (List.map fun x : Key => match x with | .inl i => i | .inr _ => (0 : Int)) z
              simpa [List.map_map, Function.comp_def] using this
            subst z'
            rw [if_pos rfl, ei]
            simp
          · rw [if_neg z, hkv ls, ei]
            have z' : ls ≠ ks := fun y => z (by rw [y])
            simp [z']
    · rintro σ H2 ⟨_, s2, ⟨kvs, hk, hkl, hkv⟩, v, rfl⟩
      have el : (ts.map V.ref).length = kss.length := by rw [List.length_map, hT.length]
      rw [el, List.take_length] at hkv
      -- for guest in range(many)
      refine ⟨_, rfl, (n : Int), rfl, by (first | lia | omega), by (first | lia | omega), ?_⟩
      rw [Int.toNat_natCast]
      refine for_range (lo := 0) (n := n) (fun i σ H3 => Same H H3 ∧ H3 d = some (.dT kvs) ∧ ∃ v1 v2 v3, σ = [some (.ref p), some (.ref q), some (.int (n : Nat)), some (.int (n : Nat)), some (.ref d), v, v1, v2, v3])
        ⟨s2, hk, none, none, none, rfl⟩ ?_ ?_
      · rintro i σ H3 hi ⟨s3, hd3, v1, v2, v3, rfl⟩
        rw [Int.zero_add]
        have og : okG n (i : Int) := ⟨by (first | lia | omega), by (first | lia | omega)⟩
        -- due
        refine ⟨_, rfl, _, rfl, _, rfl, d, n, (i : Int), kss, rfl, n20, .inr ⟨kvs, hd3, hkv⟩, fun l1 H4 hl1 s4 hl1' => ?_⟩
        rw [known_rel R hi] at hl1'
        -- others
        refine ⟨_, rfl, (n : Int), rfl, by (first | lia | omega), by (first | lia | omega), ?_⟩
        rw [Int.toNat_natCast]
        refine comp_range (n := n) (fun j => intsV ((List.range j).filter fun j => decide (j ≠ i) && !decide (j ∈ knownL kn n i))) rfl (by (first | lia | omega)) (fun i _ => filt_len _ _ i) (fun D j H5 hj hD sm hl => ?_) (fun l2 H5 hl2 s5 hl2' => ?_)
        · have ei : decide (V.int (j : Nat) = V.int (i : Nat)) = decide (j = i) := by
            by_cases q : j = i
            · rw [decide_eq_true q, decide_eq_true (by rw [q])]
            · rw [decide_eq_false q, decide_eq_false fun z => q (by have := V.int.inj z; (first | lia | omega))]
          refine ⟨_, rfl, _, rfl, rfl, _, rfl, ite2 (fun z => ?_) (fun z => ?_)⟩
          · rw [ei] at z
            have z' : j ≠ i := by simpa using z
            refine ⟨_, rfl, _, rfl, l1, _, rfl, .inl (SqL.of (sm l1 _ hl1')), rfl, flat_intsV _, _, rfl, ?_⟩
            rw [inV_ints]
            refine ite2 (fun y => ?_) (fun y => ?_)
            · exact ⟨_, rfl, cW_yes (L := fun j => intsV ((List.range j).filter fun j => decide (j ≠ i) && !decide (j ∈ knownL kn n i))) hj hD sm hl (filt_yes _ (by show (decide (j ≠ i) && !decide (j ∈ knownL kn n i)) = true; rw [decide_eq_true z', Bool.true_and]; exact y))⟩
            · exact cW_no (L := fun j => intsV ((List.range j).filter fun j => decide (j ≠ i) && !decide (j ∈ knownL kn n i))) hj sm hl (filt_no _ (by show (decide (j ≠ i) && !decide (j ∈ knownL kn n i)) = false; rw [decide_eq_true z', Bool.true_and]; exact Bool.eq_false_iff.mpr y))
          · rw [ei] at z
            have z' : j = i := by simpa using z
            exact iteF (cW_no (L := fun j => intsV ((List.range j).filter fun j => decide (j ≠ i) && !decide (j ∈ knownL kn n i))) hj sm hl (filt_no _ (by show (decide (j ≠ i) && !decide (j ∈ knownL kn n i)) = false; rw [decide_eq_false fun q => q z']; rfl)))
        · rw [str_rel] at hl2'
          have s35 : Same H3 H5 := s4.trans s5
          have s05 : Same H H5 := s3.trans s35
          have hH5 := hH.same s05
          refine ⟨_, rfl, p, dx, _, rfl, s05 p _ hp, rfl, _, rfl, p, r, as, n, kn, (i : Int), rfl, hH5, fun z => absurd og z, fun _ l3 H6 hl3 s6 hl3' => ?_⟩
          refine ⟨_, rfl, l3, l1, knownL kn n i, rfl, hl3', s6 l1 _ (s5 l1 _ hl1'), _, rfl, iteF ?_⟩
          have s06 : Same H H6 := s05.trans s6
          refine ⟨_, rfl, p, dx, _, rfl, s06 p _ hp, rfl, _, rfl, p, r, as, n, kn, (i : Int), rfl, hH.same s06, fun z => absurd og z, fun _ l4 H7 hl4 s7 hl4' => ?_⟩
          refine ⟨_, rfl, l4, l2, strL kn n i, rfl, hl4', s7 l2 _ (s6 l2 _ hl2'), _, rfl, iteF ?_⟩
          exact ⟨s06.trans s7, s7 d _ (s6 d _ (s35 d _ hd3)), _, _, _, rfl⟩
      · rintro σ H3 ⟨s3, _, _, _, _, rfl⟩
        exact k H3 s3
end
/-! ### pairs that a script tells, a hall of them, one two turned -/
structure GoodP (n : Nat) (kss : List (List Int)) : Prop where
  nd : kss.Nodup
  mem : ∀ ks ∈ kss, ∃ i j : Nat, i < j ∧ j < n ∧ ks = [(i : Int), (j : Int)]
  len : kss.length ≤ 420
structure Gd (g o : Nat) (kss : List (List Int)) : Prop where
  nd : kss.Nodup
  mem : ∀ ks ∈ kss, ∃ i j : Nat, i < j ∧ (j < g ∨ (j = g ∧ i < o)) ∧ ks = [(i : Int), (j : Int)]
  len : kss.length ≤ g * 20 + o
theorem Gd.nil (g o : Nat) : Gd g o [] := ⟨List.nodup_nil, fun ks h => by simp at h, Nat.zero_le _⟩
theorem Gd.skip {g o : Nat} {kss : List (List Int)} (h : Gd g o kss) : Gd g (o + 1) kss := ⟨h.nd, fun ks hk => by
  obtain ⟨i, j, h1, h2, h3⟩ := h.mem ks hk
  exact ⟨i, j, h1, by (first | lia | omega), h3⟩, by have := h.len; (first | lia | omega)⟩
theorem Gd.next {g : Nat} {kss : List (List Int)} (h : Gd g g kss) (hg : g ≤ 20) : Gd (g + 1) 0 kss := ⟨h.nd, fun ks hk => by
  obtain ⟨i, j, h1, h2, h3⟩ := h.mem ks hk
  exact ⟨i, j, h1, by (first | lia | omega), h3⟩, by have := h.len; (first | lia | omega)⟩
theorem Gd.add {g o : Nat} {kss : List (List Int)} (h : Gd g o kss) (ho : o < g) : Gd g (o + 1) (kss ++ [[(o : Int), (g : Int)]]) := by
  refine ⟨nd_snoc h.nd fun z => ?_, fun ks hk => ?_, by rw [List.length_append]; have := h.len; simp; (first | lia | omega)⟩
  · obtain ⟨i, j, h1, h2, h3⟩ := h.mem _ z
    obtain ⟨e1, e2⟩ := List.cons.inj h3
    obtain ⟨e3, _⟩ := List.cons.inj e2
    (first | lia | omega)
  · rcases List.mem_append.mp hk with hk | hk
    · obtain ⟨i, j, h1, h2, h3⟩ := h.mem ks hk
      exact ⟨i, j, h1, by (first | lia | omega), h3⟩
    · exact ⟨o, g, ho, by (first | lia | omega), List.mem_singleton.mp hk⟩
theorem Gd.good {n : Nat} {kss : List (List Int)} (h : Gd n 0 kss) (hn : n ≤ 20) : GoodP n kss := ⟨h.nd, fun ks hk => by
  obtain ⟨i, j, h1, h2, h3⟩ := h.mem ks hk
  exact ⟨i, j, h1, by (first | lia | omega), h3⟩, by have := h.len; (first | lia | omega)⟩
theorem GoodP.perm {n : Nat} {kss lss : List (List Int)} (h : GoodP n kss) (p : lss.Perm kss) : GoodP n lss := ⟨(p.nodup_iff).mpr h.nd, fun ks hk => h.mem ks (p.mem_iff.mp hk), by rw [p.length_eq]; exact h.len⟩
theorem pr_lt {i j : Nat} (h : i < j) : pr (i : Int) (j : Int) = [(i : Int), (j : Int)] := by
  unfold pr
  rw [if_neg (by (first | lia | omega)), if_pos (by (first | lia | omega))]

def spCellZ (K : PySem.W.Frag) : Sp := fun vs H Q _ => ∃ (p : Addr) (ns : List Int) (k : Int), vs = [.ref p, .int k] ∧ 0 ≤ k ∧ SqL K H p (ns.map V.int) ∧ ∀ z : Int, Q (.int z) H
def spPB (K : PySem.W.Frag) : Sp := fun vs H Q _ => ∃ (sc : Addr) (ns : List Int) (first n : Nat), vs = [.ref sc, .int (first : Nat), .int (n : Nat)] ∧ SqL K H sc (ns.map V.int) ∧ 1 ≤ n ∧ n ≤ 20 ∧
  ∀ q ts kss H', H q = none → Same H H' → H' q = some (.lst (ts.map V.ref)) → Tups H' ts kss → GoodP n kss → Q (.ref q) H'
def spMn (K : PySem.W.Frag) : Sp := fun vs H Q _ => ∃ (sc : Addr) (ns : List Int), vs = [.ref sc] ∧ SqL K H sc (ns.map V.int) ∧ ∀ n : Nat, 1 ≤ n → n ≤ 20 → Q (.int (n : Nat)) H
/-- a hall and the pairs that are said of it -/
structure HP (a : Ad) (H : Hp) (p r q : Addr) (as ts : List Addr) (n : Nat) (kn : Knw) (kss : List (List Int)) : Prop where
  hall : HallAt a.C H p r as n kn
  prs : H q = some (.lst (ts.map V.ref))
  tup : Tups H ts kss
  rel : Rel n kn kss
  qa : q ∉ as
  qp : q ≠ p
  qr : q ≠ r
  mem : ∀ ks ∈ kss, ∃ i j : Nat, i < j ∧ j < n ∧ ks = [(i : Int), (j : Int)]
theorem HP.same {a : Ad} {H H' : Hp} {p r q : Addr} {as ts : List Addr} {n : Nat} {kn : Knw} {kss : List (List Int)} (h : HP a H p r q as ts n kn kss) (s : Same H H') : HP a H' p r q as ts n kn kss :=
  ⟨h.hall.same s, s _ _ h.prs, h.tup.same fun b xs e => s b _ e, h.rel, h.qa, h.qp, h.qr, h.mem⟩
section
variable {P : Program} {w : World} {K : PySem.W.Frag} {mg : Str → Option Value} {base : Heap} {a : Ad}
theorem scCell : FnScope ["script", "k"] ["script", "k"] (defScope sCell) := ⟨rfl, rfl, rfl, by decide +kernel, rfl, by decide +kernel, by decide +kernel⟩
theorem ok_cellZ {f : Addr} {fd : FuncData} (F : Fun K "_law_cell_at" "_law_cell_at" sCell f fd) (L : Lx K mg a) : FnOk P w K mg base CX0 1 f fd ["script", "k"] (spCellZ K) := by
  refine F.ok scCell (fun vs H Q E h => ?_) (fun cdv A outer s H vs Q E hr h => ?_)
  · obtain ⟨p, ns, k, rfl, _⟩ := h
    rfl
  · obtain ⟨p, ns, k, rfl, h0, hS, q⟩ := h
    refine ⟨_, pss_cons (ps_if (pt_cmpR op_lt (pv 1) (pe_callB call_len_seq (by rfl) L.T.len PySem.boot_len (pa_cons (pv 0) pa_nil)) (nomark _)) (pss_one (ps_ret (pe_ix ix_list (pv 0) (pv 1) (fun _ _ => rfl)))) pss_nil)
      (pss_one (ps_ret pe_int)), ?_⟩
    refine ⟨_, rfl, _, rfl, p, _, rfl, .inl hS, _, _, rfl, rfl, _, rfl, ite2 (fun z => ?_) (fun z => ?_)⟩
    · have z' := of_decide_eq_true z
      rw [List.length_map] at z'
      have hk : k.toNat < ns.length := by (first | lia | omega)
      exact ⟨_, rfl, _, rfl, p, _, k, .int ns[k.toNat], rfl, rfl, hS, atI_int h0 (by rw [List.getElem?_map, List.getElem?_eq_getElem hk]; rfl), q _⟩
    · exact q _
end
section
variable {P : Program} {w : World} {K : PySem.W.Frag} {mg : Str → Option Value} {base : Heap} {a : Ad}
theorem scPB : FnScope ["script", "first", "many", "pairs", "guest", "digits", "other"] ["script", "first", "many"] (defScope sPB) := ⟨rfl, rfl, rfl, by decide +kernel, rfl, by decide +kernel, by decide +kernel⟩
theorem ok_pb {f : Addr} {fd : FuncData} (F : Fun K "_law_pairs_by" "_law_pairs_by" sPB f fd) (L : Lx K mg a) (zs : mg "sorted" = none) (FC : Fc P w K mg base "_law_cell_at" ["script", "k"] 1 (spCellZ K)) : FnOk P w K mg base CX0 2 f fd ["script", "first", "many"] (spPB K) := by
  obtain ⟨fC, fdC, mC, kC, bC, GC⟩ := FC.ex
  refine F.ok scPB (fun vs H Q E h => ?_) (fun cdv A outer s H vs Q E hr h => ?_)
  · obtain ⟨sc, ns, first, n, rfl, _⟩ := h
    rfl
  · obtain ⟨sc, ns, first, n, rfl, hS, n1, n20, k⟩ := h
    refine ⟨_, pss_cons (ps_set (i := 3) scPB.nd rfl (Or.inl rfl) (pe_lst pa_nil))
      (pss_cons (ps_for PassesOwn.never rfl (pi_range2 rfl L.T.range (pa_cons pe_int (pa_cons (pv 2) pa_nil))) (pg_name (i := 4) scPB.nd rfl (Or.inl rfl))
        (pss_cons (ps_set (i := 5) scPB.nd rfl (Or.inl rfl) (pe_call GC hr rfl mC kC bC .nil pass0 (pa_cons (pv 0) (pa_cons (pe_op op_sub (pe_op op_add (pv 1) (pv 4)) pe_int) pa_nil))))
        (pss_one (ps_for PassesOwn.never rfl (pi_range1 rfl L.T.range (pa_cons (pv 4) pa_nil)) (pg_name (i := 6) scPB.nd rfl (Or.inl rfl))
          (pss_cons (ps_if (pt_cmpR op_eq (pe_op op_mod (pv 5) pe_int) pe_int (nomark _)) (pss_one (ps_expr (pe_bm PySem.F.plainAttrs_list PySem.F.slot_list_append PySem.F.type_list_append mt_append (pv 3) (pa_cons (pe_tup (pa_cons (pv 6) (pa_cons (pv 4) pa_nil))) pa_nil)))) pss_nil)
          (pss_one (ps_set (i := 5) scPB.nd rfl (Or.inl rfl) (pe_op op_fdiv (pv 5) pe_int))))))))
      (pss_one (ps_ret (pe_callB call_sortedT (by rfl) zs (by decide +kernel) (pa_cons (pv 3) pa_nil))))), ?_⟩
    refine ⟨Nat.zero_le _, fun q hq => ?_⟩
    refine ⟨_, rfl, 1, (n : Int), rfl, ⟨by decide, by decide, by (first | lia | omega), by (first | lia | omega)⟩, ?_⟩
    have en : ((n : Int) - 1).toNat = n - 1 := by (first | lia | omega)
    rw [en]
    refine for_range (lo := 1) (n := n - 1) (fun i σ H2 => Same H H2 ∧ (∃ ts kss, H2 q = some (.lst (ts.map V.ref)) ∧ Tups H2 ts kss ∧ Gd (1 + i) 0 kss) ∧ ∃ v4 v5 v6, σ = [some (.ref sc), some (.int (first : Nat)), some (.int (n : Nat)), some (.ref q), v4, v5, v6])
      ⟨same_new (Same.refl _) hq, ⟨[], [], upd_same, .nil, Gd.nil _ _⟩, _, _, _, rfl⟩ ?_ ?_
    · rintro i σ H2 hi ⟨s2, ⟨ts, kss, e1, e2, g⟩, v4, v5, v6, rfl⟩
      refine ⟨_, rfl, _, rfl, _, rfl, _, _, rfl, rfl, _, _, rfl, rfl, sc, ns, _, rfl, (by show (0 : Int) ≤ (first : Int) + (1 + (i : Int)) - 1; (first | lia | omega)), s2.seq hS, fun z => ?_⟩
      refine ⟨_, rfl, 1 + (i : Int), rfl, by (first | lia | omega), by (first | lia | omega), ?_⟩
      have ei : (1 + (i : Int)).toNat = 1 + i := by (first | lia | omega)
      rw [ei]
      refine for_range (lo := 0) (n := 1 + i) (fun o σ H3 => Same H H3 ∧ (∃ ts kss, H3 q = some (.lst (ts.map V.ref)) ∧ Tups H3 ts kss ∧ Gd (1 + i) o kss) ∧ ∃ (d : Int) (v6 : Option V), σ = [some (.ref sc), some (.int (first : Nat)), some (.int (n : Nat)), some (.ref q), some (.int (1 + (i : Int))), some (.int d), v6])
        ⟨s2, ⟨ts, kss, e1, e2, g⟩, z, _, rfl⟩ ?_ ?_
      · rintro o σ H3 ho ⟨s3, ⟨ts, kss, e1, e2, g⟩, d, v6, rfl⟩
        rw [Int.zero_add]
        refine ⟨_, rfl, _, _, rfl, rfl, (by show (0 : Int) < 2; decide), rfl, _, rfl, ite2 (fun y => ?_) (fun y => ?_)⟩
        · refine ⟨_, rfl, .inl ⟨rfl, _, SqL.of e1⟩, _, rfl, _, rfl, (by show 2 ≤ sizeLine; decide), fun t ht => ?_⟩
          have nq : q ≠ t := ne_of_none e1 ht
          have hl := e2.length
          have hgl := g.len
          refine ⟨q, _, _, rfl, rfl, (by rw [upd_ne nq]; exact e1), small1000 (by rw [List.length_map]; (first | lia | omega)), ?_⟩
          refine ⟨_, rfl, _, _, rfl, rfl, ⟨by decide, by decide⟩, ?_⟩
          have st : Same H3 (upd H3 t (.tup [.int (o : Nat), .int (1 + (i : Int))])) := same_new (Same.refl _) ht
          refine ⟨same_new (s3.trans st) hq, ⟨ts ++ [t], kss ++ [[(o : Int), ((1 + i : Nat) : Int)]], by rw [upd_same, List.map_append]; rfl, ?_, g.add ho⟩, _, _, rfl⟩
          have tq : ∀ b xs, H3 b = some (.tup xs) → b ≠ q := fun b xs e z => by
            rw [z, e1] at e
            cases e
          refine Tups.append (e2.same fun b xs e => by rw [upd_ne (tq b xs e)]; exact st b _ e) (.cons ?_ .nil)
          rw [upd_ne (Ne.symm nq), upd_same]
          show some (HO.tup [.int (o : Nat), .int (1 + (i : Int))]) = some (HO.tup [.int (o : Nat), .int ((1 + i : Nat) : Int)])
          rw [show ((1 + i : Nat) : Int) = 1 + (i : Int) by (first | lia | omega)]
        · exact ⟨_, rfl, _, _, rfl, rfl, ⟨by decide, by decide⟩, s3, ⟨ts, kss, e1, e2, g.skip⟩, _, _, rfl⟩
      · rintro σ H3 ⟨s3, ⟨ts, kss, e1, e2, g⟩, d, v6, rfl⟩
        refine ⟨s3, ⟨ts, kss, e1, e2, ?_⟩, _, _, _, rfl⟩
        have := g.next (by (first | lia | omega))
        rw [show 1 + i + 1 = 1 + (i + 1) by (first | lia | omega)] at this
        exact this
    · rintro σ H2 ⟨s2, ⟨ts, kss, e1, e2, g⟩, v4, v5, v6, rfl⟩
      rw [show 1 + (n - 1) = n by (first | lia | omega)] at g
      have gp := g.good n20
      have hl := e2.length
      have hgl := gp.len
      refine ⟨_, rfl, q, ts, kss, rfl, e1, e2, fun ks hk => ?_, by (first | lia | omega), fun l ts' kss' hl' t' hp => ?_⟩
      · obtain ⟨i, j, _, _, rfl⟩ := gp.mem ks hk
        exact fun z => nomatch z
      · have sl : Same H2 (upd H2 l (.lst (ts'.map V.ref))) := same_new (Same.refl _) hl'
        exact k l ts' kss' _ (s2.free hl') (s2.trans sl) upd_same (t'.same fun b xs e => sl b _ e) (gp.perm hp)
end
section
variable {P : Program} {w : World} {K : PySem.W.Frag} {mg : Str → Option Value} {base : Heap} {a : Ad}
theorem scMn : FnScope ["script", "head"] ["script"] (defScope sMn) := ⟨rfl, rfl, rfl, by decide +kernel, rfl, by decide +kernel, by decide +kernel⟩
theorem ok_mn {f : Addr} {fd : FuncData} (F : Fun K "_law_many" "_law_many" sMn f fd) (FC : Fc P w K mg base "_law_cell_at" ["script", "k"] 1 (spCellZ K)) : FnOk P w K mg base CX0 2 f fd ["script"] (spMn K) := by
  obtain ⟨fC, fdC, mC, kC, bC, GC⟩ := FC.ex
  refine F.ok scMn (fun vs H Q E h => ?_) (fun cdv A outer s H vs Q E hr h => ?_)
  · obtain ⟨sc, ns, rfl, _⟩ := h
    rfl
  · obtain ⟨sc, ns, rfl, hS, k⟩ := h
    refine ⟨_, pss_cons (ps_set (i := 1) scMn.nd rfl (Or.inl rfl) (pe_call GC hr rfl mC kC bC .nil pass0 (pa_cons (pv 0) (pa_cons pe_int pa_nil))))
      (pss_cons (ps_if (pt_cmpR op_eq (pe_op op_mod (pe_op op_fdiv (pv 1) pe_int) pe_int) pe_int (nomark _)) (pss_one (ps_ret (pe_op op_add pe_int (pe_op op_mod (pe_op op_fdiv (pv 1) pe_int) pe_int)))) pss_nil)
      (pss_one (ps_ret (pe_op op_add pe_int (pe_op op_mod (pv 1) pe_int))))), ?_⟩
    refine ⟨_, rfl, sc, ns, 0, rfl, by decide, hS, fun z => ?_⟩
    refine ⟨_, rfl, _, _, rfl, rfl, ⟨by decide, by decide⟩, _, _, rfl, rfl, (by show (0 : Int) < 4; decide), rfl, _, rfl, ite2 (fun y => ?_) (fun y => ?_)⟩
    · refine ⟨_, rfl, _, _, rfl, rfl, ⟨by decide, by decide⟩, _, _, rfl, rfl, (by show (0 : Int) < 10; decide), _, _, rfl, rfl, ?_⟩
      show Q (.int (11 + z / 40 % 10)) H
      rw [show (11 + z / 40 % 10 : Int) = (((11 + z / 40 % 10 : Int).toNat : Nat) : Int) by (first | lia | omega)]
      exact k _ (by (first | lia | omega)) (by (first | lia | omega))
    · refine ⟨_, rfl, _, _, rfl, rfl, (by show (0 : Int) < 10; decide), _, _, rfl, rfl, ?_⟩
      show Q (.int (1 + z % 10)) H
      rw [show (1 + z % 10 : Int) = (((1 + z % 10 : Int).toNat : Nat) : Int) by (first | lia | omega)]
      exact k _ (by (first | lia | omega)) (by (first | lia | omega))
end
/-! ### a comprehension over a range whose items are new -/
end Kn
set_option Elab.async false
set_option linter.all false
set_option maxRecDepth 100000
set_option maxHeartbeats 4000000
namespace Kn
open PySem L2
theorem notin_as' {C : Addr} {H : Hp} {p r : Addr} {as : List Addr} {n : Nat} {kn : Knw} (h : HallAt C H p r as n kn) {b : Addr} (e : H b = none) : b ∉ as := fun z => by
  obtain ⟨i, hi⟩ := List.getElem?_of_mem z
  rw [h.row i b hi] at e
  cases e
theorem refs_row {ts : List Addr} {kn : Knw} {n i : Nat} (h1 : 1 ≤ n) (e : ts.map V.ref = rowV kn n i) : False := by
  have e0 : (rowV kn n i)[0]? = some (.bl (kn i 0)) := rowV_at (by (first | lia | omega))
  rw [← e, List.getElem?_map] at e0
  cases q : ts[0]? with
  | none => rw [q] at e0; cases e0
  | some t => rw [q] at e0; cases e0
section
variable {a : Ad} {H H2 : Hp} {p r q p' r' q' : Addr} {as ts as' ts' : List Addr} {n n' : Nat} {kn kn' : Knw} {kss kss' : List (List Int)}
theorem HP.keep (h : HP a H p r q as ts n kn kss) (h' : HP a H p' r' q' as' ts' n' kn' kss') (e1 : r ≠ q') (e2 : q ≠ q') (e3 : ∀ b ∈ as, b ∉ as') (k : ∀ c u, H c = some u → c ≠ q' → c ∉ as' → H2 c = some u) : HP a H2 p r q as ts n kn kss := by
  have row : ∀ {b : Addr}, b ∈ as' → ∃ i, H b = some (.lst (rowV kn' n' i)) := fun {b} hb => by
    obtain ⟨i, hi⟩ := List.getElem?_of_mem hb
    exact ⟨i, h'.hall.row i b hi⟩
  have refs : ∀ {b : Addr} {us : List Addr}, H b = some (.lst (us.map V.ref)) → b ∉ as' := fun {b us} e hb => by
    obtain ⟨i, e'⟩ := row hb
    rw [e] at e'
    exact refs_row h'.hall.n1 (HO.lst.inj (Option.some.inj e'))
  have tup : ∀ {b : Addr} {xs : List V}, H b = some (.tup xs) → H2 b = some (.tup xs) := fun {b xs} e => k b _ e (fun z => by rw [z, h'.prs] at e; cases e) fun hb => by
    obtain ⟨i, e'⟩ := row hb
    rw [e] at e'
    cases e'
  refine ⟨h.hall.mono fun b o eb hb => ?_, k q _ h.prs e2 (refs h.prs), h.tup.same fun b xs e => tup e, h.rel, h.qa, h.qp, h.qr, h.mem⟩
  rcases hb with rfl | rfl | hb
  · obtain ⟨dx, e⟩ := h.hall.ob
    refine k _ o eb (fun z => ?_) fun hb => ?_
    · rw [z, h'.prs] at e
      cases e
    · obtain ⟨i, e'⟩ := row hb
      rw [e] at e'
      cases e'
  · exact k _ o eb e1 (refs h.hall.rws)
  · refine k _ o eb (fun z => ?_) (e3 b hb)
    obtain ⟨i, hi⟩ := List.getElem?_of_mem hb
    have e := h.hall.row i b hi
    rw [z, h'.prs] at e
    exact refs_row h.hall.n1 (HO.lst.inj (Option.some.inj e))
end
/-! ### texts: what the defs ask of the text -/
structure Nx (K : PySem.W.Frag) (mg : Str → Option Value) (a : Ad) : Prop where
  tx : mg "NoText" = some (.ref a.eTxt)
  xt : PySem.W.excIn K a.eTxt bmVE "ValueError.__new__" = true
  fw : ∃ t, mg "FIRST_WORD" = some (.str ("guests" : Str) t)
  zs : mg "str" = none
def spNT (a : Ad) : Sp := fun vs H Q E => ∃ (w : Str) (lo m : Nat), vs = [.str w, .int (lo : Nat), .int ((m : Int) - 1)] ∧ lo ≤ m ∧ m ≤ 21 ∧ (∀ n, numOf w = some n → lo ≤ n → n < m → Q (.int (n : Nat)) H) ∧
  ((∀ n, numOf w = some n → ¬ (lo ≤ n ∧ n < m)) → E (.ref a.eTxt) none H)
def spTW (a : Ad) : Sp := fun vs H Q E => ∃ line : Str, vs = [.str line] ∧ line.length ≤ 1000000 ∧ (∀ x y, spl line 32 = [x, y] → ∀ l H', H l = none → Same H H' → H' l = some (.lst [.str x, .str y]) → Q (.ref l) H') ∧
  ((∀ x y, spl line 32 ≠ [x, y]) → ∀ H', Same H H' → E (.ref a.eTxt) none H')
def spGT (a : Ad) : Sp := fun vs H Q E => ∃ line : Str, vs = [.str line] ∧ line.length ≤ 1000000 ∧ (∀ n, headP line = some n → ∀ H', Same H H' → Q (.int (n : Nat)) H') ∧ (headP line = none → ∀ H', Same H H' → E (.ref a.eTxt) none H')
def spMT (a : Ad) : Sp := fun vs H Q E => ∃ (p r : Addr) (as : List Addr) (n : Nat) (kn : Knw) (line : Str), vs = [.ref p, .str line] ∧ HallAt a.C H p r as n kn ∧ line.length ≤ 1000000 ∧
  (∀ i j : Nat, twoP n line = some [(i : Int), (j : Int)] → i < j → j < n → kn i j = false → ∀ H', HallAt a.C H' p r as n (setK kn i j true) → (∀ c o, H c = some o → c ∉ as → H' c = some o) → Q .non H') ∧
  ((∀ i j : Nat, twoP n line = some [(i : Int), (j : Int)] → kn i j = true) → ∀ H', Same H H' → E (.ref a.eTxt) none H')
def spRd (a : Ad) : Sp := fun vs H Q E => ∃ text : Str, vs = [.str text] ∧ text.length ≤ 900000 ∧
  (∀ n kss, readP text = some (n, kss) → ∀ p r as kn H', H p = none → H r = none → (∀ b ∈ as, H b = none) → Same H H' → HallAt a.C H' p r as n kn → Rel n kn kss → Q (.ref p) H') ∧
  (readP text = none → ∀ H', Same H H' → E (.ref a.eTxt) none H')
theorem log_small : ∀ n, n < 21 → Nat.log2 n < 1920 := by decide +kernel
theorem bl_split (x : Str) : PySem.Txt.split x (" " : Str) = spl x 32 := by
  unfold spl
  rw [bl_is]
theorem nl_split (x : Str) : PySem.Txt.split x ("\n" : Str) = spl x 10 := by
  unfold spl
  rw [nl_is]
theorem two_of_len {α : Type} {l : List α} (h : l.length = 2) : ∃ x y, l = [x, y] := match l, h with
  | [x, y], _ => ⟨x, y, rfl⟩
theorem headP_none {line : Str} (h : ∀ x y, spl line 32 ≠ [x, y]) : headP line = none := by
  cases e : headP line with
  | none => rfl
  | some n => exact absurd (headP_some e).2.2 (h _ _)
theorem twoP_nat {n : Nat} {line : Str} {i j : Nat} (h : twoP n line = some [(i : Int), (j : Int)]) : spl line 32 = [nS i, nS j] ∧ i < j ∧ j < n ∧ i < 21 ∧ j < 21 := by
  obtain ⟨i', j', h1, h2, h3, h4, h5, e⟩ := twoP_some h
  obtain ⟨e1, e2⟩ := List.cons.inj e
  obtain ⟨e3, _⟩ := List.cons.inj e2
  have q1 : i = i' := by (first | lia | omega)
  have q2 : j = j' := by (first | lia | omega)
  subst q1
  subst q2
  exact ⟨h1, h2, h3, h4, h5⟩
theorem str_at {ls : List Str} {i : Nat} {y : V} (h : (ls.map V.str)[i]? = some y) : ∃ z, y = .str z ∧ ls[i]? = some z := by
  rw [List.getElem?_map] at h
  cases e : ls[i]? with
  | none => rw [e] at h; cases h
  | some z => rw [e] at h; exact ⟨z, (Option.some.inj h).symm, rfl⟩
/-- lines[1:-1] -/
theorem cut_mid (x z : V) (r : List V) : cutV (x :: r ++ [z]) (some 1) (some (-1)) = r := by
  unfold cutV
  have e1 : HT.sIx (x :: r ++ [z]).length 0 (some 1) = 1 := by
    show (if (1 : Int) < 0 then ((1 : Int) + ((x :: r ++ [z]).length : Int)).toNat else min (1 : Int).toNat (x :: r ++ [z]).length) = 1
    rw [if_neg (by decide)]
    simp
  have e2 : HT.sIx (x :: r ++ [z]).length (x :: r ++ [z]).length (some (-1)) = r.length + 1 := by
    show (if (-1 : Int) < 0 then ((-1 : Int) + ((x :: r ++ [z]).length : Int)).toNat else min (-1 : Int).toNat (x :: r ++ [z]).length) = r.length + 1
    rw [if_pos (by decide)]
    simp
    (first | lia | omega)
  rw [e1, e2]
  simp
theorem rdP_none {n : Nat} {line : Str} {r : List Str} {acc : List (List Int)} (h : ∀ ks, twoP n line = some ks → ks ∈ acc) : rdP n (line :: r) acc = none := by
  unfold rdP
  cases e : twoP n line with
  | none => rfl
  | some ks =>
    dsimp only
    rw [if_pos (h ks e)]
theorem rdP_next {n : Nat} {line : Str} {r : List Str} {acc : List (List Int)} {ks : List Int} (h : twoP n line = some ks) (hn : ks ∉ acc) : rdP n (line :: r) acc = rdP n r (acc ++ [ks]) := by
  show (match twoP n line with | some ks => if ks ∈ acc then none else rdP n r (acc ++ [ks]) | none => none) = _
  rw [h]
  dsimp only
  rw [if_neg hn]
structure Fe (P : Program) (w : World) (K : PySem.W.Frag) (mg : Str → Option Value) (base : Heap) (x : Str) (ps : List Str) (k : Nat) (sp : Sp) : Prop where
  ex : ∃ (f : Addr) (fd : FuncData), mg x = some (.ref f) ∧ PySem.W.keepIn K (.ref f) = true ∧ Binds K fd ps [] ∧ FnOk P w K mg base (CXe P w) k f fd ps sp
/-- the pairs of those who know one another, in order -/
def rowP (kn : Knw) (n i : Nat) : List (List Int) := ((knownL kn n i).filter fun j => decide (i < j)).map fun j => [(i : Int), ((j : Nat) : Int)]
def pairsL (kn : Knw) (n m : Nat) : List (List Int) := (List.range m).flatMap fun i => rowP kn n i
theorem rowP_len (kn : Knw) (n i : Nat) : (rowP kn n i).length ≤ n := by
  unfold rowP knownL
  rw [List.length_map]
  exact Nat.le_trans (List.length_filter_le _ _) (Nat.le_trans (List.length_filter_le _ _) (by rw [List.length_range]; exact Nat.le_refl _))
theorem pairsL_succ (kn : Knw) (n m : Nat) : pairsL kn n (m + 1) = pairsL kn n m ++ rowP kn n m := by
  unfold pairsL
  rw [List.range_succ, List.flatMap_append]
  simp
theorem pairsL_len (kn : Knw) (n : Nat) : ∀ m, (pairsL kn n m).length ≤ m * n
  | 0 => by show 0 ≤ _; exact Nat.zero_le _
  | m + 1 => by
    rw [pairsL_succ, List.length_append, Nat.add_mul, Nat.one_mul]
    have := pairsL_len kn n m
    have := rowP_len kn n m
    (first | lia | omega)
theorem rowP_mem {kn : Knw} {n i : Nat} {ks : List Int} (h : ks ∈ rowP kn n i) : ∃ j : Nat, i < j ∧ j < n ∧ kn i j = true ∧ ks = [(i : Int), (j : Int)] := by
  unfold rowP knownL at h
  obtain ⟨j, hj, rfl⟩ := List.mem_map.mp h
  obtain ⟨h1, h2⟩ := List.mem_filter.mp hj
  obtain ⟨h3, h4⟩ := List.mem_filter.mp h1
  exact ⟨j, of_decide_eq_true h2, List.mem_range.mp h3, h4, rfl⟩
theorem pairsL_in {kn : Knw} {n m : Nat} {ks : List Int} (h : ks ∈ pairsL kn n m) : ∃ i j : Nat, i < m ∧ i < j ∧ j < n ∧ kn i j = true ∧ ks = [(i : Int), (j : Int)] := by
  unfold pairsL at h
  obtain ⟨i, hi, h2⟩ := List.mem_flatMap.mp h
  obtain ⟨j, h3, h4, h5, h6⟩ := rowP_mem h2
  exact ⟨i, j, List.mem_range.mp hi, h3, h4, h5, h6⟩
theorem pairsL_mem (kn : Knw) (n m : Nat) : ∀ ks ∈ pairsL kn n m, ∃ i j : Nat, i < j ∧ j < n ∧ ks = [(i : Int), (j : Int)] := fun ks h => by
  obtain ⟨i, j, _, h3, h4, _, h6⟩ := pairsL_in h
  exact ⟨i, j, h3, h4, h6⟩
def rowT (kn : Knw) (n i t : Nat) : List (List Int) := (((knownL kn n i).take t).filter fun j => decide (i < j)).map fun j => [(i : Int), ((j : Nat) : Int)]
theorem rowT_len (kn : Knw) (n i t : Nat) : (rowT kn n i t).length ≤ t := by
  unfold rowT
  rw [List.length_map]
  exact Nat.le_trans (List.length_filter_le _ _) (by rw [List.length_take]; exact Nat.min_le_left _ _)
theorem rowT_all (kn : Knw) (n i : Nat) : rowT kn n i (knownL kn n i).length = rowP kn n i := by
  unfold rowT rowP
  rw [List.take_length]
theorem rowT_yes {kn : Knw} {n i t j : Nat} (e : (knownL kn n i)[t]? = some j) (h : i < j) : rowT kn n i (t + 1) = rowT kn n i t ++ [[(i : Int), (j : Int)]] := by
  unfold rowT
  rw [List.take_add_one, e, List.filter_append, List.map_append]
  congr 1
  show (List.filter (fun j => decide (i < j)) [j]).map _ = _
  have e2 : List.filter (fun j => decide (i < j)) [j] = [j] := by simp [h]
  rw [e2]
  rfl
theorem rowT_no {kn : Knw} {n i t j : Nat} (e : (knownL kn n i)[t]? = some j) (h : ¬ i < j) : rowT kn n i (t + 1) = rowT kn n i t := by
  unfold rowT
  rw [List.take_add_one, e, List.filter_append, List.map_append]
  show _ ++ (List.filter (fun j => decide (i < j)) [j]).map _ = _
  rw [List.filter_cons_of_neg (by simpa using h)]
  exact List.append_nil _
theorem nat_at {l : List Nat} {t : Nat} {y : V} (h : (intsV l)[t]? = some y) : ∃ j : Nat, y = .int (j : Int) ∧ l[t]? = some j := by
  unfold intsV at h
  rw [List.getElem?_map] at h
  cases e : l[t]? with
  | none => rw [e] at h; cases h
  | some z => rw [e] at h; exact ⟨z, (Option.some.inj h).symm, rfl⟩
def spShown (a : Ad) : Sp := fun vs H Q _ => ∃ (p r : Addr) (as : List Addr) (n : Nat) (kn : Knw), vs = [.ref p] ∧ HallAt a.C H p r as n kn ∧ ∀ H', Same H H' → Q (.str (showT n (pairsL kn n n))) H'
section
variable {P : Program} {w : World} {K : PySem.W.Frag} {mg : Str → Option Value} {base : Heap} {a : Ad}
theorem scNT : FnScope ["word", "lowest", "highest", "number"] ["word", "lowest", "highest"] (defScope sNT) := ⟨rfl, rfl, rfl, by decide +kernel, rfl, by decide +kernel, by decide +kernel⟩
theorem ok_nt {f : Addr} {fd : FuncData} (F : Fun K "number_told" "number_told" sNT f fd) (L : Lx K mg a) (N : Nx K mg a) : FnOk P w K mg base (CXe P w) 1 f fd ["word", "lowest", "highest"] (spNT a) := by
  refine F.okE scNT (fun vs H Q E h => ?_) (fun cdv A outer s H vs Q E hr h => ?_)
  · obtain ⟨w', lo, m, rfl, _⟩ := h
    rfl
  · obtain ⟨w', lo, m, rfl, lm, m21, k1, k2⟩ := h
    refine ⟨_, pss_cons (ps_for PassesOwn.leaving rfl (pi_range2 rfl L.T.range (pa_cons (pv 1) (pa_cons (pe_op op_add (pv 2) pe_int) pa_nil))) (pg_name (i := 3) scNT.nd rfl (Or.inl rfl))
        (pss_one (ps_if (pt_cmpR op_eq (pv 0) (pe_callTy call_str_int rfl N.zs (by decide +kernel) (pa_cons (pv 3) pa_nil)) (nomark _)) (pss_one (ps_ret (pv 3))) pss_nil)))
      (pss_one (ps_raise rfl rfl N.tx N.xt (pa_cons pe_str pa_nil) (fun pins σ H s h' e vs I hm hE => raise_leave I hm hE))), ?_⟩
    refine ⟨_, rfl, _, rfl, _, _, rfl, rfl, (lo : Int), (m : Int) - 1 + 1, rfl, ⟨by (first | lia | omega), by (first | lia | omega), by (first | lia | omega), by (first | lia | omega)⟩, ?_⟩
    rw [show ((m : Int) - 1 + 1 - (lo : Int)).toNat = m - lo by (first | lia | omega)]
    refine for_range (lo := (lo : Int)) (n := m - lo) (fun i σ H2 => H2 = H ∧ (∀ k, lo ≤ k → k < lo + i → w' ≠ nS k) ∧ ∃ v, σ = [some (.str w'), some (.int (lo : Nat)), some (.int ((m : Int) - 1)), v]) ⟨rfl, fun k h1 h2 => by (first | lia | omega), none, rfl⟩ ?_ ?_
    · rintro i σ H2 hi ⟨rfl, no, v, rfl⟩
      rw [show (lo : Int) + (i : Int) = ((lo + i : Nat) : Int) by (first | lia | omega)]
      refine ⟨_, rfl, _, rfl, _, rfl, log_small _ (by (first | lia | omega)), rfl, _, rfl, ite2 (fun z => ?_) (fun z => ?_)⟩
      · have e : w' = nS (lo + i) := V.str.inj (of_decide_eq_true z)
        exact ⟨_, rfl, k1 _ (numOf_iff.mpr ⟨by (first | lia | omega), e⟩) (by (first | lia | omega)) (by (first | lia | omega))⟩
      · have ne : w' ≠ nS (lo + i) := fun e => z (decide_eq_true (by rw [e]; rfl))
        refine ⟨rfl, fun k h1 h2 => ?_, _, rfl⟩
        by_cases q : k = lo + i
        · rw [q]; exact ne
        · exact no k h1 (by (first | lia | omega))
    · rintro σ H2 ⟨rfl, no, v, rfl⟩
      exact ⟨by decide, k2 fun n e q => no n q.1 (by (first | lia | omega)) (numOf_iff.mp e).2⟩
end
section
variable {P : Program} {w : World} {K : PySem.W.Frag} {mg : Str → Option Value} {base : Heap} {a : Ad}
theorem scTW : FnScope ["line", "words"] ["line"] (defScope sTW) := ⟨rfl, rfl, rfl, by decide +kernel, rfl, by decide +kernel, by decide +kernel⟩
theorem ok_tw {f : Addr} {fd : FuncData} (F : Fun K "two_words" "two_words" sTW f fd) (L : Lx K mg a) (N : Nx K mg a) : FnOk P w K mg base (CXe P w) 1 f fd ["line"] (spTW a) := by
  refine F.okE scTW (fun vs H Q E h => ?_) (fun cdv A outer s H vs Q E hr h => ?_)
  · obtain ⟨line, rfl, _⟩ := h
    rfl
  · obtain ⟨line, rfl, hl, k1, k2⟩ := h
    refine ⟨_, pss_cons (ps_set (i := 1) scTW.nd rfl (Or.inl rfl) (pe_bm PySem.F.plainAttrs_str PySem.F.slot_str_split PySem.F.type_str_split mt_split (pv 0) (pa_cons pe_str pa_nil)))
      (pss_cons (ps_if (pt_cmpR op_ne (pe_callB call_len_seq (by rfl) L.T.len PySem.boot_len (pa_cons (pv 1) pa_nil)) pe_int (nomark _))
        (pss_one (ps_raise rfl rfl N.tx N.xt (pa_cons pe_str pa_nil) (fun pins σ H s h' e vs I hm hE => raise_leave I hm hE))) pss_nil)
      (pss_one (ps_ret (pv 1)))), ?_⟩
    refine ⟨_, rfl, rfl, line, " ", rfl, rfl, rfl, Nat.le_trans (Nat.add_le_add_right hl 2) (by rw [sizeLine_eq]; decide), fun l hl1 => ?_⟩
    rw [bl_split]
    refine ⟨_, rfl, l, _, rfl, .inl (SqL.of upd_same), rfl, _, rfl, ite2 (fun z => ?_) (fun z => ?_)⟩
    · refine ⟨by decide, k2 (fun x y e => ?_) _ (same_new (Same.refl _) hl1)⟩
      rw [e] at z
      cases z
    · have hl2 : (spl line 32).length = 2 := by
        by_cases q : (spl line 32).length = 2
        · exact q
        · refine absurd ?_ z
          show (!decide (V.int (((spl line 32).map V.str).length : Nat) = V.int 2)) = true
          rw [decide_eq_false fun y => q (by have := V.int.inj y; rw [List.length_map] at this; (first | lia | omega))]
          rfl
      obtain ⟨x, y, e⟩ := two_of_len hl2
      exact ⟨_, rfl, k1 x y e l _ hl1 (same_new (Same.refl _) hl1) (by rw [upd_same, e]; rfl)⟩
end
section
variable {P : Program} {w : World} {K : PySem.W.Frag} {mg : Str → Option Value} {base : Heap} {a : Ad}
theorem scGT : FnScope ["line", "words"] ["line"] (defScope sGT) := ⟨rfl, rfl, rfl, by decide +kernel, rfl, by decide +kernel, by decide +kernel⟩
theorem ok_gt {f : Addr} {fd : FuncData} (F : Fun K "guests_told" "guests_told" sGT f fd) (L : Lx K mg a) (N : Nx K mg a) (FW : Fe P w K mg base "two_words" ["line"] 1 (spTW a)) (FN : Fe P w K mg base "number_told" ["word", "lowest", "highest"] 1 (spNT a)) :
    FnOk P w K mg base (CXe P w) 2 f fd ["line"] (spGT a) := by
  obtain ⟨fW, fdW, mW, kW, bW, GW⟩ := FW.ex
  obtain ⟨fN, fdN, mN, kN, bN, GN⟩ := FN.ex
  obtain ⟨t1, fw⟩ := N.fw
  obtain ⟨t2, few⟩ := L.T.few
  obtain ⟨t3, most⟩ := L.T.most
  refine F.okE scGT (fun vs H Q E h => ?_) (fun cdv A outer s H vs Q E hr h => ?_)
  · obtain ⟨line, rfl, _⟩ := h
    rfl
  · obtain ⟨line, rfl, hl, k1, k2⟩ := h
    refine ⟨_, pss_cons (ps_set (i := 1) scGT.nd rfl (Or.inl rfl) (pe_call GW hr rfl mW kW bW .nil (passE fun _ _ _ z => z) (pa_cons (pv 0) pa_nil)))
      (pss_cons (ps_if (pt_cmpR op_ne (pe_ix ix_list (pv 1) pe_int (fun _ _ => rfl)) (pe_glob rfl fw (v := .str "guests") ⟨_, rfl⟩) (nomark _))
        (pss_one (ps_raise rfl rfl N.tx N.xt (pa_cons pe_str pa_nil) (fun pins σ H s h' e vs I hm hE => raise_leave I hm hE))) pss_nil)
      (pss_one (ps_ret (pe_call GN hr rfl mN kN bN .nil (passE fun _ _ _ z => z) (pa_cons (pe_ix ix_list (pv 1) pe_int (fun _ _ => rfl)) (pa_cons (pe_glob rfl few (v := .int 1) ⟨_, rfl⟩) (pa_cons (pe_glob rfl most (v := .int 20) ⟨_, rfl⟩) pa_nil))))))), ?_⟩
    refine ⟨_, rfl, line, rfl, hl, fun x y e l H1 hl1 s1 el => ?_, fun no H1 s1 => k2 (headP_none no) H1 s1⟩
    refine ⟨_, rfl, l, _, (0 : Int), .str x, rfl, rfl, SqL.of el, atI_nat (j := 0) rfl, rfl, _, rfl, ite2 (fun z => ?_) (fun z => ?_)⟩
    · refine ⟨by decide, k2 ?_ H1 s1⟩
      cases q : headP line with
      | none => rfl
      | some n =>
        have e2 := (headP_some q).2.2
        rw [e] at e2
        rw [(List.cons.inj e2).1] at z
        cases z
    · have ex : x = ("guests" : Str) := by
        by_cases q : x = ("guests" : Str)
        · exact q
        · refine absurd ?_ z
          show (!decide (V.str x = V.str "guests")) = true
          rw [decide_eq_false fun y => q (V.str.inj y)]
          rfl
      subst ex
      refine ⟨_, rfl, l, _, (1 : Int), .str y, rfl, rfl, SqL.of el, atI_nat (j := 1) rfl, y, 1, 21, rfl, by decide, by decide, fun n en h1 h2 => ?_, fun no => k2 ?_ H1 s1⟩
      · obtain ⟨_, rfl⟩ := numOf_iff.mp en
        exact k1 n (headP_of h1 (by (first | lia | omega)) e) H1 s1
      · cases q : headP line with
        | none => rfl
        | some n =>
          obtain ⟨h1, h2, e2⟩ := headP_some q
          rw [e] at e2
          have e3 := (List.cons.inj (List.cons.inj e2).2).1
          exact absurd ⟨h1, by (first | lia | omega)⟩ (no n (by rw [e3]; exact numOf_nS (by (first | lia | omega))))
end
section
variable {P : Program} {w : World} {K : PySem.W.Frag} {mg : Str → Option Value} {base : Heap} {a : Ad}
theorem scMT : FnScope ["hall", "line", "words", "last", "one", "other"] ["hall", "line"] (defScope sMT) := ⟨rfl, rfl, rfl, by decide +kernel, rfl, by decide +kernel, by decide +kernel⟩
theorem ok_mt {f : Addr} {fd : FuncData} (F : Fun K "meet_as_told" "meet_as_told" sMT f fd) (HX : HX P w K mg base a) (N : Nx K mg a) (FW : Fe P w K mg base "two_words" ["line"] 1 (spTW a)) (FN : Fe P w K mg base "number_told" ["word", "lowest", "highest"] 1 (spNT a)) :
    FnOk P w K mg base (CXe P w) 4 f fd ["hall", "line"] (spMT a) := by
  obtain ⟨fW, fdW, mW, kW, bW, GW⟩ := FW.ex
  obtain ⟨fN, fdN, mN, kN, bN, GN⟩ := FN.ex
  obtain ⟨f1, fd1, m1, b1, G1⟩ := HX.many.ex
  obtain ⟨f2, fd2, m2, b2, G2⟩ := HX.know.ex
  obtain ⟨f3, fd3, m3, b3, G3⟩ := HX.meet.ex
  have L := HX.L
  refine F.okE scMT (fun vs H Q E h => ?_) (fun cdv A outer s H vs Q E hr h => ?_)
  · obtain ⟨p, r, as, n, kn, line, rfl, _⟩ := h
    rfl
  · obtain ⟨p, r, as, n, kn, line, rfl, hH, hl, k1, k2⟩ := h
    have hr1 : Room 1 _ := hr.mono (by decide)
    have hr2 : Room 2 _ := hr.mono (by decide)
    refine ⟨_, pss_cons (ps_set (i := 2) scMT.nd rfl (Or.inl rfl) (pe_call GW hr1 rfl mW kW bW .nil (passE fun _ _ _ z => z) (pa_cons (pv 1) pa_nil)))
      (pss_cons (ps_set (i := 3) scMT.nd rfl (Or.inl rfl) (pe_op op_sub (pe_meth0 (pv 0) L.T.cl m1 G1 hr1 b1 .nil (passE fun _ _ _ z => z)) pe_int))
      (pss_cons (ps_set (i := 4) scMT.nd rfl (Or.inl rfl) (pe_call GN hr1 rfl mN kN bN .nil (passE fun _ _ _ z => z) (pa_cons (pe_ix ix_list (pv 2) pe_int (fun _ _ => rfl)) (pa_cons pe_int (pa_cons (pv 3) pa_nil)))))
      (pss_cons (ps_set (i := 5) scMT.nd rfl (Or.inl rfl) (pe_call GN hr1 rfl mN kN bN .nil (passE fun _ _ _ z => z) (pa_cons (pe_ix ix_list (pv 2) pe_int (fun _ _ => rfl)) (pa_cons (pe_op op_add (pv 4) pe_int) (pa_cons (pv 3) pa_nil)))))
      (pss_cons (ps_if (pt_truth (pe_meth (pv 0) L.T.cl m2 G2 hr2 b2 .nil (passE fun _ _ _ z => z) (pa_cons (pv 4) (pa_cons (pv 5) pa_nil))) (fun _ => rfl))
        (pss_one (ps_raise rfl rfl N.tx N.xt (pa_cons pe_str pa_nil) (fun pins σ H s h' e vs I hm hE => raise_leave I hm hE))) pss_nil)
      (pss_one (ps_expr (pe_meth (pv 0) L.T.cl m3 G3 hr b3 .nil (passE fun _ _ _ z => z) (pa_cons (pv 4) (pa_cons (pv 5) pa_nil))))))))), ?_⟩
    have n1 := hH.n1
    have n20 := hH.n20
    refine ⟨_, rfl, line, rfl, hl, fun x y e l H1 hl1 s1 el => ?_, fun no H1 s1 => k2 (fun i j q => absurd (twoP_nat q).1 (no _ _)) H1 s1⟩
    have hH1 := hH.same s1
    obtain ⟨dx, hp⟩ := hH1.ob
    refine ⟨_, rfl, p, dx, _, rfl, hp, rfl, p, r, as, n, kn, rfl, hH1, _, _, rfl, rfl, ?_⟩
    refine ⟨_, rfl, l, _, (0 : Int), .str x, rfl, rfl, SqL.of el, atI_nat (j := 0) rfl, _, rfl, x, 0, n, rfl, by (first | lia | omega), by (first | lia | omega), fun i ei _ hi => ?_, fun no => k2 (fun i j q => ?_) H1 s1⟩
    case refine_2 =>
      obtain ⟨q1, q2, q3, q4, q5⟩ := twoP_nat q
      rw [e] at q1
      exact absurd ⟨Nat.zero_le _, by (first | lia | omega)⟩ (no i (by rw [(List.cons.inj q1).1]; exact numOf_nS q4))
    obtain ⟨i21, rfl⟩ := numOf_iff.mp ei
    refine ⟨_, rfl, l, _, (1 : Int), .str y, rfl, rfl, SqL.of el, atI_nat (j := 1) rfl, _, rfl, _, _, rfl, rfl, _, rfl, y, i + 1, n, rfl, by (first | lia | omega), by (first | lia | omega), fun j ej hij hj => ?_, fun no => k2 (fun i' j q => ?_) H1 s1⟩
    case refine_2 =>
      obtain ⟨q1, q2, q3, q4, q5⟩ := twoP_nat q
      rw [e] at q1
      have q6 := nS_inj i i21 i' q4 (List.cons.inj q1).1
      exact absurd ⟨by (first | lia | omega), q3⟩ (no j (by rw [(List.cons.inj (List.cons.inj q1).2).1]; exact numOf_nS q5))
    obtain ⟨j21, rfl⟩ := numOf_iff.mp ej
    have t := twoP_of e (by (first | lia | omega)) hj i21 j21
    have oi : okG n (i : Int) := ⟨by (first | lia | omega), by (first | lia | omega)⟩
    have oj : okG n (j : Int) := ⟨by (first | lia | omega), by (first | lia | omega)⟩
    refine ⟨_, rfl, p, dx, _, rfl, hp, rfl, _, rfl, _, rfl, p, r, as, n, kn, (i : Int), (j : Int), rfl, hH1, ⟨fun z => absurd ⟨oi, oj⟩ z, fun _ _ z => absurd z (by (first | lia | omega))⟩, fun _ _ _ => ⟨_, rfl, ite2 (fun z => ?_) (fun z => ?_)⟩⟩
    · rw [Int.toNat_natCast, Int.toNat_natCast] at z
      refine ⟨by decide, k2 (fun i' j' q => ?_) H1 s1⟩
      rw [t] at q
      have q' := Option.some.inj q
      have e1 := (List.cons.inj q').1
      have e2 := (List.cons.inj (List.cons.inj q').2).1
      have e3 : i = i' := by (first | lia | omega)
      have e4 : j = j' := by (first | lia | omega)
      rw [← e3, ← e4]
      exact z
    · rw [Int.toNat_natCast, Int.toNat_natCast] at z
      have z' : kn i j = false := by simpa using z
      refine ⟨_, rfl, p, dx, _, rfl, hp, rfl, _, rfl, _, rfl, p, r, as, n, kn, (i : Int), (j : Int), rfl, hH1, ⟨fun z => absurd ⟨oi, oj⟩ z, fun _ _ z => absurd z (by (first | lia | omega))⟩, fun _ _ _ q => ?_, fun _ _ _ _ H2 A2 kp => ?_⟩
      · rw [Int.toNat_natCast, Int.toNat_natCast, z'] at q
        cases q
      · rw [Int.toNat_natCast, Int.toNat_natCast] at A2
        exact k1 i j t (by (first | lia | omega)) hj z' H2 A2 fun c o ec hc => kp c o (s1 c o ec) hc
end
section
variable {P : Program} {w : World} {K : PySem.W.Frag} {mg : Str → Option Value} {base : Heap} {a : Ad}
theorem scRd : FnScope ["text", "lines", "hall", "line"] ["text"] (defScope sRead) := ⟨rfl, rfl, rfl, by decide +kernel, rfl, by decide +kernel, by decide +kernel⟩
theorem ok_rd {f : Addr} {fd : FuncData} (F : Fun K "read" "read" sRead f fd) (HX : HX P w K mg base a) (N : Nx K mg a) (FG : Fe P w K mg base "guests_told" ["line"] 2 (spGT a)) (FM : Fe P w K mg base "meet_as_told" ["hall", "line"] 4 (spMT a)) :
    FnOk P w K mg base (CXe P w) 5 f fd ["text"] (spRd a) := by
  obtain ⟨fG, fdG, mG, kG, bG, GG⟩ := FG.ex
  obtain ⟨fM, fdM, mM, kM, bM, GM⟩ := FM.ex
  obtain ⟨fI, fdI, MI, bI, GI⟩ := HX.make
  have L := HX.L
  refine F.okE scRd (fun vs H Q E h => ?_) (fun cdv A outer s H vs Q E hr h => ?_)
  · obtain ⟨text, rfl, _⟩ := h
    rfl
  · obtain ⟨text, rfl, hl, k1, k2⟩ := h
    have hr2 : Room 2 _ := hr.mono (by decide)
    have hr3 : Room 3 _ := hr.mono (by decide)
    refine ⟨_, pss_cons (ps_set (i := 1) scRd.nd rfl (Or.inl rfl) (pe_bm PySem.F.plainAttrs_str PySem.F.slot_str_split PySem.F.type_str_split mt_split (pv 0) (pa_cons pe_str pa_nil)))
      (pss_cons (ps_if (pt_cmpR op_ne (pe_ix ix_list (pv 1) (pe_un un_neg pe_int) (fun _ _ => rfl)) pe_str (nomark _))
        (pss_one (ps_raise rfl rfl N.tx N.xt (pa_cons pe_str pa_nil) (fun pins σ H s h' e vs I hm hE => raise_leave I hm hE))) pss_nil)
      (pss_cons (ps_set (i := 2) scRd.nd rfl (Or.inl rfl) (pe_make MI GI hr3 rfl L.T.mgC bI .nil (passE fun _ _ _ z => z) (pa_cons (pe_call GG hr2 rfl mG kG bG .nil (passE fun _ _ _ z => z) (pa_cons (pe_ix ix_list (pv 1) pe_int (fun _ _ => rfl)) pa_nil)) pa_nil)))
      (pss_cons (ps_for PassesOwn.leaving rfl (pi_list (pe_slice sl_list (pv 1) (po_some pe_int) (po_some (pe_un un_neg pe_int)))) (pg_name (i := 3) scRd.nd rfl (Or.inl rfl))
        (pss_one (ps_expr (pe_call GM hr rfl mM kM bM .nil (passE fun _ _ _ z => z) (pa_cons (pv 2) (pa_cons (pv 3) pa_nil))))))
      (pss_one (ps_ret (pv 2)))))), ?_⟩
    refine ⟨_, rfl, rfl, text, "\n", rfl, rfl, rfl, Nat.le_trans (Nat.add_le_add_right hl 2) (by rw [sizeLine_eq]; decide), fun l hl1 => ?_⟩
    rw [nl_split]
    have s1 : Same H (upd H l (.lst ((spl text 10).map V.str))) := same_new (Same.refl _) hl1
    have el : upd H l (.lst ((spl text 10).map V.str)) l = some (.lst ((spl text 10).map V.str)) := upd_same
    revert s1 el
    generalize upd H l (.lst ((spl text 10).map V.str)) = H1
    intro s1 el
    have hne := spl_ne text 10
    have eb : spl text 10 = (spl text 10).dropLast ++ [(spl text 10).getLast hne] := (List.dropLast_concat_getLast hne).symm
    have la : atI ((spl text 10).map V.str) (-1) = some (.str ((spl text 10).getLast hne)) := by
      conv => lhs; rw [eb]
      rw [List.map_append]
      exact atI_last _ _
    have lq : (spl text 10).getLast? = some ((spl text 10).getLast hne) := List.getLast?_eq_some_getLast hne
    refine ⟨_, rfl, _, rfl, l, _, _, _, rfl, rfl, SqL.of el, la, rfl, _, rfl, ite2 (fun z => ?_) (fun z => ?_)⟩
    · refine ⟨by decide, k2 ?_ H1 s1⟩
      unfold readP
      rw [if_neg]
      rw [lq]
      intro q
      rw [Option.some.inj q] at z
      cases z
    have ee : (spl text 10).getLast hne = ⟨#[]⟩ := by
      by_cases q : (spl text 10).getLast hne = ⟨#[]⟩
      · exact q
      · refine absurd ?_ z
        show (!decide (V.str ((spl text 10).getLast hne) = V.str ⟨#[]⟩)) = true
        rw [decide_eq_false fun y => q (V.str.inj y)]
        rfl
    have er : readP text = linesP (spl text 10).dropLast := by
      unfold readP
      rw [lq, ee, if_pos rfl]
    rw [ee] at eb
    rw [er] at k1 k2
    have short : ∀ x ∈ spl text 10, x.length ≤ 1000000 := fun x hx => Nat.le_trans (spl_short hx) (by (first | lia | omega))
    obtain ⟨body, eb, k1, k2⟩ : ∃ body, spl text 10 = body ++ [⟨#[]⟩] ∧
        (∀ n kss, linesP body = some (n, kss) → ∀ p r as kn H', H p = none → H r = none → (∀ b ∈ as, H b = none) → Same H H' → HallAt a.C H' p r as n kn → Rel n kn kss → Q (.ref p) H') ∧ (linesP body = none → ∀ H', Same H H' → E (.ref a.eTxt) none H') := ⟨_, eb, k1, k2⟩
    rw [eb] at el short
    cases body with
    | nil =>
      refine ⟨_, rfl, l, _, (0 : Int), .str ⟨#[]⟩, rfl, rfl, SqL.of el, atI_nat (j := 0) rfl, ⟨#[]⟩, rfl, by decide, fun n en => ?_, fun no H2 s2 => k2 rfl H2 (s1.trans s2)⟩
      have e1 := (headP_some en).2.2
      have e2 : spl ⟨#[]⟩ 32 = [⟨#[]⟩] := spl_is (by simp) (fun p hp => by rw [List.mem_singleton.mp hp]; decide) (Str.join.eq_2 _ _)
      rw [e2] at e1
      cases e1
    | cons h r =>
      refine ⟨_, rfl, l, _, (0 : Int), .str h, rfl, rfl, SqL.of el, atI_nat (j := 0) rfl, h, rfl, short h (by simp), fun n en H2 s2 p dx np nd ne => ?_, fun no H2 s2 => k2 (by unfold linesP; dsimp only; rw [no]) H2 (s1.trans s2)⟩
      obtain ⟨n1, n20, _⟩ := headP_some en
      refine ⟨p, dx, (n : Int), rfl, upd_same, fun z => absurd ⟨by (first | lia | omega), by (first | lia | omega)⟩ z, fun _ _ rr as H3 A0 fr fa kp => ⟨rfl, ?_⟩⟩
      rw [Int.toNat_natCast] at A0
      have s02 : Same H H2 := s1.trans s2
      have s0 : Same H2 (upd (upd H2 dx (.own p)) p (.ins a.C dx [])) := same_new (same_new (Same.refl _) nd) np
      have s3 : Same H2 H3 := fun b o e => kp b o (s0 b o e) (ne_of_none e np)
      have fas : ∀ b ∈ as, H2 b = none := fun b hb => s0.free (fa b hb)
      have el3 := s3 l _ (s2 l _ el)
      have ec : cutV ((h :: r ++ [(⟨#[]⟩ : Str)]).map V.str) (some 1) (some (-1)) = r.map V.str := by
        rw [List.map_append, List.map_cons]
        exact cut_mid _ _ _
      refine ⟨_, rfl, _, rfl, _, rfl, _, rfl, l, _, rfl, SqL.of el3, fun c hc => ⟨c, rfl, ⟨_, SqL.of upd_same⟩, ?_⟩⟩
      have cna : c ∉ as := notin_as' A0 hc
      have s4 : Same H3 (upd H3 c (.lst (cutV ((h :: r ++ [(⟨#[]⟩ : Str)]).map V.str) (some 1) (some (-1))))) := same_new (Same.refl _) hc
      refine for_list (K := K) (a := c) (xs := r.map V.str) (fun i σ H4 => Same H2 H4 ∧ H4 c = some (.lst (r.map V.str)) ∧ (∃ kn acc, HallAt a.C H4 p rr as n kn ∧ Rel n kn acc ∧ rdP n r [] = rdP n (r.drop i) acc) ∧ ∃ v, σ = [some (.str text), some (.ref l), some (.ref p), v])
        ⟨s3.trans s4, by rw [← ec]; exact upd_same, ⟨_, [], A0.same s4, Rel.nil n, by rw [List.drop_zero]⟩, none, rfl⟩ (fun i σ H4 _ ⟨_, e, _⟩ => SqL.of e) ?_ ?_
      · rintro i y σ H4 hi ⟨s4, e4, ⟨kn, acc, A4, R4, d4⟩, v, rfl⟩
        obtain ⟨x, rfl, ex⟩ := str_at hi
        obtain ⟨hlt, hx'⟩ := List.getElem?_eq_some_iff.mp ex
        have hx : x ∈ h :: r ++ [(⟨#[]⟩ : Str)] := List.mem_append_left _ (List.mem_cons_of_mem _ (List.mem_of_getElem? ex))
        rw [List.drop_eq_getElem_cons hlt, hx'] at d4
        refine ⟨_, rfl, _, rfl, p, rr, as, n, kn, x, rfl, A4, short x hx, fun i' j' t hij hj kf H5 A5 k5 => ?_, fun no H5 s5 => k2 ?_ H5 (s02.trans (s4.trans s5))⟩
        · have oi : okG n (i' : Int) := ⟨by (first | lia | omega), by (first | lia | omega)⟩
          have oj : okG n (j' : Int) := ⟨by (first | lia | omega), by (first | lia | omega)⟩
          have nin : pr (i' : Int) (j' : Int) ∉ acc := by
            have := R4.mem i' j' (by (first | lia | omega)) hj
            rw [kf] at this
            exact of_decide_eq_false this.symm
          have R5 := R4.add oi oj nin
          rw [Int.toNat_natCast, Int.toNat_natCast, pr_lt hij] at R5
          rw [pr_lt hij] at nin
          refine ⟨fun b o e => k5 b o (s4 b o e) fun z => ?_, k5 c _ e4 cna, ⟨_, _, A5, R5, by rw [← rdP_next t nin]; exact d4⟩, _, rfl⟩
          rw [fas b z] at e
          cases e
        · unfold linesP
          dsimp only
          rw [en]
          dsimp only
          rw [d4, rdP_none fun ks e => ?_]
          · rfl
          · obtain ⟨i', j', _, hij, hj, _, _, rfl⟩ := twoP_some e
            have q := no i' j' e
            rw [R4.mem i' j' (by (first | lia | omega)) hj, pr_lt hij] at q
            exact of_decide_eq_true q
      · rintro σ H4 ⟨s4, e4, ⟨kn, acc, A4, R4, d4⟩, v, rfl⟩
        rw [List.length_map, List.drop_length] at d4
        exact ⟨_, rfl, k1 n acc (by unfold linesP; dsimp only; rw [en]; dsimp only; rw [d4]; rfl) p rr as kn H4 (s02.free np) (s02.free (s0.free fr)) (fun b hb => s02.free (fas b hb)) (s02.trans s4) A4 R4⟩
end
end Kn
set_option Elab.async false
set_option linter.all false
set_option maxRecDepth 100000
set_option maxHeartbeats 4000000
namespace Kn
open PySem L2
/-! ### the law's own reading -/
def spSg : Sp := fun vs H Q _ => ∃ c : Int, vs = [.int c] ∧ ∀ ch : Nat, Q (.str ⟨#[ch]⟩) H
def spNu : Sp := fun vs H Q _ => ∃ w : Str, vs = [.str w] ∧ w.length ≤ 1000000 ∧ Q (.int (numZ w)) H
def spDu : Sp := fun vs H Q _ => ∃ (l : Addr) (ls : List Str), vs = [.ref l] ∧ H l = some (.lst (ls.map V.str)) ∧ ls.length ≤ 1000000 ∧ (∀ x ∈ ls, x.length ≤ 1000000) ∧ (linesP ls = none → ∀ H', Same H H' → Q .non H') ∧
  (∀ n kss, linesP ls = some (n, kss) → ∀ t q ts H', Same H H' → H' t = some (.tup [.int (n : Nat), .ref q]) → H' q = some (.lst (ts.map V.ref)) → Tups H' ts kss → Q (.ref t) H')
def spSp : Sp := fun vs H Q _ => ∃ (l : Addr) (ls : List Str) (c : Int), vs = [.ref l, .int c] ∧ H l = some (.lst (ls.map V.str)) ∧ ls ≠ [] ∧ ls.length ≤ 450 ∧ (∀ x ∈ ls, x.length ≤ 100) ∧
  ∀ (p : Addr) (ys : List Str) (H' : Hp), Same H H' → H' p = some (.lst (ys.map V.str)) → ys.length ≤ 1000 → (∀ x ∈ ys, x.length ≤ 300) → Q (.ref p) H'
theorem upd_again (H : Hp) (D : Addr) (x y : HO) : upd (upd H D x) D y = upd H D y := by
  funext b
  by_cases e : b = D
  · subst e
    rw [upd_same, upd_same]
  · rw [upd_ne e, upd_ne e, upd_ne e]
/-- [te for z in a list of texts], where te leaves the heap as it is -/
theorem comp_strs {K : PySem.W.Frag} {al : Addr} {zs : List Str} {js : List Nat} {te : TE} {σ : St} {H1 : Hp} {R : Addr → Hp → Prop} (g : Str → V) (hn : zs.length < sizeLine) (hl : H1 al = some (.lst (zs.map V.str)))
    (step : ∀ H z (Q : VK), z ∈ zs → Q (g z) H → te (some (.str z) :: seen js σ) H Q) (hd : ∀ D, H1 D = none → R D (upd H1 D (.lst (zs.map g)))) : ∀ D, H1 D = none → ∃ W : Nat → Nat → List V → Hp → Prop, (∃ m, W 0 m [] (upd H1 D (.lst []))) ∧
  ∀ i m ys H, W i m ys H → H D = some (.lst ys) ∧ ys.length < sizeLine ∧ (((Itl K al).stop i H ∧ R D H) ∨ ((Itl K al).go i H ∧ ∀ x H', (Itl K al).yld i H x H' → tYes (some x :: seen js σ) H' fun ok H2 =>
    if ok = true then te (some x :: seen js σ) H2 fun y H3 => H3 D = some (.lst ys) ∧ ∃ m', m' < m ∧ W (i + 1) m' (ys ++ [y]) (upd H3 D (.lst (ys ++ [y])))
    else ∃ m', m' < m ∧ W (i + 1) m' ys H2)) := by
  intro D hD
  have na : al ≠ D := ne_of_none hl hD
  refine ⟨fun i m ys H => m = zs.length - i ∧ i ≤ zs.length ∧ ys = (zs.take i).map g ∧ H = upd H1 D (.lst ((zs.take i).map g)), ⟨zs.length, rfl, Nat.zero_le _, rfl, rfl⟩, ?_⟩
  rintro i m ys H ⟨rfl, hi, rfl, rfl⟩
  have hal : SqL K (upd H1 D (.lst ((zs.take i).map g))) al (zs.map V.str) := SqL.of (by rw [upd_ne na]; exact hl)
  refine ⟨upd_same, by rw [List.length_map, List.length_take]; (first | lia | omega), ?_⟩
  by_cases hlt : i < zs.length
  · refine .inr ⟨⟨_, .str zs[i], hal, by rw [List.getElem?_map, List.getElem?_eq_getElem hlt]; rfl⟩, fun x H' y => ?_⟩
    obtain ⟨e1, e2⟩ := y
    subst e1
    have e3 := e2 _ hal
    rw [List.getElem?_map, List.getElem?_eq_getElem hlt] at e3
    have e4 : V.str zs[i] = x := Option.some.inj e3
    subst e4
    have ei : zs.take (i + 1) = zs.take i ++ [zs[i]] := by rw [List.take_add_one, List.getElem?_eq_getElem hlt]; rfl
    unfold tYes
    dsimp only
    rw [if_pos rfl]
    refine step _ _ _ (List.getElem_mem hlt) ⟨upd_same, zs.length - (i + 1), by (first | lia | omega), rfl, hlt, ?_, ?_⟩
    · rw [ei, List.map_append]
      rfl
    · rw [ei, List.map_append, upd_again]
      rfl
  · have e : i = zs.length := by (first | lia | omega)
    subst e
    refine .inl ⟨⟨_, hal, by rw [List.length_map]; exact Nat.le_refl _⟩, ?_⟩
    rw [List.take_length]
    exact hd D hD
theorem star_str (x : Str) (j : Nat) (pos : Pos) (es : List Expr) (env : Env) : starEach (.Constant (.str x) j pos :: es) env = (false, eval (.Constant (.str x) j pos) env) :: starEach es env := rfl
theorem pa_str {X : Cx} {x : Str} {j : Nat} {pos : Pos} {es : List Expr} {t : TA} (hr : PA X es t) : PA X (.Constant (.str x) j pos :: es) (tCons (tC (.str x)) t) := pa_cons pe_str hr (star_str x j pos es X.env)
theorem comp_rng {n : Nat} {js : List Nat} {te : TE} {σ : St} {H1 : Hp} {R : Addr → Hp → Prop} (g : Nat → V) (hn : n < sizeLine)
    (step : ∀ H i (Q : VK), i < n → Q (g i) H → te (some (.int ((0 : Int) + (i : Nat))) :: seen js σ) H Q) (hd : ∀ D, H1 D = none → R D (upd H1 D (.lst ((List.range n).map g)))) : ∀ D, H1 D = none → ∃ W : Nat → Nat → List V → Hp → Prop, (∃ m, W 0 m [] (upd H1 D (.lst []))) ∧
  ∀ i m ys H, W i m ys H → H D = some (.lst ys) ∧ ys.length < sizeLine ∧ (((Itr 0 n).stop i H ∧ R D H) ∨ ((Itr 0 n).go i H ∧ ∀ x H', (Itr 0 n).yld i H x H' → tYes (some x :: seen js σ) H' fun ok H2 =>
    if ok = true then te (some x :: seen js σ) H2 fun y H3 => H3 D = some (.lst ys) ∧ ∃ m', m' < m ∧ W (i + 1) m' (ys ++ [y]) (upd H3 D (.lst (ys ++ [y])))
    else ∃ m', m' < m ∧ W (i + 1) m' ys H2)) := by
  intro D hD
  refine ⟨fun i m ys H => m = n - i ∧ i ≤ n ∧ ys = (List.range i).map g ∧ H = upd H1 D (.lst ((List.range i).map g)), ⟨n, rfl, Nat.zero_le _, rfl, rfl⟩, ?_⟩
  rintro i m ys H ⟨rfl, hi, rfl, rfl⟩
  refine ⟨upd_same, by rw [List.length_map, List.length_range]; (first | lia | omega), ?_⟩
  by_cases hlt : i < n
  · refine .inr ⟨hlt, fun x H' y => ?_⟩
    obtain ⟨e1, e2⟩ := y
    subst e1 e2
    unfold tYes
    dsimp only
    rw [if_pos rfl]
    refine step _ _ _ hlt ⟨upd_same, n - (i + 1), by (first | lia | omega), rfl, hlt, ?_, ?_⟩
    · rw [List.range_succ, List.map_append]
      rfl
    · rw [List.range_succ, List.map_append, upd_again]
      rfl
  · have e : i = n := by (first | lia | omega)
    subst e
    exact .inl ⟨Nat.le_refl _, hd D hD⟩
/-- [te for one, other in a list of pairs] -/
theorem comp_tups {K : PySem.W.Frag} {al : Addr} {ts : List Addr} {kss : List (List Int)} {js : List Nat} {te : TE} {σ : St} {H1 : Hp} {R : Addr → Hp → Prop} (g : List Int → Str) (hn : ts.length < sizeLine) (hl : H1 al = some (.lst (ts.map V.ref))) (hT : Tups H1 ts kss)
    (hm : ∀ ks ∈ kss, ∃ i j : Int, ks = [i, j]) (step : ∀ H i j (Q : VK), [i, j] ∈ kss → Q (.str (g [i, j])) H → te (some (.int i) :: some (.int j) :: seen js σ) H Q) (hd : ∀ D, H1 D = none → R D (upd H1 D (.lst ((kss.map g).map V.str)))) :
    ∀ D, H1 D = none → ∃ W : Nat → Nat → List V → Hp → Prop, (∃ m, W 0 m [] (upd H1 D (.lst []))) ∧
  ∀ i m ys H, W i m ys H → H D = some (.lst ys) ∧ ys.length < sizeLine ∧ (((Itl K al).stop i H ∧ R D H) ∨ ((Itl K al).go i H ∧ ∀ x H', (Itl K al).yld i H x H' → ∃ t xa xb, x = .ref t ∧ SqT K H' t [xa, xb] ∧
    te (some xa :: some xb :: seen js σ) H' fun y H3 => H3 D = some (.lst ys) ∧ ∃ m', m' < m ∧ W (i + 1) m' (ys ++ [y]) (upd H3 D (.lst (ys ++ [y]))))) := by
  intro D hD
  have na : al ≠ D := ne_of_none hl hD
  have le := hT.length
  refine ⟨fun i m ys H => m = ts.length - i ∧ i ≤ ts.length ∧ ys = ((kss.take i).map g).map V.str ∧ H = upd H1 D (.lst (((kss.take i).map g).map V.str)), ⟨ts.length, rfl, Nat.zero_le _, rfl, rfl⟩, ?_⟩
  rintro i m ys H ⟨rfl, hi, rfl, rfl⟩
  have hal : SqL K (upd H1 D (.lst (((kss.take i).map g).map V.str))) al (ts.map V.ref) := SqL.of (by rw [upd_ne na]; exact hl)
  refine ⟨upd_same, by rw [List.length_map, List.length_map, List.length_take]; (first | lia | omega), ?_⟩
  by_cases hlt : i < ts.length
  · refine .inr ⟨⟨_, .ref ts[i], hal, by rw [List.getElem?_map, List.getElem?_eq_getElem hlt]; rfl⟩, fun x H' y => ?_⟩
    obtain ⟨e1, e2⟩ := y
    subst e1
    have e3 := e2 _ hal
    rw [List.getElem?_map, List.getElem?_eq_getElem hlt] at e3
    have e4 : V.ref ts[i] = x := Option.some.inj e3
    subst e4
    obtain ⟨ks, e5, e6⟩ := hT.get (List.getElem?_eq_getElem hlt)
    have hk := List.mem_of_getElem? e5
    obtain ⟨x, y, rfl⟩ := hm ks hk
    have ei : kss.take (i + 1) = kss.take i ++ [[x, y]] := by rw [List.take_add_one, e5]; rfl
    refine ⟨ts[i], .int x, .int y, rfl, SqT.of (by rw [upd_ne (ne_of_none e6 hD)]; exact e6), step _ _ _ _ hk ⟨upd_same, ts.length - (i + 1), by (first | lia | omega), rfl, hlt, ?_, ?_⟩⟩
    · rw [ei, List.map_append, List.map_append]
      rfl
    · rw [ei, List.map_append, List.map_append, upd_again]
      rfl
  · have e : i = ts.length := by (first | lia | omega)
    subst e
    refine .inl ⟨⟨_, hal, by rw [List.length_map]; exact Nat.le_refl _⟩, ?_⟩
    rw [le, List.take_length]
    exact hd D hD
theorem readP_ok {t : Str} {n : Nat} {kss : List (List Int)} (h : readP t = some (n, kss)) : RdOk n kss ∧ 1 ≤ n ∧ n ≤ 20 := by
  unfold readP at h
  split at h
  · exact linesP_ok h
  · cases h
theorem nodup_le {α : Type} [DecidableEq α] : ∀ {l m : List α}, l.Nodup → (∀ x ∈ l, x ∈ m) → l.length ≤ m.length
  | [], _, _, _ => Nat.zero_le _
  | x :: r, m, nd, h => by
    obtain ⟨n1, n2⟩ := List.nodup_cons.mp nd
    have hx := h x List.mem_cons_self
    have ih := nodup_le (l := r) (m := m.erase x) n2 fun y hy => (List.mem_erase_of_ne (show y ≠ x from fun z => n1 (by rw [← z]; exact hy))).mpr (h y (List.mem_cons_of_mem _ hy))
    rw [List.length_erase_of_mem hx] at ih
    have := List.length_pos_of_mem hx
    rw [List.length_cons]
    (first | lia | omega)
theorem RdOk.len {n : Nat} {kss : List (List Int)} (h : RdOk n kss) (hn : n ≤ 20) : kss.length ≤ 1000 := by
  refine Nat.le_trans (nodup_le (m := pairsL (fun _ _ => true) n n) h.nd fun ks hk => ?_) (Nat.le_trans (pairsL_len _ n n) (Nat.le_trans (Nat.mul_le_mul hn hn) (by decide)))
  obtain ⟨i, j, h1, h2, rfl⟩ := h.mem ks hk
  unfold pairsL rowP knownL
  exact List.mem_flatMap.mpr ⟨i, List.mem_range.mpr (by (first | lia | omega)), List.mem_map.mpr ⟨j, List.mem_filter.mpr ⟨List.mem_filter.mpr ⟨List.mem_range.mpr h2, rfl⟩, decide_eq_true h1⟩, rfl⟩⟩
/-! sealed: Lean's elaborator would else run the text ahead of the proof -/
@[irreducible] def PEi (X : Cx) (e : Expr) (t : TE) : Prop := PE X e t
@[irreducible] def PAi (X : Cx) (es : List Expr) (t : TA) : Prop := PA X es t
@[irreducible] def PSi (X : Cx) (st : Stmt) (t : TS) : Prop := PS X st t
@[irreducible] def PSsi (X : Cx) (st : List Stmt) (t : TS) : Prop := PSs X st t
theorem pai_nil {X : Cx} : PAi X [] tNil := by unfold PAi; exact pa_nil
theorem pai_str {X : Cx} {x : Str} {j : Nat} {pos : Pos} {es : List Expr} {t : TA} (hr : PAi X es t) : PAi X (.Constant (.str x) j pos :: es) (tCons (tC (.str x)) t) := by
  unfold PAi at hr ⊢
  exact pa_str hr
theorem pei_lst {X : Cx} {es : List Expr} {t : TA} {pos : Pos} (h : PAi X es t) : PEi X (.List es pos) (tLst t) := by
  unfold PAi at h
  unfold PEi
  exact pe_lst h
theorem pei_of {X : Cx} {e : Expr} {t : TE} (h : PE X e t) : PEi X e t := by unfold PEi; exact h
theorem pei_cat {X : Cx} {a b : Expr} {ta tb : TE} {pos : Pos} (ha : PEi X a ta) (hb : PEi X b tb) : PEi X (.BinOp a .Add b pos) (tOp rCat ta tb) := by
  unfold PEi at ha hb ⊢
  exact pe_op op_cat ha hb
theorem psi_set {X : Cx} {i : Nat} {x : Str} {e : Expr} {te : TE} {pos' pos : Pos} (hN : X.N.Nodup) (hi : X.N[i]? = some x) (hx : X.env.scope.names.lookup x = some .local) (he : PEi X e te) (hs : swapsWith e (some (.Name x pos')) pos.line X.env = pure false) : PSi X (.Assign [.Name x pos'] e pos) (tAsg te (gName i)) := by
  unfold PEi at he
  unfold PSi
  exact ps_set hN hi (Or.inl hx) he hs (.inr hx)
theorem pssi_cons {X : Cx} {st : Stmt} {rest : List Stmt} {t u : TS} (h1 : PSi X st t) (h2 : PSsi X rest u) : PSsi X (st :: rest) (tSeq t u) := by
  unfold PSi at h1
  unfold PSsi at h2 ⊢
  exact pss_cons h1 h2
theorem pssi_of {X : Cx} {rest : List Stmt} {u : TS} (h : PSs X rest u) : PSsi X rest u := by unfold PSsi; exact h
theorem cut_tail (x : V) (r : List V) : cutV (x :: r) (some 1) none = r := by
  unfold cutV
  have e1 : HT.sIx (x :: r).length 0 (some 1) = 1 := by
    show (if (1 : Int) < 0 then ((1 : Int) + ((x :: r).length : Int)).toNat else min (1 : Int).toNat (x :: r).length) = 1
    rw [if_neg (by decide)]
    simp
  have e2 : HT.sIx (x :: r).length (x :: r).length none = r.length + 1 := rfl
  rw [e1, e2]
  simp
theorem ne_two {x : V} {n : Int} (h : ¬ (!decide (x = .int n)) = true) : x = .int n := by
  by_cases q : x = .int n
  · exact q
  · refine absurd ?_ h
    rw [decide_eq_false q]
    rfl
section
variable {P : Program} {w : World} {K : PySem.W.Frag} {mg : Str → Option Value} {base : Heap} {a : Ad}
theorem scSg : FnScope ["cell", "some"] ["cell"] (defScope sLSg) := ⟨rfl, rfl, rfl, by decide +kernel, rfl, by decide +kernel, by decide +kernel⟩
theorem at_len {z : Str} {n : Nat} (h : z.cps.toList.length = n) (n0 : 0 < n) (c : Int) : ∃ ch, atI z.cps.toList (c % (n : Int)) = some ch := by
  have h0 := Int.emod_nonneg c (show (n : Int) ≠ 0 by (first | lia | omega))
  have h1 := Int.emod_lt_of_pos c (show 0 < (n : Int) by (first | lia | omega))
  have hi : (c % (n : Int)).toNat < z.cps.toList.length := by (first | lia | omega)
  exact ⟨_, atI_int h0 (List.getElem?_eq_getElem hi)⟩
theorem ok_sg {f : Addr} {fd : FuncData} (F : Fun K "_law_sign_by" "_law_sign_by" sLSg f fd) : FnOk P w K mg base CX0 1 f fd ["cell"] spSg := by
  refine F.ok scSg (fun vs H Q E h => ?_) (fun cdv A outer s H vs Q E hr h => ?_)
  · obtain ⟨c, rfl, _⟩ := h
    rfl
  · obtain ⟨c, rfl, k⟩ := h
    refine ⟨_, pss_cons (ps_set (i := 1) scSg.nd rfl (Or.inl rfl) pe_str)
      (pss_cons (ps_set (i := 1) scSg.nd rfl (Or.inl rfl) (pe_op op_add_str (pv 1) pe_str))
      (pss_one (ps_ret (pe_ix ix_str (pv 1) (pe_op op_mod (pv 0) pe_int) (fun _ _ => rfl))))), ?_⟩
    refine ⟨_, rfl, _, _, rfl, rfl, by decide +kernel, _, rfl, _, rfl, _, _, rfl, rfl, (by show (0 : Int) < 94; decide), ?_⟩
    obtain ⟨ch, e⟩ := at_len (z := (" !\"#$&'()*+,-./0123456789:;<=>?@ABCDEFGHIJKLMNOPQRSTUVWXYZ[\\]^_`" : Str) ++ ("abcdefghijklmnopqrstuvwxyz{|}~" : Str)) (n := 94) (by decide +kernel) (by decide) c
    exact ⟨_, _, ch, rfl, rfl, by decide +kernel, e, k ch⟩
end
theorem dig_mem {c : Nat} : c ∈ ("0123456789" : Str).cps.toList ↔ 48 ≤ c ∧ c ≤ 57 := by
  have e : ("0123456789" : Str).cps.toList = [48, 49, 50, 51, 52, 53, 54, 55, 56, 57] := by decide +kernel
  rw [e]
  simp only [List.mem_cons, List.not_mem_nil, or_false]
  (first | lia | omega)
section
variable {P : Program} {w : World} {K : PySem.W.Frag} {mg : Str → Option Value} {base : Heap} {a : Ad}
theorem scNu : FnScope ["word", "sign"] ["word"] (defScope sLNu) := ⟨rfl, rfl, rfl, by decide +kernel, rfl, by decide +kernel, by decide +kernel⟩
theorem ok_nu {f : Addr} {fd : FuncData} (F : Fun K "_law_number" "_law_number" sLNu f fd) (L : Lx K mg a) : FnOk P w K mg base CX0 1 f fd ["word"] spNu := by
  refine F.ok scNu (fun vs H Q E h => ?_) (fun cdv A outer s H vs Q E hr h => ?_)
  · obtain ⟨w', rfl, _⟩ := h
    rfl
  · obtain ⟨w', rfl, hl, k⟩ := h
    refine ⟨_, pss_cons (ps_if (PW.pt (pw_or (pt_cmpR op_lt (pe_callB call_len_str (by rfl) L.T.len PySem.boot_len (pa_cons (pv 0) pa_nil)) pe_int (nomark _)) (pw_or (pt_cmpR op_gt (pe_callB call_len_str (by rfl) L.T.len PySem.boot_len (pa_cons (pv 0) pa_nil)) pe_int (nomark _))
        (pw_or1 (PW.pt (pw_and (pt_cmpR op_eq (pe_callB call_len_str (by rfl) L.T.len PySem.boot_len (pa_cons (pv 0) pa_nil)) pe_int (nomark _)) (pw_and1 (pt_cmpR op_eq (pe_ix ix_str (pv 0) pe_int (fun _ _ => rfl)) pe_str (nomark _))))))))) (pss_one (ps_ret (pe_un un_neg pe_int))) pss_nil)
      (pss_cons (ps_for PassesOwn.never rfl (pi_str (pv 0)) (pg_name (i := 1) scNu.nd rfl (Or.inl rfl)) (pss_one (ps_if (pt_cmpR op_notIn_str (pv 1) pe_str (by with_unfolding_all rfl)) (pss_one (ps_ret (pe_un un_neg pe_int))) pss_nil)))
      (pss_one (ps_ret (pe_callTy call_int_text rfl L.zInt (by decide +kernel) (pa_cons (pv 0) pa_nil))))), ?_⟩
    have big : w'.length ≤ sizeLine := Nat.le_trans hl (by rw [sizeLine_eq]; decide)
    have kodd : odd2 w' → Q (.int (-1)) H := fun h => by
      have : numZ w' = -1 := by unfold numZ; rw [if_pos h]
      rw [this] at k
      exact k
    have loop : ¬ odd2 w' → tFor (iStr (tVar 0)) (gName 1) (tIfS (tTest (tOp (fun x y H Q => ∃ i j, x = V.str i ∧ y = V.str j ∧ Q (V.bl (!(!(Builtin.Str.occurrences j i 0 j.length 1).isEmpty))) H) (tVar 1) (tC (V.str ("0123456789" : Str))))) (tRet (tUn (rU fun i => V.int (-i)) (tC (V.int 1)))) tNext)
        { nx := tRet (tCB (fun xs H Q => ∃ z n, xs = [V.str z] ∧ PySem.intText? z = some n ∧ z.length ≤ 640 ∧ Q (V.int n) H) (tCons (tVar 0) tNil)) { nx := fun _ H' => Q .non H', rt := Q }, rt := Q } [some (.str w'), none] H := fun ho => by
      refine ⟨_, rfl, w', rfl, for_str (z := w') (fun i σ H2 => H2 = H ∧ (∀ c ∈ w'.cps.toList.take i, 48 ≤ c ∧ c ≤ 57) ∧ ∃ v, σ = [some (.str w'), v]) ⟨rfl, fun c hc => by simp at hc, none, rfl⟩ ?_ ?_⟩
      · rintro i c σ H2 hc ⟨rfl, all, v, rfl⟩
        refine ⟨_, rfl, _, _, rfl, rfl, _, rfl, ?_⟩
        rw [StrLaws.found_one]
        refine ite2 (fun z => ?_) (fun z => ?_)
        · have nd : ¬ (48 ≤ c ∧ c ≤ 57) := fun q => by
            rw [decide_eq_true (dig_mem.mpr q)] at z
            cases z
          have e : numZ w' = -1 := by
            unfold numZ
            rw [if_neg ho, if_neg]
            intro d
            exact nd (of_decide_eq_true (List.all_eq_true.mp d c (List.mem_of_getElem? hc)))
          rw [e] at k
          exact ⟨_, rfl, k⟩
        · have dg : 48 ≤ c ∧ c ≤ 57 := by
            by_cases q : 48 ≤ c ∧ c ≤ 57
            · exact q
            · exact absurd (by rw [decide_eq_false fun y => q (dig_mem.mp y)]; rfl) z
          refine ⟨rfl, fun x hx => ?_, _, rfl⟩
          rw [List.take_add_one, hc] at hx
          rcases List.mem_append.mp hx with hx | hx
          · exact all x hx
          · have : x = c := by simpa using hx
            rw [this]
            exact dg
      · rintro σ H2 ⟨rfl, all, v, rfl⟩
        rw [len_list, List.take_length] at all
        have l1 : 1 ≤ w'.length ∧ w'.length ≤ 2 := by
          unfold odd2 at ho
          (first | lia | omega)
        have e : numZ w' = (NumText.digitsVal w'.cps.toList : Int) := by
          unfold numZ
          rw [if_neg ho, if_pos]
          exact List.all_eq_true.mpr fun c hc => decide_eq_true (all c hc)
        rw [e] at k
        exact ⟨_, rfl, w', _, rfl, intText_digits all (fun z => by rw [len_list, z] at l1; exact absurd l1.1 (by decide)) (by (first | lia | omega)), by (first | lia | omega), k⟩
    refine ⟨_, rfl, w', rfl, big, _, _, rfl, rfl, _, rfl, ite2 (fun z => iteT ⟨_, rfl, kodd (.inl ?_)⟩) (fun z1 => ?_)⟩
    · have := of_decide_eq_true z
      (first | lia | omega)
    have z1 : ¬ ((w'.length : Int) < 1) := fun y => z1 (decide_eq_true y)
    refine ⟨_, rfl, w', rfl, big, _, _, rfl, rfl, _, rfl, ite2 (fun z => iteT ⟨_, rfl, kodd (.inr (.inl ?_))⟩) (fun z2 => ?_)⟩
    · have := of_decide_eq_true z
      (first | lia | omega)
    have z2 : ¬ ((2 : Int) < (w'.length : Int)) := fun y => z2 (decide_eq_true y)
    refine ⟨_, rfl, w', rfl, big, rfl, _, rfl, ite2 (fun z3 => ?_) (fun z3 => ?_)⟩
    · have l2 : w'.length = 2 := by
        have := V.int.inj (of_decide_eq_true z3)
        (first | lia | omega)
      have h0 : 0 < w'.cps.toList.length := by rw [← len_list]; (first | lia | omega)
      refine ⟨_, rfl, w', (0 : Int), w'.cps.toList[0], rfl, rfl, big, atI_nat (j := 0) (List.getElem?_eq_getElem h0), rfl, _, rfl, ite2 (fun z4 => ?_) (fun z4 => ?_)⟩
      · refine ⟨_, rfl, kodd (.inr (.inr ⟨l2, ?_⟩))⟩
        have e := congrArg (fun s : Str => s.cps.toList) (V.str.inj (of_decide_eq_true z4))
        have e2 : [w'.cps.toList[0]] = [48] := e
        rw [List.getElem?_eq_getElem h0, (List.cons.inj e2).1]
      · refine loop fun ho => ?_
        rcases ho with h | h | ⟨_, h⟩
        · (first | lia | omega)
        · (first | lia | omega)
        · rw [List.getElem?_eq_getElem h0] at h
          refine z4 (decide_eq_true ?_)
          rw [Option.some.inj h]
          rfl
    · refine loop fun ho => ?_
      rcases ho with h | h | ⟨h, _⟩
      · (first | lia | omega)
      · (first | lia | omega)
      · exact z3 (decide_eq_true (by rw [h]; rfl))
end
section
variable {P : Program} {w : World} {K : PySem.W.Frag} {mg : Str → Option Value} {base : Heap} {a : Ad}
theorem scDu : FnScope ["lines", "words", "many", "pairs", "line", "two"] ["lines"] (defScope sDue) := ⟨rfl, rfl, rfl, by decide +kernel, rfl, by decide +kernel, by decide +kernel⟩
theorem ok_du {f : Addr} {fd : FuncData} (F : Fun K "_law_due" "_law_due" sDue f fd) (L : Lx K mg a) (FN : Fc P w K mg base "_law_number" ["word"] 1 spNu) : FnOk P w K mg base CX0 2 f fd ["lines"] spDu := by
  obtain ⟨fN, fdN, mN, kN, bN, GN⟩ := FN.ex
  refine F.ok scDu (fun vs H Q E h => ?_) (fun cdv A outer s H vs Q E hr h => ?_)
  · obtain ⟨l, ls, rfl, _⟩ := h
    rfl
  · obtain ⟨l, ls, rfl, hl, hn, hb, k1, k2⟩ := h
    have hu := hu_of hr
    refine ⟨_, pss_cons (ps_if (pt_cmpR op_eq (pe_callB call_len_seq (by rfl) L.T.len PySem.boot_len (pa_cons (pv 0) pa_nil)) pe_int (nomark _)) (pss_one (ps_ret pe_non)) pss_nil)
      (pss_cons (ps_set (i := 1) scDu.nd rfl (Or.inl rfl) (pe_bm PySem.F.plainAttrs_str PySem.F.slot_str_split PySem.F.type_str_split mt_split (pe_ix ix_list (pv 0) pe_int (fun _ _ => rfl)) (pa_cons pe_str pa_nil)))
      (pss_cons (ps_if (PW.pt (pw_or (pt_cmpR op_ne (pe_callB call_len_seq (by rfl) L.T.len PySem.boot_len (pa_cons (pv 1) pa_nil)) pe_int (nomark _)) (pw_or (pt_cmpR op_ne (pe_ix ix_list (pv 1) pe_int (fun _ _ => rfl)) pe_str (nomark _))
        (pw_or1 (pt_not (pt_chain op_le op_le pe_int (pe_call GN hr rfl mN kN bN .nil pass0 (pa_cons (pe_ix ix_list (pv 1) pe_int (fun _ _ => rfl)) pa_nil)) pe_int)))))) (pss_one (ps_ret pe_non)) pss_nil)
      (pss_cons (ps_set (i := 2) scDu.nd rfl (Or.inl rfl) (pe_call GN hr rfl mN kN bN .nil pass0 (pa_cons (pe_ix ix_list (pv 1) pe_int (fun _ _ => rfl)) pa_nil)))
      (pss_cons (ps_set (i := 3) scDu.nd rfl (Or.inl rfl) (pe_lst pa_nil))
      (pss_cons (ps_for PassesOwn.never rfl (pi_list (pe_slice sl_list (pv 0) (po_some pe_int) po_none)) (pg_name (i := 4) scDu.nd rfl (Or.inl rfl))
        (pss_cons (ps_compset (i := 5) (so := defScope sDue) rfl scDu.nd rfl rfl rfl (pi_list (pe_bm PySem.F.plainAttrs_str PySem.F.slot_str_split PySem.F.type_str_split mt_split (pv 4) (pa_cons pe_str pa_nil))) rfl .nil (by decide +kernel)
          (fun _ _ _ _ _ _ => pts_nil) (fun _ _ _ _ _ _ => pe_call GN hr rfl mN kN bN .nil pass0 (pa_cons (pv 0) pa_nil)))
        (pss_cons (ps_if (PW.pt (pw_or (pt_cmpR op_ne (pe_callB call_len_seq (by rfl) L.T.len PySem.boot_len (pa_cons (pv 5) pa_nil)) pe_int (nomark _)) (pw_or (pt_not (pt_chain3 op_le op_lt op_lt pe_int (pe_ix ix_list (pv 5) pe_int (fun _ _ => rfl)) (pe_ix ix_list (pv 5) pe_int (fun _ _ => rfl)) (pv 2)))
          (pw_or1 (pt_cmpR (op_inT hu) (pe_tup (pa_cons (pe_ix ix_list (pv 5) pe_int (fun _ _ => rfl)) (pa_cons (pe_ix ix_list (pv 5) pe_int (fun _ _ => rfl)) pa_nil))) (pv 3) (by with_unfolding_all rfl)))))) (pss_one (ps_ret pe_non)) pss_nil)
        (pss_one (ps_expr (pe_bm PySem.F.plainAttrs_list PySem.F.slot_list_append PySem.F.type_list_append mt_append (pv 3) (pa_cons (pe_tup (pa_cons (pe_ix ix_list (pv 5) pe_int (fun _ _ => rfl)) (pa_cons (pe_ix ix_list (pv 5) pe_int (fun _ _ => rfl)) pa_nil))) pa_nil)))))))
      (pss_one (ps_ret (pe_tup (pa_cons (pv 2) (pa_cons (pv 3) pa_nil)))))))))), ?_⟩
    have sz : (1000000 : Nat) + 2 ≤ sizeLine := by rw [sizeLine_eq]; decide
    refine ⟨_, rfl, l, _, rfl, .inl (SqL.of hl), rfl, _, rfl, ite2 (fun z => ?_) (fun z => ?_)⟩
    · have e := V.int.inj (of_decide_eq_true z)
      rw [List.length_map] at e
      have e0 : ls = [] := List.length_eq_zero_iff.mp (by (first | lia | omega))
      exact k1 (by rw [e0]; rfl) H (Same.refl _)
    cases ls with
    | nil => exact absurd (decide_eq_true rfl) z
    | cons h r =>
      have hh : h.length ≤ 1000000 := hb h List.mem_cons_self
      refine ⟨_, rfl, l, _, (0 : Int), .str h, rfl, rfl, SqL.of hl, atI_nat (j := 0) rfl, rfl, h, " ", rfl, rfl, rfl, by (first | lia | omega), fun ws hws => ?_⟩
      rw [bl_split]
      have s1 : Same H (upd H ws (.lst ((spl h 32).map V.str))) := same_new (Same.refl _) hws
      have ew : upd H ws (.lst ((spl h 32).map V.str)) ws = some (.lst ((spl h 32).map V.str)) := upd_same
      revert s1 ew
      generalize upd H ws (.lst ((spl h 32).map V.str)) = H1
      intro s1 ew
      have no : headP h = none → Q .non H1 := fun e => k1 (by unfold linesP; dsimp only; rw [e]) H1 s1
      refine ⟨_, rfl, ws, _, rfl, .inl (SqL.of ew), rfl, _, rfl, ite2 (fun z => iteT (no (headP_none fun x y e => ?_))) (fun z => ?_)⟩
      · rw [e] at z
        cases z
      have l2 := V.int.inj (ne_two z)
      rw [List.length_map] at l2
      obtain ⟨x, y, e⟩ := two_of_len (l := spl h 32) (by (first | lia | omega))
      rw [e] at ew
      have hy : y.length ≤ 1000000 := Nat.le_trans (spl_short (x := h) (c := 32) (by rw [e]; simp)) hh
      refine ⟨_, rfl, ws, _, (0 : Int), .str x, rfl, rfl, SqL.of ew, atI_nat (j := 0) rfl, rfl, _, rfl, ite2 (fun z => iteT (no (headP_no fun y' e' => ?_))) (fun z => ?_)⟩
      · rw [e] at e'
        rw [(List.cons.inj e').1] at z
        cases z
      have ex : x = ("guests" : Str) := by
        by_cases q : x = ("guests" : Str)
        · exact q
        · refine absurd ?_ z
          show (!decide (V.str x = V.str "guests")) = true
          rw [decide_eq_false fun y => q (V.str.inj y)]
          rfl
      subst ex
      have noZ : ¬ (1 ≤ numZ y ∧ numZ y ≤ 20) → Q .non H1 := fun hz => no (headP_no fun y' e' => by
        rw [e] at e'
        rw [← (List.cons.inj (List.cons.inj e').2).1]
        exact hz)
      refine ⟨_, rfl, ws, _, (1 : Int), .str y, rfl, rfl, SqL.of ew, atI_nat (j := 1) rfl, y, rfl, hy, _, _, rfl, rfl, _, rfl, ite2 (fun z1 => ?_) (fun z1 => ⟨_, rfl, iteT (noZ fun q => z1 (decide_eq_true q.1))⟩)⟩
      refine ⟨_, _, rfl, rfl, _, rfl, ite2 (fun z2 => noZ fun q => ?_) (fun z2 => ?_)⟩
      · rw [decide_eq_true q.2] at z2
        cases z2
      have h1 : 1 ≤ numZ y := of_decide_eq_true z1
      have h2 : numZ y ≤ 20 := by
        by_cases q : numZ y ≤ 20
        · exact q
        · exact absurd (by rw [decide_eq_false q]; rfl) z2
      obtain ⟨n, hn'⟩ : ∃ n : Nat, numZ y = (n : Int) := ⟨(numZ y).toNat, by (first | lia | omega)⟩
      have hd : headP h = some n := headP_Z e hn' (by (first | lia | omega)) (by (first | lia | omega))
      refine ⟨_, rfl, ws, _, (1 : Int), .str y, rfl, rfl, SqL.of ew, atI_nat (j := 1) rfl, y, rfl, hy, ?_⟩
      rw [hn']
      refine ⟨Nat.zero_le _, fun q hq => ?_⟩
      have s2 : Same H1 (upd H1 q (.lst [])) := same_new (Same.refl _) hq
      have eq0 : upd H1 q (.lst []) q = some (.lst (([] : List Addr).map V.ref)) := upd_same
      revert s2 eq0
      generalize upd H1 q (.lst []) = H2
      intro s2 eq0
      have s02 : Same H H2 := s1.trans s2
      have fq : H q = none := s1.free hq
      have hl2 := s02 l _ hl
      have ec : cutV ((h :: r).map V.str) (some 1) none = r.map V.str := cut_tail _ _
      refine ⟨_, rfl, _, rfl, l, _, rfl, SqL.of hl2, fun c hc => ⟨c, rfl, ⟨_, SqL.of upd_same⟩, ?_⟩⟩
      have s3 : Same H2 (upd H2 c (.lst (cutV ((h :: r).map V.str) (some 1) none))) := same_new (Same.refl _) hc
      have e3 : upd H2 c (.lst (cutV ((h :: r).map V.str) (some 1) none)) c = some (.lst (r.map V.str)) := by rw [← ec]; exact upd_same
      revert s3 e3
      generalize upd H2 c (.lst (cutV ((h :: r).map V.str) (some 1) none)) = H3
      intro s3 e3
      have qc : q ≠ c := ne_of_none eq0 hc
      refine for_list (K := K) (a := c) (xs := r.map V.str) (fun i σ H4 => Same H H4 ∧ H4 c = some (.lst (r.map V.str)) ∧ (∃ ts acc, H4 q = some (.lst (ts.map V.ref)) ∧ Tups H4 ts acc ∧ rdP n r [] = rdP n (r.drop i) acc ∧ acc.length ≤ i) ∧
        ∃ v4 v5, σ = [some (.ref l), some (.ref ws), some (.int (n : Nat)), some (.ref q), v4, v5]) ⟨s02.trans s3, e3, ⟨[], [], s3 q _ eq0, .nil, by rw [List.drop_zero], Nat.le_refl _⟩, none, none, rfl⟩ (fun i σ H4 _ ⟨_, e, _⟩ => SqL.of e) ?_ ?_
      · rintro i v σ H4 hi ⟨s4, e4, ⟨ts, acc, eq4, T4, d4, al⟩, v4, v5, rfl⟩
        obtain ⟨x, rfl, ex⟩ := str_at hi
        obtain ⟨hlt, hx'⟩ := List.getElem?_eq_some_iff.mp ex
        have hx : x.length ≤ 1000000 := hb x (List.mem_cons_of_mem _ (List.mem_of_getElem? ex))
        rw [List.drop_eq_getElem_cons hlt, hx'] at d4
        have rl : i < 1000000 := by
          rw [List.length_cons] at hn
          (first | lia | omega)
        have no : rdP n (x :: r.drop (i + 1)) acc = none → ∀ H', Same H H' → Q .non H' := fun e => k1 (by unfold linesP; dsimp only; rw [hd]; dsimp only; rw [d4, e]; rfl)
        have sl := spl_len x 32
        refine ⟨_, rfl, rfl, x, " ", rfl, rfl, rfl, by (first | lia | omega), fun p hp => ?_⟩
        rw [bl_split]
        refine ⟨p, rfl, ⟨_, SqL.of upd_same⟩, comp_strs (K := K) (fun z => .int (numZ z)) (by (first | lia | omega)) upd_same (fun H z Q hz hq => ⟨_, rfl, z, rfl, Nat.le_trans (spl_short hz) hx, hq⟩) fun D hD => ?_⟩
        have sp : Same H4 (upd H4 p (.lst ((spl x 32).map V.str))) := same_new (Same.refl _) hp
        have s5 : Same H4 (upd (upd H4 p (.lst ((spl x 32).map V.str))) D (.lst ((spl x 32).map fun z => .int (numZ z)))) := same_new sp (sp.free hD)
        have eD : upd (upd H4 p (.lst ((spl x 32).map V.str))) D (.lst ((spl x 32).map fun z => .int (numZ z))) D = some (.lst ((spl x 32).map fun z => .int (numZ z))) := upd_same
        revert s5 eD
        generalize upd (upd H4 p (.lst ((spl x 32).map V.str))) D (.lst ((spl x 32).map fun z => .int (numZ z))) = H5
        intro s5 eD
        have s05 : Same H H5 := s4.trans s5
        refine ⟨_, rfl, D, _, rfl, .inl (SqL.of eD), rfl, _, rfl, ite2 (fun z => iteT (no (rdP_none fun ks e => ?_) H5 s05)) (fun z => ?_)⟩
        · obtain ⟨i', j', e', _⟩ := twoP_some e
          rw [e'] at z
          cases z
        have l2 := V.int.inj (ne_two z)
        rw [List.length_map] at l2
        obtain ⟨x1, y1, e⟩ := two_of_len (l := spl x 32) (by (first | lia | omega))
        rw [e] at eD
        have noZ : ¬ (0 ≤ numZ x1 ∧ numZ x1 < numZ y1 ∧ numZ y1 < n) → Q .non H5 := fun hz => no (rdP_none fun ks e2 => by
          rw [twoP_no (n := n) (line := x) fun x' y' e' => ?_] at e2
          · cases e2
          · rw [e] at e'
            rw [← (List.cons.inj e').1, ← (List.cons.inj (List.cons.inj e').2).1]
            exact hz) H5 s05
        refine ⟨_, rfl, D, _, (0 : Int), .int (numZ x1), rfl, rfl, SqL.of eD, atI_nat (j := 0) rfl, _, _, rfl, rfl, _, rfl, ite2 (fun z1 => ?_) (fun z1 => iteT (noZ fun q => z1 (decide_eq_true q.1)))⟩
        refine ⟨_, rfl, D, _, (1 : Int), .int (numZ y1), rfl, rfl, SqL.of eD, atI_nat (j := 1) rfl, _, _, rfl, rfl, _, rfl, ite2 (fun z2 => ?_) (fun z2 => iteT (noZ fun q => z2 (decide_eq_true q.2.1)))⟩
        refine ⟨_, rfl, _, _, rfl, rfl, _, rfl, ite2 (fun z3 => iteT (noZ fun q => ?_)) (fun z3 => ?_)⟩
        · rw [decide_eq_true q.2.2] at z3
          cases z3
        have h1 : 0 ≤ numZ x1 := of_decide_eq_true z1
        have h2 : numZ x1 < numZ y1 := of_decide_eq_true z2
        have h3 : numZ y1 < n := by
          by_cases q : numZ y1 < n
          · exact q
          · exact absurd (by rw [decide_eq_false q]; rfl) z3
        have tw : twoP n x = some [numZ x1, numZ y1] := twoP_Z (by (first | lia | omega)) e h1 h2 h3
        refine ⟨_, rfl, D, _, (0 : Int), .int (numZ x1), rfl, rfl, SqL.of eD, atI_nat (j := 0) rfl, _, rfl, D, _, (1 : Int), .int (numZ y1), rfl, rfl, SqL.of eD, atI_nat (j := 1) rfl, (by show 2 ≤ sizeLine; decide), fun t ht => ?_⟩
        have s6 : Same H5 (upd H5 t (.tup [.int (numZ x1), .int (numZ y1)])) := same_new (Same.refl _) ht
        have et : upd H5 t (.tup [.int (numZ x1), .int (numZ y1)]) t = some (.tup (([numZ x1, numZ y1] : List Int).map V.int)) := upd_same
        revert s6 et
        generalize upd H5 t (.tup [.int (numZ x1), .int (numZ y1)]) = H6
        intro s6 et
        have s46 : Same H4 H6 := s5.trans s6
        have eq6 := s46 q _ eq4
        have T6 : Tups H6 ts acc := T4.same fun b xs e => s46 b _ e
        refine ⟨_, rfl, t, q, [numZ x1, numZ y1], ts, acc, rfl, rfl, et, eq6, T6, _, rfl, ite2 (fun z4 => no (rdP_none fun ks e2 => ?_) H6 (s05.trans s6)) (fun z4 => ?_)⟩
        · rw [tw] at e2
          rw [← Option.some.inj e2]
          exact of_decide_eq_true z4
        have nin : [numZ x1, numZ y1] ∉ acc := fun z => z4 (decide_eq_true z)
        have eD6 := s6 D _ eD
        refine ⟨_, rfl, .inl ⟨rfl, _, SqL.of eq6⟩, _, rfl, D, _, (0 : Int), .int (numZ x1), rfl, rfl, SqL.of eD6, atI_nat (j := 0) rfl, _, rfl, D, _, (1 : Int), .int (numZ y1), rfl, rfl, SqL.of eD6, atI_nat (j := 1) rfl, (by show 2 ≤ sizeLine; decide), fun t2 ht2 => ?_⟩
        have nq : q ≠ t2 := ne_of_none eq6 ht2
        have s7 : Same H6 (upd H6 t2 (.tup [.int (numZ x1), .int (numZ y1)])) := same_new (Same.refl _) ht2
        have tl := T4.length
        refine ⟨q, _, _, rfl, rfl, s7 q _ eq6, by rw [List.length_map]; (first | lia | omega), ?_⟩
        refine ⟨same_new (s4.trans (s46.trans s7)) fq, ?_, ⟨ts ++ [t2], acc ++ [[numZ x1, numZ y1]], by rw [upd_same, List.map_append]; rfl, ?_, by rw [← rdP_next tw nin]; exact d4, by rw [List.length_append, List.length_singleton]; (first | lia | omega)⟩, _, _, rfl⟩
        · rw [upd_ne (Ne.symm qc)]
          exact s7 c _ (s46 c _ e4)
        · have tq : ∀ b xs, H6 b = some (.tup xs) → b ≠ q := fun b xs e z => by
            rw [z, eq6] at e
            cases e
          refine Tups.append (T6.same fun b xs e => by rw [upd_ne (tq b xs e)]; exact s7 b _ e) (.cons ?_ .nil)
          rw [upd_ne (Ne.symm nq), upd_same]
          rfl
      · rintro σ H4 ⟨s4, e4, ⟨ts, acc, eq4, T4, d4, al⟩, v4, v5, rfl⟩
        rw [List.length_map, List.drop_length] at d4
        refine ⟨_, rfl, _, rfl, (by show 2 ≤ sizeLine; decide), fun t ht => ?_⟩
        have s5 : Same H4 (upd H4 t (.tup [.int (n : Nat), .ref q])) := same_new (Same.refl _) ht
        exact k2 n acc (by unfold linesP; dsimp only; rw [hd]; dsimp only; rw [d4]; rfl) t q ts _ (s4.trans s5) upd_same (s5 q _ eq4) (T4.same fun b xs e => s5 b _ e)
end
section
variable {P : Program} {w : World} {K : PySem.W.Frag} {mg : Str → Option Value} {base : Heap} {a : Ad}
theorem scSp : FnScope ["lines", "cell", "place", "line", "ahead", "behind", "rest", "spot", "sign", "way", "odd", "bad"] ["lines", "cell"] (defScope sLSp) := ⟨rfl, rfl, rfl, by decide +kernel, rfl, by decide +kernel, by decide +kernel⟩
abbrev cxSp (P : Program) (w : World) (K : PySem.W.Frag) (mg : Str → Option Value) (base : Heap) (f : Addr) (cdv : Value) (A : Around) (outer : List Env) (s : Shared) (H : Hp) (E : XK) : Cx := (cxOf CX0 P w K mg base ["lines", "cell", "place", "line", "ahead", "behind", "rest", "spot", "sign", "way", "odd", "bad"] "_law_spoiled" (defScope sLSp) f cdv A outer s H E).nox
/-- small texts -/
structure Sm (ls : List Str) (m b : Nat) : Prop where
  n : ls.length ≤ m
  b : ∀ x ∈ ls, x.length ≤ b
theorem Sm.app {ls ms : List Str} {m m' b : Nat} (h : Sm ls m b) (g : Sm ms m' b) : Sm (ls ++ ms) (m + m') b := ⟨by rw [List.length_append]; exact Nat.add_le_add h.n g.n, fun x hx => by
  rcases List.mem_append.mp hx with hx | hx
  · exact h.b x hx
  · exact g.b x hx⟩
theorem Sm.mono {ls : List Str} {m m' b b' : Nat} (h : Sm ls m b) (hm : m ≤ m') (hb : b ≤ b') : Sm ls m' b' := ⟨Nat.le_trans h.n hm, fun x hx => Nat.le_trans (h.b x hx) hb⟩
theorem cut_strs (ls : List Str) (lo hi : Option Int) : ∃ ms : List Str, cutV (ls.map V.str) lo hi = ms.map V.str ∧ ms.length ≤ ls.length ∧ ∀ x ∈ ms, x ∈ ls := by
  unfold cutV
  refine ⟨(ls.drop (HT.sIx (ls.map V.str).length 0 lo)).take (HT.sIx (ls.map V.str).length (ls.map V.str).length hi - HT.sIx (ls.map V.str).length 0 lo), ?_, ?_, fun x hx => List.mem_of_mem_drop (List.mem_of_mem_take hx)⟩
  · rw [List.map_take, List.map_drop]
  · rw [List.length_take, List.length_drop]
    (first | lia | omega)
theorem Sm.cut {ls : List Str} {m b : Nat} (h : Sm ls m b) (lo hi : Option Int) : ∃ ms : List Str, cutV (ls.map V.str) lo hi = ms.map V.str ∧ Sm ms m b := by
  obtain ⟨ms, e, h1, h2⟩ := cut_strs ls lo hi
  exact ⟨ms, e, Nat.le_trans h1 h.n, fun x hx => h.b x (h2 x hx)⟩
/-- what lies there -/
structure SpH (H H' : Hp) (l ah be od bd : Addr) (ls as bs os ds : List Str) (line : Str) : Prop where
  sm : Same H H'
  el : H' l = some (.lst (ls.map V.str))
  ea : H' ah = some (.lst (as.map V.str))
  eb : H' be = some (.lst (bs.map V.str))
  eo : H' od = some (.lst (os.map V.str))
  ed : H' bd = some (.lst (ds.map V.str))
  sl : Sm ls 450 100
  sa : Sm as 450 100
  sb : Sm bs 450 100
  so : Sm os 12 100
  sd : Sm ds 12 100
  o12 : os.length = 12
  d12 : ds.length = 12
  ll : line.length ≤ 100
abbrev stSp (l : Addr) (c pl : Int) (line : Str) (ah be : Addr) (rest : Int) (spot : Nat) (ch : Nat) (way : Int) (od bd : Addr) : St := [some (.ref l), some (.int c), some (.int pl), some (.str line), some (.ref ah), some (.ref be), some (.int rest), some (.int (spot : Nat)), some (.str ⟨#[ch]⟩), some (.int way), some (.ref od), some (.ref bd)]
def SpG (H : Hp) (Q : VK) (T : TS) : Prop := ∀ (H' : Hp) (l ah be od bd : Addr) (ls as bs os ds : List Str) (line : Str) (c pl rest : Int) (spot ch : Nat) (way : Int), SpH H H' l ah be od bd ls as bs os ds line →
  (∀ (p : Addr) (ys : List Str) (H' : Hp), Same H H' → H' p = some (.lst (ys.map V.str)) → Sm ys 1000 300 → Q (.ref p) H') →
  T { nx := fun _ H' => Q .non H', rt := Q } (stSp l c pl line ah be rest spot ch way od bd) H'
theorem fin3 {H H' Hm : Hp} {l ah be od bd m : Addr} {ls as bs os ds mid : List Str} {line : Str} {Q : VK} {σ : St} (hσ : σ[5]? = some (some (.ref be))) (sp : SpH H H' l ah be od bd ls as bs os ds line)
    (k : ∀ (p : Addr) (ys : List Str) (H' : Hp), Same H H' → H' p = some (.lst (ys.map V.str)) → Sm ys 1000 300 → Q (.ref p) H') (sm : Same H' Hm) (em : Hm m = some (.lst (mid.map V.str))) (hm : Sm mid 2 300) :
    rCat (.ref ah) (.ref m) Hm fun z H1 => tVar 5 σ H1 fun y H2 => rCat z y H2 Q := by
  have big : ∀ n : Nat, n ≤ 1000 → n ≤ sizeLine := fun n h => Nat.le_of_lt (small1000 h)
  have n1 := sp.sa.n
  have n2 := sp.sb.n
  have n3 := hm.n
  refine ⟨ah, m, _, _, rfl, rfl, sm ah _ sp.ea, em, big _ (by rw [List.length_map, List.length_map]; (first | lia | omega)), fun o ho => ⟨_, hσ, ?_⟩⟩
  have s1 : Same Hm (upd Hm o (.lst (as.map V.str ++ mid.map V.str))) := same_new (Same.refl _) ho
  refine ⟨o, be, _, _, rfl, rfl, upd_same, s1 be _ (sm be _ sp.eb), big _ (by rw [List.length_append, List.length_map, List.length_map, List.length_map]; (first | lia | omega)), fun o2 ho2 => ?_⟩
  have s2 : Same (upd Hm o (.lst (as.map V.str ++ mid.map V.str))) (upd (upd Hm o (.lst (as.map V.str ++ mid.map V.str))) o2 (.lst (as.map V.str ++ mid.map V.str ++ bs.map V.str))) := same_new (Same.refl _) ho2
  refine k o2 (as ++ mid ++ bs) _ (((sp.sm.trans sm).trans s1).trans s2) ?_ ?_
  · rw [upd_same, List.map_append, List.map_append]
  · exact ((sp.sa.mono (Nat.le_refl _) (by decide : 100 ≤ 300)).app hm).app (sp.sb.mono (Nat.le_refl _) (by decide : 100 ≤ 300)) |>.mono (by decide) (Nat.le_refl _)
theorem cat_rev : ∀ l : List Str, (cat l.reverse).length = (cat l).length
  | [] => rfl
  | x :: r => by
    have e : cat (x :: r) = x ++ cat r := by rw [← cat_one x, ← cat_app, cat_one]; rfl
    rw [List.reverse_cons, cat_app, len_app, cat_one, cat_rev r, e, len_app]
    (first | lia | omega)
theorem split_weight' (x : Str) : (cat (spl x 32)).length + (spl x 32).length ≤ x.length + 1 := by
  have := PyProof.Rows.split_weight x ⟨#[32]⟩ (by show 1 ≤ 1; decide)
  rw [sum_cat] at this
  exact this
theorem at12 {os : List Str} (h : os.length = 12) (c : Int) : ∃ y, y ∈ os ∧ atI (os.map V.str) (c % 12) = some (.str y) := by
  have h0 := Int.emod_nonneg c (show (12 : Int) ≠ 0 by decide)
  have h1 := Int.emod_lt_of_pos c (show (0 : Int) < 12 by decide)
  have hi : (c % 12).toNat < os.length := by (first | lia | omega)
  refine ⟨os[(c % 12).toNat], List.getElem_mem hi, atI_int h0 ?_⟩
  rw [List.getElem?_map, List.getElem?_eq_getElem hi]
  rfl
variable {fS f : Addr} {fdS : FuncData} {cdv : Value} {A : Around} {outer : List Env} {s : Shared} {H : Hp} {E : XK} {Q : VK}
theorem sp_seg19 (L : Lx K mg a) (h : ∃ T, PSs (cxSp P w K mg base f cdv A outer s H E) ((defBody sLSp).drop 20) T ∧ SpG H Q T) : ∃ T, PSs (cxSp P w K mg base f cdv A outer s H E) ((defBody sLSp).drop 19) T ∧ SpG H Q T := by
  obtain ⟨T, p, g⟩ := h
  refine ⟨_, pss_cons (ps_if (pt_cmpR op_eq (pv 9) pe_int (nomark _)) (pss_one (ps_ret (pe_lst pa_nil))) pss_nil) p, fun H' l ah be od bd ls as bs os ds line c pl rest spot ch way sp k => ?_⟩
  have lb := Nat.le_trans sp.ll (show 100 ≤ 1000 by decide)
  have lbig := Nat.le_of_lt (small1000 lb)
  have big : ∀ n : Nat, n ≤ 1000 → n ≤ sizeLine := fun n h => Nat.le_of_lt (small1000 h)
  have ll := sp.ll
  refine ⟨_, rfl, rfl, _, rfl, ite2 (fun z => ?_) (fun z => g H' l ah be od bd ls as bs os ds line c pl rest spot ch way sp k)⟩
  refine ⟨Nat.zero_le _, fun m hm => ?_⟩
  exact k m [] _ (sp.sm.trans (same_new (Same.refl _) hm)) upd_same ⟨Nat.zero_le _, fun x hx => by simp at hx⟩
theorem sp_seg18 (L : Lx K mg a) (h : ∃ T, PSs (cxSp P w K mg base f cdv A outer s H E) ((defBody sLSp).drop 19) T ∧ SpG H Q T) : ∃ T, PSs (cxSp P w K mg base f cdv A outer s H E) ((defBody sLSp).drop 18) T ∧ SpG H Q T := by
  obtain ⟨T, p, g⟩ := h
  refine ⟨_, pss_cons (ps_if (pt_cmpR op_eq (pv 9) pe_int (nomark _)) (pss_one (ps_ret (pe_slice sl_list (pv 0) (po_some pe_int) po_none))) pss_nil) p, fun H' l ah be od bd ls as bs os ds line c pl rest spot ch way sp k => ?_⟩
  have lb := Nat.le_trans sp.ll (show 100 ≤ 1000 by decide)
  have lbig := Nat.le_of_lt (small1000 lb)
  have big : ∀ n : Nat, n ≤ 1000 → n ≤ sizeLine := fun n h => Nat.le_of_lt (small1000 h)
  have ll := sp.ll
  refine ⟨_, rfl, rfl, _, rfl, ite2 (fun z => ?_) (fun z => g H' l ah be od bd ls as bs os ds line c pl rest spot ch way sp k)⟩
  obtain ⟨ms, ec, sc⟩ := sp.sl.cut (some 1) none
  refine ⟨_, rfl, _, rfl, l, _, rfl, SqL.of sp.el, fun p1 hp1 => ?_⟩
  exact k p1 ms _ (sp.sm.trans (same_new (Same.refl _) hp1)) (by rw [upd_same, ec]) (sc.mono (by decide) (by decide))
theorem sp_seg17 (L : Lx K mg a) (h : ∃ T, PSs (cxSp P w K mg base f cdv A outer s H E) ((defBody sLSp).drop 18) T ∧ SpG H Q T) : ∃ T, PSs (cxSp P w K mg base f cdv A outer s H E) ((defBody sLSp).drop 17) T ∧ SpG H Q T := by
  obtain ⟨T, p, g⟩ := h
  refine ⟨_, pss_cons (ps_if (pt_cmpR op_eq (pv 9) pe_int (nomark _)) (pss_one (ps_ret (pe_op op_cat (pe_lst (pa_cons (pe_ix ix_list (pv 11) (pe_op op_mod (pv 6) pe_int) (fun _ _ => rfl)) pa_nil)) (pe_slice sl_list (pv 0) (po_some pe_int) po_none)))) pss_nil) p, fun H' l ah be od bd ls as bs os ds line c pl rest spot ch way sp k => ?_⟩
  have lb := Nat.le_trans sp.ll (show 100 ≤ 1000 by decide)
  have lbig := Nat.le_of_lt (small1000 lb)
  have big : ∀ n : Nat, n ≤ 1000 → n ≤ sizeLine := fun n h => Nat.le_of_lt (small1000 h)
  have ll := sp.ll
  refine ⟨_, rfl, rfl, _, rfl, ite2 (fun z => ?_) (fun z => g H' l ah be od bd ls as bs os ds line c pl rest spot ch way sp k)⟩
  obtain ⟨y, hy, ey⟩ := at12 sp.d12 rest
  obtain ⟨ms, ec, sc⟩ := sp.sl.cut (some 1) none
  refine ⟨_, rfl, _, rfl, _, _, rfl, rfl, (by show (0 : Int) < 12; decide), bd, _, _, .str y, rfl, rfl, SqL.of sp.ed, ey, (by show 1 ≤ sizeLine; decide), fun m hm => ?_⟩
  have s1 : Same H' (upd H' m (.lst [.str y])) := same_new (Same.refl _) hm
  refine ⟨_, rfl, _, rfl, l, _, rfl, SqL.of (s1 l _ sp.el), fun p1 hp1 => ?_⟩
  have s2 : Same (upd H' m (.lst [.str y])) (upd (upd H' m (.lst [.str y])) p1 (.lst (cutV (ls.map V.str) (some 1) none))) := same_new (Same.refl _) hp1
  have scn := sc.n
  refine ⟨m, p1, _, _, rfl, rfl, s2 m _ upd_same, upd_same, big _ (by rw [ec, List.length_map]; show 1 + _ ≤ _; (first | lia | omega)), fun o ho => ?_⟩
  refine k o ([y] ++ ms) _ (((sp.sm.trans s1).trans s2).trans (same_new (Same.refl _) ho)) (by rw [upd_same, ec, List.map_append]; rfl) ?_
  exact Sm.mono (Sm.app (m := 1) (b := 100) ⟨by simp, fun x hx => by rw [List.mem_singleton.mp hx]; exact sp.sd.b y hy⟩ sc) (by decide) (by decide)
theorem sp_seg16 (L : Lx K mg a) (h : ∃ T, PSs (cxSp P w K mg base f cdv A outer s H E) ((defBody sLSp).drop 17) T ∧ SpG H Q T) : ∃ T, PSs (cxSp P w K mg base f cdv A outer s H E) ((defBody sLSp).drop 16) T ∧ SpG H Q T := by
  obtain ⟨T, p, g⟩ := h
  refine ⟨_, pss_cons (ps_if (pt_cmpR op_eq (pv 9) pe_int (nomark _)) (pss_one (ps_ret (pe_op op_cat (pe_op op_cat (pv 4) (pe_lst (pa_cons (pv 3) (pa_cons (pe_ix ix_list (pv 10) (pe_op op_mod (pv 6) pe_int) (fun _ _ => rfl)) pa_nil)))) (pv 5)))) pss_nil) p, fun H' l ah be od bd ls as bs os ds line c pl rest spot ch way sp k => ?_⟩
  have lb := Nat.le_trans sp.ll (show 100 ≤ 1000 by decide)
  have lbig := Nat.le_of_lt (small1000 lb)
  have big : ∀ n : Nat, n ≤ 1000 → n ≤ sizeLine := fun n h => Nat.le_of_lt (small1000 h)
  have ll := sp.ll
  refine ⟨_, rfl, rfl, _, rfl, ite2 (fun z => ?_) (fun z => g H' l ah be od bd ls as bs os ds line c pl rest spot ch way sp k)⟩
  obtain ⟨y, hy, ey⟩ := at12 sp.o12 rest
  refine ⟨_, rfl, _, rfl, _, rfl, _, rfl, _, _, rfl, rfl, (by show (0 : Int) < 12; decide), od, _, _, .str y, rfl, rfl, SqL.of sp.eo, ey, (by show 2 ≤ sizeLine; decide), fun m hm => ?_⟩
  exact fin3 rfl sp k (same_new (Same.refl _) hm) (mid := [line, y]) upd_same ⟨by simp, fun x hx => by
    rcases List.mem_cons.mp hx with rfl | hx
    · exact Nat.le_trans sp.ll (by decide)
    · rw [List.mem_singleton.mp hx]
      exact Nat.le_trans (sp.so.b y hy) (by decide)⟩
theorem sp_seg15 (L : Lx K mg a) (h : ∃ T, PSs (cxSp P w K mg base f cdv A outer s H E) ((defBody sLSp).drop 16) T ∧ SpG H Q T) : ∃ T, PSs (cxSp P w K mg base f cdv A outer s H E) ((defBody sLSp).drop 15) T ∧ SpG H Q T := by
  obtain ⟨T, p, g⟩ := h
  refine ⟨_, pss_cons (ps_if (pt_cmpR op_eq (pv 9) pe_int (nomark _)) (pss_one (ps_ret (pe_op op_cat (pe_op op_cat (pv 4) (pe_lst (pa_cons (pe_bm PySem.F.plainAttrs_str PySem.F.slot_str_join PySem.F.type_str_join mt_join pe_str (pa_cons (pe_step (pe_bm PySem.F.plainAttrs_str PySem.F.slot_str_split PySem.F.type_str_split mt_split (pv 3) (pa_cons pe_str pa_nil)) (po_some (pe_un un_neg pe_int))) pa_nil)) pa_nil))) (pv 5)))) pss_nil) p, fun H' l ah be od bd ls as bs os ds line c pl rest spot ch way sp k => ?_⟩
  have lb := Nat.le_trans sp.ll (show 100 ≤ 1000 by decide)
  have lbig := Nat.le_of_lt (small1000 lb)
  have big : ∀ n : Nat, n ≤ 1000 → n ≤ sizeLine := fun n h => Nat.le_of_lt (small1000 h)
  have ll := sp.ll
  refine ⟨_, rfl, rfl, _, rfl, ite2 (fun z => ?_) (fun z => g H' l ah be od bd ls as bs os ds line c pl rest spot ch way sp k)⟩
  refine ⟨_, rfl, rfl, _, rfl, rfl, line, " ", rfl, rfl, rfl, big _ (by (first | lia | omega)), fun p1 hp1 => ?_⟩
  rw [bl_split]
  refine ⟨_, rfl, _, rfl, p1, _, rfl, (by decide), SqL.of upd_same, fun p2 ys hp2 _ _ er => ?_⟩
  have er := er rfl
  rw [← List.map_reverse] at er
  subst er
  have cw := split_weight' line
  have cr := cat_rev (spl line 32)
  have s1 : Same H' (upd H' p1 (.lst ((spl line 32).map V.str))) := same_new (Same.refl _) hp1
  have s2 : Same H' (upd (upd H' p1 (.lst ((spl line 32).map V.str))) p2 (.lst ((spl line 32).reverse.map V.str))) := same_new s1 (s1.free hp2)
  have ll := sp.ll
  have ln : (cat (spl line 32).reverse).length + (spl line 32).reverse.length * (" " : Str).length ≤ 101 := by
    rw [cr, List.length_reverse]
    show _ + _ * 1 ≤ 101
    (first | lia | omega)
  refine ⟨" ", p2, (spl line 32).reverse, rfl, rfl, upd_same, big _ (by (first | lia | omega)), fun y hy => ⟨(by show 1 ≤ sizeLine; decide), fun m hm => ?_⟩⟩
  exact fin3 rfl sp k (same_new s2 (s2.free hm)) (mid := [y]) upd_same ⟨by simp, fun x hx => by rw [List.mem_singleton.mp hx]; (first | lia | omega)⟩
theorem sp_seg14 (L : Lx K mg a) (h : ∃ T, PSs (cxSp P w K mg base f cdv A outer s H E) ((defBody sLSp).drop 15) T ∧ SpG H Q T) : ∃ T, PSs (cxSp P w K mg base f cdv A outer s H E) ((defBody sLSp).drop 14) T ∧ SpG H Q T := by
  obtain ⟨T, p, g⟩ := h
  refine ⟨_, pss_cons (ps_if (pt_cmpR op_eq (pv 9) pe_int (nomark _)) (pss_one (ps_ret (pe_op op_cat (pe_op op_cat (pv 4) (pe_lst (pa_cons (pv 3) (pa_cons (pv 3) pa_nil)))) (pv 5)))) pss_nil) p, fun H' l ah be od bd ls as bs os ds line c pl rest spot ch way sp k => ?_⟩
  have lb := Nat.le_trans sp.ll (show 100 ≤ 1000 by decide)
  have lbig := Nat.le_of_lt (small1000 lb)
  have big : ∀ n : Nat, n ≤ 1000 → n ≤ sizeLine := fun n h => Nat.le_of_lt (small1000 h)
  have ll := sp.ll
  refine ⟨_, rfl, rfl, _, rfl, ite2 (fun z => ?_) (fun z => g H' l ah be od bd ls as bs os ds line c pl rest spot ch way sp k)⟩
  refine ⟨_, rfl, _, rfl, _, rfl, (by show 2 ≤ sizeLine; decide), fun m hm => ?_⟩
  exact fin3 rfl sp k (same_new (Same.refl _) hm) (mid := [line, line]) upd_same ⟨by simp, fun x hx => by
    have : x = line := by simpa using hx
    rw [this]
    exact Nat.le_trans sp.ll (by decide)⟩
theorem sp_seg13 (L : Lx K mg a) (h : ∃ T, PSs (cxSp P w K mg base f cdv A outer s H E) ((defBody sLSp).drop 14) T ∧ SpG H Q T) : ∃ T, PSs (cxSp P w K mg base f cdv A outer s H E) ((defBody sLSp).drop 13) T ∧ SpG H Q T := by
  obtain ⟨T, p, g⟩ := h
  refine ⟨_, pss_cons (ps_if (pt_cmpR op_eq (pv 9) pe_int (nomark _)) (pss_one (ps_ret (pe_op op_cat (pe_op op_cat (pv 4) (pe_lst (pa_cons (pe_op op_add_str (pe_slice sl_str (pv 3) po_none (po_some (pv 7))) (pe_slice sl_str (pv 3) (po_some (pe_op op_add (pv 7) pe_int)) po_none)) pa_nil))) (pv 5)))) pss_nil) p, fun H' l ah be od bd ls as bs os ds line c pl rest spot ch way sp k => ?_⟩
  have lb := Nat.le_trans sp.ll (show 100 ≤ 1000 by decide)
  have lbig := Nat.le_of_lt (small1000 lb)
  have big : ∀ n : Nat, n ≤ 1000 → n ≤ sizeLine := fun n h => Nat.le_of_lt (small1000 h)
  have ll := sp.ll
  refine ⟨_, rfl, rfl, _, rfl, ite2 (fun z => ?_) (fun z => g H' l ah be od bd ls as bs os ds line c pl rest spot ch way sp k)⟩
  refine ⟨_, rfl, _, rfl, _, rfl, _, rfl, line, rfl, lbig, fun y1 _ l1 => ⟨_, rfl, _, rfl, _, _, rfl, rfl, _, rfl, line, rfl, lbig, fun y2 _ l2 => ⟨_, _, rfl, rfl, big _ (by (first | lia | omega)), (by show 1 ≤ sizeLine; decide), fun m hm => ?_⟩⟩⟩
  exact fin3 rfl sp k (same_new (Same.refl _) hm) (mid := [y1 ++ y2]) upd_same ⟨by simp, fun x hx => by rw [List.mem_singleton.mp hx, len_app]; (first | lia | omega)⟩
theorem sp_seg12 (L : Lx K mg a) (h : ∃ T, PSs (cxSp P w K mg base f cdv A outer s H E) ((defBody sLSp).drop 13) T ∧ SpG H Q T) : ∃ T, PSs (cxSp P w K mg base f cdv A outer s H E) ((defBody sLSp).drop 12) T ∧ SpG H Q T := by
  obtain ⟨T, p, g⟩ := h
  refine ⟨_, pss_cons (ps_if (pt_cmpR op_eq (pv 9) pe_int (nomark _)) (pss_one (ps_ret (pe_op op_cat (pe_op op_cat (pv 4) (pe_lst (pa_cons (pe_op op_add_str (pe_op op_add_str (pe_slice sl_str (pv 3) po_none (po_some (pv 7))) (pv 8)) (pe_slice sl_str (pv 3) (po_some (pe_op op_add (pv 7) pe_int)) po_none)) pa_nil))) (pv 5)))) pss_nil) p, fun H' l ah be od bd ls as bs os ds line c pl rest spot ch way sp k => ?_⟩
  have lb := Nat.le_trans sp.ll (show 100 ≤ 1000 by decide)
  have lbig := Nat.le_of_lt (small1000 lb)
  have big : ∀ n : Nat, n ≤ 1000 → n ≤ sizeLine := fun n h => Nat.le_of_lt (small1000 h)
  have ll := sp.ll
  refine ⟨_, rfl, rfl, _, rfl, ite2 (fun z => ?_) (fun z => g H' l ah be od bd ls as bs os ds line c pl rest spot ch way sp k)⟩
  refine ⟨_, rfl, _, rfl, _, rfl, _, rfl, line, rfl, lbig, fun y1 _ l1 => ⟨_, rfl, _, _, rfl, rfl, big _ (by show y1.length + 1 ≤ _; (first | lia | omega)), _, rfl, _, rfl, _, _, rfl, rfl, _, rfl, line, rfl, lbig, fun y2 _ l2 => ⟨_, _, rfl, rfl, big _ (by rw [len_app]; show y1.length + 1 + y2.length ≤ _; (first | lia | omega)), (by show 1 ≤ sizeLine; decide), fun m hm => ?_⟩⟩⟩
  exact fin3 rfl sp k (same_new (Same.refl _) hm) (mid := [y1 ++ ⟨#[ch]⟩ ++ y2]) upd_same ⟨by simp, fun x hx => by rw [List.mem_singleton.mp hx, len_app, len_app]; show y1.length + 1 + y2.length ≤ 300; (first | lia | omega)⟩
theorem sp_seg11 (L : Lx K mg a) (h : ∃ T, PSs (cxSp P w K mg base f cdv A outer s H E) ((defBody sLSp).drop 12) T ∧ SpG H Q T) : ∃ T, PSs (cxSp P w K mg base f cdv A outer s H E) ((defBody sLSp).drop 11) T ∧ SpG H Q T := by
  obtain ⟨T, p, g⟩ := h
  refine ⟨_, pss_cons (ps_if (pt_cmpR op_eq (pv 9) pe_int (nomark _)) (pss_one (ps_ret (pe_op op_cat (pe_op op_cat (pv 4) (pe_lst (pa_cons (pe_op op_add_str (pe_op op_add_str (pe_slice sl_str (pv 3) po_none (po_some (pv 7))) (pv 8)) (pe_slice sl_str (pv 3) (po_some (pv 7)) po_none)) pa_nil))) (pv 5)))) pss_nil) p, fun H' l ah be od bd ls as bs os ds line c pl rest spot ch way sp k => ?_⟩
  have lb := Nat.le_trans sp.ll (show 100 ≤ 1000 by decide)
  have lbig := Nat.le_of_lt (small1000 lb)
  have big : ∀ n : Nat, n ≤ 1000 → n ≤ sizeLine := fun n h => Nat.le_of_lt (small1000 h)
  have ll := sp.ll
  refine ⟨_, rfl, rfl, _, rfl, ite2 (fun z => ?_) (fun z => g H' l ah be od bd ls as bs os ds line c pl rest spot ch way sp k)⟩
  refine ⟨_, rfl, _, rfl, _, rfl, _, rfl, line, rfl, lbig, fun y1 _ l1 => ⟨_, rfl, _, _, rfl, rfl, big _ (by show y1.length + 1 ≤ _; (first | lia | omega)), _, rfl, _, rfl, _, rfl, line, rfl, lbig, fun y2 _ l2 => ⟨_, _, rfl, rfl, big _ (by rw [len_app]; show y1.length + 1 + y2.length ≤ _; (first | lia | omega)), (by show 1 ≤ sizeLine; decide), fun m hm => ?_⟩⟩⟩
  exact fin3 rfl sp k (same_new (Same.refl _) hm) (mid := [y1 ++ ⟨#[ch]⟩ ++ y2]) upd_same ⟨by simp, fun x hx => by rw [List.mem_singleton.mp hx, len_app, len_app]; show y1.length + 1 + y2.length ≤ 300; (first | lia | omega)⟩
theorem sp_last : ∃ T, PSs (cxSp P w K mg base f cdv A outer s H E) ((defBody sLSp).drop 20) T ∧ SpG H Q T := by
  refine ⟨_, pss_one (ps_ret (pe_op op_cat (pv 0) (pe_lst (pa_cons pe_str pa_nil)))), fun H' l ah be od bd ls as bs os ds line c pl rest spot ch way sp k => ?_⟩
  have big : ∀ n : Nat, n ≤ 1000 → n ≤ sizeLine := fun n h => Nat.le_of_lt (small1000 h)
  have sn := sp.sl.n
  refine ⟨_, rfl, (by show 1 ≤ sizeLine; decide), fun m hm => ?_⟩
  have s1 : Same H' (upd H' m (.lst [.str ("" : Str)])) := same_new (Same.refl _) hm
  refine ⟨l, m, _, _, rfl, rfl, s1 l _ sp.el, upd_same, big _ (by rw [List.length_map]; show _ + 1 ≤ _; (first | lia | omega)), fun o ho => ?_⟩
  refine k o (ls ++ [("" : Str)]) _ ((sp.sm.trans s1).trans (same_new (Same.refl _) ho)) (by rw [upd_same, List.map_append]; rfl) ?_
  exact Sm.mono (Sm.app sp.sl (m' := 1) ⟨by decide, fun x hx => by rw [List.mem_singleton.mp hx]; decide⟩) (by decide) (by decide)
def oddL : List Str := [("0 0" : Str), ("1 0" : Str), ("0 20" : Str), ("-1 0" : Str), ("00 1" : Str), ("0 01" : Str), ("0  1" : Str), ("0 1 " : Str), (" 0 1" : Str), ("0 1 2" : Str), ("0" : Str), ("0 1_0" : Str)]
def bad1L : List Str := [("guests 0" : Str), ("guests 21" : Str), ("guests 01" : Str), ("guests" : Str), ("guests 3 " : Str), ("Guests 3" : Str), ("guest 3" : Str), ("guests -1" : Str)]
def bad2L : List Str := [("guests 1_0" : Str), ("guests 100" : Str), ("guests  3" : Str), ("" : Str)]
theorem odd_sm : Sm oddL 12 100 := ⟨by decide, by decide +kernel⟩
theorem bad_sm : Sm (bad1L ++ bad2L) 12 100 := ⟨by decide, by decide +kernel⟩
def SpG1 (H : Hp) (Q : VK) (T : TS) : Prop := ∀ (H' : Hp) (l ah be : Addr) (ls as bs : List Str) (line : Str) (c pl rest : Int) (spot ch : Nat), Same H H' → H' l = some (.lst (ls.map V.str)) → H' ah = some (.lst (as.map V.str)) → H' be = some (.lst (bs.map V.str)) →
  Sm ls 450 100 → Sm as 450 100 → Sm bs 450 100 → line.length ≤ 100 → (∀ (p : Addr) (ys : List Str) (H' : Hp), Same H H' → H' p = some (.lst (ys.map V.str)) → Sm ys 1000 300 → Q (.ref p) H') →
  T { nx := fun _ H' => Q .non H', rt := Q } [some (.ref l), some (.int c), some (.int pl), some (.str line), some (.ref ah), some (.ref be), some (.int rest), some (.int (spot : Nat)), some (.str ⟨#[ch]⟩), none, none, none] H'
theorem sp_head1 (h : ∃ T, PSs (cxSp P w K mg base f cdv A outer s H E) ((defBody sLSp).drop 11) T ∧ SpG H Q T) : ∃ T, PSs (cxSp P w K mg base f cdv A outer s H E) ((defBody sLSp).drop 7) T ∧ SpG1 H Q T := by
  obtain ⟨T, p, g⟩ := h
  have p' := pssi_of p
  have h : ∃ U, U = _ ∧ PSsi (cxSp P w K mg base f cdv A outer s H E) ((defBody sLSp).drop 7) U := ⟨_, rfl, pssi_cons (by unfold PSi; exact ps_set (i := 9) scSp.nd rfl (Or.inl rfl) (pe_op op_mod (pv 1) pe_int)) (pssi_cons (psi_set (i := 10) scSp.nd rfl rfl (pei_lst (pai_str (pai_str (pai_str (pai_str (pai_str (pai_str (pai_str (pai_str (pai_str (pai_str (pai_str (pai_str pai_nil))))))))))))) rfl)
    (pssi_cons (psi_set (i := 11) scSp.nd rfl rfl (pei_lst (pai_str (pai_str (pai_str (pai_str (pai_str (pai_str (pai_str (pai_str pai_nil))))))))) rfl)
    (pssi_cons (psi_set (i := 11) scSp.nd rfl rfl (pei_cat (pei_of (pv 11)) (pei_lst (pai_str (pai_str (pai_str (pai_str pai_nil)))))) rfl) p')))⟩
  obtain ⟨U, eU, h⟩ := h
  subst eU
  unfold PSsi at h
  refine ⟨_, h, ?_⟩
  intro H' l ah be ls as bs line c pl rest spot ch sm el ea eb sl sa sb hl k
  refine ⟨_, rfl, _, _, rfl, rfl, (by show (0 : Int) < 10; decide), (by show 12 ≤ sizeLine; decide), fun od hod => ⟨(by show 8 ≤ sizeLine; decide), fun b1 hb1 => ⟨_, rfl, (by show 4 ≤ sizeLine; decide), fun b2 hb2 => ?_⟩⟩⟩
  have s1 : Same H' (upd H' od (.lst (oddL.map V.str))) := same_new (Same.refl _) hod
  have eo : upd H' od (.lst (oddL.map V.str)) od = some (.lst (oddL.map V.str)) := upd_same
  revert hb1 hb2 s1 eo
  show upd H' od (.lst (oddL.map V.str)) b1 = none → upd (upd H' od (.lst (oddL.map V.str))) b1 (.lst (bad1L.map V.str)) b2 = none → _ → _ → rCat (.ref b1) (.ref b2) (upd (upd (upd H' od (.lst (oddL.map V.str))) b1 (.lst (bad1L.map V.str))) b2 (.lst (bad2L.map V.str))) _
  generalize upd H' od (.lst (oddL.map V.str)) = H1
  intro hb1 hb2 s1 eo
  have s2 : Same H1 (upd H1 b1 (.lst (bad1L.map V.str))) := same_new (Same.refl _) hb1
  have s3 : Same (upd H1 b1 (.lst (bad1L.map V.str))) (upd (upd H1 b1 (.lst (bad1L.map V.str))) b2 (.lst (bad2L.map V.str))) := same_new (Same.refl _) hb2
  refine ⟨b1, b2, _, _, rfl, rfl, s3 b1 _ upd_same, upd_same, (by show 8 + 4 ≤ sizeLine; decide), fun bd hbd => ?_⟩
  have s4 : Same H1 (upd (upd (upd H1 b1 (.lst (bad1L.map V.str))) b2 (.lst (bad2L.map V.str))) bd (.lst (bad1L.map V.str ++ bad2L.map V.str))) := (s2.trans s3).trans (same_new (Same.refl _) hbd)
  have s04 := s1.trans s4
  refine g _ l ah be od bd ls as bs oddL (bad1L ++ bad2L) line c pl rest spot ch _ ⟨sm.trans s04, s04 l _ el, s04 ah _ ea, s04 be _ eb, s4 od _ eo, by rw [upd_same, List.map_append], sl, sa, sb, odd_sm, bad_sm, by decide, by decide, hl⟩ k
theorem sp_body (L : Lx K mg a) (mS : mg "_law_sign_by" = some (.ref fS)) (kS : PySem.W.keepIn K (.ref fS) = true) (bS : Binds K fdS ["cell"] []) (GS : FnOk P w K mg base CX0 1 fS fdS ["cell"] spSg) (hr : Room 1 (A.deeper (PyProof.Rows.envOfC "_law_spoiled" (defScope sLSp) s.heap.objs.size f cdv)))
    (h : ∃ T, PSs (cxSp P w K mg base f cdv A outer s H E) ((defBody sLSp).drop 7) T ∧ SpG1 H Q T) {l : Addr} {ls : List Str} {c : Int} (hl : H l = some (.lst (ls.map V.str))) (hne : ls ≠ []) (sl : Sm ls 450 100)
    (k : ∀ (p : Addr) (ys : List Str) (H' : Hp), Same H H' → H' p = some (.lst (ys.map V.str)) → Sm ys 1000 300 → Q (.ref p) H') :
    ∃ T, PSs (cxSp P w K mg base f cdv A outer s H E) (defBody sLSp) T ∧ T { nx := fun _ H' => Q .non H', rt := Q } [some (.ref l), some (.int c), none, none, none, none, none, none, none, none, none, none] H := by
  obtain ⟨T, p, g⟩ := h
  have p' := pssi_of p
  obtain ⟨U6, e6, q6⟩ : ∃ U, U = _ ∧ PSsi (cxSp P w K mg base f cdv A outer s H E) ((defBody sLSp).drop 6) U := ⟨_, rfl, pssi_cons (by unfold PSi; exact ps_set (i := 8) scSp.nd rfl (Or.inl rfl) (pe_call GS hr rfl mS kS bS .nil pass0 (pa_cons (pe_op op_fdiv (pv 6) (pe_op op_add (pe_callB call_len_str (by rfl) L.T.len PySem.boot_len (pa_cons (pv 3) pa_nil)) pe_int)) pa_nil))) p'⟩
  obtain ⟨U5, e5, q5⟩ : ∃ U, U = _ ∧ PSsi (cxSp P w K mg base f cdv A outer s H E) ((defBody sLSp).drop 5) U := ⟨_, rfl, pssi_cons (by unfold PSi; exact ps_set (i := 7) scSp.nd rfl (Or.inl rfl) (pe_op op_mod (pv 6) (pe_op op_add (pe_callB call_len_str (by rfl) L.T.len PySem.boot_len (pa_cons (pv 3) pa_nil)) pe_int))) q6⟩
  obtain ⟨U4, e4, q4⟩ : ∃ U, U = _ ∧ PSsi (cxSp P w K mg base f cdv A outer s H E) ((defBody sLSp).drop 4) U := ⟨_, rfl, pssi_cons (by unfold PSi; exact ps_set (i := 6) scSp.nd rfl (Or.inl rfl) (pe_op op_fdiv (pe_op op_fdiv (pv 1) pe_int) (pe_callB call_len_seq (by rfl) L.T.len PySem.boot_len (pa_cons (pv 0) pa_nil)))) q5⟩
  obtain ⟨U3, e3, q3⟩ : ∃ U, U = _ ∧ PSsi (cxSp P w K mg base f cdv A outer s H E) ((defBody sLSp).drop 3) U := ⟨_, rfl, pssi_cons (by unfold PSi; exact ps_set (i := 5) scSp.nd rfl (Or.inl rfl) (pe_slice sl_list (pv 0) (po_some (pe_op op_add (pv 2) pe_int)) po_none)) q4⟩
  obtain ⟨U2, e2, q2⟩ : ∃ U, U = _ ∧ PSsi (cxSp P w K mg base f cdv A outer s H E) ((defBody sLSp).drop 2) U := ⟨_, rfl, pssi_cons (by unfold PSi; exact ps_set (i := 4) scSp.nd rfl (Or.inl rfl) (pe_slice sl_list (pv 0) po_none (po_some (pv 2)))) q3⟩
  obtain ⟨U1, e1, q1⟩ : ∃ U, U = _ ∧ PSsi (cxSp P w K mg base f cdv A outer s H E) ((defBody sLSp).drop 1) U := ⟨_, rfl, pssi_cons (by unfold PSi; exact ps_set (i := 3) scSp.nd rfl (Or.inl rfl) (pe_ix ix_list (pv 0) (pv 2) (fun _ _ => rfl))) q2⟩
  obtain ⟨U0, e0, q0⟩ : ∃ U, U = _ ∧ PSsi (cxSp P w K mg base f cdv A outer s H E) ((defBody sLSp).drop 0) U := ⟨_, rfl, pssi_cons (by unfold PSi; exact ps_set (i := 2) scSp.nd rfl (Or.inl rfl) (pe_op op_mod (pe_op op_fdiv (pv 1) pe_int) (pe_callB call_len_seq (by rfl) L.T.len PySem.boot_len (pa_cons (pv 0) pa_nil)))) q1⟩
  subst e6 e5 e4 e3 e2 e1 e0
  unfold PSsi at q0
  refine ⟨_, q0, ?_⟩
  have n0 : 0 < ls.length := List.length_pos_iff.mpr hne
  have nn := sl.n
  have ml : (ls.map V.str).length = ls.length := List.length_map _
  have two : (1000 : Int) < 2 ^ 63 := by decide
  refine ⟨_, rfl, _, _, rfl, rfl, ⟨by decide, by decide⟩, _, rfl, l, _, rfl, .inl (SqL.of hl), _, _, rfl, rfl, (by rw [ml]; (first | lia | omega)), ?_⟩
  rw [ml]
  have h0 := Int.emod_nonneg (c / 10) (show (ls.length : Int) ≠ 0 by (first | lia | omega))
  have h1 := Int.emod_lt_of_pos (c / 10) (show (0 : Int) < (ls.length : Int) by (first | lia | omega))
  have hi : (c / 10 % (ls.length : Int)).toNat < ls.length := by (first | lia | omega)
  have hline : ls[(c / 10 % (ls.length : Int)).toNat].length ≤ 100 := sl.b _ (List.getElem_mem hi)
  obtain ⟨line, hl'⟩ : ∃ line, line = ls[(c / 10 % (ls.length : Int)).toNat] := ⟨_, rfl⟩
  rw [← hl'] at hline
  have lbig : line.length ≤ sizeLine := Nat.le_of_lt (small1000 (by (first | lia | omega)))
  refine ⟨_, rfl, _, rfl, l, _, _, .str line, rfl, rfl, SqL.of hl, atI_int h0 (by rw [List.getElem?_map, List.getElem?_eq_getElem hi, hl']; rfl), ?_⟩
  obtain ⟨as, ea, sa⟩ := sl.cut none (some (c / 10 % (ls.length : Int)))
  obtain ⟨bs, eb, sb⟩ := sl.cut (some ((c / 10 % (ls.length : Int)) + 1)) none
  refine ⟨_, rfl, _, rfl, _, rfl, l, _, rfl, SqL.of hl, fun ah hah => ?_⟩
  rw [ea]
  have s1 : Same H (upd H ah (.lst (as.map V.str))) := same_new (Same.refl _) hah
  have e1 : upd H ah (.lst (as.map V.str)) ah = some (.lst (as.map V.str)) := upd_same
  revert s1 e1
  generalize upd H ah (.lst (as.map V.str)) = H1
  intro s1 e1
  refine ⟨_, rfl, _, rfl, _, _, rfl, rfl, _, rfl, l, _, rfl, SqL.of (s1 l _ hl), fun be hbe => ?_⟩
  rw [eb]
  have s2 : Same H1 (upd H1 be (.lst (bs.map V.str))) := same_new (Same.refl _) hbe
  have e2 : upd H1 be (.lst (bs.map V.str)) be = some (.lst (bs.map V.str)) := upd_same
  revert s2 e2
  generalize upd H1 be (.lst (bs.map V.str)) = H2
  intro s2 e2
  have hl2 := s2 l _ (s1 l _ hl)
  refine ⟨_, rfl, _, _, rfl, rfl, ⟨by decide, by decide⟩, _, rfl, l, _, rfl, .inl (SqL.of hl2), _, _, rfl, rfl, ⟨by rw [ml]; (first | lia | omega), by rw [ml]; (first | lia | omega)⟩, ?_⟩
  refine ⟨_, rfl, _, rfl, line, rfl, lbig, _, _, rfl, rfl, _, _, rfl, rfl, (by show (0 : Int) < (line.length : Int) + 1; (first | lia | omega)), ?_⟩
  refine ⟨_, rfl, _, rfl, line, rfl, lbig, _, _, rfl, rfl, _, _, rfl, rfl, ⟨by (first | lia | omega), by (first | lia | omega)⟩, _, rfl, fun ch => ?_⟩
  obtain ⟨spot, hs⟩ : ∃ spot : Nat, (c / 10 / ((ls.map V.str).length : Int)) % ((line.length : Int) + 1) = (spot : Int) := ⟨_, (Int.toNat_of_nonneg (Int.emod_nonneg _ (by (first | lia | omega)))).symm⟩
  have fin := g H2 l ah be ls as bs line c (c / 10 % (ls.length : Int)) (c / 10 / ((ls.map V.str).length : Int)) spot ch (s1.trans s2) hl2 (s2 ah _ e1) e2 sl sa sb hline k
  rw [← hs] at fin
  exact fin
theorem ok_sp {f : Addr} {fd : FuncData} (F : Fun K "_law_spoiled" "_law_spoiled" sLSp f fd) (L : Lx K mg a) (FS : Fc P w K mg base "_law_sign_by" ["cell"] 1 spSg) : FnOk P w K mg base CX0 2 f fd ["lines", "cell"] spSp := by
  obtain ⟨fS, fdS, mS, kS, bS, GS⟩ := FS.ex
  refine F.ok scSp (fun vs H Q E h => ?_) (fun cdv A outer s H vs Q E hr h => ?_)
  · obtain ⟨l, ls, c, rfl, _⟩ := h
    rfl
  · obtain ⟨l, ls, c, rfl, hl, hne, hn, hb, k⟩ := h
    exact sp_body L mS kS bS GS hr (sp_head1 (sp_seg11 L (sp_seg12 L (sp_seg13 L (sp_seg14 L (sp_seg15 L (sp_seg16 L (sp_seg17 L (sp_seg18 L (sp_seg19 L sp_last)))))))))) hl hne ⟨hn, hb⟩ (fun p ys H' sm e h => k p ys H' sm e h.n h.b)
end
end Kn
set_option Elab.async false
set_option linter.all false
set_option maxRecDepth 100000
set_option maxHeartbeats 4000000
namespace Kn
open PySem L2
def spLaw (K : PySem.W.Frag) : Sp := fun vs H Q _ => ∃ (sc : Addr) (ns : List Int), vs = [.ref sc] ∧ SqL K H sc (ns.map V.int) ∧ ns.length ≤ 63 ∧ ∀ H', Q (.bl true) H'
theorem cut_lo {xs : List V} {c : Int} (h : 0 ≤ c) : cutV xs (some c) none = xs.drop c.toNat := by
  unfold cutV
  have e1 : HT.sIx xs.length 0 (some c) = min c.toNat xs.length := by
    show (if c < 0 then (c + (xs.length : Int)).toNat else min c.toNat xs.length) = _
    rw [if_neg (by (first | lia | omega))]
  have e2 : HT.sIx xs.length xs.length none = xs.length := rfl
  rw [e1, e2]
  by_cases q : c.toNat ≤ xs.length
  · rw [Nat.min_eq_left q, List.take_of_length_le (by rw [List.length_drop]; exact Nat.le_refl _)]
  · rw [Nat.min_eq_right (by (first | lia | omega)), List.drop_eq_nil_of_le (Nat.le_refl _), List.drop_eq_nil_of_le (by (first | lia | omega)), List.take_nil]
theorem cut_hi {xs : List V} {c : Int} (h : 0 ≤ c) : cutV xs none (some c) = xs.take c.toNat := by
  unfold cutV
  have e1 : HT.sIx xs.length xs.length (some c) = min c.toNat xs.length := by
    show (if c < 0 then (c + (xs.length : Int)).toNat else min c.toNat xs.length) = _
    rw [if_neg (by (first | lia | omega))]
  have e2 : HT.sIx xs.length 0 none = 0 := rfl
  rw [e1, e2, List.drop_zero, Nat.sub_zero]
  by_cases q : c.toNat ≤ xs.length
  · rw [Nat.min_eq_left q]
  · rw [Nat.min_eq_right (by (first | lia | omega)), List.take_length, List.take_of_length_le (by (first | lia | omega))]
theorem Tups.drop' {H : Hp} : ∀ {ts : List Addr} {kss : List (List Int)} (i : Nat), Tups H ts kss → Tups H (ts.drop i) (kss.drop i)
  | _, _, 0, h => h
  | [], [], _ + 1, _ => .nil
  | _ :: _, _ :: _, i + 1, .cons _ r => Tups.drop' i r
theorem Tups.take' {H : Hp} : ∀ {ts : List Addr} {kss : List (List Int)} (i : Nat), Tups H ts kss → Tups H (ts.take i) (kss.take i)
  | _, _, 0, _ => .nil
  | [], [], _ + 1, _ => .nil
  | _ :: _, _ :: _, i + 1, .cons h r => .cons h (Tups.take' i r)
def lnG (ks : List Int) : Str := match ks with
  | [i, j] => ((toString i : String) : Str) ++ (" " : Str) ++ ((toString j : String) : Str)
  | _ => ⟨#[]⟩
section
variable {P : Program} {w : World} {K : PySem.W.Frag} {mg : Str → Option Value} {base : Heap} {a : Ad}
theorem scLaw : FnScope ["script", "many", "pairs", "cut", "lines", "cell", "text", "due", "found", "marks", "e"] ["script"] (defScope sLaw) := ⟨rfl, rfl, rfl, by decide +kernel, rfl, by decide +kernel, by decide +kernel⟩
abbrev cxLw (P : Program) (w : World) (K : PySem.W.Frag) (mg : Str → Option Value) (base : Heap) (f : Addr) (cdv : Value) (A : Around) (outer : List Env) (s : Shared) (H : Hp) (E : XK) : Cx := (cxOf CX0 P w K mg base ["script", "many", "pairs", "cut", "lines", "cell", "text", "due", "found", "marks", "e"] "law" (defScope sLaw) f cdv A outer s H E).nox
/-- what due tells of the text -/
def DueOk (H' : Hp) (text : Str) (dv : V) : Prop := (dv = .non ∧ readP text = none) ∨ ∃ t q ts n kss, dv = .ref t ∧ readP text = some (n, kss) ∧ H' t = some (.tup [.int (n : Nat), .ref q]) ∧ H' q = some (.lst (ts.map V.ref)) ∧ Tups H' ts kss
variable {f : Addr} {cdv : Value} {A : Around} {outer : List Env} {s : Shared} {H : Hp} {E : XK} {Q : VK}
def G3 (H : Hp) (Q : VK) (T : TS) : Prop := ∀ (H' : Hp) (a0 a1 a2 a3 a4 a5 : Option V) (text : Str) (dv : V), Same H H' → text.length ≤ 900000 → DueOk H' text dv → T { nx := fun _ H' => Q .non H', rt := Q } [a0, a1, a2, a3, a4, a5, some (.str text), some dv, none, none, none] H'
theorem law_seg3 (L : Lx K mg a) (XT : XRow K a a.eTxt 5) (FM : FcU P w K mg base "_law_marks_of" ["e"] 1 (spMarks K a)) (FS : Fc P w K mg base "_law_same" ["hall", "pairs", "many"] 3 (spSame a)) (FR : Fe P w K mg base "read" ["text"] 5 (spRd a))
    (hr : Room 5 (A.deeper (PyProof.Rows.envOfC "law" (defScope sLaw) s.heap.objs.size f cdv))) (k : ∀ H', Q (.bl true) H') : ∃ T, PSs (cxLw P w K mg base f cdv A outer s H E) ((defBody sLaw).drop 10) T ∧ G3 H Q T := by
  obtain ⟨fM, fdM, mM, kM, bM, GM⟩ := FM.ex
  obtain ⟨fS, fdS, mS, kS, bS, GS⟩ := FS.ex
  obtain ⟨fR, fdR, mR, kR, bR, GR⟩ := FR.ex
  have hu := hu_of hr
  have hr3 : Room 3 _ := hr.mono (by decide)
  refine ⟨_, pss_cons (ps_set (i := 8) scLaw.nd rfl (Or.inl rfl) pe_non)
    (pss_cons (ps_set (i := 9) scLaw.nd rfl (Or.inl rfl) (pe_lst pa_nil))
    (pss_cons (ps_try (i := 10) rfl rfl rfl scLaw.nd rfl rfl rfl L.mgH
      (fun pl W Ek hx => pss_one (ps_set (i := 8) scLaw.nd rfl (Or.inl rfl) (pe_callS GR hr rfl mR kR bR .nil hx (pa_cons (pv 6) pa_nil))))
      (fun pl ea => pss_one (ps_set (i := 9) scLaw.nd rfl (Or.inl rfl) (pe_callU (E := E0) GM ((hr.mono (by decide : 1 ≤ 5)).u _) rfl mM kM bM (pa_cons (pv 10) pa_nil)))))
    (pss_cons (ps_if (pt_cmpR op_isN (pv 7) pe_non (nomark _)) (pss_one (ps_ret (pe_cmpR (op_eqL (Nat.lt_of_succ_lt hu)) (pv 9) (pe_comp (so := defScope sLaw) rfl (pi_range1 rfl L.T.range (pa_cons pe_int pa_nil)) rfl .nil (by decide +kernel)
      (fun _ _ _ _ _ _ => pts_nil) (fun _ _ _ _ _ _ => pe_cmpR op_eq (pv 0) pe_int (nomark _))) (nomark _)))) pss_nil)
    (pss_one (ps_ret (pe_and (pe_cmpR (op_eqL (Nat.lt_of_succ_lt hu)) (pv 9) (pe_lst pa_nil) (nomark _)) (pe_one (pe_call GS hr3 rfl mS kS bS .nil pass0 (pa_cons (pv 8) (pa_cons (pe_ix ix_tup (pv 7) pe_int (fun _ _ => rfl)) (pa_cons (pe_ix ix_tup (pv 7) pe_int (fun _ _ => rfl)) pa_nil))))))))))), ?_⟩
  intro H' a0 a1 a2 a3 a4 a5 text dv sm hl due
  refine ⟨Nat.zero_le _, fun l0 h0 => ?_⟩
  have s0 : Same H' (upd H' l0 (.lst [])) := same_new (Same.refl _) h0
  have e0 : upd H' l0 (.lst []) l0 = some (.lst []) := upd_same
  revert s0 e0
  generalize upd H' l0 (.lst []) = H0
  intro s0 e0
  rcases due with ⟨rfl, rn⟩ | ⟨t, q, ts, n, kss, rfl, rs, et, eq, Tq⟩
  · refine ⟨_, rfl, text, rfl, hl, fun n kss e => (by rw [rn] at e; cases e), fun _ H1 s1 ea hea => ⟨XT.em, ?_⟩⟩
    refine ⟨_, rfl, ea, a.eTxt, 5, rfl, upd_same, XT, fun l H2 hl2 sm2 el => ?_⟩
    refine ⟨_, rfl, rfl, _, rfl, ite2 (fun _ => ?_) (fun z => absurd (decide_eq_true rfl) z)⟩
    refine ⟨_, rfl, (7 : Int), rfl, by decide, by decide, ?_⟩
    refine comp_rng (n := 7) (fun i => .bl (decide (V.int ((0 : Int) + (i : Nat)) = V.int 5))) (by rw [sizeLine_eq]; decide) (fun H i Q hi hq => ⟨_, rfl, rfl, hq⟩) fun D hD => ?_
    have em : (List.range 7).map (fun i => V.bl (decide (V.int ((0 : Int) + (i : Nat)) = V.int 5))) = marksL 5 := by decide +kernel
    rw [em]
    have nl : l ≠ D := ne_of_none el hD
    refine ⟨l, D, marksL 5, marksL 5, rfl, rfl, SqL.of (by rw [upd_ne nl]; exact el), SqL.of upd_same, flat_marks 5, flat_marks 5, ?_⟩
    rw [if_neg Bool.false_ne_true, eqVs_self _ (flat_marks 5)]
    exact k _
  · refine ⟨_, rfl, text, rfl, hl, fun n' kss' e p r as kn H1 fp fr fa s1 A1 R1 => ?_, fun e => (by rw [rs] at e; cases e)⟩
    rw [rs] at e
    cases e
    obtain ⟨ok, _, n20⟩ := readP_ok rs
    have s01 : Same H' H1 := s0.trans s1
    refine ⟨_, rfl, rfl, _, rfl, ite2 (fun z => nomatch (of_decide_eq_true z)) (fun _ => ?_)⟩
    refine ⟨_, rfl, Nat.zero_le _, fun l1 h1 => ?_⟩
    have s2 : Same H1 (upd H1 l1 (.lst [])) := same_new (Same.refl _) h1
    refine ⟨l0, l1, [], [], rfl, rfl, SqL.of (s2 l0 _ (s1 l0 _ e0)), SqL.of upd_same, rfl, rfl, _, rfl, iteT ?_⟩
    have s02 := s01.trans s2
    exact ⟨_, rfl, _, rfl, t, _, (1 : Int), .ref q, rfl, rfl, SqT.of (s02 t _ et), atI_nat (j := 1) rfl, _, rfl, t, _, (0 : Int), .int (n : Nat), rfl, rfl, SqT.of (s02 t _ et), atI_nat (j := 0) rfl,
      p, r, as, q, ts, kss, n, kn, rfl, A1.same s2, s02 q _ eq, Tq.same (fun b xs e => s02 b _ e), R1, ok.len n20, fun H3 _ => k H3⟩
def G2 (H : Hp) (Q : VK) (T : TS) : Prop := ∀ (H' : Hp) (a0 a1 a2 a3 a4 a5 : Option V) (text : Str), Same H H' → text.length ≤ 900000 → T { nx := fun _ H' => Q .non H', rt := Q } [a0, a1, a2, a3, a4, a5, some (.str text), none, none, none, none] H'
theorem law_seg2 (FD : Fc P w K mg base "_law_due" ["lines"] 2 spDu) (hr : Room 5 (A.deeper (PyProof.Rows.envOfC "law" (defScope sLaw) s.heap.objs.size f cdv))) (h : ∃ T, PSs (cxLw P w K mg base f cdv A outer s H E) ((defBody sLaw).drop 10) T ∧ G3 H Q T) :
    ∃ T, PSs (cxLw P w K mg base f cdv A outer s H E) ((defBody sLaw).drop 8) T ∧ G2 H Q T := by
  obtain ⟨fD, fdD, mD, kD, bD, GD⟩ := FD.ex
  obtain ⟨T, p, g⟩ := h
  have hr2 : Room 2 _ := hr.mono (by decide)
  refine ⟨_, pss_cons (ps_set (i := 7) scLaw.nd rfl (Or.inl rfl) pe_non)
    (pss_cons (ps_if (PW.pt (pw_and (pt_cmpR op_ne (pv 6) pe_str (nomark _)) (pw_and1 (pt_cmpR op_eq (pe_ix ix_str (pv 6) (pe_un un_neg pe_int) (fun _ _ => rfl)) pe_str (nomark _)))))
      (pss_one (ps_set (i := 7) scLaw.nd rfl (Or.inl rfl) (pe_call GD hr2 rfl mD kD bD .nil pass0 (pa_cons (pe_bm PySem.F.plainAttrs_str PySem.F.slot_str_split PySem.F.type_str_split mt_split (pe_slice sl_str (pv 6) po_none (po_some (pe_un un_neg pe_int))) (pa_cons pe_str pa_nil)) pa_nil)))) pss_nil) p), ?_⟩
  intro H' a0 a1 a2 a3 a4 a5 text sm hl
  have big : text.length ≤ sizeLine := Nat.le_trans hl (by rw [sizeLine_eq]; decide)
  refine ⟨_, rfl, rfl, _, rfl, ite2 (fun z => ?_) (fun z => ?_)⟩
  · cases q : text.cps.toList.getLast? with
    | none =>
      have e : text = ("" : Str) := str_ext (List.getLast?_eq_none_iff.mp q)
      rw [e] at z
      cases z
    | some c =>
      obtain ⟨y, rfl⟩ := ends_with q
      have at1 : atI (y ++ (⟨#[c]⟩ : Str)).cps.toList (-1) = some c := by
        rw [str_app]
        exact atI_last _ _
      refine ⟨_, rfl, _, rfl, _, _, c, rfl, rfl, big, at1, rfl, _, rfl, ite2 (fun z2 => ?_) (fun z2 => ?_)⟩
      · have ec : c = 10 := by
          have e := congrArg (fun s : Str => s.cps.toList) (V.str.inj (of_decide_eq_true z2))
          have e2 : [c] = [10] := e
          exact (List.cons.inj e2).1
        subst ec
        have ly : y.length ≤ 900000 := by
          rw [len_app] at hl
          (first | lia | omega)
        refine ⟨_, rfl, _, rfl, _, rfl, _, rfl, big, fun y' hy' _ => ?_⟩
        have e' := cut_last hy'
        subst e'
        refine ⟨rfl, y', "\n", rfl, rfl, rfl, Nat.le_trans (Nat.add_le_add_right ly 2) (by rw [sizeLine_eq]; decide), fun p1 hp1 => ?_⟩
        rw [nl_split]
        have s1 : Same H' (upd H' p1 (.lst ((spl y' 10).map V.str))) := same_new (Same.refl _) hp1
        have sl := spl_len y' 10
        refine ⟨p1, spl y' 10, rfl, upd_same, by (first | lia | omega), fun x hx => Nat.le_trans (spl_short hx) (by (first | lia | omega)), fun e H2 s2 => ?_, fun n kss e t q ts H2 s2 et eq Tq => ?_⟩
        · exact g H2 a0 a1 a2 a3 a4 a5 _ .non (sm.trans (s1.trans s2)) hl (.inl ⟨rfl, by rw [readP_snoc]; exact e⟩)
        · exact g H2 a0 a1 a2 a3 a4 a5 _ (.ref t) (sm.trans (s1.trans s2)) hl (.inr ⟨t, q, ts, n, kss, rfl, by rw [readP_snoc]; exact e, et, eq, Tq⟩)
      · refine g H' a0 a1 a2 a3 a4 a5 _ .non sm hl (.inl ⟨rfl, readP_other fun e => z2 ?_⟩)
        rw [q] at e
        rw [Option.some.inj e]
        rfl
  · have et : text = ("" : Str) := by
      by_cases q : text = ("" : Str)
      · exact q
      · refine absurd ?_ z
        show (!decide (V.str text = V.str "")) = true
        rw [decide_eq_false fun y => q (V.str.inj y)]
        rfl
    exact iteF (g H' a0 a1 a2 a3 a4 a5 text .non sm hl (.inl ⟨rfl, readP_other (by rw [et]; exact fun z => nomatch z)⟩))
def G1 (K : PySem.W.Frag) (H : Hp) (Q : VK) (sc : Addr) (T : TS) : Prop := ∀ (H' : Hp) (a1 a2 a3 a5 : Option V) (lp : Addr) (ys : List Str), Same H H' → H' lp = some (.lst (ys.map V.str)) → Sm ys 1000 300 → T { nx := fun _ H' => Q .non H', rt := Q } [some (.ref sc), a1, a2, a3, some (.ref lp), a5, none, none, none, none, none] H'
theorem law_seg1 {sc : Addr} {ns : List Int} (hS : SqL K H sc (ns.map V.int)) (FC : Fc P w K mg base "_law_cell_at" ["script", "k"] 1 (spCellZ K)) (hr : Room 5 (A.deeper (PyProof.Rows.envOfC "law" (defScope sLaw) s.heap.objs.size f cdv)))
    (h : ∃ T, PSs (cxLw P w K mg base f cdv A outer s H E) ((defBody sLaw).drop 8) T ∧ G2 H Q T) : ∃ T, PSs (cxLw P w K mg base f cdv A outer s H E) ((defBody sLaw).drop 6) T ∧ G1 K H Q sc T := by
  obtain ⟨fC, fdC, mC, kC, bC, GC⟩ := FC.ex
  obtain ⟨T, p, g⟩ := h
  have hr1 : Room 1 _ := hr.mono (by decide)
  refine ⟨_, pss_cons (ps_set (i := 6) scLaw.nd rfl (Or.inl rfl) (pe_bm PySem.F.plainAttrs_str PySem.F.slot_str_join PySem.F.type_str_join mt_join0 pe_str (pa_cons (pe_comp (so := defScope sLaw) rfl (pi_list (pv 4)) rfl .nil (by decide +kernel) (fun _ _ _ _ _ _ => pts_nil) (fun _ _ _ _ _ _ => pe_op op_add_str (pv 0) pe_str)) pa_nil)))
    (pss_cons (ps_if (pt_cmpR op_eq (pe_op op_mod (pe_call GC hr1 rfl mC kC bC .nil pass0 (pa_cons (pv 0) (pa_cons pe_int pa_nil))) pe_int) pe_int (nomark _)) (pss_one (ps_set (i := 6) scLaw.nd rfl (Or.inl rfl) (pe_slice sl_str (pv 6) po_none (po_some (pe_un un_neg pe_int))))) pss_nil) p), ?_⟩
  intro H' a1 a2 a3 a5 lp ys sm el sy
  have yn := sy.n
  have hz : ∀ z ∈ ys, z.length + ("\n" : Str).length ≤ sizeLine := fun z hz => by
    have := sy.b z hz
    exact Nat.le_of_lt (small1000 (by show z.length + 1 ≤ 1000; (first | lia | omega)))
  have cl : (cat (ys.map fun z => z ++ ("\n" : Str))).length ≤ 301000 := by
    have := cat_len (l := ys.map fun z => z ++ ("\n" : Str)) (B := 301) fun x hx => by
      obtain ⟨z, hz, rfl⟩ := List.mem_map.mp hx
      have := sy.b z hz
      rw [len_app]
      show z.length + 1 ≤ 301
      (first | lia | omega)
    rw [List.length_map] at this
    (first | lia | omega)
  refine ⟨rfl, _, rfl, lp, rfl, ⟨_, SqL.of el⟩, comp_strs (K := K) (fun z => .str (z ++ ("\n" : Str))) (by rw [sizeLine_eq]; (first | lia | omega)) el (fun H z Q hm hq => ⟨_, rfl, _, _, rfl, rfl, hz z hm, hq⟩) fun D hD => ?_⟩
  refine ⟨D, ys.map fun z => z ++ ("\n" : Str), rfl, rfl, by rw [upd_same, List.map_map]; rfl, Nat.le_trans cl (by rw [sizeLine_eq]; decide), ?_⟩
  have s1 : Same H' (upd H' D (.lst (ys.map fun z => V.str (z ++ ("\n" : Str))))) := same_new (Same.refl _) hD
  have s01 := sm.trans s1
  refine ⟨_, rfl, sc, ns, 3, rfl, by decide, s01.seq hS, fun z => ⟨_, _, rfl, rfl, (by show (0 : Int) < 16; decide), rfl, _, rfl, ite2 (fun _ => ?_) (fun _ => ?_)⟩⟩
  · refine ⟨_, rfl, _, rfl, _, rfl, _, rfl, Nat.le_trans cl (by rw [sizeLine_eq]; decide), fun y _ ly => ?_⟩
    exact g _ (some (.ref sc)) a1 a2 a3 (some (.ref lp)) a5 y s01 (by (first | lia | omega))
  · exact g _ (some (.ref sc)) a1 a2 a3 (some (.ref lp)) a5 _ s01 (by (first | lia | omega))
theorem ok_law {f : Addr} {fd : FuncData} (F : Fun K "law" "law" sLaw f fd) (L : Lx K mg a) (N : Nx K mg a) (XT : XRow K a a.eTxt 5) (FC : Fc P w K mg base "_law_cell_at" ["script", "k"] 1 (spCellZ K)) (FM : Fc P w K mg base "_law_many" ["script"] 2 (spMn K))
    (FB : Fc P w K mg base "_law_pairs_by" ["script", "first", "many"] 2 (spPB K)) (FP : Fc P w K mg base "_law_spoiled" ["lines", "cell"] 2 spSp) (FD : Fc P w K mg base "_law_due" ["lines"] 2 spDu) (FMk : FcU P w K mg base "_law_marks_of" ["e"] 1 (spMarks K a))
    (FS : Fc P w K mg base "_law_same" ["hall", "pairs", "many"] 3 (spSame a)) (FR : Fe P w K mg base "read" ["text"] 5 (spRd a)) : FnOk P w K mg base CX0 6 f fd ["script"] (spLaw K) := by
  have FC' := FC
  obtain ⟨fC, fdC, mC, kC, bC, GC⟩ := FC.ex
  obtain ⟨fM, fdM, mM, kM, bM, GM⟩ := FM.ex
  obtain ⟨fB, fdB, mB, kB, bB, GB⟩ := FB.ex
  obtain ⟨fP, fdP, mP, kP, bP, GP⟩ := FP.ex
  refine F.ok scLaw (fun vs H Q E h => ?_) (fun cdv A outer s H vs Q E hr h => ?_)
  · obtain ⟨sc, ns, rfl, _⟩ := h
    rfl
  · obtain ⟨sc, ns, rfl, hS, hlen, k⟩ := h
    have hr1 : Room 1 _ := hr.mono (by decide)
    have hr2 : Room 2 _ := hr.mono (by decide)
    obtain ⟨T, p, g⟩ := law_seg1 (H := H) (Q := Q) (E := E) (outer := outer) hS FC' hr (law_seg2 FD hr (law_seg3 L XT FMk FS FR hr k))
    refine ⟨_, pss_cons (ps_set (i := 1) scLaw.nd rfl (Or.inl rfl) (pe_call GM hr2 rfl mM kM bM .nil pass0 (pa_cons (pv 0) pa_nil)))
      (pss_cons (ps_set (i := 2) scLaw.nd rfl (Or.inl rfl) (pe_call GB hr2 rfl mB kB bB .nil pass0 (pa_cons (pv 0) (pa_cons pe_int (pa_cons (pv 1) pa_nil)))))
      (pss_cons (ps_set (i := 3) scLaw.nd rfl (Or.inl rfl) (pe_op op_mod (pe_call GC hr1 rfl mC kC bC .nil pass0 (pa_cons (pv 0) (pa_cons pe_int pa_nil))) (pe_op op_add (pe_callB call_len_seq (by rfl) L.T.len PySem.boot_len (pa_cons (pv 2) pa_nil)) pe_int)))
      (pss_cons (ps_set (i := 4) scLaw.nd rfl (Or.inl rfl) (pe_op op_cat (pe_lst (pa_cons (pe_op op_add_str pe_str (pe_callTy call_str_int rfl N.zs (by decide +kernel) (pa_cons (pv 1) pa_nil))) pa_nil))
        (pe_comp2 (so := defScope sLaw) (K := K) rfl (pi_list (pe_op op_cat (pe_slice sl_list (pv 2) (po_some (pv 3)) po_none) (pe_slice sl_list (pv 2) po_none (po_some (pv 3))))) rfl .nil (by decide +kernel)
          (fun _ _ _ _ _ _ => pe_op op_add_str (pe_op op_add_str (pe_callTy call_str_int rfl N.zs (by decide +kernel) (pa_cons (pv 0) pa_nil)) pe_str) (pe_callTy call_str_int rfl N.zs (by decide +kernel) (pa_cons (pv 1) pa_nil))))))
      (pss_cons (ps_set (i := 5) scLaw.nd rfl (Or.inl rfl) (pe_op op_mod (pe_call GC hr1 rfl mC kC bC .nil pass0 (pa_cons (pv 0) (pa_cons pe_int pa_nil))) (pe_op op_pow pe_int pe_int)))
      (pss_cons (ps_if (pt_cmpR op_gt (pe_op op_mod (pv 5) pe_int) pe_int (nomark _)) (pss_one (ps_set (i := 4) scLaw.nd rfl (Or.inl rfl) (pe_call GP hr2 rfl mP kP bP .nil pass0 (pa_cons (pv 4) (pa_cons (pe_op op_fdiv (pv 5) pe_int) pa_nil))))) pss_nil) p))))), ?_⟩
    refine ⟨_, rfl, sc, ns, rfl, hS, fun n n1 n20 => ?_⟩
    refine ⟨_, rfl, _, rfl, sc, ns, 4, n, rfl, hS, n1, n20, fun q ts kss H1 fq s1 e1 T1 G => ?_⟩
    have tl := T1.length
    have glen := G.len
    refine ⟨_, rfl, sc, ns, 1, rfl, by decide, s1.seq hS, fun z1 => ⟨_, rfl, q, _, rfl, .inl (SqL.of e1), _, _, rfl, rfl, _, _, rfl, rfl, (by show (0 : Int) < ((ts.map V.ref).length : Int) + 1; (first | lia | omega)), ?_⟩⟩
    have c0 := Int.emod_nonneg z1 (show ((ts.map V.ref).length : Int) + 1 ≠ 0 by (first | lia | omega))
    have ly := (nS_free n (by (first | lia | omega))).2.2
    have small : ∀ m : Nat, m ≤ 1000 → m ≤ sizeLine := fun m h => Nat.le_of_lt (small1000 h)
    refine ⟨_, rfl, (n : Int), rfl, log_small n (by (first | lia | omega)), _, _, rfl, rfl, small _ (by show 7 + (nS n).length ≤ 1000; (first | lia | omega)), (by show 1 ≤ sizeLine; decide), fun g1 hg1 => ?_⟩
    have s2 : Same H1 (upd H1 g1 (.lst [.str (("guests " : Str) ++ ((toString (n : Int) : String) : Str))])) := same_new (Same.refl _) hg1
    have eg : upd H1 g1 (.lst [.str (("guests " : Str) ++ ((toString (n : Int) : String) : Str))]) g1 = some (.lst [.str (("guests " : Str) ++ ((toString (n : Int) : String) : Str))]) := upd_same
    revert s2 eg
    show _ → _ → _
    generalize upd H1 g1 (.lst [.str (("guests " : Str) ++ ((toString (n : Int) : String) : Str))]) = H2
    intro s2 eg
    obtain ⟨c, ec⟩ : ∃ c : Int, c = z1 % (((ts.map V.ref).length : Int) + 1) := ⟨_, rfl⟩
    rw [← ec] at c0
    have e2 := s2 q _ e1
    refine ⟨_, rfl, _, rfl, _, rfl, q, _, rfl, SqL.of e2, fun c1 hc1 => ?_⟩
    have s3 : Same H2 (upd H2 c1 (.lst (cutV (ts.map V.ref) (some (z1 % (((ts.map V.ref).length : Int) + 1))) none))) := same_new (Same.refl _) hc1
    have ec1 : upd H2 c1 (.lst (cutV (ts.map V.ref) (some (z1 % (((ts.map V.ref).length : Int) + 1))) none)) c1 = some (.lst ((ts.drop c.toNat).map V.ref)) := by rw [upd_same, ← ec, cut_lo c0, List.map_drop]
    revert s3 ec1
    generalize upd H2 c1 (.lst (cutV (ts.map V.ref) (some (z1 % (((ts.map V.ref).length : Int) + 1))) none)) = H3
    intro s3 ec1
    refine ⟨_, rfl, _, rfl, _, rfl, q, _, rfl, SqL.of (s3 q _ e2), fun c2 hc2 => ?_⟩
    have s4 : Same H3 (upd H3 c2 (.lst (cutV (ts.map V.ref) none (some (z1 % (((ts.map V.ref).length : Int) + 1)))))) := same_new (Same.refl _) hc2
    have ec2 : upd H3 c2 (.lst (cutV (ts.map V.ref) none (some (z1 % (((ts.map V.ref).length : Int) + 1))))) c2 = some (.lst ((ts.take c.toNat).map V.ref)) := by rw [upd_same, ← ec, cut_hi c0, List.map_take]
    revert s4 ec2
    generalize upd H3 c2 (.lst (cutV (ts.map V.ref) none (some (z1 % (((ts.map V.ref).length : Int) + 1))))) = H4
    intro s4 ec2
    have s14 : Same H1 H4 := (s2.trans s3).trans s4
    have dl : (ts.drop c.toNat).length + (ts.take c.toNat).length = ts.length := by rw [List.length_drop, List.length_take]; (first | lia | omega)
    refine ⟨c1, c2, _, _, rfl, rfl, s4 c1 _ ec1, ec2, small _ (by rw [List.length_map, List.length_map]; (first | lia | omega)), fun o ho => ?_⟩
    have s5 : Same H4 (upd H4 o (.lst ((ts.drop c.toNat).map V.ref ++ (ts.take c.toNat).map V.ref))) := same_new (Same.refl _) ho
    have eo : upd H4 o (.lst ((ts.drop c.toNat).map V.ref ++ (ts.take c.toNat).map V.ref)) o = some (.lst ((ts.drop c.toNat ++ ts.take c.toNat).map V.ref)) := by rw [upd_same, List.map_append]
    revert s5 eo
    generalize upd H4 o (.lst ((ts.drop c.toNat).map V.ref ++ (ts.take c.toNat).map V.ref)) = H5
    intro s5 eo
    have s15 := s14.trans s5
    have T5 : Tups H5 (ts.drop c.toNat ++ ts.take c.toNat) (kss.drop c.toNat ++ kss.take c.toNat) := Tups.append (Tups.same (fun b xs e => s15 b _ e) (Tups.drop' c.toNat T1)) (Tups.same (fun b xs e => s15 b _ e) (Tups.take' c.toNat T1))
    have mem5 : ∀ ks ∈ kss.drop c.toNat ++ kss.take c.toNat, ∃ i j : Nat, i < j ∧ j < n ∧ ks = [(i : Int), (j : Int)] := fun ks hk => by
      rcases List.mem_append.mp hk with hk | hk
      · exact G.mem ks (List.mem_of_mem_drop hk)
      · exact G.mem ks (List.mem_of_mem_take hk)
    have gl : ∀ ks ∈ kss.drop c.toNat ++ kss.take c.toNat, (lnG ks).length ≤ 5 := fun ks hk => by
      obtain ⟨i, j, h1, h2, rfl⟩ := mem5 ks hk
      have a1 := (nS_free i (by (first | lia | omega))).2.2
      have a2 := (nS_free j (by (first | lia | omega))).2.2
      show ((nS i ++ (" " : Str)) ++ nS j).length ≤ 5
      rw [len_app, len_app]
      show (nS i).length + 1 + (nS j).length ≤ 5
      (first | lia | omega)
    have len5 : (kss.drop c.toNat ++ kss.take c.toNat).length = kss.length := by rw [List.length_append, List.length_drop, List.length_take]; (first | lia | omega)
    refine ⟨o, rfl, ⟨_, SqL.of eo⟩, comp_tups (K := K) lnG (by rw [List.length_append, sizeLine_eq]; (first | lia | omega)) eo T5 (fun ks hk => ?_) (fun H i j Q hk hq => ?_) fun D hD => ?_⟩
    · obtain ⟨i, j, _, _, rfl⟩ := mem5 ks hk
      exact ⟨_, _, rfl⟩
    · obtain ⟨i', j', h1, h2, e⟩ := mem5 _ hk
      obtain ⟨ei, e'⟩ := List.cons.inj e
      obtain ⟨ej, _⟩ := List.cons.inj e'
      subst ei ej
      have a1 := (nS_free i' (by (first | lia | omega))).2.2
      have a2 := (nS_free j' (by (first | lia | omega))).2.2
      exact ⟨_, rfl, (i' : Int), rfl, log_small i' (by (first | lia | omega)), _, _, rfl, rfl, small _ (by show (nS i').length + 1 ≤ 1000; (first | lia | omega)), _, rfl, (j' : Int), rfl, log_small j' (by (first | lia | omega)), _, _, rfl, rfl, small _ (by show (nS i' ++ (" " : Str)).length + (nS j').length ≤ 1000; rw [len_app]; show (nS i').length + 1 + _ ≤ 1000; (first | lia | omega)), hq⟩
    have s6 : Same H5 (upd H5 D (.lst (((kss.drop c.toNat ++ kss.take c.toNat).map lnG).map V.str))) := same_new (Same.refl _) hD
    have eD : upd H5 D (.lst (((kss.drop c.toNat ++ kss.take c.toNat).map lnG).map V.str)) D = some (.lst (((kss.drop c.toNat ++ kss.take c.toNat).map lnG).map V.str)) := upd_same
    revert s6 eD
    generalize upd H5 D (.lst (((kss.drop c.toNat ++ kss.take c.toNat).map lnG).map V.str)) = H6
    intro s6 eD
    have s26 : Same H2 H6 := ((s3.trans s4).trans s5).trans s6
    refine ⟨g1, D, _, _, rfl, rfl, s26 g1 _ eg, eD, small _ (by rw [List.length_map, List.length_map, len5]; show 1 + _ ≤ 1000; (first | lia | omega)), fun lp hlp => ?_⟩
    have s7 : Same H6 (upd H6 lp (.lst ([.str (("guests " : Str) ++ ((toString (n : Int) : String) : Str))] ++ ((kss.drop c.toNat ++ kss.take c.toNat).map lnG).map V.str))) := same_new (Same.refl _) hlp
    have el : upd H6 lp (.lst ([.str (("guests " : Str) ++ ((toString (n : Int) : String) : Str))] ++ ((kss.drop c.toNat ++ kss.take c.toNat).map lnG).map V.str)) lp = some (.lst (((("guests " : Str) ++ ((toString (n : Int) : String) : Str)) :: (kss.drop c.toNat ++ kss.take c.toNat).map lnG).map V.str)) := upd_same
    revert s7 el
    generalize upd H6 lp (.lst ([.str (("guests " : Str) ++ ((toString (n : Int) : String) : Str))] ++ ((kss.drop c.toNat ++ kss.take c.toNat).map lnG).map V.str)) = H7
    intro s7 el
    have s07 : Same H H7 := ((s1.trans s2).trans s26).trans s7
    have ys : Sm ((("guests " : Str) ++ ((toString (n : Int) : String) : Str)) :: (kss.drop c.toNat ++ kss.take c.toNat).map lnG) 450 100 := ⟨by rw [List.length_cons, List.length_map, len5]; (first | lia | omega), fun x hx => by
      rcases List.mem_cons.mp hx with rfl | hx
      · rw [len_app]
        show 7 + (nS n).length ≤ 100
        (first | lia | omega)
      · obtain ⟨ks, hk, rfl⟩ := List.mem_map.mp hx
        exact Nat.le_trans (gl ks hk) (by decide)⟩
    refine ⟨_, rfl, sc, ns, 2, rfl, by decide, s07.seq hS, fun z2 => ⟨_, _, rfl, rfl, ⟨by decide, by decide, by decide⟩, _, _, rfl, rfl, (by show (0 : Int) < 10 ^ 12; decide), ?_⟩⟩
    refine ⟨_, rfl, _, _, rfl, rfl, (by show (0 : Int) < 4; decide), _, _, rfl, rfl, _, rfl, ite2 (fun _ => ?_) (fun _ => ?_)⟩
    · refine ⟨_, rfl, _, rfl, _, _, rfl, rfl, ⟨by decide, by decide⟩, lp, _, _, rfl, el, (fun z => nomatch z), ys.n, ys.b, fun p2 ys2 H9 s9 e9 n9 b9 => ?_⟩
      exact g H9 _ _ _ _ p2 ys2 (s07.trans s9) e9 ⟨n9, b9⟩
    · exact g H7 _ _ _ _ lp _ s07 el (ys.mono (by decide) (by decide))
end
end Kn
set_option Elab.async false
set_option linter.all false
set_option maxRecDepth 100000
set_option maxHeartbeats 4000000
namespace Kn
open PySem L2
theorem ci_of {K : PySem.W.Frag} {D : Addr} {b : Value} (h : PySem.W.mroIn K D b = some true) : (PySem.W.clsIn K D).isSome = true := by
  unfold PySem.W.mroIn at h
  cases e : PySem.W.clsIn K D with
  | none => rw [e] at h; cases h
  | some c => rfl
theorem us1 {P : List Value → Prop} (h : ∀ x0, P [x0]) : ∀ us : List Value, us.length = 1 → P us
  | [x0], _ => h x0
theorem us2 {P : List Value → Prop} (h : ∀ x0 x1, P [x0, x1]) : ∀ us : List Value, us.length = 2 → P us
  | [x0, x1], _ => h x0 x1
theorem us3 {P : List Value → Prop} (h : ∀ x0 x1 x2, P [x0, x1, x2]) : ∀ us : List Value, us.length = 3 → P us
  | [x0, x1, x2], _ => h x0 x1 x2
theorem us4 {P : List Value → Prop} (h : ∀ x0 x1 x2 x3, P [x0, x1, x2, x3]) : ∀ us : List Value, us.length = 4 → P us
  | [x0, x1, x2, x3], _ => h x0 x1 x2 x3
theorem us5 {P : List Value → Prop} (h : ∀ x0 x1 x2 x3 x4, P [x0, x1, x2, x3, x4]) : ∀ us : List Value, us.length = 5 → P us
  | [x0, x1, x2, x3, x4], _ => h x0 x1 x2 x3 x4
theorem all_mk {l : PySem.W.OpenLaw} {w : World} {K : PySem.W.Frag} {h : Heap} {mg : Str → Option Value} {fa C eH eNo eSame eKnow eStr eBad eTxt f___init__ f_many f_meet f_know f_known f_strangers f_need_guest f_settle f_need_many f_read f_guests_told f_meet_as_told f_two_words f_number_told f__law_cell_at f__law_whole f__law_many f__law_pairs_by f__law_known f__law_numbers f__law_marks_of f__law_same f__law_sign_by f__law_spoiled f__law_number f__law_due f_law : Addr} {tk1 tk2 tk_FIRST_WORD : Tok} (X : K.In h) (G : h.Ns mainGlobals mg) (hfa : mg "law" = some (.ref fa))
    {od___init__ an___init__ : Option Addr} {sl___init__ : Array (Option Value)} {oc___init__ kV___init__ dc___init__ pm___init__ cd___init__ ct___init__ : Value}
    {od_many an_many : Option Addr} {sl_many : Array (Option Value)} {oc_many kV_many dc_many pm_many cd_many ct_many : Value}
    {od_meet an_meet : Option Addr} {sl_meet : Array (Option Value)} {oc_meet kV_meet dc_meet pm_meet cd_meet ct_meet : Value}
    {od_know an_know : Option Addr} {sl_know : Array (Option Value)} {oc_know kV_know dc_know pm_know cd_know ct_know : Value}
    {od_known an_known : Option Addr} {sl_known : Array (Option Value)} {oc_known kV_known dc_known pm_known cd_known ct_known : Value}
    {od_strangers an_strangers : Option Addr} {sl_strangers : Array (Option Value)} {oc_strangers kV_strangers dc_strangers pm_strangers cd_strangers ct_strangers : Value}
    {od_need_guest an_need_guest : Option Addr} {sl_need_guest : Array (Option Value)} {oc_need_guest kV_need_guest dc_need_guest pm_need_guest cd_need_guest ct_need_guest : Value}
    {od_settle an_settle : Option Addr} {sl_settle : Array (Option Value)} {oc_settle kV_settle dc_settle pm_settle cd_settle ct_settle : Value}
    {od_need_many an_need_many : Option Addr} {sl_need_many : Array (Option Value)} {oc_need_many kV_need_many dc_need_many pm_need_many cd_need_many ct_need_many : Value}
    {od_read an_read : Option Addr} {sl_read : Array (Option Value)} {oc_read kV_read dc_read pm_read cd_read ct_read : Value}
    {od_guests_told an_guests_told : Option Addr} {sl_guests_told : Array (Option Value)} {oc_guests_told kV_guests_told dc_guests_told pm_guests_told cd_guests_told ct_guests_told : Value}
    {od_meet_as_told an_meet_as_told : Option Addr} {sl_meet_as_told : Array (Option Value)} {oc_meet_as_told kV_meet_as_told dc_meet_as_told pm_meet_as_told cd_meet_as_told ct_meet_as_told : Value}
    {od_two_words an_two_words : Option Addr} {sl_two_words : Array (Option Value)} {oc_two_words kV_two_words dc_two_words pm_two_words cd_two_words ct_two_words : Value}
    {od_number_told an_number_told : Option Addr} {sl_number_told : Array (Option Value)} {oc_number_told kV_number_told dc_number_told pm_number_told cd_number_told ct_number_told : Value}
    {od__law_cell_at an__law_cell_at : Option Addr} {sl__law_cell_at : Array (Option Value)} {oc__law_cell_at kV__law_cell_at dc__law_cell_at pm__law_cell_at cd__law_cell_at ct__law_cell_at : Value}
    {od__law_whole an__law_whole : Option Addr} {sl__law_whole : Array (Option Value)} {oc__law_whole kV__law_whole dc__law_whole pm__law_whole cd__law_whole ct__law_whole : Value}
    {od__law_many an__law_many : Option Addr} {sl__law_many : Array (Option Value)} {oc__law_many kV__law_many dc__law_many pm__law_many cd__law_many ct__law_many : Value}
    {od__law_pairs_by an__law_pairs_by : Option Addr} {sl__law_pairs_by : Array (Option Value)} {oc__law_pairs_by kV__law_pairs_by dc__law_pairs_by pm__law_pairs_by cd__law_pairs_by ct__law_pairs_by : Value}
    {od__law_known an__law_known : Option Addr} {sl__law_known : Array (Option Value)} {oc__law_known kV__law_known dc__law_known pm__law_known cd__law_known ct__law_known : Value}
    {od__law_numbers an__law_numbers : Option Addr} {sl__law_numbers : Array (Option Value)} {oc__law_numbers kV__law_numbers dc__law_numbers pm__law_numbers cd__law_numbers ct__law_numbers : Value}
    {od__law_marks_of an__law_marks_of : Option Addr} {sl__law_marks_of : Array (Option Value)} {oc__law_marks_of kV__law_marks_of dc__law_marks_of pm__law_marks_of cd__law_marks_of ct__law_marks_of : Value}
    {od__law_same an__law_same : Option Addr} {sl__law_same : Array (Option Value)} {oc__law_same kV__law_same dc__law_same pm__law_same cd__law_same ct__law_same : Value}
    {od__law_sign_by an__law_sign_by : Option Addr} {sl__law_sign_by : Array (Option Value)} {oc__law_sign_by kV__law_sign_by dc__law_sign_by pm__law_sign_by cd__law_sign_by ct__law_sign_by : Value}
    {od__law_spoiled an__law_spoiled : Option Addr} {sl__law_spoiled : Array (Option Value)} {oc__law_spoiled kV__law_spoiled dc__law_spoiled pm__law_spoiled cd__law_spoiled ct__law_spoiled : Value}
    {od__law_number an__law_number : Option Addr} {sl__law_number : Array (Option Value)} {oc__law_number kV__law_number dc__law_number pm__law_number cd__law_number ct__law_number : Value}
    {od__law_due an__law_due : Option Addr} {sl__law_due : Array (Option Value)} {oc__law_due kV__law_due dc__law_due pm__law_due cd__law_due ct__law_due : Value}
    {od_law an_law : Option Addr} {sl_law : Array (Option Value)} {oc_law kV_law dc_law pm_law cd_law ct_law : Value}
    (aC : PySem.W.nsIn K mainGlobals "Hall" = some (some (.ref C)))
    (aH : PySem.W.nsIn K mainGlobals "HallError" = some (some (.ref eH)))
    (a_eNo : PySem.W.nsIn K mainGlobals "NoGuest" = some (some (.ref eNo)))
    (a_eSame : PySem.W.nsIn K mainGlobals "SameGuest" = some (some (.ref eSame)))
    (a_eKnow : PySem.W.nsIn K mainGlobals "KnowAlready" = some (some (.ref eKnow)))
    (a_eStr : PySem.W.nsIn K mainGlobals "Strangers" = some (some (.ref eStr)))
    (a_eBad : PySem.W.nsIn K mainGlobals "BadHall" = some (some (.ref eBad)))
    (a_eTxt : PySem.W.nsIn K mainGlobals "NoText" = some (some (.ref eTxt)))
    (aFew : PySem.W.nsIn K mainGlobals "FEWEST_GUESTS" = some (some (.int 1 tk1)))
    (aMost : PySem.W.nsIn K mainGlobals "MOST_GUESTS" = some (some (.int 20 tk2)))
    (ac_FIRST_WORD : PySem.W.nsIn K mainGlobals "FIRST_WORD" = some (some (.str "guests" tk_FIRST_WORD)))
    (z_len : PySem.W.nsIn K mainGlobals "len" = some none)
    (z_range : PySem.W.nsIn K mainGlobals "range" = some none)
    (z_isinstance : PySem.W.nsIn K mainGlobals "isinstance" = some none)
    (z_int : PySem.W.nsIn K mainGlobals "int" = some none)
    (z_bool : PySem.W.nsIn K mainGlobals "bool" = some none)
    (z_list : PySem.W.nsIn K mainGlobals "list" = some none)
    (z_min : PySem.W.nsIn K mainGlobals "min" = some none)
    (z_max : PySem.W.nsIn K mainGlobals "max" = some none)
    (z_ValueError : PySem.W.nsIn K mainGlobals "ValueError" = some none)
    (z_sorted : PySem.W.nsIn K mainGlobals "sorted" = some none)
    (z_str : PySem.W.nsIn K mainGlobals "str" = some none)
    (pg : PySem.W.plainGet K C Str.empty = true)
    (hd : PySem.W.hasDictIn K C = true)
    (po : PySem.W.plainOver K C = true)
    (sa : PySem.W.findIn K (.ref C) "__setattr__" = some (some (.builtin "object.__setattr__")))
    (mk : PySem.W.makesIn K C = true)
    (kc : PySem.W.keepIn K (.ref C) = true)
    (nR : PySem.W.findIn K (.ref C) "rows" = some none)
    (x_eNo : PySem.W.excIn K eNo bmVE "ValueError.__new__" = true)
    (x_eSame : PySem.W.excIn K eSame bmVE "ValueError.__new__" = true)
    (x_eKnow : PySem.W.excIn K eKnow bmVE "ValueError.__new__" = true)
    (x_eStr : PySem.W.excIn K eStr bmVE "ValueError.__new__" = true)
    (x_eBad : PySem.W.excIn K eBad bmVE "ValueError.__new__" = true)
    (x_eTxt : PySem.W.excIn K eTxt bmVE "ValueError.__new__" = true)
    (ga_eTxt : PySem.W.findIn K (.ref eTxt) "__getattribute__" = some (some (.builtin "BaseException.__getattribute__")))
    (gh_eTxt : PySem.W.findIn K (.ref eTxt) "__getattr__" = some none)
    (ha_eTxt : PySem.W.findIn K (.ref eTxt) "__class__" = some (some (.builtin "object.__class__")))
    (hm_eTxt : PySem.W.mroIn K eTxt (.type "object") = some true)
    (hb_eTxt : PySem.W.mroIn K eTxt (.type "BaseException") = some true)
    (k0_eTxt : PySem.W.kitOne K (.ref eTxt) (.ref eNo) = some false)
    (k1_eTxt : PySem.W.kitOne K (.ref eTxt) (.ref eSame) = some false)
    (k2_eTxt : PySem.W.kitOne K (.ref eTxt) (.ref eKnow) = some false)
    (k3_eTxt : PySem.W.kitOne K (.ref eTxt) (.ref eStr) = some false)
    (k4_eTxt : PySem.W.kitOne K (.ref eTxt) (.ref eBad) = some false)
    (k5_eTxt : PySem.W.kitOne K (.ref eTxt) (.ref eTxt) = some true)
    (kv_eTxt : PySem.W.kitOne K (.ref eTxt) (.type "ValueError") = some true)
    (em_eTxt : PySem.W.exmOne K (.ref eTxt) (.ref eH) = some true)
    (a___init__ : PySem.W.findIn K (.ref C) "__init__" = some (some (.ref f___init__)))
    (i___init__ : PySem.W.isFn K (.ref f___init__) = true)
    (l___init__ : K.lookup f___init__ = some ⟨oc___init__, od___init__, .func (PySem.W.fnOf "__init__" "Hall.__init__" (defArgs sInit) (defBody sInit) (defScope sInit) .none kV___init__ dc___init__ pm___init__ an___init__ cd___init__ ct___init__), sl___init__⟩)
    (c___init__ : PySem.W.codeIn K cd___init__ "Hall.__init__" = true)
    (k___init__ : PySem.W.keepIn K (.ref f___init__) = true)
    (a_many : PySem.W.findIn K (.ref C) "many" = some (some (.ref f_many)))
    (i_many : PySem.W.isFn K (.ref f_many) = true)
    (l_many : K.lookup f_many = some ⟨oc_many, od_many, .func (PySem.W.fnOf "many" "Hall.many" (defArgs sMany) (defBody sMany) (defScope sMany) .none kV_many dc_many pm_many an_many cd_many ct_many), sl_many⟩)
    (c_many : PySem.W.codeIn K cd_many "Hall.many" = true)
    (k_many : PySem.W.keepIn K (.ref f_many) = true)
    (a_meet : PySem.W.findIn K (.ref C) "meet" = some (some (.ref f_meet)))
    (i_meet : PySem.W.isFn K (.ref f_meet) = true)
    (l_meet : K.lookup f_meet = some ⟨oc_meet, od_meet, .func (PySem.W.fnOf "meet" "Hall.meet" (defArgs sMeet) (defBody sMeet) (defScope sMeet) .none kV_meet dc_meet pm_meet an_meet cd_meet ct_meet), sl_meet⟩)
    (c_meet : PySem.W.codeIn K cd_meet "Hall.meet" = true)
    (k_meet : PySem.W.keepIn K (.ref f_meet) = true)
    (a_know : PySem.W.findIn K (.ref C) "know" = some (some (.ref f_know)))
    (i_know : PySem.W.isFn K (.ref f_know) = true)
    (l_know : K.lookup f_know = some ⟨oc_know, od_know, .func (PySem.W.fnOf "know" "Hall.know" (defArgs sKnow) (defBody sKnow) (defScope sKnow) .none kV_know dc_know pm_know an_know cd_know ct_know), sl_know⟩)
    (c_know : PySem.W.codeIn K cd_know "Hall.know" = true)
    (k_know : PySem.W.keepIn K (.ref f_know) = true)
    (a_known : PySem.W.findIn K (.ref C) "known" = some (some (.ref f_known)))
    (i_known : PySem.W.isFn K (.ref f_known) = true)
    (l_known : K.lookup f_known = some ⟨oc_known, od_known, .func (PySem.W.fnOf "known" "Hall.known" (defArgs sKnown) (defBody sKnown) (defScope sKnown) .none kV_known dc_known pm_known an_known cd_known ct_known), sl_known⟩)
    (c_known : PySem.W.codeIn K cd_known "Hall.known" = true)
    (k_known : PySem.W.keepIn K (.ref f_known) = true)
    (a_strangers : PySem.W.findIn K (.ref C) "strangers" = some (some (.ref f_strangers)))
    (i_strangers : PySem.W.isFn K (.ref f_strangers) = true)
    (l_strangers : K.lookup f_strangers = some ⟨oc_strangers, od_strangers, .func (PySem.W.fnOf "strangers" "Hall.strangers" (defArgs sStr) (defBody sStr) (defScope sStr) .none kV_strangers dc_strangers pm_strangers an_strangers cd_strangers ct_strangers), sl_strangers⟩)
    (c_strangers : PySem.W.codeIn K cd_strangers "Hall.strangers" = true)
    (k_strangers : PySem.W.keepIn K (.ref f_strangers) = true)
    (a_need_guest : PySem.W.findIn K (.ref C) "need_guest" = some (some (.ref f_need_guest)))
    (i_need_guest : PySem.W.isFn K (.ref f_need_guest) = true)
    (l_need_guest : K.lookup f_need_guest = some ⟨oc_need_guest, od_need_guest, .func (PySem.W.fnOf "need_guest" "Hall.need_guest" (defArgs sNeed) (defBody sNeed) (defScope sNeed) .none kV_need_guest dc_need_guest pm_need_guest an_need_guest cd_need_guest ct_need_guest), sl_need_guest⟩)
    (c_need_guest : PySem.W.codeIn K cd_need_guest "Hall.need_guest" = true)
    (k_need_guest : PySem.W.keepIn K (.ref f_need_guest) = true)
    (a_settle : PySem.W.findIn K (.ref C) "settle" = some (some (.ref f_settle)))
    (i_settle : PySem.W.isFn K (.ref f_settle) = true)
    (l_settle : K.lookup f_settle = some ⟨oc_settle, od_settle, .func (PySem.W.fnOf "settle" "Hall.settle" (defArgs sSet) (defBody sSet) (defScope sSet) .none kV_settle dc_settle pm_settle an_settle cd_settle ct_settle), sl_settle⟩)
    (c_settle : PySem.W.codeIn K cd_settle "Hall.settle" = true)
    (k_settle : PySem.W.keepIn K (.ref f_settle) = true)
    (a_need_many : PySem.W.nsIn K mainGlobals "need_many" = some (some (.ref f_need_many)))
    (l_need_many : K.lookup f_need_many = some ⟨oc_need_many, od_need_many, .func (PySem.W.fnOf "need_many" "need_many" (defArgs sNM) (defBody sNM) (defScope sNM) .none kV_need_many dc_need_many pm_need_many an_need_many cd_need_many ct_need_many), sl_need_many⟩)
    (c_need_many : PySem.W.codeIn K cd_need_many "need_many" = true)
    (k_need_many : PySem.W.keepIn K (.ref f_need_many) = true)
    (a_read : PySem.W.nsIn K mainGlobals "read" = some (some (.ref f_read)))
    (l_read : K.lookup f_read = some ⟨oc_read, od_read, .func (PySem.W.fnOf "read" "read" (defArgs sRead) (defBody sRead) (defScope sRead) .none kV_read dc_read pm_read an_read cd_read ct_read), sl_read⟩)
    (c_read : PySem.W.codeIn K cd_read "read" = true)
    (k_read : PySem.W.keepIn K (.ref f_read) = true)
    (a_guests_told : PySem.W.nsIn K mainGlobals "guests_told" = some (some (.ref f_guests_told)))
    (l_guests_told : K.lookup f_guests_told = some ⟨oc_guests_told, od_guests_told, .func (PySem.W.fnOf "guests_told" "guests_told" (defArgs sGT) (defBody sGT) (defScope sGT) .none kV_guests_told dc_guests_told pm_guests_told an_guests_told cd_guests_told ct_guests_told), sl_guests_told⟩)
    (c_guests_told : PySem.W.codeIn K cd_guests_told "guests_told" = true)
    (k_guests_told : PySem.W.keepIn K (.ref f_guests_told) = true)
    (a_meet_as_told : PySem.W.nsIn K mainGlobals "meet_as_told" = some (some (.ref f_meet_as_told)))
    (l_meet_as_told : K.lookup f_meet_as_told = some ⟨oc_meet_as_told, od_meet_as_told, .func (PySem.W.fnOf "meet_as_told" "meet_as_told" (defArgs sMT) (defBody sMT) (defScope sMT) .none kV_meet_as_told dc_meet_as_told pm_meet_as_told an_meet_as_told cd_meet_as_told ct_meet_as_told), sl_meet_as_told⟩)
    (c_meet_as_told : PySem.W.codeIn K cd_meet_as_told "meet_as_told" = true)
    (k_meet_as_told : PySem.W.keepIn K (.ref f_meet_as_told) = true)
    (a_two_words : PySem.W.nsIn K mainGlobals "two_words" = some (some (.ref f_two_words)))
    (l_two_words : K.lookup f_two_words = some ⟨oc_two_words, od_two_words, .func (PySem.W.fnOf "two_words" "two_words" (defArgs sTW) (defBody sTW) (defScope sTW) .none kV_two_words dc_two_words pm_two_words an_two_words cd_two_words ct_two_words), sl_two_words⟩)
    (c_two_words : PySem.W.codeIn K cd_two_words "two_words" = true)
    (k_two_words : PySem.W.keepIn K (.ref f_two_words) = true)
    (a_number_told : PySem.W.nsIn K mainGlobals "number_told" = some (some (.ref f_number_told)))
    (l_number_told : K.lookup f_number_told = some ⟨oc_number_told, od_number_told, .func (PySem.W.fnOf "number_told" "number_told" (defArgs sNT) (defBody sNT) (defScope sNT) .none kV_number_told dc_number_told pm_number_told an_number_told cd_number_told ct_number_told), sl_number_told⟩)
    (c_number_told : PySem.W.codeIn K cd_number_told "number_told" = true)
    (k_number_told : PySem.W.keepIn K (.ref f_number_told) = true)
    (a__law_cell_at : PySem.W.nsIn K mainGlobals "_law_cell_at" = some (some (.ref f__law_cell_at)))
    (l__law_cell_at : K.lookup f__law_cell_at = some ⟨oc__law_cell_at, od__law_cell_at, .func (PySem.W.fnOf "_law_cell_at" "_law_cell_at" (defArgs sCell) (defBody sCell) (defScope sCell) .none kV__law_cell_at dc__law_cell_at pm__law_cell_at an__law_cell_at cd__law_cell_at ct__law_cell_at), sl__law_cell_at⟩)
    (c__law_cell_at : PySem.W.codeIn K cd__law_cell_at "_law_cell_at" = true)
    (k__law_cell_at : PySem.W.keepIn K (.ref f__law_cell_at) = true)
    (a__law_whole : PySem.W.nsIn K mainGlobals "_law_whole" = some (some (.ref f__law_whole)))
    (l__law_whole : K.lookup f__law_whole = some ⟨oc__law_whole, od__law_whole, .func (PySem.W.fnOf "_law_whole" "_law_whole" (defArgs sWhole) (defBody sWhole) (defScope sWhole) .none kV__law_whole dc__law_whole pm__law_whole an__law_whole cd__law_whole ct__law_whole), sl__law_whole⟩)
    (c__law_whole : PySem.W.codeIn K cd__law_whole "_law_whole" = true)
    (k__law_whole : PySem.W.keepIn K (.ref f__law_whole) = true)
    (a__law_many : PySem.W.nsIn K mainGlobals "_law_many" = some (some (.ref f__law_many)))
    (l__law_many : K.lookup f__law_many = some ⟨oc__law_many, od__law_many, .func (PySem.W.fnOf "_law_many" "_law_many" (defArgs sMn) (defBody sMn) (defScope sMn) .none kV__law_many dc__law_many pm__law_many an__law_many cd__law_many ct__law_many), sl__law_many⟩)
    (c__law_many : PySem.W.codeIn K cd__law_many "_law_many" = true)
    (k__law_many : PySem.W.keepIn K (.ref f__law_many) = true)
    (a__law_pairs_by : PySem.W.nsIn K mainGlobals "_law_pairs_by" = some (some (.ref f__law_pairs_by)))
    (l__law_pairs_by : K.lookup f__law_pairs_by = some ⟨oc__law_pairs_by, od__law_pairs_by, .func (PySem.W.fnOf "_law_pairs_by" "_law_pairs_by" (defArgs sPB) (defBody sPB) (defScope sPB) .none kV__law_pairs_by dc__law_pairs_by pm__law_pairs_by an__law_pairs_by cd__law_pairs_by ct__law_pairs_by), sl__law_pairs_by⟩)
    (c__law_pairs_by : PySem.W.codeIn K cd__law_pairs_by "_law_pairs_by" = true)
    (k__law_pairs_by : PySem.W.keepIn K (.ref f__law_pairs_by) = true)
    (a__law_known : PySem.W.nsIn K mainGlobals "_law_known" = some (some (.ref f__law_known)))
    (l__law_known : K.lookup f__law_known = some ⟨oc__law_known, od__law_known, .func (PySem.W.fnOf "_law_known" "_law_known" (defArgs sLKn) (defBody sLKn) (defScope sLKn) .none kV__law_known dc__law_known pm__law_known an__law_known cd__law_known ct__law_known), sl__law_known⟩)
    (c__law_known : PySem.W.codeIn K cd__law_known "_law_known" = true)
    (k__law_known : PySem.W.keepIn K (.ref f__law_known) = true)
    (a__law_numbers : PySem.W.nsIn K mainGlobals "_law_numbers" = some (some (.ref f__law_numbers)))
    (l__law_numbers : K.lookup f__law_numbers = some ⟨oc__law_numbers, od__law_numbers, .func (PySem.W.fnOf "_law_numbers" "_law_numbers" (defArgs sNums) (defBody sNums) (defScope sNums) .none kV__law_numbers dc__law_numbers pm__law_numbers an__law_numbers cd__law_numbers ct__law_numbers), sl__law_numbers⟩)
    (c__law_numbers : PySem.W.codeIn K cd__law_numbers "_law_numbers" = true)
    (k__law_numbers : PySem.W.keepIn K (.ref f__law_numbers) = true)
    (a__law_marks_of : PySem.W.nsIn K mainGlobals "_law_marks_of" = some (some (.ref f__law_marks_of)))
    (l__law_marks_of : K.lookup f__law_marks_of = some ⟨oc__law_marks_of, od__law_marks_of, .func (PySem.W.fnOf "_law_marks_of" "_law_marks_of" (defArgs sMarks) (defBody sMarks) (defScope sMarks) .none kV__law_marks_of dc__law_marks_of pm__law_marks_of an__law_marks_of cd__law_marks_of ct__law_marks_of), sl__law_marks_of⟩)
    (c__law_marks_of : PySem.W.codeIn K cd__law_marks_of "_law_marks_of" = true)
    (k__law_marks_of : PySem.W.keepIn K (.ref f__law_marks_of) = true)
    (a__law_same : PySem.W.nsIn K mainGlobals "_law_same" = some (some (.ref f__law_same)))
    (l__law_same : K.lookup f__law_same = some ⟨oc__law_same, od__law_same, .func (PySem.W.fnOf "_law_same" "_law_same" (defArgs sSame) (defBody sSame) (defScope sSame) .none kV__law_same dc__law_same pm__law_same an__law_same cd__law_same ct__law_same), sl__law_same⟩)
    (c__law_same : PySem.W.codeIn K cd__law_same "_law_same" = true)
    (k__law_same : PySem.W.keepIn K (.ref f__law_same) = true)
    (a__law_sign_by : PySem.W.nsIn K mainGlobals "_law_sign_by" = some (some (.ref f__law_sign_by)))
    (l__law_sign_by : K.lookup f__law_sign_by = some ⟨oc__law_sign_by, od__law_sign_by, .func (PySem.W.fnOf "_law_sign_by" "_law_sign_by" (defArgs sLSg) (defBody sLSg) (defScope sLSg) .none kV__law_sign_by dc__law_sign_by pm__law_sign_by an__law_sign_by cd__law_sign_by ct__law_sign_by), sl__law_sign_by⟩)
    (c__law_sign_by : PySem.W.codeIn K cd__law_sign_by "_law_sign_by" = true)
    (k__law_sign_by : PySem.W.keepIn K (.ref f__law_sign_by) = true)
    (a__law_spoiled : PySem.W.nsIn K mainGlobals "_law_spoiled" = some (some (.ref f__law_spoiled)))
    (l__law_spoiled : K.lookup f__law_spoiled = some ⟨oc__law_spoiled, od__law_spoiled, .func (PySem.W.fnOf "_law_spoiled" "_law_spoiled" (defArgs sLSp) (defBody sLSp) (defScope sLSp) .none kV__law_spoiled dc__law_spoiled pm__law_spoiled an__law_spoiled cd__law_spoiled ct__law_spoiled), sl__law_spoiled⟩)
    (c__law_spoiled : PySem.W.codeIn K cd__law_spoiled "_law_spoiled" = true)
    (k__law_spoiled : PySem.W.keepIn K (.ref f__law_spoiled) = true)
    (a__law_number : PySem.W.nsIn K mainGlobals "_law_number" = some (some (.ref f__law_number)))
    (l__law_number : K.lookup f__law_number = some ⟨oc__law_number, od__law_number, .func (PySem.W.fnOf "_law_number" "_law_number" (defArgs sLNu) (defBody sLNu) (defScope sLNu) .none kV__law_number dc__law_number pm__law_number an__law_number cd__law_number ct__law_number), sl__law_number⟩)
    (c__law_number : PySem.W.codeIn K cd__law_number "_law_number" = true)
    (k__law_number : PySem.W.keepIn K (.ref f__law_number) = true)
    (a__law_due : PySem.W.nsIn K mainGlobals "_law_due" = some (some (.ref f__law_due)))
    (l__law_due : K.lookup f__law_due = some ⟨oc__law_due, od__law_due, .func (PySem.W.fnOf "_law_due" "_law_due" (defArgs sDue) (defBody sDue) (defScope sDue) .none kV__law_due dc__law_due pm__law_due an__law_due cd__law_due ct__law_due), sl__law_due⟩)
    (c__law_due : PySem.W.codeIn K cd__law_due "_law_due" = true)
    (k__law_due : PySem.W.keepIn K (.ref f__law_due) = true)
    (a_law : PySem.W.nsIn K mainGlobals "law" = some (some (.ref f_law)))
    (l_law : K.lookup f_law = some ⟨oc_law, od_law, .func (PySem.W.fnOf "law" "law" (defArgs sLaw) (defBody sLaw) (defScope sLaw) .none kV_law dc_law pm_law an_law cd_law ct_law), sl_law⟩)
    (c_law : PySem.W.codeIn K cd_law "law" = true)
    (k_law : PySem.W.keepIn K (.ref f_law) = true)
    : ∃ fd : FuncData, (∀ (s : Shared) (v : Value), BindsTo s fd ⟨[v], []⟩ [("script", v)]) ∧ ∀ base : Heap, K.In base → base.Ns mainGlobals mg → FnOk l.prog w K mg base CX0 6 fa fd ["script"] (spLaw K) := by
  have e := hfa.symm.trans (PySem.W.mg_of X G a_law)
  cases e
  have T : Txt K mg ⟨C, eH, eNo, eSame, eKnow, eStr, eBad, eTxt⟩ := ⟨⟨pg, hd, po, sa⟩, nR, PySem.W.mg_of X G aC, PySem.W.mg_of X G a_eNo, PySem.W.mg_of X G a_eSame, PySem.W.mg_of X G a_eKnow, PySem.W.mg_of X G a_eStr, PySem.W.mg_of X G a_eBad, x_eNo, x_eSame, x_eKnow, x_eStr, x_eBad, ⟨_, PySem.W.mg_of X G aFew⟩, ⟨_, PySem.W.mg_of X G aMost⟩, PySem.W.mg_none_of X G z_len, PySem.W.mg_none_of X G z_range⟩
  have L : Lx K mg ⟨C, eH, eNo, eSame, eKnow, eStr, eBad, eTxt⟩ := ⟨T, PySem.W.mg_none_of X G z_isinstance, PySem.W.mg_none_of X G z_int, PySem.W.mg_none_of X G z_bool, PySem.W.mg_none_of X G z_list, PySem.W.mg_none_of X G z_min, PySem.W.mg_none_of X G z_max, PySem.W.mg_none_of X G z_ValueError, PySem.W.mg_of X G aH⟩
  have XT : XRow K ⟨C, eH, eNo, eSame, eKnow, eStr, eBad, eTxt⟩ eTxt 5 := ⟨⟨ga_eTxt, gh_eTxt, ha_eTxt, hm_eTxt, hb_eTxt, ci_of hm_eTxt⟩, k0_eTxt, k1_eTxt, k2_eTxt, k3_eTxt, k4_eTxt, k5_eTxt, kv_eTxt, em_eTxt, (by decide)⟩
  have F___init__ := fun_mk (st := sInit) l___init__ c___init__ k___init__
  have b___init__ := F___init__.binds (ps := ["self", "many"]) fun _ _ _ _ _ _ us hl => us2 (P := fun us => bindArgs _ { pos := us } = pure (List.zip _ us)) (fun _ _ => rfl) us hl
  have M___init__ : Ms K C "__init__" "Hall.__init__" sInit ["self", "many"] f___init__ _ := ⟨F___init__, b___init__, ⟨a___init__, i___init__, k___init__⟩⟩
  have F_many := fun_mk (st := sMany) l_many c_many k_many
  have b_many := F_many.binds (ps := ["self"]) fun _ _ _ _ _ _ us hl => us1 (P := fun us => bindArgs _ { pos := us } = pure (List.zip _ us)) (fun _ => rfl) us hl
  have M_many : Ms K C "many" "Hall.many" sMany ["self"] f_many _ := ⟨F_many, b_many, ⟨a_many, i_many, k_many⟩⟩
  have F_meet := fun_mk (st := sMeet) l_meet c_meet k_meet
  have b_meet := F_meet.binds (ps := ["self", "one", "other"]) fun _ _ _ _ _ _ us hl => us3 (P := fun us => bindArgs _ { pos := us } = pure (List.zip _ us)) (fun _ _ _ => rfl) us hl
  have M_meet : Ms K C "meet" "Hall.meet" sMeet ["self", "one", "other"] f_meet _ := ⟨F_meet, b_meet, ⟨a_meet, i_meet, k_meet⟩⟩
  have F_know := fun_mk (st := sKnow) l_know c_know k_know
  have b_know := F_know.binds (ps := ["self", "one", "other"]) fun _ _ _ _ _ _ us hl => us3 (P := fun us => bindArgs _ { pos := us } = pure (List.zip _ us)) (fun _ _ _ => rfl) us hl
  have M_know : Ms K C "know" "Hall.know" sKnow ["self", "one", "other"] f_know _ := ⟨F_know, b_know, ⟨a_know, i_know, k_know⟩⟩
  have F_known := fun_mk (st := sKnown) l_known c_known k_known
  have b_known := F_known.binds (ps := ["self", "guest"]) fun _ _ _ _ _ _ us hl => us2 (P := fun us => bindArgs _ { pos := us } = pure (List.zip _ us)) (fun _ _ => rfl) us hl
  have M_known : Ms K C "known" "Hall.known" sKnown ["self", "guest"] f_known _ := ⟨F_known, b_known, ⟨a_known, i_known, k_known⟩⟩
  have F_strangers := fun_mk (st := sStr) l_strangers c_strangers k_strangers
  have b_strangers := F_strangers.binds (ps := ["self", "guest"]) fun _ _ _ _ _ _ us hl => us2 (P := fun us => bindArgs _ { pos := us } = pure (List.zip _ us)) (fun _ _ => rfl) us hl
  have M_strangers : Ms K C "strangers" "Hall.strangers" sStr ["self", "guest"] f_strangers _ := ⟨F_strangers, b_strangers, ⟨a_strangers, i_strangers, k_strangers⟩⟩
  have F_need_guest := fun_mk (st := sNeed) l_need_guest c_need_guest k_need_guest
  have b_need_guest := F_need_guest.binds (ps := ["self", "guest"]) fun _ _ _ _ _ _ us hl => us2 (P := fun us => bindArgs _ { pos := us } = pure (List.zip _ us)) (fun _ _ => rfl) us hl
  have M_need_guest : Ms K C "need_guest" "Hall.need_guest" sNeed ["self", "guest"] f_need_guest _ := ⟨F_need_guest, b_need_guest, ⟨a_need_guest, i_need_guest, k_need_guest⟩⟩
  have F_settle := fun_mk (st := sSet) l_settle c_settle k_settle
  have b_settle := F_settle.binds (ps := ["self", "one", "other", "acquainted"]) fun _ _ _ _ _ _ us hl => us4 (P := fun us => bindArgs _ { pos := us } = pure (List.zip _ us)) (fun _ _ _ _ => rfl) us hl
  have M_settle : Ms K C "settle" "Hall.settle" sSet ["self", "one", "other", "acquainted"] f_settle _ := ⟨F_settle, b_settle, ⟨a_settle, i_settle, k_settle⟩⟩
  have F_need_many := fun_mk (st := sNM) l_need_many c_need_many k_need_many
  have b_need_many := F_need_many.binds (ps := ["many"]) fun _ _ _ _ _ _ us hl => us1 (P := fun us => bindArgs _ { pos := us } = pure (List.zip _ us)) (fun _ => rfl) us hl
  have g_need_many := PySem.W.mg_of X G a_need_many
  have F_read := fun_mk (st := sRead) l_read c_read k_read
  have b_read := F_read.binds (ps := ["text"]) fun _ _ _ _ _ _ us hl => us1 (P := fun us => bindArgs _ { pos := us } = pure (List.zip _ us)) (fun _ => rfl) us hl
  have g_read := PySem.W.mg_of X G a_read
  have F_guests_told := fun_mk (st := sGT) l_guests_told c_guests_told k_guests_told
  have b_guests_told := F_guests_told.binds (ps := ["line"]) fun _ _ _ _ _ _ us hl => us1 (P := fun us => bindArgs _ { pos := us } = pure (List.zip _ us)) (fun _ => rfl) us hl
  have g_guests_told := PySem.W.mg_of X G a_guests_told
  have F_meet_as_told := fun_mk (st := sMT) l_meet_as_told c_meet_as_told k_meet_as_told
  have b_meet_as_told := F_meet_as_told.binds (ps := ["hall", "line"]) fun _ _ _ _ _ _ us hl => us2 (P := fun us => bindArgs _ { pos := us } = pure (List.zip _ us)) (fun _ _ => rfl) us hl
  have g_meet_as_told := PySem.W.mg_of X G a_meet_as_told
  have F_two_words := fun_mk (st := sTW) l_two_words c_two_words k_two_words
  have b_two_words := F_two_words.binds (ps := ["line"]) fun _ _ _ _ _ _ us hl => us1 (P := fun us => bindArgs _ { pos := us } = pure (List.zip _ us)) (fun _ => rfl) us hl
  have g_two_words := PySem.W.mg_of X G a_two_words
  have F_number_told := fun_mk (st := sNT) l_number_told c_number_told k_number_told
  have b_number_told := F_number_told.binds (ps := ["word", "lowest", "highest"]) fun _ _ _ _ _ _ us hl => us3 (P := fun us => bindArgs _ { pos := us } = pure (List.zip _ us)) (fun _ _ _ => rfl) us hl
  have g_number_told := PySem.W.mg_of X G a_number_told
  have F__law_cell_at := fun_mk (st := sCell) l__law_cell_at c__law_cell_at k__law_cell_at
  have b__law_cell_at := F__law_cell_at.binds (ps := ["script", "k"]) fun _ _ _ _ _ _ us hl => us2 (P := fun us => bindArgs _ { pos := us } = pure (List.zip _ us)) (fun _ _ => rfl) us hl
  have g__law_cell_at := PySem.W.mg_of X G a__law_cell_at
  have F__law_whole := fun_mk (st := sWhole) l__law_whole c__law_whole k__law_whole
  have b__law_whole := F__law_whole.binds (ps := ["found"]) fun _ _ _ _ _ _ us hl => us1 (P := fun us => bindArgs _ { pos := us } = pure (List.zip _ us)) (fun _ => rfl) us hl
  have g__law_whole := PySem.W.mg_of X G a__law_whole
  have F__law_many := fun_mk (st := sMn) l__law_many c__law_many k__law_many
  have b__law_many := F__law_many.binds (ps := ["script"]) fun _ _ _ _ _ _ us hl => us1 (P := fun us => bindArgs _ { pos := us } = pure (List.zip _ us)) (fun _ => rfl) us hl
  have g__law_many := PySem.W.mg_of X G a__law_many
  have F__law_pairs_by := fun_mk (st := sPB) l__law_pairs_by c__law_pairs_by k__law_pairs_by
  have b__law_pairs_by := F__law_pairs_by.binds (ps := ["script", "first", "many"]) fun _ _ _ _ _ _ us hl => us3 (P := fun us => bindArgs _ { pos := us } = pure (List.zip _ us)) (fun _ _ _ => rfl) us hl
  have g__law_pairs_by := PySem.W.mg_of X G a__law_pairs_by
  have F__law_known := fun_mk (st := sLKn) l__law_known c__law_known k__law_known
  have b__law_known := F__law_known.binds (ps := ["pairs", "many", "guest"]) fun _ _ _ _ _ _ us hl => us3 (P := fun us => bindArgs _ { pos := us } = pure (List.zip _ us)) (fun _ _ _ => rfl) us hl
  have g__law_known := PySem.W.mg_of X G a__law_known
  have F__law_numbers := fun_mk (st := sNums) l__law_numbers c__law_numbers k__law_numbers
  have b__law_numbers := F__law_numbers.binds (ps := ["found", "due"]) fun _ _ _ _ _ _ us hl => us2 (P := fun us => bindArgs _ { pos := us } = pure (List.zip _ us)) (fun _ _ => rfl) us hl
  have g__law_numbers := PySem.W.mg_of X G a__law_numbers
  have F__law_marks_of := fun_mk (st := sMarks) l__law_marks_of c__law_marks_of k__law_marks_of
  have b__law_marks_of := F__law_marks_of.binds (ps := ["e"]) fun _ _ _ _ _ _ us hl => us1 (P := fun us => bindArgs _ { pos := us } = pure (List.zip _ us)) (fun _ => rfl) us hl
  have g__law_marks_of := PySem.W.mg_of X G a__law_marks_of
  have F__law_same := fun_mk (st := sSame) l__law_same c__law_same k__law_same
  have b__law_same := F__law_same.binds (ps := ["hall", "pairs", "many"]) fun _ _ _ _ _ _ us hl => us3 (P := fun us => bindArgs _ { pos := us } = pure (List.zip _ us)) (fun _ _ _ => rfl) us hl
  have g__law_same := PySem.W.mg_of X G a__law_same
  have F__law_sign_by := fun_mk (st := sLSg) l__law_sign_by c__law_sign_by k__law_sign_by
  have b__law_sign_by := F__law_sign_by.binds (ps := ["cell"]) fun _ _ _ _ _ _ us hl => us1 (P := fun us => bindArgs _ { pos := us } = pure (List.zip _ us)) (fun _ => rfl) us hl
  have g__law_sign_by := PySem.W.mg_of X G a__law_sign_by
  have F__law_spoiled := fun_mk (st := sLSp) l__law_spoiled c__law_spoiled k__law_spoiled
  have b__law_spoiled := F__law_spoiled.binds (ps := ["lines", "cell"]) fun _ _ _ _ _ _ us hl => us2 (P := fun us => bindArgs _ { pos := us } = pure (List.zip _ us)) (fun _ _ => rfl) us hl
  have g__law_spoiled := PySem.W.mg_of X G a__law_spoiled
  have F__law_number := fun_mk (st := sLNu) l__law_number c__law_number k__law_number
  have b__law_number := F__law_number.binds (ps := ["word"]) fun _ _ _ _ _ _ us hl => us1 (P := fun us => bindArgs _ { pos := us } = pure (List.zip _ us)) (fun _ => rfl) us hl
  have g__law_number := PySem.W.mg_of X G a__law_number
  have F__law_due := fun_mk (st := sDue) l__law_due c__law_due k__law_due
  have b__law_due := F__law_due.binds (ps := ["lines"]) fun _ _ _ _ _ _ us hl => us1 (P := fun us => bindArgs _ { pos := us } = pure (List.zip _ us)) (fun _ => rfl) us hl
  have g__law_due := PySem.W.mg_of X G a__law_due
  have F_law := fun_mk (st := sLaw) l_law c_law k_law
  have b_law := F_law.binds (ps := ["script"]) fun _ _ _ _ _ _ us hl => us1 (P := fun us => bindArgs _ { pos := us } = pure (List.zip _ us)) (fun _ => rfl) us hl
  have g_law := PySem.W.mg_of X G a_law
  have NM : Fs K mg "need_many" sNM ["many"] f_need_many _ := ⟨F_need_many, b_need_many, g_need_many⟩
  refine ⟨PySem.W.fnOf "law" "law" (defArgs sLaw) (defBody sLaw) (defScope sLaw) .none kV_law dc_law pm_law an_law cd_law ct_law, fun s v => .of_eq rfl, fun base _ _ => ?_⟩
  have HXx : HX l.prog w K mg base ⟨C, eH, eNo, eSame, eKnow, eStr, eBad, eTxt⟩ := ⟨L, ⟨_, _, M_know.me, M_know.b, ok_know F_know T M_need_guest⟩, ⟨_, _, M_meet.me, M_meet.b, ok_meet F_meet T M_need_guest M_know M_settle⟩, ⟨_, _, M_many.me, M_many.b, ok_many F_many T⟩, ⟨_, _, M_known.me, M_known.b, ok_known F_known T M_need_guest⟩, ⟨_, _, M_strangers.me, M_strangers.b, ok_strangers F_strangers T M_need_guest⟩, ⟨_, _, M_need_guest.me, M_need_guest.b, ok_need F_need_guest T⟩, ⟨_, _, ⟨mk, a___init__, i___init__, kc⟩, b___init__, ok_init F___init__ T NM⟩⟩
  have C__law_cell_at : Fc l.prog w K mg base "_law_cell_at" ["script", "k"] 1 (spCellZ K) := ⟨_, _, g__law_cell_at, k__law_cell_at, b__law_cell_at, ok_cellZ F__law_cell_at L⟩
  have C__law_whole : Fc l.prog w K mg base "_law_whole" ["found"] 1 (spWhole) := ⟨_, _, g__law_whole, k__law_whole, b__law_whole, ok_whole F__law_whole L⟩
  have C__law_numbers : Fc l.prog w K mg base "_law_numbers" ["found", "due"] 2 (spNums) := ⟨_, _, g__law_numbers, k__law_numbers, b__law_numbers, ok_nums F__law_numbers L ⟨F__law_whole, b__law_whole, g__law_whole⟩⟩
  have C__law_marks_of : FcU l.prog w K mg base "_law_marks_of" ["e"] 1 (spMarks K ⟨C, eH, eNo, eSame, eKnow, eStr, eBad, eTxt⟩) := ⟨_, _, g__law_marks_of, k__law_marks_of, b__law_marks_of, ok_marks F__law_marks_of L (PySem.W.mg_of X G a_eTxt)⟩
  have C__law_known : Fc l.prog w K mg base "_law_known" ["pairs", "many", "guest"] 1 (spLKn) := ⟨_, _, g__law_known, k__law_known, b__law_known, ok_lkn F__law_known L⟩
  have C__law_same : Fc l.prog w K mg base "_law_same" ["hall", "pairs", "many"] 3 (spSame ⟨C, eH, eNo, eSame, eKnow, eStr, eBad, eTxt⟩) := ⟨_, _, g__law_same, k__law_same, b__law_same, ok_same F__law_same HXx C__law_whole C__law_numbers C__law_known⟩
  have C__law_pairs_by : Fc l.prog w K mg base "_law_pairs_by" ["script", "first", "many"] 2 (spPB K) := ⟨_, _, g__law_pairs_by, k__law_pairs_by, b__law_pairs_by, ok_pb F__law_pairs_by L (PySem.W.mg_none_of X G z_sorted) C__law_cell_at⟩
  have C__law_many : Fc l.prog w K mg base "_law_many" ["script"] 2 (spMn K) := ⟨_, _, g__law_many, k__law_many, b__law_many, ok_mn F__law_many C__law_cell_at⟩
  have NX : Nx K mg ⟨C, eH, eNo, eSame, eKnow, eStr, eBad, eTxt⟩ := ⟨PySem.W.mg_of X G a_eTxt, x_eTxt, ⟨_, PySem.W.mg_of X G ac_FIRST_WORD⟩, PySem.W.mg_none_of X G z_str⟩
  have C_number_told : Fe l.prog w K mg base "number_told" ["word", "lowest", "highest"] 1 (spNT ⟨C, eH, eNo, eSame, eKnow, eStr, eBad, eTxt⟩) := ⟨_, _, g_number_told, k_number_told, b_number_told, ok_nt F_number_told L NX⟩
  have C_two_words : Fe l.prog w K mg base "two_words" ["line"] 1 (spTW ⟨C, eH, eNo, eSame, eKnow, eStr, eBad, eTxt⟩) := ⟨_, _, g_two_words, k_two_words, b_two_words, ok_tw F_two_words L NX⟩
  have C_guests_told : Fe l.prog w K mg base "guests_told" ["line"] 2 (spGT ⟨C, eH, eNo, eSame, eKnow, eStr, eBad, eTxt⟩) := ⟨_, _, g_guests_told, k_guests_told, b_guests_told, ok_gt F_guests_told L NX C_two_words C_number_told⟩
  have C_meet_as_told : Fe l.prog w K mg base "meet_as_told" ["hall", "line"] 4 (spMT ⟨C, eH, eNo, eSame, eKnow, eStr, eBad, eTxt⟩) := ⟨_, _, g_meet_as_told, k_meet_as_told, b_meet_as_told, ok_mt F_meet_as_told HXx NX C_two_words C_number_told⟩
  have C_read : Fe l.prog w K mg base "read" ["text"] 5 (spRd ⟨C, eH, eNo, eSame, eKnow, eStr, eBad, eTxt⟩) := ⟨_, _, g_read, k_read, b_read, ok_rd F_read HXx NX C_guests_told C_meet_as_told⟩
  have C__law_sign_by : Fc l.prog w K mg base "_law_sign_by" ["cell"] 1 (spSg) := ⟨_, _, g__law_sign_by, k__law_sign_by, b__law_sign_by, ok_sg F__law_sign_by⟩
  have C__law_number : Fc l.prog w K mg base "_law_number" ["word"] 1 (spNu) := ⟨_, _, g__law_number, k__law_number, b__law_number, ok_nu F__law_number L⟩
  have C__law_due : Fc l.prog w K mg base "_law_due" ["lines"] 2 (spDu) := ⟨_, _, g__law_due, k__law_due, b__law_due, ok_du F__law_due L C__law_number⟩
  have C__law_spoiled : Fc l.prog w K mg base "_law_spoiled" ["lines", "cell"] 2 (spSp) := ⟨_, _, g__law_spoiled, k__law_spoiled, b__law_spoiled, ok_sp F__law_spoiled L C__law_sign_by⟩
  exact ok_law F_law L NX XT C__law_cell_at C__law_many C__law_pairs_by C__law_spoiled C__law_due C__law_marks_of C__law_same C_read
theorem walk {l : PySem.W.OpenLaw} {q : Program} {loose : List Str} {XP : (Str → Option Value) → Heap → Prop} {YP : World → Heap → Prop} {d : DefRec} {K : Params → PySem.W.Frag} (hn : l.most = some 63) (hdf : d.params.defaults = [])
    (hY : ∀ (w : World) (h : Heap), YP w h → (K w.params).In h)
    (F : ∀ (w : World) (mg : Str → Option Value) (fa : Addr) (h : Heap), (K w.params).In h → h.Ns mainGlobals mg → mg d.name = some (.ref fa) →
      ∃ fd : FuncData, (∀ (s : Shared) (u : Value), BindsTo s fd ⟨[u], []⟩ [("script", u)]) ∧ ∀ base : Heap, (K w.params).In base → base.Ns mainGlobals mg → FnOk l.prog w (K w.params) mg base CX0 6 fa fd ["script"] (spLaw (K w.params))) :
    PySem.W.WalkO q loose XP YP l.row.toRowW d [] (fun f vs => PySem.call f vs) :=
  L2.walk_of (n := 63) (k := 6) (x := "script") (CX := fun _ => CX0) (sp := fun w => spLaw (K w.params)) hn (by decide) hdf ⟨rfl, by decide, by decide⟩ hY F (fun _ _ a ns hl _ hS => ⟨a, ns, rfl, hS, hl, fun _ => rfl⟩) fun _ _ _ _ _ z => z
end Kn
open PySem PySem.W PyProof.Rows
set_option maxRecDepth 100000 in
set_option maxHeartbeats 0 in
theorem PySem.Challenge.cw_knowthree_k12_halls_read_or_refused_holds : PySem.Challenge.rw_knowthree_k12_halls_read_or_refused.Holds := by
  w_on; o_law; k_head; (case hw => w_witness2)
  k_fill
  refine Kn.walk (l := PySem.Challenge.rw_knowthree_k12_halls_read_or_refused) rfl rfl (fun w h Y => PySem.W.kIn_of Y) ?F
  case F =>
    intro w mg fa h KX G hmg
    refine' Kn.all_mk KX G hmg ?aC ?aH ?a_eNo ?a_eSame ?a_eKnow ?a_eStr ?a_eBad ?a_eTxt ?aFew ?aMost ?ac_FIRST_WORD ?z_len ?z_range ?z_isinstance ?z_int ?z_bool ?z_list ?z_min ?z_max ?z_ValueError ?z_sorted ?z_str ?pg ?hd ?po ?sa ?mk ?kc ?nR ?x_eNo ?x_eSame ?x_eKnow ?x_eStr ?x_eBad ?x_eTxt ?ga_eTxt ?gh_eTxt ?ha_eTxt ?hm_eTxt ?hb_eTxt ?k0_eTxt ?k1_eTxt ?k2_eTxt ?k3_eTxt ?k4_eTxt ?k5_eTxt ?kv_eTxt ?em_eTxt ?a___init__ ?i___init__ ?l___init__ ?c___init__ ?k___init__ ?a_many ?i_many ?l_many ?c_many ?k_many ?a_meet ?i_meet ?l_meet ?c_meet ?k_meet ?a_know ?i_know ?l_know ?c_know ?k_know ?a_known ?i_known ?l_known ?c_known ?k_known ?a_strangers ?i_strangers ?l_strangers ?c_strangers ?k_strangers ?a_need_guest ?i_need_guest ?l_need_guest ?c_need_guest ?k_need_guest ?a_settle ?i_settle ?l_settle ?c_settle ?k_settle ?a_need_many ?l_need_many ?c_need_many ?k_need_many ?a_read ?l_read ?c_read ?k_read ?a_guests_told ?l_guests_told ?c_guests_told ?k_guests_told ?a_meet_as_told ?l_meet_as_told ?c_meet_as_told ?k_meet_as_told ?a_two_words ?l_two_words ?c_two_words ?k_two_words ?a_number_told ?l_number_told ?c_number_told ?k_number_told ?a__law_cell_at ?l__law_cell_at ?c__law_cell_at ?k__law_cell_at ?a__law_whole ?l__law_whole ?c__law_whole ?k__law_whole ?a__law_many ?l__law_many ?c__law_many ?k__law_many ?a__law_pairs_by ?l__law_pairs_by ?c__law_pairs_by ?k__law_pairs_by ?a__law_known ?l__law_known ?c__law_known ?k__law_known ?a__law_numbers ?l__law_numbers ?c__law_numbers ?k__law_numbers ?a__law_marks_of ?l__law_marks_of ?c__law_marks_of ?k__law_marks_of ?a__law_same ?l__law_same ?c__law_same ?k__law_same ?a__law_sign_by ?l__law_sign_by ?c__law_sign_by ?k__law_sign_by ?a__law_spoiled ?l__law_spoiled ?c__law_spoiled ?k__law_spoiled ?a__law_number ?l__law_number ?c__law_number ?k__law_number ?a__law_due ?l__law_due ?c__law_due ?k__law_due ?a_law ?l_law ?c_law ?k_law
    (case aC => k_is)
    (case aH => k_is)
    (case a_eNo => k_is)
    (case a_eSame => k_is)
    (case a_eKnow => k_is)
    (case a_eStr => k_is)
    (case a_eBad => k_is)
    (case a_eTxt => k_is)
    (case aFew => k_is)
    (case aMost => k_is)
    (case ac_FIRST_WORD => k_is)
    (case z_len => k_is)
    (case z_range => k_is)
    (case z_isinstance => k_is)
    (case z_int => k_is)
    (case z_bool => k_is)
    (case z_list => k_is)
    (case z_min => k_is)
    (case z_max => k_is)
    (case z_ValueError => k_is)
    (case z_sorted => k_is)
    (case z_str => k_is)
    (case pg => k_is)
    (case hd => k_is)
    (case po => k_is)
    (case sa => k_is)
    (case mk => k_is)
    (case kc => k_is)
    (case nR => k_is)
    (case x_eNo => k_exc)
    (case x_eSame => k_exc)
    (case x_eKnow => k_exc)
    (case x_eStr => k_exc)
    (case x_eBad => k_exc)
    (case x_eTxt => k_exc)
    (case ga_eTxt => k_is)
    (case gh_eTxt => k_is)
    (case ha_eTxt => k_is)
    (case hm_eTxt => k_is)
    (case hb_eTxt => k_is)
    (case k0_eTxt => kit_is)
    (case k1_eTxt => kit_is)
    (case k2_eTxt => kit_is)
    (case k3_eTxt => kit_is)
    (case k4_eTxt => kit_is)
    (case k5_eTxt => kit_is)
    (case kv_eTxt => kit_is)
    (case em_eTxt => kts_exm)
    (case a___init__ => k_is)
    (case i___init__ => k_is)
    (case l___init__ => k_is)
    (case c___init__ => k_is)
    (case k___init__ => k_is)
    (case a_many => k_is)
    (case i_many => k_is)
    (case l_many => k_is)
    (case c_many => k_is)
    (case k_many => k_is)
    (case a_meet => k_is)
    (case i_meet => k_is)
    (case l_meet => k_is)
    (case c_meet => k_is)
    (case k_meet => k_is)
    (case a_know => k_is)
    (case i_know => k_is)
    (case l_know => k_is)
    (case c_know => k_is)
    (case k_know => k_is)
    (case a_known => k_is)
    (case i_known => k_is)
    (case l_known => k_is)
    (case c_known => k_is)
    (case k_known => k_is)
    (case a_strangers => k_is)
    (case i_strangers => k_is)
    (case l_strangers => k_is)
    (case c_strangers => k_is)
    (case k_strangers => k_is)
    (case a_need_guest => k_is)
    (case i_need_guest => k_is)
    (case l_need_guest => k_is)
    (case c_need_guest => k_is)
    (case k_need_guest => k_is)
    (case a_settle => k_is)
    (case i_settle => k_is)
    (case l_settle => k_is)
    (case c_settle => k_is)
    (case k_settle => k_is)
    (case a_need_many => k_is)
    (case l_need_many => k_is)
    (case c_need_many => k_is)
    (case k_need_many => k_is)
    (case a_read => k_is)
    (case l_read => k_is)
    (case c_read => k_is)
    (case k_read => k_is)
    (case a_guests_told => k_is)
    (case l_guests_told => k_is)
    (case c_guests_told => k_is)
    (case k_guests_told => k_is)
    (case a_meet_as_told => k_is)
    (case l_meet_as_told => k_is)
    (case c_meet_as_told => k_is)
    (case k_meet_as_told => k_is)
    (case a_two_words => k_is)
    (case l_two_words => k_is)
    (case c_two_words => k_is)
    (case k_two_words => k_is)
    (case a_number_told => k_is)
    (case l_number_told => k_is)
    (case c_number_told => k_is)
    (case k_number_told => k_is)
    (case a__law_cell_at => k_is)
    (case l__law_cell_at => k_is)
    (case c__law_cell_at => k_is)
    (case k__law_cell_at => k_is)
    (case a__law_whole => k_is)
    (case l__law_whole => k_is)
    (case c__law_whole => k_is)
    (case k__law_whole => k_is)
    (case a__law_many => k_is)
    (case l__law_many => k_is)
    (case c__law_many => k_is)
    (case k__law_many => k_is)
    (case a__law_pairs_by => k_is)
    (case l__law_pairs_by => k_is)
    (case c__law_pairs_by => k_is)
    (case k__law_pairs_by => k_is)
    (case a__law_known => k_is)
    (case l__law_known => k_is)
    (case c__law_known => k_is)
    (case k__law_known => k_is)
    (case a__law_numbers => k_is)
    (case l__law_numbers => k_is)
    (case c__law_numbers => k_is)
    (case k__law_numbers => k_is)
    (case a__law_marks_of => k_is)
    (case l__law_marks_of => k_is)
    (case c__law_marks_of => k_is)
    (case k__law_marks_of => k_is)
    (case a__law_same => k_is)
    (case l__law_same => k_is)
    (case c__law_same => k_is)
    (case k__law_same => k_is)
    (case a__law_sign_by => k_is)
    (case l__law_sign_by => k_is)
    (case c__law_sign_by => k_is)
    (case k__law_sign_by => k_is)
    (case a__law_spoiled => k_is)
    (case l__law_spoiled => k_is)
    (case c__law_spoiled => k_is)
    (case k__law_spoiled => k_is)
    (case a__law_number => k_is)
    (case l__law_number => k_is)
    (case c__law_number => k_is)
    (case k__law_number => k_is)
    (case a__law_due => k_is)
    (case l__law_due => k_is)
    (case c__law_due => k_is)
    (case k__law_due => k_is)
    (case a_law => k_is)
    (case l_law => k_is)
    (case c_law => k_is)
    (case k_law => k_is)

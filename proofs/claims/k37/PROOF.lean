import PyProof.Rows.All
import Wide.All
import OpenK.AllK
import Wide.FinOn
import Lean
import PyProof.EqAt
import PyProof.EqKinds
import PyProof.TupleCall
import PyProof.Rows.SortWalk
import KE.KDictSum
import KE.LcSums
import KE.KEqDat
import KE.KRevIter
import PyProof.P3In
import PyProof.SliceStr2
import PyProof.MeetsStr
import PyProof.StrBlockI
import PyProof.StrWalks
import PyProof.FitsReplace
import PyProof.ListStr
import PyProof.ZipIter
import KE.KIntText
import KE.IntTextLaws
import PyProof.StrLawsIn
import PyProof.StrCalls2
import PyProof.Rows.CatFin
import PyProof.Rows.StrClose
import KE.IntTextText
import PyProof.StrLawsTight
import PyProof.StrLawsChain
import PyProof.Rows.StrItems
import PyProof.Rows.ReprOcc
import PyProof.Rows.SortStr
import PySem.Challenge.RW_paneworks_k37_files_through_deeds
set_option Elab.async false
set_option compiler.extract_closed false
set_option linter.all false
set_option maxRecDepth 100000
/-! THE HAND LAYER, for ints, bools, texts, own classes, DICTS (int and text keys), calls, loops. Paste it whole ahead of your own text; what your proof does not reach may be deleted. -/
namespace L2
open PySem PySem.Spec PyProof.Rows

/-- a key: an int or a str -/
abbrev Key := Sum Int Str
def keyIs : Key → Value → Bool
  | .inl k, v => Value.isInt k v
  | .inr x, v => Value.isStrOf x v
def keyH (w : World) : Key → Int
  | .inl k => hashInt k
  | .inr x => hashStr w x
theorem keyIs_shape : ∀ {k : Key} {v : Value}, keyIs k v = true → (∃ i t, k = Sum.inl i ∧ v = Value.int i t) ∨ (∃ x t, k = Sum.inr x ∧ v = Value.str x t)
  | .inl i, v, h => by
    obtain ⟨t, e⟩ := Value.isInt_shape (k := i) (v := v) h
    exact .inl ⟨i, t, rfl, e⟩
  | .inr x, v, h => by
    obtain ⟨t, e⟩ := Value.isStrOf_shape (x := x) (v := v) h
    exact .inr ⟨x, t, rfl, e⟩
theorem keyIs_int (i : Int) (t : Tok) : keyIs (.inl i) (.int i t) = true := by simp [keyIs, Value.isInt]
theorem keyIs_str (x : Str) (t : Tok) : keyIs (.inr x) (.str x t) = true := by simp [keyIs, Value.isStrOf]
theorem key_ll (a b : Int) : decide ((Sum.inl a : Key) = Sum.inl b) = (a == b) := by
  by_cases e : a = b
  · subst e; simp
  · have h : ¬ (Sum.inl a : Key) = Sum.inl b := fun q => e (Sum.inl.inj q)
    rw [decide_eq_false h]
    exact (beq_eq_false_iff_ne.mpr e).symm
theorem key_rr (a b : Str) : decide ((Sum.inr a : Key) = Sum.inr b) = decide (a = b) := by
  by_cases e : a = b
  · subst e; simp
  · have h : ¬ (Sum.inr a : Key) = Sum.inr b := fun q => e (Sum.inr.inj q)
    rw [decide_eq_false h, decide_eq_false e]
theorem key_lr (a : Int) (b : Str) : decide ((Sum.inl a : Key) = Sum.inr b) = false := decide_eq_false (fun q => nomatch q)
theorem key_rl (a : Str) (b : Int) : decide ((Sum.inr a : Key) = Sum.inl b) = false := decide_eq_false (fun q => nomatch q)

def mixKind (prog : Program) (w : World) : PySem.KeyKind prog w Key where
  is := keyIs
  hash := keyH w
  inj := fun v a b ha hb => by
    rcases keyIs_shape ha with ⟨i, t, rfl, rfl⟩ | ⟨x, t, rfl, rfl⟩
    · rcases keyIs_shape hb with ⟨j, u, rfl, e⟩ | ⟨y, u, rfl, e⟩
      · injection e with e1 _; rw [e1]
      · exact nomatch e
    · rcases keyIs_shape hb with ⟨j, u, rfl, e⟩ | ⟨y, u, rfl, e⟩
      · exact nomatch e
      · injection e with e1 _; rw [e1]
  byValue := fun k v h => by
    rcases keyIs_shape h with ⟨i, t, rfl, rfl⟩ | ⟨x, t, rfl, rfl⟩ <;> rfl
  pyHash := fun hv h => by
    rcases keyIs_shape hv with ⟨i, t, rfl, rfl⟩ | ⟨x, t, rfl, rfl⟩
    · exact wpAny_pyHash_int h
    · exact wpAny_pyHash_str h
  eqBool := fun hu hv h => by
    rcases keyIs_shape hu with ⟨i, t, rfl, rfl⟩ | ⟨x, t, rfl, rfl⟩
    · rcases keyIs_shape hv with ⟨j, u, rfl, rfl⟩ | ⟨y, u, rfl, rfl⟩
      · rw [key_ll] at h; exact wpAny_eqBool_int h
      · rw [key_lr] at h; exact SeqAt.EqAt.int_str i t y u _ _ _ _ h
    · rcases keyIs_shape hv with ⟨j, u, rfl, rfl⟩ | ⟨y, u, rfl, rfl⟩
      · rw [key_rl] at h; exact SeqAt.EqAt.str_int x t j u _ _ _ _ h
      · rw [key_rr] at h; exact wpAny_eqBool_str h
  «strs» := fun k x t v h => by
    rcases keyIs_shape h with ⟨i, u, rfl, e⟩ | ⟨y, u, rfl, e⟩
    · exact nomatch e
    · injection e with e1 _
      subst e1
      cases v <;> rfl

theorem mixKind_int (prog : Program) (w : World) (i : Int) (t : Tok) : (mixKind prog w).is (.inl i) (.int i t) = true := keyIs_int i t
theorem mixKind_str (prog : Program) (w : World) (x : Str) (t : Tok) : (mixKind prog w).is (.inr x) (.str x t) = true := keyIs_str x t
end L2

namespace L2
open PySem PySem.Spec PyProof.Rows

/-- a value, without the heap -/
inductive V where
  | non | bl (b : Bool) | int (i : Int) | str (x : Str) | byt (b : Array UInt8) | flt (b : UInt64) | ref (a : Addr) | ty (n : String)
  deriving DecidableEq

def RelV : V → Value → Prop
  | .non, u => u = Value.none
  | .bl b, u => u = Value.bool b
  | .int i, u => ∃ t, u = Value.int i t
  | .str x, u => ∃ t, u = Value.str x t
  | .byt b, u => ∃ t, u = Value.bytes b t
  | .flt b, u => ∃ t, u = Value.float b t
  | .ref a, u => u = Value.ref a
  | .ty n, u => u = Value.type n

abbrev Vals : List V → List Value → Prop := Paired RelV
theorem Vals.length {xs : List V} {us : List Value} (r : Vals xs us) : xs.length = us.length := Paired.length r
theorem Vals.get : ∀ {xs : List V} {us : List Value} {i : Nat} {x : V}, Vals xs us → xs[i]? = some x → ∃ u, us[i]? = some u ∧ RelV x u
  | _, _, _, _, .nil, e => by simp at e
  | _, _, 0, _, .cons r _, e => by simp at e; subst e; exact ⟨_, rfl, r⟩
  | _, _, i + 1, x, .cons _ t, e => by
    obtain ⟨u, h1, h2⟩ := Vals.get (i := i) (x := x) t (by simpa using e)
    exact ⟨u, by simpa using h1, h2⟩
theorem Vals.set {x : V} {u : Value} (r : RelV x u) : ∀ {xs : List V} {us : List Value} (i : Nat), Vals xs us → Vals (xs.set i x) (us.set i u)
  | _, _, _, .nil => .nil
  | _, _, 0, .cons _ t => .cons r t
  | _, _, i + 1, .cons q t => .cons q (Vals.set r i t)
theorem Vals.append : ∀ {xs ys : List V} {us ws : List Value}, Vals xs us → Vals ys ws → Vals (xs ++ ys) (us ++ ws)
  | _, _, _, _, .nil, s => s
  | _, _, _, _, .cons r t, s => .cons r (Vals.append t s)
theorem Vals.take : ∀ {xs : List V} {us : List Value} (n : Nat), Vals xs us → Vals (xs.take n) (us.take n)
  | _, _, 0, _ => .nil
  | _, _, _ + 1, .nil => .nil
  | _, _, n + 1, .cons r t => .cons r (Vals.take n t)
theorem Vals.drop : ∀ {xs : List V} {us : List Value} (n : Nat), Vals xs us → Vals (xs.drop n) (us.drop n)
  | _, _, 0, r => r
  | _, _, _ + 1, .nil => .nil
  | _, _, n + 1, .cons _ t => Vals.drop n t
def RelO : Option V → Option Value → Prop
  | some v, some u => RelV v u
  | none, none => True
  | _, _ => False
def KV {κ : Type} : List (κ × V) → List (κ × Value) → Prop := Paired fun (p : κ × V) (q : κ × Value) => p.1 = q.1 ∧ RelV p.2 q.2

/-- a key of a dict (00_mix): an int or a text -/
def kV : Key → V
  | .inl i => .int i
  | .inr x => .str x

/-- what stands at a tracked address -/
inductive HO where
  /-- a list -/
  | lst (xs : List V)
  /-- a tuple (never changes) -/
  | tup (xs : List V)
  /-- a dict whose keys are ints and texts; one whose keys are tuples of ints and texts (the empty one is both) -/
  | dK (kvs : List (Key × V)) | dT (kvs : List (List Key × V))
  /-- a set of ints: its members, its size -/
  | set (S : Int → Bool) (n : Nat)
  /-- an instance of the class at C, its dict at dx, its attributes -/
  | ins (C dx : Addr) (fs : List (Str × V))
  /-- the dict of the instance at x -/
  | own (x : Addr)
  /-- the dict of an exception -/
  | xd (fs : List (Str × V))
  /-- a bound method, f of x -/
  | met (f x : Addr)
  /-- a range object lo, lo + 1, .. below hi -/
  | rng (lo hi : Int)
  /-- a thing that is known to the object (the script; a dict while a loop walks it): read, never written while it is so -/
  | frz (o : Obj) (u : HO)
  /-- a code object's table -/
  | tbl (ps : Array Value)
  /-- any other thing, by what is true of its one object (a def of one's own: SetO a S n := HO.ext fun h => ..) -/
  | ext (φ : Heap → Prop)

abbrev Hp := Addr → Option HO
def upd (H : Hp) (a : Addr) (o : HO) : Hp := fun b => if b = a then some o else H b
theorem upd_same {H : Hp} {a : Addr} {o : HO} : upd H a o a = some o := by unfold upd; rw [if_pos rfl]
theorem upd_ne {H : Hp} {a b : Addr} {o : HO} (h : b ≠ a) : upd H a o b = H b := by unfold upd; rw [if_neg h]
/-- two objects of different content stand apart -/
theorem ne_of {H : Hp} {a b : Addr} {o u : HO} (h : H a = some o) (h' : H b = some u) (d : o ≠ u) : a ≠ b := by
  intro e; subst e; rw [h] at h'; exact d (Option.some.inj h')
theorem ne_of_none {H : Hp} {a b : Addr} {o : HO} (h : H a = some o) (h' : H b = none) : a ≠ b := by
  intro e; subst e; rw [h] at h'; cases h'

section
variable (P : Program) (w : World)
def ObjOk (H : Hp) (h : Heap) (a : Addr) : HO → Prop
  | .lst xs => xs.length ≤ sizeLine ∧ ∃ (its : List Value) (n : Nat), Vals xs its ∧ h.get? a = some { cls := .type "list", data := .seq its.toArray n }
  | .tup xs => xs.length ≤ sizeLine ∧ ∃ its : List Value, Vals xs its ∧ IsTup h a its.toArray
  | .dK kvs => kvs.length ≤ sizeLine ∧ (a == sysModules) = false ∧ ∃ vs, KV kvs vs ∧ h.DictOf (mixKind P w) a vs
  | .dT kvs => kvs.length ≤ sizeLine ∧ (a == sysModules) = false ∧ ∃ xs : List (List Key × Addr × Value),
      Paired (fun (p : List Key × V) (q : List Key × Addr × Value) => p.1 = q.1 ∧ H q.2.1 = some (.tup (p.1.map kV)) ∧ RelV p.2 q.2.2) kvs xs ∧
      ∃ o es ep, h.get? a = some o ∧ o.ExactDict ∧ o.data = .dict es ep ∧ es.toList = xs.map (entryOfKey (tupleKind (mixKind P w))) ∧ (xs.map (·.1)).Nodup
  | .set S n => h.SetOf (intKind P w) a S n
  | .ins C dx fs => H dx = some (.own a) ∧ fs.length ≤ 1000 ∧ dx ≠ a ∧ h.get? a = some (PySem.W.instObj C dx) ∧
      ∃ mA, h.Ns1 dx mA ∧ (∀ f, RelO (fs.lookup f) (mA f)) ∧ PySem.Within mA (fs.map (·.1))
  | .own _ => ∃ o, h.get? a = some o
  | .xd fs => ∃ mA, h.Ns1 a mA ∧ ∀ f, RelO (fs.lookup f) (mA f)
  | .rng lo hi => ∃ t u v, h.get? a = some { cls := .type "range", data := .fields #[.int lo t, .int hi u, .int 1 v] }
  | .frz o u => h.get? a = some o ∧ ObjOk H h a u
  | .tbl ps => h.get? a = some { cls := .none, data := .fields ps }
  | .met f x => h.get? a = some (PySem.W.methodObj (.ref f) (.ref x))
  | .ext φ => φ h ∧ (∃ o, h.get? a = some o) ∧ ∀ h1 h2 : Heap, φ h1 → (∀ o, h1.get? a = some o → h2.get? a = some o) → φ h2
/-- the abstract heap is held -/
def HOk (H : Hp) (h : Heap) : Prop := ∀ a o, H a = some o → ObjOk P w H h a o
end

section
variable {P : Program} {w : World} {H H' : Hp} {h h' : Heap} {a : Addr} {o : HO}
theorem ObjOk.lt (x : ObjOk P w H h a o) : a < h.objs.size := by
  cases o with
  | lst xs => obtain ⟨_, _, _, _, e⟩ := x; exact Heap.lt_size e
  | tup xs => obtain ⟨_, _, _, p⟩ := x; exact p.lt
  | dK kvs => obtain ⟨_, _, _, _, o, _, _, e, _⟩ := x; exact Heap.lt_size e
  | dT kvs => obtain ⟨_, _, _, _, o, _, _, e, _⟩ := x; exact Heap.lt_size e
  | set S n => obtain ⟨o, _, _, _, e, _⟩ := x; exact Heap.lt_size e
  | ins C dx fs => obtain ⟨_, _, _, e, _⟩ := x; exact Heap.lt_size e
  | own y => obtain ⟨_, e⟩ := x; exact Heap.lt_size e
  | xd fs => obtain ⟨_, ⟨_, _, _, e, _⟩, _⟩ := x; exact Heap.lt_size e
  | rng lo hi => obtain ⟨_, _, _, e⟩ := x; exact Heap.lt_size e
  | frz ob u => obtain ⟨e, _⟩ := x; exact Heap.lt_size e
  | tbl ps => exact Heap.lt_size (show h.get? a = some _ from x)
  | met f y => exact Heap.lt_size (show h.get? a = some _ from x)
  | ext φ => obtain ⟨_, ⟨_, e⟩, _⟩ := x; exact Heap.lt_size e
theorem Paired.mapP {α β : Type} {F G : α → β → Prop} : ∀ {l₁ : List α} {l₂ : List β}, Paired F l₁ l₂ → (∀ a b, F a b → G a b) → Paired G l₁ l₂
  | _, _, .nil, _ => .nil
  | _, _, .cons r t, f => .cons (f _ _ r) (Paired.mapP t f)
/-- what an object's description leans on: its own object, its own dict, the tuples -/
theorem ObjOk.stay (x : ObjOk P w H h a o) (k : ∀ b u, (b = a ∨ H b = some (.own a)) → h.get? b = some u → h'.get? b = some u)
    (ho : ∀ b, H b = some (.own a) → H' b = some (.own a)) (ht : ∀ b xs, H b = some (.tup xs) → H' b = some (.tup xs)) : ObjOk P w H' h' a o := by
  induction o with
  | lst xs => obtain ⟨z, its, n, r, e⟩ := x; exact ⟨z, its, n, r, k _ _ (.inl rfl) e⟩
  | tup xs => obtain ⟨z, its, r, ob, e, c⟩ := x; exact ⟨z, its, r, ob, k _ _ (.inl rfl) e, c⟩
  | dK kvs => obtain ⟨z, y, vs, r, ob, es, ep, e, c⟩ := x; exact ⟨z, y, vs, r, ob, es, ep, k _ _ (.inl rfl) e, c⟩
  | dT kvs =>
    obtain ⟨z, y, xs, r, ob, es, ep, e, c⟩ := x
    exact ⟨z, y, xs, Paired.mapP r fun p q z => ⟨z.1, ht _ _ z.2.1, z.2.2⟩, ob, es, ep, k _ _ (.inl rfl) e, c⟩
  | set S n => obtain ⟨ob, es, ep, t, e, c⟩ := x; exact ⟨ob, es, ep, t, k _ _ (.inl rfl) e, c⟩
  | ins C dx fs =>
    obtain ⟨d, z, ne, e, mA, ⟨od, es, ep, e2, c⟩, r⟩ := x
    exact ⟨ho _ d, z, ne, k _ _ (.inl rfl) e, mA, ⟨od, es, ep, k _ _ (.inr d) e2, c⟩, r⟩
  | own y => obtain ⟨ob, e⟩ := x; exact ⟨ob, k _ _ (.inl rfl) e⟩
  | xd fs => obtain ⟨mA, ⟨od, es, ep, e, c⟩, r⟩ := x; exact ⟨mA, ⟨od, es, ep, k _ _ (.inl rfl) e, c⟩, r⟩
  | rng lo hi => obtain ⟨t, u, v, e⟩ := x; exact ⟨t, u, v, k _ _ (.inl rfl) e⟩
  | frz ob u ih => obtain ⟨e, q⟩ := x; exact ⟨k _ _ (.inl rfl) e, ih q⟩
  | tbl ps =>
    have e : h.get? a = some { cls := .none, data := .fields ps } := x
    show h'.get? a = some { cls := .none, data := .fields ps }
    exact k a _ (.inl rfl) e
  | met f y =>
    have e : h.get? a = some (PySem.W.methodObj (.ref f) (.ref y)) := x
    show h'.get? a = some (PySem.W.methodObj (.ref f) (.ref y))
    exact k a _ (.inl rfl) e
  | ext φ => obtain ⟨p, ⟨o, e⟩, st⟩ := x; exact ⟨st _ _ p fun o q => k _ _ (.inl rfl) q, ⟨o, k _ _ (.inl rfl) e⟩, st⟩
theorem HOk.lt (x : HOk P w H h) (e : H a = some o) : a < h.objs.size := (x a o e).lt
theorem HOk.fresh (x : HOk P w H h) (e : h.objs.size ≤ a) : H a = none := by
  cases q : H a with
  | none => rfl
  | some u => exact absurd (Nat.lt_of_lt_of_le (x.lt q) e) (Nat.lt_irrefl _)
/-- every object of the heap is kept -/
theorem HOk.kept (x : HOk P w H h) (k : ∀ b u, h.get? b = some u → h'.get? b = some u) : HOk P w H h' := fun a o e =>
  (x a o e).stay (fun b u _ q => k b u q) (fun _ q => q) fun _ _ q => q
/-- a new object is laid and tracked -/
theorem HOk.laid (x : HOk P w H h) (k : ∀ b u, h.get? b = some u → h'.get? b = some u) (hp : h.objs.size ≤ a) (new : ObjOk P w (upd H a o) h' a o) : HOk P w (upd H a o) h' := fun b u e => by
  have hn := x.fresh hp
  by_cases hb : b = a
  · subst hb; rw [upd_same] at e; cases e; exact new
  · rw [upd_ne hb] at e
    exact (x b u e).stay (fun c v _ q => k c v q) (fun c q => by rw [upd_ne (ne_of_none q hn)]; exact q) fun c xs q => by rw [upd_ne (ne_of_none q hn)]; exact q
end

/-- what may be read as u: it is u, or a known u -/
def Rd (H : Hp) (a : Addr) (u : HO) : Prop := H a = some u ∨ ∃ o, H a = some (.frz o u)
theorem Rd.of {H : Hp} {a : Addr} {u : HO} (h : H a = some u) : Rd H a u := .inl h
theorem Rd.ok {P : Program} {w : World} {H : Hp} {h : Heap} {a : Addr} {u : HO} (r : Rd H a u) (x : HOk P w H h) : ObjOk P w H h a u := by
  rcases r with r | ⟨o, r⟩
  · exact x a u r
  · obtain ⟨_, q⟩ := x a _ r
    exact q
/-- what may be written -/
def Mut : Option HO → Prop
  | some (.lst _) => True
  | some (.dK _) => True
  | some (.dT _) => True
  | some (.set _ _) => True
  | some (.ins _ _ _) => True
  | some (.ext _) => True
  | _ => False
section
variable {P : Program} {w : World} {H : Hp} {h h' : Heap} {x e : Addr} {o' : HO}
/-- the object at e is changed: x itself, or the dict of the instance x -/
theorem HOk.write (ok : HOk P w H h) (mu : Mut (H x)) (he : e = x ∨ H e = some (.own x)) (k : ∀ b u, b ≠ e → h.get? b = some u → h'.get? b = some u) (heo : ∃ u, h'.get? e = some u)
    (new : ObjOk P w (upd H x o') h' x o') : HOk P w (upd H x o') h' := fun b u q => by
  have nown : ∀ c y, H c = some (.own y) → c ≠ x := fun c y r z => by subst z; rw [r] at mu; exact mu
  have ntup : ∀ c xs, H c = some (.tup xs) → c ≠ x := fun c xs r z => by subst z; rw [r] at mu; exact mu
  by_cases hb : b = x
  · subst hb; rw [upd_same] at q; cases q; exact new
  · rw [upd_ne hb] at q
    by_cases hbe : b = e
    · have q' : H b = some (.own x) := by
        rcases he with z | z
        · exact absurd (hbe.trans z) hb
        · rw [hbe]; exact z
      rw [q] at q'; cases q'
      obtain ⟨v, hv⟩ := heo
      exact ⟨v, by rw [hbe]; exact hv⟩
    · refine (ok b u q).stay (fun c v hc r => k c v ?_ r) (fun c r => by rw [upd_ne (nown c b r)]; exact r) fun c xs r => by rw [upd_ne (ntup c xs r)]; exact r
      rcases hc with rfl | hc
      · exact hbe
      · rintro rfl
        rcases he with z | z
        · exact nown c b hc z
        · rw [hc] at z; cases z; exact hb rfl
end

/-! ### kept unless tracked; of the frames at fs (the callers') the slots may change (an exception that passes writes there); of the records at ex (iterators) nothing is said -/
structure Un (fs ex : List Addr) (H H' : Hp) (h h' : Heap) : Prop where
  keep : ∀ b o, h.get? b = some o → H b = none → b ∉ fs → b ∉ ex → h'.get? b = some o
  slot : ∀ b o, h.get? b = some o → H b = none → b ∈ fs → b ∉ ex → ∃ sl, h'.get? b = some { o with slots := sl }
  free : ∀ b o, h.get? b = some o → H b = none → b ∉ ex → H' b = none
  there : ∀ b o, h.get? b = some o → b ∉ ex → ∃ o', h'.get? b = some o'
  tups : ∀ b xs, H b = some (.tup xs) → H' b = some (.tup xs)
  frzs : ∀ b o u, H b = some (.frz o u) → H' b = some (.frz o u)
  tbls : ∀ b ps, H b = some (.tbl ps) → ∃ more, H' b = some (.tbl (ps ++ more))
section
variable {fs fs' ex ex' : List Addr} {H H1 H2 : Hp} {h h1 h2 h' : Heap} {a x e : Addr} {o : HO}
theorem Un.any (u : Un fs ex H H1 h h1) {b : Addr} {ob : Obj} (q : h.get? b = some ob) (n : H b = none) (hx : b ∉ ex) : ∃ sl, h1.get? b = some { ob with slots := sl } := by
  by_cases hb : b ∈ fs
  · exact u.slot b ob q n hb hx
  · exact ⟨ob.slots, u.keep b ob q n hb hx⟩
theorem Un.trans (a : Un fs ex H H1 h h1) (b : Un fs ex H1 H2 h1 h2) : Un fs ex H H2 h h2 where
  keep := fun c ob q n hc hx => b.keep c ob (a.keep c ob q n hc hx) (a.free c ob q n hx) hc hx
  slot := fun c ob q n hc hx => by
    obtain ⟨sl, e1⟩ := a.slot c ob q n hc hx
    obtain ⟨sl', e2⟩ := b.slot c _ e1 (a.free c ob q n hx) hc hx
    exact ⟨sl', e2⟩
  free := fun c ob q n hx => by
    obtain ⟨o', e1⟩ := a.there c ob q hx
    exact b.free c o' e1 (a.free c ob q n hx) hx
  there := fun c ob q hx => by
    obtain ⟨o', e1⟩ := a.there c ob q hx
    exact b.there c o' e1 hx
  tups := fun c xs q => b.tups c xs (a.tups c xs q)
  frzs := fun c ob xs q => b.frzs c ob xs (a.frzs c ob xs q)
  tbls := fun c ps q => by
    obtain ⟨m1, e1⟩ := a.tbls c ps q
    obtain ⟨m2, e2⟩ := b.tbls c _ e1
    exact ⟨m1 ++ m2, by rw [e2, Array.append_assoc]⟩
theorem Un.kept (k : ∀ b u, h.get? b = some u → h'.get? b = some u) : Un fs ex H H h h' :=
  ⟨fun b ob q _ _ _ => k b ob q, fun b ob q _ _ _ => ⟨ob.slots, k b ob q⟩, fun _ _ _ n _ => n, fun b ob q _ => ⟨ob, k b ob q⟩, fun _ _ q => q, fun _ _ _ q => q, fun _ ps q => ⟨#[], by rw [q]; simp⟩⟩
theorem Un.refl : Un fs ex H H h h := Un.kept fun _ _ q => q
theorem Un.laid (k : ∀ b u, h.get? b = some u → h'.get? b = some u) (hp : h.objs.size ≤ a) (hn : H a = none) : Un fs ex H (upd H a o) h h' where
  keep := fun b u q _ _ _ => k b u q
  slot := fun b u q _ _ _ => ⟨u.slots, k b u q⟩
  free := fun b u q n _ => by rw [upd_ne (Nat.ne_of_lt (Nat.lt_of_lt_of_le (Heap.lt_size q) hp))]; exact n
  there := fun b u q _ => ⟨u, k b u q⟩
  tups := fun b xs q => by rw [upd_ne (ne_of_none q hn)]; exact q
  frzs := fun b u xs q => by rw [upd_ne (ne_of_none q hn)]; exact q
  tbls := fun b ps q => ⟨#[], by rw [upd_ne (ne_of_none q hn), q]; simp⟩
theorem Un.write (mu : Mut (H x)) (he : e = x ∨ H e = some (.own x)) (k : ∀ b u, b ≠ e → h.get? b = some u → h'.get? b = some u) (heo : ∃ u, h'.get? e = some u) : Un fs ex H (upd H x o) h h' := by
  have hx : ∀ b, H b = none → b ≠ x := fun b n z => by subst z; rw [n] at mu; exact mu
  have hb : ∀ b, H b = none → b ≠ e := fun b n z => by
    subst z
    rcases he with r | r
    · exact hx b n r
    · rw [n] at r; cases r
  have hm : ∀ b u, H b = some u → ¬ Mut (some u) → b ≠ x := fun b u q nm z => by subst z; rw [q] at mu; exact nm mu
  refine ⟨fun b u q n _ _ => k b u (hb b n) q, fun b u q n _ _ => ⟨u.slots, k b u (hb b n) q⟩, fun b u q n _ => by rw [upd_ne (hx b n)]; exact n, fun b u q _ => ?_,
    fun b xs q => by rw [upd_ne (hm b _ q fun z => z)]; exact q, fun b u xs q => by rw [upd_ne (hm b _ q fun z => z)]; exact q, fun b ps q => ⟨#[], by rw [upd_ne (hm b _ q fun z => z), q]; simp⟩⟩
  by_cases hbe : b = e
  · subst hbe; exact heo
  · exact ⟨u, k b u hbe q⟩
theorem Un.mono (u : Un fs ex H H1 h h1) (hs : ∀ b ∈ fs, b ∈ fs') (hx : ∀ b ∈ ex, b ∈ ex') : Un fs' ex' H H1 h h1 :=
  ⟨fun b ob q n hb he => u.keep b ob q n (fun z => hb (hs b z)) fun z => he (hx b z), fun _ _ q n _ he => u.any q n fun z => he (hx _ z), fun b ob q n he => u.free b ob q n fun z => he (hx b z), fun b ob q he => u.there b ob q fun z => he (hx b z), u.tups, u.frzs, u.tbls⟩
end

/-! ### the heap without what is tracked -/
def trk (h : Heap) (H : Hp) : List Addr := (List.range h.objs.size).filter fun a => (H a).isSome
def hidT (h : Heap) (H : Hp) : Heap := PySem.W.hideAll h (trk h H)
theorem hidT_size (h : Heap) (H : Hp) : (hidT h H).objs.size = h.objs.size := PySem.W.hideAll_size _ _
theorem hidT_get {h : Heap} {H : Hp} {b : Addr} {o : Obj} (e : h.get? b = some o) (n : H b = none) : (hidT h H).get? b = some o :=
  PySem.W.hideAll_get _ e fun hm => by
    have q : (H b).isSome = true := (List.mem_filter.mp hm).2
    rw [n] at q; simp at q
theorem of_hidT {h : Heap} {H : Hp} {b : Addr} {o : Obj} (e : (hidT h H).get? b = some o) : h.get? b = some o ∧ H b = none := by
  have e' : h.get? b = some o := PySem.W.of_hideAll (trk h H) e
  refine ⟨e', ?_⟩
  cases q : H b with
  | none => rfl
  | some x =>
    have hm : b ∈ trk h H := List.mem_filter.mpr ⟨List.mem_range.mpr (Heap.lt_size e'), by simp [q]⟩
    have z : (hidT h H).get? b = none := PySem.W.hideAll_none (trk h H) hm
    rw [z] at e; cases e

/-! ### OpenK's ledger, filled with every new object but one -/
def allNews (g h : Heap) (L : Addr) : List (Addr × Obj) := (List.range h.objs.size).filterMap fun a => if a = L ∨ (g.get? a).isSome = true then none else (h.get? a).map fun o => (a, o)
def rest (g h : Heap) (L d : Addr) : List (Addr × Obj) := (allNews g h L).filter fun p => decide (p.1 ≠ d)
end L2

namespace L2
open PySem PySem.Spec PyProof.Rows

/-- the module's facts, over the base: the heap at the law's entry without what is tracked there -/
structure Mod (K : PySem.W.Frag) (mg : Str → Option Value) (base : Heap) : Prop where
  kin : K.In base
  glob : base.Ns mainGlobals mg
  blt : ∃ mb, base.Ns builtinsNs mb ∧ ∀ x : Str, x ≠ "__name__" → mb x = bootBuiltins x
  nolimit : base.NoLimit

/-- the context: a def's body (or a comprehension's block) running. base: fixed through the whole law; s₀, H₀: the entry; outer: the frames whose slots others may change (a def's callers); stack: all frames that run;
   ex: iterators that were made ahead of the entry and are walked here (a comprehension's); fn: the names whose cells were made at the entry (a def: all; a comprehension's block: its own); calm: not within an except suite; pn: pins that every state bears; xe: what is wanted of an exception that leaves the code -/
structure Cx where
  prog : Program
  w : World
  K : PySem.W.Frag
  mg : Str → Option Value
  base : Heap
  A : Around
  N : List Str
  s₀ : Shared
  H₀ : Hp
  env : Env
  outer : List Env
  stack : List Env
  ex : List Addr
  fn : Str → Bool
  calm : Bool
  pn : List (Addr × Obj)
  xe : Value → Shared → Prop
/-- the callers' frames -/
def frs (l : List Env) : List Addr := l.filterMap (·.frame)
abbrev Cx.fs (X : Cx) : List Addr := frs X.outer

def Vis (sc : Scope) (x : Str) : Prop := sc.names.lookup x = some .local ∨ sc.names.lookup x = some .cell ∨ sc.names.lookup x = some .free
def Loc (sc : Scope) (x : Str) : Prop := sc.names.lookup x = some .local ∨ sc.names.lookup x = some .cell
def Look (env : Env) (h : Heap) (m : Str → Option Value) (x : Str) (u : Value) : Prop :=
  (env.kindOf x = some .local ∧ m x = some u) ∨ ((env.kindOf x = some .cell ∨ env.kindOf x = some .free) ∧ ∃ c, env.cells.lookup x = some c ∧ h.IsCell c (some u))

structure Cx.Ok (X : Cx) : Prop where
  mod : Mod X.K X.mg X.base
  kind : X.env.scope.kind = .function
  glob : X.env.globals = mainGlobals
  blt : X.env.builtins = builtinsNs
  above : X.s₀.heap.objs.size ≤ X.env.locals
  inj : ∀ x y c, X.env.cells.lookup x = some c → X.env.cells.lookup y = some c → x = y
  has : ∀ x, (X.env.kindOf x = some .cell ∨ X.env.kindOf x = some .free) → ∃ c, X.env.cells.lookup x = some c
  cab : ∀ x c, X.fn x = true → X.env.cells.lookup x = some c → X.s₀.heap.objs.size ≤ c
  hd : X.calm = true → X.A.handled = none
  frames : X.A.frames = some X.stack
  stk : X.stack = X.outer ∨ (X.stack = X.env :: X.outer ∧ X.env.frame = some X.env.locals)
  exf : ∀ b ∈ X.ex, b ≠ X.env.locals ∧ ∀ x c, X.env.cells.lookup x = some c → c ≠ b
  bs : ∀ b o, X.base.get? b = some o → X.s₀.heap.get? b = some o ∧ X.H₀ b = none
  bsz : X.base.objs.size ≤ X.s₀.heap.objs.size
  noex : ∀ b o, X.base.get? b = some o → b ∉ X.ex
  exfs : ∀ b ∈ X.ex, b ∉ X.fs
  funs : X.s₀.heap.FunFrames X.base X.outer
  frf : ∀ b ∈ X.fs, X.H₀ b = none

structure Inv (X : Cx) (pins : List (Addr × Obj)) (σ : List (Option V)) (H : Hp) (s : Shared) : Prop where
  ok : X.Ok
  os : s.os = X.s₀.os
  bare : AllBare s.gens
  base : Un X.fs X.ex X.H₀ H X.s₀.heap s.heap
  loc : ∃ m, s.heap.Ns X.env.locals m ∧ ∀ (i : Nat) (x : Str) (v : V), X.N[i]? = some x → σ[i]? = some (some v) → Vis X.env.scope x → ∃ u, RelV v u ∧ Look X.env s.heap m x u
  cell : ∀ x c, X.env.cells.lookup x = some c → ∃ v, s.heap.IsCell c v
  free : H X.env.locals = none
  freeC : ∀ x c, X.env.cells.lookup x = some c → H c = none
  pin : ∀ p ∈ X.pn ++ pins, s.heap.get? p.1 = some p.2 ∧ H p.1 = none ∧ p.1 ≠ X.env.locals ∧ p.1 ∉ X.fs ∧ ∀ v, p.2.data ≠ .cell v
  hok : HOk X.prog X.w H s.heap
  len : σ.length = X.N.length

section
variable {X : Cx} {pins : List (Addr × Obj)} {σ : List (Option V)} {H H' : Hp} {s : Shared} {h' : Heap}

theorem Cx.Ok.nofr (ok : X.Ok) {b : Addr} {o : Obj} (e : X.base.get? b = some o) : b ∉ X.fs := fun hb => by
  have := (ok.funs.mem hb).1
  rw [e] at this; cases this
theorem Inv.bs (I : Inv X pins σ H s) : ∀ b o, X.base.get? b = some o → s.heap.get? b = some o ∧ H b = none := fun b o e =>
  ⟨I.base.keep b o (I.ok.bs b o e).1 (I.ok.bs b o e).2 (I.ok.nofr e) (I.ok.noex b o e), I.base.free b o (I.ok.bs b o e).1 (I.ok.bs b o e).2 (I.ok.noex b o e)⟩
theorem Inv.bk (I : Inv X pins σ H s) : ∀ b o, X.base.get? b = some o → s.heap.get? b = some o := fun b o e => (I.bs b o e).1
theorem Inv.mod (I : Inv X pins σ H s) : Mod X.K X.mg X.base := I.ok.mod
theorem Inv.kIn (I : Inv X pins σ H s) : X.K.In s.heap := I.ok.mod.kin.keeps I.bk
theorem Inv.lt (I : Inv X pins σ H s) : X.env.locals < s.heap.objs.size := let ⟨_, hn, _⟩ := I.loc; hn.lt
theorem Inv.sz (I : Inv X pins σ H s) : X.s₀.heap.objs.size ≤ s.heap.objs.size := Nat.le_trans I.ok.above (Nat.le_of_lt I.lt)
theorem Inv.nofs (I : Inv X pins σ H s) {a : Addr} (h : s.heap.objs.size ≤ a) : a ∉ X.fs := fun hb => by
  obtain ⟨_, o, ho, _⟩ := I.ok.funs.mem hb
  exact absurd (Nat.lt_of_lt_of_le (Heap.lt_size ho) (Nat.le_trans I.sz h)) (Nat.lt_irrefl _)
theorem Inv.cne (I : Inv X pins σ H s) : ∀ x c, X.env.cells.lookup x = some c → c ≠ X.env.locals := fun x c e z => by
  obtain ⟨v, o, ho, hd⟩ := I.cell x c e
  obtain ⟨m, ⟨o', es, ep, ho', hd', _⟩, _⟩ := I.loc
  rw [z, ho'] at ho; cases ho; rw [hd'] at hd; cases hd
theorem Inv.funs (I : Inv X pins σ H s) : s.heap.FunFrames X.base X.outer := by
  have all : ∀ (l : List Env), (∀ b ∈ frs l, b ∈ X.fs) → X.s₀.heap.FunFrames X.base l → s.heap.FunFrames X.base l := by
    intro l
    induction l with
    | nil => intro _ _; trivial
    | cons env r ih =>
      intro hs hl
      obtain ⟨hk, ⟨L, o, hf, hn, ho, hd⟩, hr⟩ := hl
      have hL : L ∈ X.fs := hs L (by unfold frs; rw [List.filterMap_cons, hf]; exact List.mem_cons_self)
      obtain ⟨sl, e⟩ := I.base.slot L o ho (I.ok.frf L hL) hL fun z => I.ok.exfs L z hL
      exact ⟨hk, ⟨L, _, hf, hn, e, hd⟩, ih (fun b hb => hs b (by unfold frs; rw [List.filterMap_cons, hf]; exact List.mem_cons_of_mem _ hb)) hr⟩
  exact all X.outer (fun _ hb => hb) I.ok.funs

/-- the frames that run, for a call -/
theorem Inv.stack (I : Inv X pins σ H s) : s.heap.FunFrames X.base X.stack := by
  rcases I.ok.stk with e | ⟨e, hf⟩
  · rw [e]; exact I.funs
  · rw [e]
    obtain ⟨m, hn, _⟩ := I.loc
    refine .cons (by rw [I.ok.kind]; decide) hf hn ?_ I.funs
    exact Heap.get?_none_of_le (Nat.le_trans I.ok.bsz I.ok.above)
theorem Inv.stkSub (I : Inv X pins σ H s) : ∀ b ∈ frs X.stack, b ∈ X.env.locals :: X.fs := fun b hb => by
  rcases I.ok.stk with e | ⟨e, hf⟩
  · rw [e] at hb; exact List.mem_cons_of_mem _ hb
  · rw [e] at hb
    unfold frs at hb
    rw [List.filterMap_cons, hf] at hb
    exact hb
theorem Inv.stkFree (I : Inv X pins σ H s) : ∀ b ∈ frs X.stack, H b = none := fun b hb => by
  rcases List.mem_cons.mp (I.stkSub b hb) with e | hb
  · rw [e]; exact I.free
  · obtain ⟨_, o, ho, _⟩ := I.ok.funs.mem hb
    exact I.base.free b o ho (I.ok.frf b hb) fun z => I.ok.exfs b z hb

/-- THE STEP: the untracked objects but the frame and the records at ch are kept (the callers' frames up to slots), the frame's map is kept, the new abstract heap is held -/
theorem Inv.step {g' : Array GenState} {t' : Nat} {d' : Drawn} {ch : List Addr} (I : Inv X pins σ H s)
    (hch : ∀ b ∈ ch, (b ∈ X.ex ∨ X.s₀.heap.objs.size ≤ b) ∧ b ≠ X.env.locals ∧ (∀ x c, X.env.cells.lookup x = some c → c ≠ b) ∧ ∀ p ∈ X.pn ++ pins, p.1 ≠ b)
    (keep : ∀ b o, b ≠ X.env.locals → b ∉ X.fs → b ∉ ch → s.heap.get? b = some o → H b = none → h'.get? b = some o)
    (slot : ∀ b o, b ≠ X.env.locals → b ∈ X.fs → b ∉ ch → s.heap.get? b = some o → H b = none → ∃ sl, h'.get? b = some { o with slots := sl }) (free : ∀ b o, b ∉ ch → s.heap.get? b = some o → H b = none → H' b = none)
    (there : ∀ b o, b ∉ ch → s.heap.get? b = some o → ∃ o', h'.get? b = some o')
    (tups : ∀ b xs, H b = some (.tup xs) → H' b = some (.tup xs)) (frzs : ∀ b o u, H b = some (.frz o u) → H' b = some (.frz o u)) (tbls : ∀ b ps, H b = some (.tbl ps) → ∃ more, H' b = some (.tbl (ps ++ more)))
    (ns : ∀ m, s.heap.Ns X.env.locals m → h'.Ns X.env.locals m) (hok : HOk X.prog X.w H' h') (hg : AllBare g') :
    Inv X pins σ H' { s with heap := h', gens := g', drawn := d', toks := t' } := by
  have neL : ∀ b o, X.s₀.heap.get? b = some o → b ≠ X.env.locals := fun b o e => Nat.ne_of_lt (Nat.lt_of_lt_of_le (Heap.lt_size e) I.ok.above)
  have neC : ∀ b o, X.s₀.heap.get? b = some o → b ∉ X.ex → b ∉ ch := fun b o e hx hb => by
    rcases (hch b hb).1 with z | z
    · exact hx z
    · exact absurd (Nat.lt_of_lt_of_le (Heap.lt_size e) z) (Nat.lt_irrefl _)
  have cellK : ∀ x c, X.env.cells.lookup x = some c → ∀ v, s.heap.IsCell c v → h'.IsCell c v := fun x c e v ⟨o, ho, hd⟩ => by
    have nch : c ∉ ch := fun z => (hch c z).2.2.1 x c e rfl
    by_cases hc : c ∈ X.fs
    · obtain ⟨sl, q⟩ := slot c o (I.cne x c e) hc nch ho (I.freeC x c e)
      exact ⟨_, q, hd⟩
    · exact ⟨o, keep c o (I.cne x c e) hc nch ho (I.freeC x c e), hd⟩
  refine ⟨I.ok, I.os, hg, ⟨fun b o e n hb hx => ?_, fun b o e n hb hx => ?_, fun b o e n hx => ?_, fun b o e hx => ?_, fun b xs e => tups b xs (I.base.tups b xs e), fun b o xs e => frzs b o xs (I.base.frzs b o xs e), fun b ps e => ?_⟩, ?_, fun x c e => ?_, ?_, fun x c e => ?_, fun p hp => ?_, hok, I.len⟩
  · exact keep b o (neL b o e) hb (neC b o e hx) (I.base.keep b o e n hb hx) (I.base.free b o e n hx)
  · obtain ⟨sl, e1⟩ := I.base.slot b o e n hb hx
    obtain ⟨sl', e2⟩ := slot b _ (neL b o e) hb (neC b o e hx) e1 (I.base.free b o e n hx)
    exact ⟨sl', e2⟩
  · obtain ⟨o', e1⟩ := I.base.there b o e hx
    exact free b o' (neC b o e hx) e1 (I.base.free b o e n hx)
  · obtain ⟨o', e1⟩ := I.base.there b o e hx
    exact there b o' (neC b o e hx) e1
  · obtain ⟨m1, e1⟩ := I.base.tbls b ps e
    obtain ⟨m2, e2⟩ := tbls b _ e1
    exact ⟨m1 ++ m2, by rw [e2, Array.append_assoc]⟩
  · obtain ⟨m, hn, hl⟩ := I.loc
    refine ⟨m, ns m hn, fun i x v e1 e2 e3 => ?_⟩
    obtain ⟨u, r, l⟩ := hl i x v e1 e2 e3
    refine ⟨u, r, ?_⟩
    rcases l with l | ⟨k, c, e, z⟩
    · exact .inl l
    · exact .inr ⟨k, c, e, cellK x c e _ z⟩
  · obtain ⟨v, z⟩ := I.cell x c e
    exact ⟨v, cellK x c e v z⟩
  · obtain ⟨m, ⟨o, _, _, ho, _⟩, _⟩ := I.loc
    exact free _ o (fun z => (hch _ z).2.1 rfl) ho I.free
  · obtain ⟨v, o, ho, hd⟩ := I.cell x c e
    exact free c o (fun z => (hch c z).2.2.1 x c e rfl) ho (I.freeC x c e)
  · obtain ⟨e, n, ne, nf, d⟩ := I.pin p hp
    have nch : p.1 ∉ ch := fun z => (hch p.1 z).2.2.2 p hp rfl
    exact ⟨keep p.1 p.2 ne nf nch e n, free p.1 p.2 nch e n, ne, nf, d⟩
/-- .. where the frame's own object is kept too -/
theorem Inv.un {t' : Nat} (I : Inv X pins σ H s) (u : Un X.fs [] H H' s.heap h') (hok : HOk X.prog X.w H' h') : Inv X pins σ H' { s with heap := h', toks := t' } := by
  obtain ⟨m, ⟨o, es, ep, ho, r⟩, _⟩ := id I.loc
  obtain ⟨sl, hL⟩ := u.any ho I.free (by simp)
  exact I.step (g' := s.gens) (d' := s.drawn) (ch := []) (fun _ z => nomatch z) (fun b o _ hb _ e n => u.keep b o e n hb (by simp)) (fun b o _ hb _ e n => u.slot b o e n hb (by simp)) (fun b o _ e n => u.free b o e n (by simp)) (fun b o _ e => u.there b o e (by simp)) u.tups u.frzs u.tbls (fun m' hm => by
    obtain ⟨o', es', ep', ho', r'⟩ := hm
    rw [ho] at ho'; cases ho'
    exact ⟨_, es', ep', hL, r'⟩) hok I.bare
/-- behind a call (or a comprehension's block): the slots of this frame may have changed too, the records at ch may have turned -/
theorem Inv.call {g' : Array GenState} {t' : Nat} {d' : Drawn} {ch : List Addr} (I : Inv X pins σ H s) (u : Un (frs X.stack) ch H H' s.heap h') (hok : HOk X.prog X.w H' h') (hg : AllBare g')
    (hch : ∀ b ∈ ch, (b ∈ X.ex ∨ X.s₀.heap.objs.size ≤ b) ∧ b ≠ X.env.locals ∧ (∀ x c, X.env.cells.lookup x = some c → c ≠ b) ∧ ∀ p ∈ X.pn ++ pins, p.1 ≠ b) :
    Inv X pins σ H' { s with heap := h', gens := g', drawn := d', toks := t' } := by
  obtain ⟨m, ⟨o, es, ep, ho, r⟩, _⟩ := id I.loc
  obtain ⟨sl, hL⟩ := u.any ho I.free fun z => (hch _ z).2.1 rfl
  exact I.step (ch := ch) hch (fun b o hL hb hc e n => u.keep b o e n (fun z => (List.mem_cons.mp (I.stkSub b z)).elim hL hb) hc) (fun b o _ _ hc e n => u.any e n hc) (fun b o hc e n => u.free b o e n hc) (fun b o hc e => u.there b o e hc) u.tups u.frzs u.tbls (fun m' hm => by
    obtain ⟨o', es', ep', ho', r'⟩ := hm
    rw [ho] at ho'; cases ho'
    exact ⟨_, es', ep', hL, r'⟩) hok hg
/-- an untracked record of ours (an iterator) has turned -/
theorem Inv.turned {t' : Nat} {it : Addr} (I : Inv X pins σ H s) (k : ∀ b o, b ≠ it → s.heap.get? b = some o → h'.get? b = some o) (hn : H it = none) (hL : it ≠ X.env.locals)
    (h1 : it ∈ X.ex ∨ X.s₀.heap.objs.size ≤ it) (h2 : ∀ x c, X.env.cells.lookup x = some c → c ≠ it) (h3 : ∀ p ∈ X.pn ++ pins, p.1 ≠ it) : Inv X pins σ H { s with heap := h', toks := t' } := by
  have nit : ∀ b u, H b = some u → b ≠ it := fun b u e z => by rw [z, hn] at e; cases e
  refine I.step (g' := s.gens) (d' := s.drawn) (ch := [it]) (fun b hb => ?_) (fun b o _ _ hc e _ => k b o (fun z => hc (by simp [z])) e) (fun b o _ _ hc e _ => ⟨o.slots, k b o (fun z => hc (by simp [z])) e⟩) (fun _ _ _ _ n => n)
    (fun b o hc e => ⟨o, k b o (fun z => hc (by simp [z])) e⟩) (fun _ _ e => e) (fun _ _ _ e => e) (fun b ps e => ⟨#[], by rw [e]; simp⟩) (fun m hm => ?_) (fun b u e => ?_) I.bare
  · have e : b = it := by simpa using hb
    subst e
    exact ⟨h1, hL, h2, h3⟩
  · obtain ⟨o, es, ep, ho, r⟩ := hm
    exact ⟨o, es, ep, k _ o (Ne.symm hL) ho, r⟩
  · refine (I.hok b u e).stay (fun c v hc q => k c v ?_ q) (fun _ q => q) fun _ _ q => q
    rcases hc with z | z
    · rw [z]; exact nit b u e
    · exact nit c _ z
theorem Inv.tok (I : Inv X pins σ H s) (t : Nat) : Inv X pins σ H { s with toks := t } := I.un (h' := s.heap) (t' := t) Un.refl I.hok
/-- all objects kept -/
theorem Inv.kept {t' : Nat} (I : Inv X pins σ H s) (k : ∀ b u, s.heap.get? b = some u → h'.get? b = some u) : Inv X pins σ H { s with heap := h', toks := t' } := I.un (Un.kept k) (I.hok.kept k)
/-- a new object laid and tracked -/
theorem Inv.laid {a : Addr} {o : HO} {t' : Nat} (I : Inv X pins σ H s) (k : ∀ b u, s.heap.get? b = some u → h'.get? b = some u) (hp : s.heap.objs.size ≤ a) (new : ObjOk X.prog X.w (upd H a o) h' a o) :
    Inv X pins σ (upd H a o) { s with heap := h', toks := t' } := I.un (Un.laid k hp (I.hok.fresh hp)) (I.hok.laid k hp new)
/-- an object written -/
theorem Inv.write {x e : Addr} {o : HO} {t' : Nat} (I : Inv X pins σ H s) (mu : Mut (H x)) (he : e = x ∨ H e = some (.own x)) (k : ∀ b u, b ≠ e → s.heap.get? b = some u → h'.get? b = some u) (heo : ∃ u, h'.get? e = some u)
    (new : ObjOk X.prog X.w (upd H x o) h' x o) : Inv X pins σ (upd H x o) { s with heap := h', toks := t' } := I.un (Un.write mu he k heo) (I.hok.write mu he k heo new)
theorem Inv.pins_of {pins' : List (Addr × Obj)} (I : Inv X pins σ H s) (h : ∀ p ∈ pins', s.heap.get? p.1 = some p.2 ∧ H p.1 = none ∧ p.1 ≠ X.env.locals ∧ p.1 ∉ X.fs ∧ ∀ v, p.2.data ≠ .cell v) : Inv X pins' σ H s :=
  ⟨I.ok, I.os, I.bare, I.base, I.loc, I.cell, I.free, I.freeC, fun p hp => (List.mem_append.mp hp).elim (fun z => I.pin p (List.mem_append_left _ z)) (h p), I.hok, I.len⟩

theorem nodup_ix {N : List Str} (hN : N.Nodup) {i j : Nat} {x : Str} (a : N[i]? = some x) (b : N[j]? = some x) : i = j := by
  obtain ⟨h1, e1⟩ := List.getElem?_eq_some_iff.mp a
  obtain ⟨h2, e2⟩ := List.getElem?_eq_some_iff.mp b
  exact (List.getElem_inj hN).mp (e1.trans e2.symm)

/-- a name is stored; what changed -/
theorem store_ok2 {M : Model} {A : Around} {E : Value → Shared → Prop} {i : Nat} {x : Str} {v : V} {u : Value} {Q : Unit → Shared → Prop} (I : Inv X pins σ H s) (hN : X.N.Nodup) (hi : X.N[i]? = some x) (hx : Loc X.env.scope x) (r : RelV v u)
    (h : ∀ s', Inv X pins (σ.set i (some v)) H s' → (∃ a, Heap.SameBut a s.heap s'.heap ∧ (a = X.env.locals ∨ X.env.cells.lookup x = some a)) → Q () s') (hf : X.fn x = true ∨ X.env.scope.names.lookup x = some .local := by first | exact .inl rfl | exact .inr rfl | assumption) : wpAny M A (storeName X.env x u) Q E s := by
  obtain ⟨m, hn, hl⟩ := id I.loc
  have hcls : (X.env.scope.kind == .class || (X.env.scope.kind == .module && X.env.locals != X.env.globals)) = false := by rw [I.ok.kind]; rfl
  have hiσ : i < σ.length := by rw [I.len]; exact (List.getElem?_eq_some_iff.mp hi).1
  have cne := I.cne
  have tracked : ∀ {a : Addr} {h' : Heap}, (∃ o, s.heap.get? a = some o ∧ H a = none) → Heap.SameBut a s.heap h' → HOk X.prog X.w H h' := fun {a h'} ha hs b ob e => by
    obtain ⟨_, _, hfree⟩ := ha
    refine (I.hok b ob e).stay (fun c w' hc q => (hs.2 c ?_).trans q) (fun _ q => q) fun _ _ q => q
    rintro rfl
    rcases hc with rfl | hc
    · rw [hfree] at e; cases e
    · rw [hfree] at hc; cases hc
  rcases hx with hk | hk
  · refine wpAny_storeName_local hk hn (fun h' hn' hs => ?_) hcls
    obtain ⟨oL, _, _, hoL, _⟩ := id hn
    refine h _ ⟨I.ok, I.os, I.bare, ⟨fun b o e n hb hx => ?_, fun b o e n hb hx => ?_, I.base.free, fun b o e hx => ?_, I.base.tups, I.base.frzs, I.base.tbls⟩, ⟨_, hn', fun j y v' e1 e2 e3 => ?_⟩, fun y c e => ?_, I.free, I.freeC, fun p hp => ?_, tracked ⟨oL, hoL, I.free⟩ hs, by simpa using I.len⟩ ⟨_, hs, .inl rfl⟩
    · exact (hs.2 b (Nat.ne_of_lt (Nat.lt_of_lt_of_le (Heap.lt_size e) I.ok.above))).trans (I.base.keep b o e n hb hx)
    · obtain ⟨sl, e1⟩ := I.base.slot b o e n hb hx
      exact ⟨sl, (hs.2 b (Nat.ne_of_lt (Nat.lt_of_lt_of_le (Heap.lt_size e) I.ok.above))).trans e1⟩
    · obtain ⟨o', e1⟩ := I.base.there b o e hx
      exact ⟨o', (hs.2 b (Nat.ne_of_lt (Nat.lt_of_lt_of_le (Heap.lt_size e) I.ok.above))).trans e1⟩
    · by_cases hj : j = i
      · subst hj
        rw [hi] at e1; cases e1
        rw [List.getElem?_set_self hiσ] at e2
        cases e2
        exact ⟨u, r, .inl ⟨hk, by simp⟩⟩
      · rw [List.getElem?_set_ne (Ne.symm hj)] at e2
        obtain ⟨u', r', q⟩ := hl j y v' e1 e2 e3
        refine ⟨u', r', ?_⟩
        rcases q with ⟨k, e⟩ | ⟨k, c, e, z⟩
        · refine .inl ⟨k, ?_⟩
          have : y ≠ x := fun e => hj (nodup_ix hN e1 (e ▸ hi))
          simp [this, e]
        · exact .inr ⟨k, c, e, z.sameBut hs (cne y c e)⟩
    · obtain ⟨w', z⟩ := I.cell y c e
      exact ⟨w', z.sameBut hs (cne y c e)⟩
    · obtain ⟨e, n, ne, nf, d⟩ := I.pin p hp
      exact ⟨(hs.2 p.1 ne).trans e, n, ne, nf, d⟩
  · have hfn : X.fn x = true := by
      rcases hf with z | z
      · exact z
      · rw [z] at hk; cases hk
    obtain ⟨c, hc⟩ := I.ok.has x (.inl hk)
    obtain ⟨w', z⟩ := I.cell x c hc
    refine wpAny_storeName_cell I.ok.kind hk hc z (fun h' hc' hs => ?_)
    obtain ⟨oc, hoc, hocd⟩ := id z
    refine h { s with heap := h' } ⟨I.ok, I.os, I.bare, ⟨fun b o e n hb hx => ?_, fun b o e n hb hx => ?_, I.base.free, fun b o e hx => ?_, I.base.tups, I.base.frzs, I.base.tbls⟩, ⟨m, hn.sameBut hs (Ne.symm (cne x c hc)), fun j y v' e1 e2 e3 => ?_⟩, fun y c' e => ?_, I.free, I.freeC, fun p hp => ?_, tracked ⟨oc, hoc, I.freeC x c hc⟩ hs, by simpa using I.len⟩ ⟨c, hs, .inr hc⟩
    · exact (hs.2 b (Nat.ne_of_lt (Nat.lt_of_lt_of_le (Heap.lt_size e) (I.ok.cab x c hfn hc)))).trans (I.base.keep b o e n hb hx)
    · obtain ⟨sl, e1⟩ := I.base.slot b o e n hb hx
      exact ⟨sl, (hs.2 b (Nat.ne_of_lt (Nat.lt_of_lt_of_le (Heap.lt_size e) (I.ok.cab x c hfn hc)))).trans e1⟩
    · obtain ⟨o', e1⟩ := I.base.there b o e hx
      exact ⟨o', (hs.2 b (Nat.ne_of_lt (Nat.lt_of_lt_of_le (Heap.lt_size e) (I.ok.cab x c hfn hc)))).trans e1⟩
    · by_cases hj : j = i
      · subst hj
        rw [hi] at e1; cases e1
        rw [List.getElem?_set_self hiσ] at e2
        cases e2
        exact ⟨u, r, .inr ⟨.inl hk, c, hc, hc'⟩⟩
      · rw [List.getElem?_set_ne (Ne.symm hj)] at e2
        obtain ⟨u', r', q⟩ := hl j y v' e1 e2 e3
        refine ⟨u', r', ?_⟩
        rcases q with q | ⟨k, c', e, z'⟩
        · exact .inl q
        · refine .inr ⟨k, c', e, z'.sameBut hs ?_⟩
          rintro rfl
          exact hj (nodup_ix hN e1 (I.ok.inj _ _ _ e hc ▸ hi))
    · by_cases hcc : c' = c
      · subst hcc; exact ⟨_, hc'⟩
      · obtain ⟨w2, z2⟩ := I.cell y c' e
        exact ⟨w2, z2.sameBut hs hcc⟩
    · obtain ⟨e, n, ne, nf, d⟩ := I.pin p hp
      refine ⟨(hs.2 p.1 ?_).trans e, n, ne, nf, d⟩
      intro q
      rw [q, hoc] at e
      have q' : oc = p.2 := Option.some.inj e
      exact d w' (by rw [← q']; exact hocd)
theorem store_ok {M : Model} {A : Around} {E : Value → Shared → Prop} {i : Nat} {x : Str} {v : V} {u : Value} {Q : Unit → Shared → Prop} (I : Inv X pins σ H s) (hN : X.N.Nodup) (hi : X.N[i]? = some x) (hx : Loc X.env.scope x) (r : RelV v u)
    (h : ∀ s', Inv X pins (σ.set i (some v)) H s' → Q () s') (hf : X.fn x = true ∨ X.env.scope.names.lookup x = some .local := by first | exact .inl rfl | exact .inr rfl | assumption) : wpAny M A (storeName X.env x u) Q E s :=
  store_ok2 I hN hi hx r (fun s' I' _ => h s' I') hf
/-- behind a call or a block, the state as it is -/
theorem Inv.call' {s' : Shared} {ch : List Addr} (I : Inv X pins σ H s) (ho : s'.os = s.os) (u : Un (frs X.stack) ch H H' s.heap s'.heap) (hok : HOk X.prog X.w H' s'.heap) (hg : AllBare s'.gens)
    (hch : ∀ b ∈ ch, (b ∈ X.ex ∨ X.s₀.heap.objs.size ≤ b) ∧ b ≠ X.env.locals ∧ (∀ x c, X.env.cells.lookup x = some c → c ≠ b) ∧ ∀ p ∈ X.pn ++ pins, p.1 ≠ b) : Inv X pins σ H' s' := by
  obtain ⟨h', g', d', t', o'⟩ := s'
  have e : o' = s.os := ho
  subst e
  exact I.call (g' := g') (t' := t') (d' := d') u hok hg hch
end

/-! ### the judgements -/
/-- an exception: its class, its own dict's address (where it has one), the abstract heap behind it -/
abbrev XK := Value → Option Addr → Hp → Prop
abbrev St := List (Option V)
abbrev VK := V → Hp → Prop
/-- an expression's reading; a test's; an argument list's -/
abbrev TE := St → Hp → VK → Prop
abbrev TT := St → Hp → (Bool → Hp → Prop) → Prop
abbrev TA := St → Hp → (List V → Hp → Prop) → Prop
/-- what is wanted behind a statement -/
structure Ends where
  nx : St → Hp → Prop
  rt : VK
  bk : St → Hp → Prop := fun _ _ => False
  ct : St → Hp → Prop := fun _ _ => False
abbrev TS := Ends → St → Hp → Prop

def EP (X : Cx) (pins : List (Addr × Obj)) (σ : St) (Q : VK) (u : Value) (s' : Shared) : Prop := ∃ v H', Inv X pins σ H' s' ∧ RelV v u ∧ Q v H'
def TP (X : Cx) (pins : List (Addr × Obj)) (σ : St) (Q : Bool → Hp → Prop) (b : Bool) (s' : Shared) : Prop := ∃ H', Inv X pins σ H' s' ∧ Q b H'
def AP (X : Cx) (pins : List (Addr × Obj)) (σ : St) (Q : List V → Hp → Prop) (us : List Value) (s' : Shared) : Prop := ∃ vs H', Inv X pins σ H' s' ∧ Vals vs us ∧ Q vs H'
def SP (X : Cx) (pins : List (Addr × Obj)) (D : Ends) (f : Flow) (s' : Shared) : Prop :=
  match f with
  | .next => ∃ σ' H', Inv X pins σ' H' s' ∧ D.nx σ' H'
  | .brk => ∃ σ' H', Inv X pins σ' H' s' ∧ D.bk σ' H'
  | .cont => ∃ σ' H', Inv X pins σ' H' s' ∧ D.ct σ' H'
  | .ret u => ∃ v σ' H', Inv X pins σ' H' s' ∧ RelV v u ∧ D.rt v H'

def PE (X : Cx) (e : Expr) (t : TE) : Prop :=
  ∀ (pins : List (Addr × Obj)) (s : Shared) (σ : St) (H : Hp) (Q : VK), Inv X pins σ H s → t σ H Q → wpAny (model X.prog X.w) X.A (eval e X.env) (EP X pins σ Q) X.xe s
def PT (X : Cx) (e : Expr) (t : TT) : Prop :=
  ∀ (pins : List (Addr × Obj)) (s : Shared) (σ : St) (H : Hp) (Q : Bool → Hp → Prop), Inv X pins σ H s → t σ H Q → wpAny (model X.prog X.w) X.A (isTrue e X.env (eval e X.env)) (TP X pins σ Q) X.xe s
/-- a test whatever its 'whole' is (and, or) -/
def PW (X : Cx) (e : Expr) (t : TT) : Prop :=
  ∀ (whole : Sem Value) (pins : List (Addr × Obj)) (s : Shared) (σ : St) (H : Hp) (Q : Bool → Hp → Prop), Inv X pins σ H s → t σ H Q → wpAny (model X.prog X.w) X.A (isTrue e X.env whole) (TP X pins σ Q) X.xe s
theorem PW.pt {X : Cx} {e : Expr} {t : TT} (h : PW X e t) : PT X e t := h _
/-- an argument list (no star), from the left -/
def PA (X : Cx) (es : List Expr) (t : TA) : Prop :=
  ∀ (pos : Pos) (pins : List (Addr × Obj)) (s : Shared) (σ : St) (H : Hp) (Q : List V → Hp → Prop), Inv X pins σ H s → t σ H Q → wpAny (model X.prog X.w) X.A (spliced (backTo pos (starEach es X.env))) (AP X pins σ Q) X.xe s
def PS (X : Cx) (st : Stmt) (t : TS) : Prop :=
  ∀ (pins : List (Addr × Obj)) (s : Shared) (σ : St) (H : Hp) (D : Ends), Inv X pins σ H s → t D σ H → wpAny (model X.prog X.w) X.A (exec st X.env) (SP X pins D) X.xe s
def PSs (X : Cx) (st : List Stmt) (t : TS) : Prop :=
  ∀ (pins : List (Addr × Obj)) (s : Shared) (σ : St) (H : Hp) (D : Ends), Inv X pins σ H s → t D σ H → wpAny (model X.prog X.w) X.A (execs st X.env) (SP X pins D) X.xe s
/-- weaken the end -/
theorem thn {α : Type} {t : Sem α} {Q Q' : α → Shared → Prop} {M : Model} {A : Around} {E : Value → Shared → Prop} {s : Shared} (h : wpAny M A t Q E s) (hQ : ∀ a s, Q a s → Q' a s) : wpAny M A t Q' E s := wpAny_mono h hQ fun _ _ x => x
end L2

namespace L2
open PySem PySem.Spec PyProof.Rows
section
variable {X : Cx}

/-- two expressions in a row -/
theorem bin {a b : Expr} {ta tb : TE} (ha : PE X a ta) (hb : PE X b tb) {pins : List (Addr × Obj)} {s : Shared} {σ : St} {H : Hp} {R : V → V → Hp → Prop} (I : Inv X pins σ H s) (h : ta σ H fun x H1 => tb σ H1 fun y H2 => R x y H2)
    {α : Type} {Q : α → Shared → Prop} {f : Value → Value → Sem α}
    (hf : ∀ v u s2 x y H2, Inv X pins σ H2 s2 → RelV x v → RelV y u → R x y H2 → wpAny (model X.prog X.w) X.A (f v u) Q X.xe s2) :
    wpAny (model X.prog X.w) X.A (eval a X.env) (fun v s₁ => wpAny (model X.prog X.w) X.A (eval b X.env) (fun u s₂ => wpAny (model X.prog X.w) X.A (f v u) Q X.xe s₂) X.xe s₁) X.xe s := by
  refine thn (ha pins s σ H _ I h) fun v s1 ⟨x, H1, I1, r1, q1⟩ => ?_
  refine thn (hb pins s1 σ H1 _ I1 q1) fun u s2 ⟨y, H2, I2, r2, q2⟩ => ?_
  exact hf v u s2 x y H2 I2 r1 r2 q2

/-! ### names and constants -/
def tVar (i : Nat) : TE := fun σ H Q => ∃ v, σ[i]? = some (some v) ∧ Q v H
def tC (v : V) : TE := fun _ H Q => Q v H
theorem pe_var {i : Nat} {x : Str} {pos : Pos} (hN : X.N[i]? = some x) (hv : Vis X.env.scope x) (hd : (x == ("__debug__" : Str)) = false := by decide) (hcd : (x == ("__classdict__" : Str)) = false := by decide) : PE X (.Name x pos) (tVar i) := by
  intro pins s σ H Q I h
  obtain ⟨v, e, h⟩ := h
  obtain ⟨m, hn, hl⟩ := I.loc
  obtain ⟨u, r, l⟩ := hl i x v hN e hv
  have fin : EP X pins σ Q u s := ⟨v, H, I, r, h⟩
  rcases l with ⟨hk, hm⟩ | ⟨hk, c, hc, hcell⟩
  · exact wpAny_Name (wpAny_loadName_local I.ok.kind hk hn hm fin) hd
  · rcases hk with hk | hk
    · exact wpAny_Name (wpAny_loadName_cell I.ok.kind hk hc hcell fin) hd
    · exact wpAny_Name (wpAny_loadName_free I.ok.kind hk hc hcell fin hcd) hd
theorem pe_int {i j pos} : PE X (.Constant (.int i) j pos) (tC (.int i)) := fun _ _ _ H _ I h => wpAny_Constant_int ⟨.int i, H, I.tok _, ⟨_, rfl⟩, h⟩
theorem pe_bl {b j pos} : PE X (.Constant (.bool b) j pos) (tC (.bl b)) := fun _ _ _ H _ I h => Constant_bool ⟨.bl b, H, I, rfl, h⟩
theorem pe_non {j pos} : PE X (.Constant .none j pos) (tC .non) := fun _ _ _ H _ I h => Constant_none ⟨.non, H, I, rfl, h⟩
theorem pe_str {x j pos} : PE X (.Constant (.str x) j pos) (tC (.str x)) := fun _ _ _ H _ I h => Calls.Constant_str ⟨.str x, H, I.tok _, ⟨_, rfl⟩, h⟩

/-- a global name of the def -/
def Gl (X : Cx) (x : Str) : Prop := X.env.kindOf x = some .globalImplicit
theorem ld_glob {E : Value → Shared → Prop} {pins : List (Addr × Obj)} {s : Shared} {σ : St} {H : Hp} {x : Str} {u : Value} {pos : Pos} {Q : Value → Shared → Prop} (I : Inv X pins σ H s) (hg : Gl X x) (hm : X.mg x = some u) (h : Q u s)
    (hd : (x == ("__debug__" : Str)) = false := by decide) : wpAny (model X.prog X.w) X.A (eval (.Name x pos) X.env) Q E s :=
  Calls.Name_function_global I.ok.kind hg (Calls.loadGlobal_global (by rw [I.ok.glob]; exact I.mod.glob.keeps I.bk) hm h) hd
theorem ld_blt {E : Value → Shared → Prop} {pins : List (Addr × Obj)} {s : Shared} {σ : St} {H : Hp} {x : Str} {u : Value} {pos : Pos} {Q : Value → Shared → Prop} (I : Inv X pins σ H s) (hg : Gl X x) (hm : X.mg x = none) (hv : bootBuiltins x = some u) (h : Q u s)
    (hn : x ≠ "__name__" := by decide) (hd : (x == ("__debug__" : Str)) = false := by decide) : wpAny (model X.prog X.w) X.A (eval (.Name x pos) X.env) Q E s := by
  obtain ⟨mb, h1, h2⟩ := I.mod.blt
  exact Calls.Name_function_global I.ok.kind hg (Calls.loadGlobal_builtin (by rw [I.ok.glob]; exact I.mod.glob.keeps I.bk) hm (by rw [I.ok.blt]; exact h1.keeps I.bk) ((h2 x hn).trans hv) h) hd
/-- a module's constant, a class, a function, as a value -/
theorem pe_glob {x : Str} {v : V} {u : Value} {pos : Pos} (hg : Gl X x) (hm : X.mg x = some u) (r : RelV v u) (hd : (x == ("__debug__" : Str)) = false := by decide) : PE X (.Name x pos) (tC v) :=
  fun _ _ _ H _ I h => ld_glob I hg hm ⟨v, H, I, r, h⟩ hd
theorem pe_bltn {x : Str} {v : V} {u : Value} {pos : Pos} (hg : Gl X x) (hm : X.mg x = none) (hv : bootBuiltins x = some u) (r : RelV v u) (hn : x ≠ "__name__" := by decide) (hd : (x == ("__debug__" : Str)) = false := by decide) : PE X (.Name x pos) (tC v) :=
  fun _ _ _ H _ I h => ld_blt I hg hm hv ⟨v, H, I, r, h⟩ hn hd

/-! ### arithmetic -/
variable {a b : Expr} {ta tb : TE} {pos : Pos}
/-! ### comparisons -/
def PC (X : Cx) (op : CmpOp) (a b : Expr) (t : TE) : Prop :=
  ∀ (pins : List (Addr × Obj)) (s : Shared) (σ : St) (H : Hp) (Q : VK), Inv X pins σ H s → t σ H Q →
    wpAny (model X.prog X.w) X.A (eval a X.env) (fun v s₁ => wpAny (model X.prog X.w) X.A (eval b X.env) (fun u s₂ => wpAny (model X.prog X.w) X.A (compareOp op v u) (EP X pins σ Q) X.xe s₂) X.xe s₁) X.xe s
/-- a comparison as a value, as a test -/
def tB (t : TE) : TT := fun σ H Q => t σ H fun x H1 => ∃ c, x = .bl c ∧ Q c H1
theorem pt_cmp {op : CmpOp} {t : TE} (h : PC X op a b t) (h1 : behindInMarks op b = false := by first | exact nobehind _ (by decide) (by decide) | rfl) : PT X (.Compare a [op] [b] pos) (tB t) := by
  intro pins s σ H Q I hw
  refine wpAny_isTrue_Compare1 (thn (h pins s σ H _ I hw) fun v s1 h1 => thn h1 fun u s2 h2 => thn h2 fun c s3 ⟨x, H1, I1, r1, q1⟩ => ?_) h1
  obtain ⟨d, rfl, q⟩ := q1
  cases r1
  exact wpAny_truthy_bool ⟨H1, I1, q⟩
/-- an expression whose value is a bool, as a test -/
theorem pt_val {e : Expr} {t : TE} (h : PE X e t) (he : ∀ whole, isTrue e X.env whole = (do let v ← whole; standAt e.pos; holding [v] (truthy v)) := by intro _; rfl) : PT X e (tB t) := by
  intro pins s σ H Q I hw
  refine isTrue_plain (thn (h pins s σ H _ I hw) fun v s1 ⟨x, H1, I1, r1, q1⟩ => ?_) (he _)
  obtain ⟨d, rfl, q⟩ := q1
  cases r1
  exact wpAny_truthy_bool ⟨H1, I1, q⟩

/-! ### and, or, not -/
variable {tA tB' : TT} {rest : List Expr}
def tAnd (t u : TT) : TT := fun σ H Q => t σ H fun c H1 => if c = true then u σ H1 Q else Q false H1
def tOr (t u : TT) : TT := fun σ H Q => t σ H fun c H1 => if c = true then Q true H1 else u σ H1 Q
def tNot (t : TT) : TT := fun σ H Q => t σ H fun c H1 => Q (!c) H1
theorem pw_and1 (ha : PT X a tA) : PW X (.BoolOp .And [a] pos) tA := by
  intro wh pins s σ H Q I h
  refine isTrue_and (thn (ha pins s σ H Q I h) fun c s1 e => ?_)
  cases c with
  | true => exact isTrue_and_nil e
  | false => exact e
theorem pw_or1 (ha : PT X a tA) : PW X (.BoolOp .Or [a] pos) tA := by
  intro wh pins s σ H Q I h
  refine isTrue_or (thn (ha pins s σ H Q I h) fun c s1 e => ?_)
  cases c with
  | false => exact isTrue_or_nil e
  | true => exact e
theorem pw_and (ha : PT X a tA) (hb : PW X (.BoolOp .And (b :: rest) pos) tB') : PW X (.BoolOp .And (a :: b :: rest) pos) (tAnd tA tB') := by
  intro wh pins s σ H Q I h
  refine isTrue_and (thn (ha pins s σ H _ I h) fun c s1 ⟨H1, I1, q1⟩ => ?_)
  cases c with
  | true => exact hb wh pins s1 σ H1 Q I1 q1
  | false => exact ⟨H1, I1, q1⟩
theorem pw_or (ha : PT X a tA) (hb : PW X (.BoolOp .Or (b :: rest) pos) tB') : PW X (.BoolOp .Or (a :: b :: rest) pos) (tOr tA tB') := by
  intro wh pins s σ H Q I h
  refine isTrue_or (thn (ha pins s σ H _ I h) fun c s1 ⟨H1, I1, q1⟩ => ?_)
  cases c with
  | true => exact ⟨H1, I1, q1⟩
  | false => exact hb wh pins s1 σ H1 Q I1 q1
theorem pt_not (ha : PT X a tA) : PT X (.UnaryOp .Not a pos) (tNot tA) := by
  intro pins s σ H Q I h
  exact isTrue_not (ha pins s σ H (fun c H1 => Q (!c) H1) I h)
/-- .. as values (bools) -/
def tAndV (ta tb : TE) : TE := fun σ H Q => ta σ H fun x H1 => ∃ c, x = .bl c ∧ if c = true then tb σ H1 Q else Q (.bl false) H1
def tOrV (ta tb : TE) : TE := fun σ H Q => ta σ H fun x H1 => ∃ c, x = .bl c ∧ if c = true then Q (.bl true) H1 else tb σ H1 Q
def tNotV (ta : TE) : TE := fun σ H Q => ta σ H fun x H1 => ∃ c, x = .bl c ∧ Q (.bl (!c)) H1
theorem pe_one {op} {t : TE} (h : PE X a t) : PE X (.BoolOp op [a] pos) t := fun pins s σ H Q I hw => BoolOp_one (h pins s σ H Q I hw)
theorem pe_and (ha : PE X a ta) (hb : PE X (.BoolOp .And (b :: rest) pos) tb) : PE X (.BoolOp .And (a :: b :: rest) pos) (tAndV ta tb) := by
  intro pins s σ H Q I h
  refine BoolOp_and (thn (ha pins s σ H _ I h) fun v s1 ⟨x, H1, I1, r1, q1⟩ => ?_)
  obtain ⟨c, rfl, q1⟩ := q1
  cases r1
  refine wpAny_truthy_bool ?_
  cases c with
  | true => exact hb pins s1 σ H1 Q I1 q1
  | false => exact ⟨.bl false, H1, I1, rfl, q1⟩
theorem pe_not (ha : PE X a ta) : PE X (.UnaryOp .Not a pos) (tNotV ta) := by
  intro pins s σ H Q I h
  refine UnaryOp_ (thn (ha pins s σ H _ I h) fun v s1 ⟨x, H1, I1, r1, q1⟩ => ?_)
  obtain ⟨c, rfl, q1⟩ := q1
  cases r1
  exact not_of (wpAny_truthy_bool ⟨.bl (!c), H1, I1, rfl, q1⟩)
/-- a if t else b -/
def tIf (t : TT) (ta tb : TE) : TE := fun σ H Q => t σ H fun c H1 => if c = true then ta σ H1 Q else tb σ H1 Q
end
end L2

namespace L2
open PySem PySem.Spec PyProof.Rows

/-! ### a list, a tuple that is read: tracked, frozen, or an object of the module -/
def SqL (K : PySem.W.Frag) (H : Hp) (a : Addr) (xs : List V) : Prop :=
  Rd H a (.lst xs) ∨
    ∃ (o : Obj) (its : Array Value) (n : Nat), K.lookup a = some o ∧ o.cls = .type "list" ∧ o.dict = none ∧ o.data = .seq its n ∧ its.size ≤ sizeLine ∧ Vals xs its.toList
def SqT (K : PySem.W.Frag) (H : Hp) (a : Addr) (xs : List V) : Prop :=
  Rd H a (.tup xs) ∨
    ∃ (o : Obj) (its : Array Value) (n : Nat), K.lookup a = some o ∧ o.cls = .type "tuple" ∧ o.data = .seq its n ∧ its.size ≤ sizeLine ∧ Vals xs its.toList
def absV : Value → Option V
  | .none => some .non
  | .bool b => some (.bl b)
  | .int i _ => some (.int i)
  | .str x _ => some (.str x)
  | .bytes b _ => some (.byt b)
  | .float b _ => some (.flt b)
  | .ref a => some (.ref a)
  | .type n => some (.ty n)
  | _ => none
theorem RelV.abs {x : V} {u : Value} (r : RelV x u) : absV u = some x := by
  cases x with
  | non => cases r; rfl
  | bl _ => cases r; rfl
  | int _ => obtain ⟨t, rfl⟩ := r; rfl
  | str _ => obtain ⟨t, rfl⟩ := r; rfl
  | byt _ => obtain ⟨t, rfl⟩ := r; rfl
  | flt _ => obtain ⟨t, rfl⟩ := r; rfl
  | ref _ => cases r; rfl
  | ty _ => cases r; rfl
theorem RelV.inj {x y : V} {u : Value} (r : RelV x u) (q : RelV y u) : x = y := Option.some.inj (r.abs.symm.trans q.abs)
theorem Vals.inj : ∀ {xs ys : List V} {us : List Value}, Vals xs us → Vals ys us → xs = ys
  | _, _, _, .nil, .nil => rfl
  | _, _, _, .cons r t, .cons r' t' => by rw [r.inj r', Vals.inj t t']
section
variable {X : Cx} {pins : List (Addr × Obj)} {σ : St} {H : Hp} {s : Shared} {a : Addr} {xs ys : List V}
theorem SqL.of {K : PySem.W.Frag} (h : H a = some (.lst xs)) : SqL K H a xs := .inl (.inl h)
theorem SqT.of {K : PySem.W.Frag} (h : H a = some (.tup xs)) : SqT K H a xs := .inl (.inl h)
theorem Inv.list (I : Inv X pins σ H s) (h : SqL X.K H a xs) : ∃ its : List Value, Vals xs its ∧ PlainL s.heap a its.toArray ∧ xs.length ≤ sizeLine := by
  rcases h with h | ⟨o, its, n, hk, hc, hd, hs, hz, r⟩
  · obtain ⟨z, its, n, r, e⟩ := h.ok I.hok
    exact ⟨its, r, ⟨_, n, e, rfl, rfl, rfl⟩, z⟩
  · refine ⟨its.toList, r, ⟨o, n, I.kIn a o hk, hc, hd, by simpa using hs⟩, ?_⟩
    have e := r.length
    simp only [Array.length_toList] at e
    omega
theorem Inv.tuple (I : Inv X pins σ H s) (h : SqT X.K H a xs) : ∃ its : List Value, Vals xs its ∧ IsTup s.heap a its.toArray ∧ xs.length ≤ sizeLine := by
  rcases h with h | ⟨o, its, n, hk, hc, hs, hz, r⟩
  · obtain ⟨z, its, r, p⟩ := h.ok I.hok
    exact ⟨its, r, p, z⟩
  · refine ⟨its.toList, r, ⟨o, I.kIn a o hk, hc, n, by simpa using hs⟩, ?_⟩
    have e := r.length
    simp only [Array.length_toList] at e
    omega
theorem Inv.list_inj (I : Inv X pins σ H s) (h : SqL X.K H a xs) (h' : SqL X.K H a ys) : xs = ys := by
  obtain ⟨its, r, ⟨o, n, e, _, _, d⟩, _⟩ := I.list h
  obtain ⟨its', r', ⟨o', n', e', _, _, d'⟩, _⟩ := I.list h'
  rw [e] at e'; cases e'
  rw [d] at d'
  injection d' with d1 _
  have : its = its' := by simpa using congrArg Array.toList d1
  subst this
  exact r.inj r'
end

/-! ### another wish about exceptions -/
abbrev Cx.wish (X : Cx) (E : Value → Shared → Prop) : Cx := { X with xe := E }
/-- no exception leaves -/
abbrev Cx.nox (X : Cx) : Cx := X.wish fun _ _ => False
theorem Cx.Ok.wish {X : Cx} (ok : X.Ok) (E : Value → Shared → Prop) : (X.wish E).Ok :=
  ⟨ok.mod, ok.kind, ok.glob, ok.blt, ok.above, ok.inj, ok.has, ok.cab, ok.hd, ok.frames, ok.stk, ok.exf, ok.bs, ok.bsz, ok.noex, ok.exfs, ok.funs, ok.frf⟩
theorem Cx.Ok.unwish {X : Cx} {E : Value → Shared → Prop} (ok : (X.wish E).Ok) : X.Ok :=
  ⟨ok.mod, ok.kind, ok.glob, ok.blt, ok.above, ok.inj, ok.has, ok.cab, ok.hd, ok.frames, ok.stk, ok.exf, ok.bs, ok.bsz, ok.noex, ok.exfs, ok.funs, ok.frf⟩
section
variable {X : Cx} {pins : List (Addr × Obj)} {σ : St} {H : Hp} {s : Shared} {E : Value → Shared → Prop}
theorem Inv.wish (I : Inv X pins σ H s) (E : Value → Shared → Prop) : Inv (X.wish E) pins σ H s := ⟨I.ok.wish E, I.os, I.bare, I.base, I.loc, I.cell, I.free, I.freeC, I.pin, I.hok, I.len⟩
theorem Inv.unwish (I : Inv (X.wish E) pins σ H s) : Inv X pins σ H s := ⟨I.ok.unwish, I.os, I.bare, I.base, I.loc, I.cell, I.free, I.freeC, I.pin, I.hok, I.len⟩
theorem SP.unwish {D : Ends} {f : Flow} {s' : Shared} (h : SP (X.wish E) pins D f s') : SP X pins D f s' := by
  cases f with
  | next => obtain ⟨σ', H', I, q⟩ := h; exact ⟨σ', H', I.unwish, q⟩
  | brk => obtain ⟨σ', H', I, q⟩ := h; exact ⟨σ', H', I.unwish, q⟩
  | cont => obtain ⟨σ', H', I, q⟩ := h; exact ⟨σ', H', I.unwish, q⟩
  | ret u => obtain ⟨v, σ', H', I, r, q⟩ := h; exact ⟨v, σ', H', I.unwish, r, q⟩
theorem PSs.nox {st : List Stmt} {t : TS} (h : PSs X.nox st t) : PSs X st t := fun pins s σ H D I hw =>
  wpAny_mono (h pins s σ H D (I.wish _) hw) (fun _ _ q => q.unwish) fun _ _ z => False.elim z
end

/-! ### blocks and small statements -/
section
variable {X : Cx} {st : Stmt} {rest : List Stmt} {t u : TS} {e : Expr} {te : TE} {pos : Pos}
def tNext : TS := fun D σ H => D.nx σ H
def tSeq (t u : TS) : TS := fun D σ H => t { D with nx := u D } σ H
theorem pss_nil : PSs X [] tNext := fun _ _ σ H _ I h => wpAny_execs_nil ⟨σ, H, I, h⟩
theorem pss_cons (h1 : PS X st t) (h2 : PSs X rest u) : PSs X (st :: rest) (tSeq t u) := by
  intro pins s σ H D I h
  refine wpAny_execs_cons (thn (h1 pins s σ H { D with nx := u D } I h) fun f s1 q => ?_)
  cases f with
  | next =>
    obtain ⟨σ', H', I', q⟩ := q
    exact h2 pins s1 σ' H' D I' q
  | ret v => exact q
  | brk => exact q
  | cont => exact q
theorem pss_one (h1 : PS X st t) : PSs X [st] t := by
  intro pins s σ H D I h
  refine wpAny_execs_cons (thn (h1 pins s σ H D I h) fun f s1 q => ?_)
  cases f with
  | next => exact wpAny_execs_nil q
  | ret v => exact q
  | brk => exact q
  | cont => exact q
/-- in a def's body nothing is shown -/
theorem Inv.quiet {pins : List (Addr × Obj)} {σ : St} {H : Hp} {s : Shared} (I : Inv X pins σ H s) : interactive X.env = false := by simp [interactive, I.ok.kind]
/-- an expression whose value is dropped -/
def tDrop (te : TE) : TS := fun D σ H => te σ H fun _ H1 => D.nx σ H1
theorem ps_expr (he : PE X e te) (hs : swapsWith e none pos.line X.env = pure false := by rfl) : PS X (.Expr e pos) (tDrop te) := by
  intro pins s σ H D I h
  exact wpAny_Expr_any (thn (he pins s σ H _ I h) fun v s1 ⟨x, H1, I1, r1, q1⟩ => ⟨σ, H1, I1, q1⟩) I.quiet hs
def tRet (te : TE) : TS := fun D σ H => te σ H D.rt
theorem ps_ret (he : PE X e te) : PS X (.Return (some e) pos) (tRet te) := by
  intro pins s σ H D I h
  exact wpAny_Return_some (thn (he pins s σ H _ I h) fun v s1 ⟨x, H1, I1, r1, q1⟩ => ⟨x, σ, H1, I1, r1, q1⟩)
def tRetN : TS := fun D _ H => D.rt .non H
def tIfS (c : TT) (t u : TS) : TS := fun D σ H => c σ H fun b H1 => if b = true then t D σ H1 else u D σ H1
theorem ps_if {c : Expr} {a b : List Stmt} {tc : TT} (hc : PT X c tc) (ha : PSs X a t) (hb : PSs X b u) : PS X (.If c a b pos) (tIfS tc t u) := by
  intro pins s σ H D I h
  refine wpAny_If (thn (hc pins s σ H _ I h) fun d s1 ⟨H1, I1, q1⟩ => ?_)
  cases d with
  | true => exact ha pins s1 σ H1 D I1 q1
  | false => exact hb pins s1 σ H1 D I1 q1
end

/-! ### targets -/
abbrev TG := V → St → Hp → (St → Hp → Prop) → Prop
abbrev TGs := List V → St → Hp → (St → Hp → Prop) → Prop
def PG (X : Cx) (target : Expr) (t : TG) : Prop :=
  ∀ (pins : List (Addr × Obj)) (s : Shared) (σ : St) (H : Hp) (v : V) (u : Value) (Q : St → Hp → Prop), Inv X pins σ H s → RelV v u → t v σ H Q →
    wpAny (model X.prog X.w) X.A (assign target X.env u) (fun _ s' => ∃ σ' H', Inv X pins σ' H' s' ∧ Q σ' H') X.xe s
/-- several targets, one after another -/
def PGs (X : Cx) (ts : List Expr) (t : TGs) : Prop :=
  ∀ (pins : List (Addr × Obj)) (s : Shared) (σ : St) (H : Hp) (vs : List V) (us : List Value) (Q : St → Hp → Prop), Inv X pins σ H s → Vals vs us → t vs σ H Q →
    wpAny (model X.prog X.w) X.A (assignInOrder ((assignEach ts X.env).map (·.2)) us) (fun _ s' => ∃ σ' H', Inv X pins σ' H' s' ∧ Q σ' H') X.xe s
/-- o[i] = v, by values -/
abbrev TSet := V → V → V → Hp → (Hp → Prop) → Prop
def PSet (X : Cx) (t : TSet) : Prop :=
  ∀ (pins : List (Addr × Obj)) (s : Shared) (σ : St) (H : Hp) (o i v : V) (ov iv u : Value) (Q : Hp → Prop), Inv X pins σ H s → RelV o ov → RelV i iv → RelV v u → t o i v H Q →
    wpAny (model X.prog X.w) X.A (setItem ov iv u) (fun _ s' => ∃ H', Inv X pins σ H' s' ∧ Q H') X.xe s
section
variable {X : Cx} {pos : Pos}
def gName (i : Nat) : TG := fun v σ H Q => Q (σ.set i (some v)) H
theorem pg_name {i : Nat} {x : Str} (hN : X.N.Nodup) (hi : X.N[i]? = some x) (hx : Loc X.env.scope x) (hf : X.fn x = true ∨ X.env.scope.names.lookup x = some .local := by first | exact .inl rfl | exact .inr rfl | assumption) : PG X (.Name x pos) (gName i) := by
  intro pins s σ H v u Q I r h
  exact wpAny_assign_Name (store_ok I hN hi hx r (fun s' I' => ⟨_, H, I', h⟩) hf)
def gNil : TGs := fun vs σ H Q => vs = [] ∧ Q σ H
def gCons (t : TG) (u : TGs) : TGs := fun vs σ H Q => ∃ v r, vs = v :: r ∧ t v σ H fun σ' H' => u r σ' H' Q
theorem pgs_nil : PGs X [] gNil := by
  intro pins s σ H vs us Q I r h
  obtain ⟨e, h⟩ := h
  subst e
  cases r
  exact assignInOrder_nil ⟨σ, H, I, h⟩
theorem pgs_cons {e : Expr} {es : List Expr} {t : TG} {u : TGs} (h1 : PG X e t) (h2 : PGs X es u)
    (hs : (assignEach (e :: es) X.env).map (·.2) = assign e X.env :: (assignEach es X.env).map (·.2) := by rfl) : PGs X (e :: es) (gCons t u) := by
  intro pins s σ H vs us Q I r h
  obtain ⟨v, vr, e1, h⟩ := h
  subst e1
  cases r with
  | cons r rr =>
    rw [hs]
    refine assignInOrder_cons (thn (h1 pins s σ H _ _ _ I r h) fun _ s1 ⟨σ1, H1, I1, q1⟩ => ?_)
    exact h2 pins s1 σ1 H1 _ _ Q I1 rr q1
/-- (a, b, ..) = a tuple of that length -/
def gTup (K : PySem.W.Frag) (n : Nat) (t : TGs) : TG := fun v σ H Q => ∃ a xs, v = .ref a ∧ SqT K H a xs ∧ xs.length = n ∧ t xs σ H Q
theorem pg_tup {es : List Expr} {k : Nat} {t : TGs} {n : Nat} (hc : X.calm = true) (h : PGs X es t)
    (hn : (assignEach es X.env).length = n := by rfl) (hst : (assignEach es X.env).findIdx? (·.1) = none := by rfl) : PG X (.Tuple es k pos) (gTup X.K n t) := by
  intro pins s σ H v u Q I r hw
  obtain ⟨a, xs, e1, hq, hl, hw⟩ := hw
  subst e1
  cases r
  obtain ⟨its, rv, ht, hz⟩ := I.tuple hq
  refine assign_Tuple_tuple (I.ok.hd hc) ht (by simp [hn, ← hl, rv.length]) hst fun h' hx => ?_
  have I1 : Inv X pins σ H { s with heap := h' } := I.kept (t' := s.toks) fun b o e => hx b o (Nat.ne_of_lt (Heap.lt_size e)) e
  exact h pins _ σ H xs _ Q I1 (by simpa using rv) hw
/-- o[i] = .. -/
def gSub (to ti : TE) (t : TSet) : TG := fun v σ H Q => to σ H fun o H1 => ti σ H1 fun i H2 => t o i v H2 fun H3 => Q σ H3
theorem pg_sub {o i : Expr} {to ti : TE} {t : TSet} (ho : PE X o to) (hi : PE X i ti) (hs : PSet X t)
    (ha : ∀ v, assign (.Subscript o i pos) X.env v = (do
      let ov ← holding [v] (eval o X.env)
      let iv ← holding [v, ov] (eval i X.env)
      standAt pos
      holding [v, ov, iv] (setItem ov iv v)
      release [v, ov, iv] []) := by intro _; rfl) : PG X (.Subscript o i pos) (gSub to ti t) := by
  intro pins s σ H v u Q I r h
  rw [ha]
  refine wpAny_bind (wpAny_holding (thn (ho pins s σ H _ I h) fun ov s1 ⟨x, H1, I1, r1, q1⟩ => ?_))
  refine wpAny_bind (wpAny_holding (thn (hi pins s1 σ H1 _ I1 q1) fun iv s2 ⟨y, H2, I2, r2, q2⟩ => ?_))
  refine wpAny_bind (wpAny_standAt (wpAny_bind (wpAny_holding (thn (hs pins s2 σ H2 x y v ov iv u _ I2 r1 r2 r q2) fun _ s3 ⟨H3, I3, q3⟩ => ?_))))
  exact wpAny_release ⟨σ, H3, I3, q3⟩
/-- target = value -/
def tAsg (te : TE) (g : TG) : TS := fun D σ H => te σ H fun x H1 => g x σ H1 D.nx
theorem ps_asg {tg e : Expr} {te : TE} {g : TG} (he : PE X e te) (hg : PG X tg g) (hs : swapsWithSole [tg] e pos.line X.env = pure false := by rfl) (hw : swappedStores [tg] e X.env = pure none := by rfl)
    (h1 : (assignEach [tg] X.env).map (·.2) = [assign tg X.env] := by rfl) : PS X (.Assign [tg] e pos) (tAsg te g) := by
  intro pins s σ H D I h
  refine wpAny_Assign_stores (thn (he pins s σ H _ I h) fun v s1 ⟨x, H1, I1, r1, q1⟩ => ?_) hs hw
  rw [h1]
  exact thn (hg pins s1 σ H1 x v _ I1 r1 q1) fun _ s2 q => q
/-- name = value -/
theorem ps_set {i : Nat} {x : Str} {e : Expr} {te : TE} {pos' : Pos} (hN : X.N.Nodup) (hi : X.N[i]? = some x) (hx : Loc X.env.scope x) (he : PE X e te) (hs : swapsWith e (some (.Name x pos')) pos.line X.env = pure false := by rfl) (hf : X.fn x = true ∨ X.env.scope.names.lookup x = some .local := by first | exact .inl rfl | exact .inr rfl | assumption) :
    PS X (.Assign [.Name x pos'] e pos) (tAsg te (gName i)) := by
  intro pins s σ H D I h
  refine wpAny_Assign_Name (thn (he pins s σ H _ I h) fun v s1 ⟨y, H1, I1, r1, q1⟩ => ?_) hs
  exact store_ok I1 hN hi hx r1 (fun s2 I2 => ⟨_, H1, I2, q1⟩) hf
end

/-! ### while -/
section
variable {X : Cx} {pos : Pos}
end

/-! ### what a loop or a comprehension walks -/
/-- at turn i: it yields x (the heap may grow), or it stops -/
structure It where
  go : Nat → Hp → Prop
  yld : Nat → Hp → V → Hp → Prop
  stop : Nat → Hp → Prop
/-- the iterator's own objects may turn: they are not the frame's, not pinned, younger than the entry (or a comprehension's own) -/
def FpOk (X : Cx) (pins : List (Addr × Obj)) (H : Hp) (b : Addr) : Prop :=
  H b = none ∧ b ≠ X.env.locals ∧ b ∉ X.fs ∧ (b ∈ X.ex ∨ X.s₀.heap.objs.size ≤ b) ∧ (∀ x c, X.env.cells.lookup x = some c → c ≠ b) ∧ ∀ p ∈ X.pn ++ pins, p.1 ≠ b
theorem Inv.fpOk {X : Cx} {pins : List (Addr × Obj)} {σ : St} {H H' : Hp} {s : Shared} {b : Addr} (I : Inv X pins σ H s) (hb : s.heap.objs.size ≤ b) (hn : H' b = none) : FpOk X pins H' b := by
  refine ⟨hn, Nat.ne_of_gt (Nat.lt_of_lt_of_le I.lt hb), I.nofs hb, .inr (Nat.le_trans I.sz hb), fun x c e z => ?_, fun p hp z => ?_⟩
  · obtain ⟨v, q⟩ := I.cell x c e
    exact absurd (Nat.lt_of_lt_of_le q.lt (by rw [z]; exact hb)) (Nat.lt_irrefl _)
  · exact absurd (Nat.lt_of_lt_of_le (Heap.lt_size (I.pin p hp).1) (by rw [z]; exact hb)) (Nat.lt_irrefl _)
structure Turn (P : Program) (w : World) (K : PySem.W.Frag) (tg : Expr) (J : It) (fp : List Addr) (it : Addr) (tn : Nat → Heap → Prop) : Prop where
  mem : it ∈ fp
  obj : ∀ i h, tn i h → ∀ b ∈ fp, ∃ o, h.get? b = some o ∧ ∀ v, o.data ≠ .cell v
  keep : ∀ i h h', tn i h → (∀ b ∈ fp, ∀ o, h.get? b = some o → h'.get? b = some o) → tn i h'
  item : ∀ (X : Cx), X.prog = P → X.w = w → X.K = K → X.calm = true → ∀ (i : Nat) (pins : List (Addr × Obj)) (s : Shared) (σ : St) (H : Hp) (E : Value → Shared → Prop), Inv X pins σ H s → (∀ b ∈ fp, FpOk X pins H b) → tn i s.heap → J.go i H →
    wpAny (model P w) X.A (pyNext (.ref it)) (fun r s1 => ∃ u, r = some u ∧
      wpAny (model P w) X.A (letOwnedTupleGo tg (.ref it) u) (fun _ s2 => ∃ x H', Inv X pins σ H' s2 ∧ RelV x u ∧ J.yld i H x H' ∧ tn (i + 1) s2.heap ∧ ∀ b ∈ fp, H' b = none) E s1) E s
  done : ∀ (X : Cx), X.prog = P → X.w = w → X.K = K → X.calm = true → ∀ (i : Nat) (pins : List (Addr × Obj)) (s : Shared) (σ : St) (H : Hp) (E : Value → Shared → Prop), Inv X pins σ H s → (∀ b ∈ fp, FpOk X pins H b) → tn i s.heap → J.stop i H →
    wpAny (model P w) X.A (pyNext (.ref it)) (fun r s1 => r = none ∧ Inv X pins σ H s1) E s
  self : ∀ (A : Around) (i : Nat) (s : Shared) (Q : Value → Shared → Prop) (E : Value → Shared → Prop), tn i s.heap → Q (.ref it) s → wpAny (model P w) A (pyIter (.ref it)) Q E s
abbrev TI := St → Hp → (It → Hp → Prop) → Prop
/-- an iterator has come -/
def PIE (X : Cx) (pins : List (Addr × Obj)) (σ : St) (tg : Expr) (R : It → Hp → Prop) (itv : Value) (s2 : Shared) : Prop :=
  ∃ (it : Addr) (fp : List Addr) (tn : Nat → Heap → Prop) (J : It) (H' : Hp), itv = .ref it ∧ Inv X pins σ H' s2 ∧ Turn X.prog X.w X.K tg J fp it tn ∧ tn 0 s2.heap ∧ (∀ b ∈ fp, FpOk X pins H' b) ∧ R J H'
def PI (X : Cx) (tg iter : Expr) (wi : TI) : Prop :=
  ∀ (pins : List (Addr × Obj)) (s : Shared) (σ : St) (H : Hp) (R : It → Hp → Prop), Inv X pins σ H s → wi σ H R →
    wpAny (model X.prog X.w) X.A (eval iter X.env) (fun v s1 => wpAny (model X.prog X.w) X.A (pyIter v) (PIE X pins σ tg R) X.xe s1) X.xe s

/-- the step ahead of the store is nothing for an iterator that keeps no tuple -/
theorem go_of {M : Model} {A : Around} {E : Value → Shared → Prop} {s : Shared} {tg : Expr} {it : Addr} {u : Value} {o : Obj} {n : String} {vs : Array Value} {Q : Unit → Shared → Prop} (ho : s.heap.get? it = some o) (hc : o.cls = .type n) (hd : o.data = .fields vs)
    (hn : ["enumerate", "zip", "dict_itemiterator", "dict_reverseitemiterator", "odict_iterator", "itertools.zip_longest", "itertools.pairwise"].contains n = false) (hQ : Q () s) : wpAny M A (letOwnedTupleGo tg (.ref it) u) Q E s := by
  unfold letOwnedTupleGo
  cases tg <;> first
    | exact wpAny_pure hQ
    | (cases u <;> first
        | exact wpAny_pure hQ
        | (refine wpAny_bind (wpAny_load ho ?_)
           rw [hc, hd]
           show wpAny M A (if (["enumerate", "zip", "dict_itemiterator", "dict_reverseitemiterator", "odict_iterator", "itertools.zip_longest", "itertools.pairwise"].contains n && vs[0]? == some (rawInt _)) = true then _ else _) Q E s
           rw [if_neg (by intro h; rw [hn, Bool.false_and] at h; cases h)]
           exact wpAny_pure hQ))

/-- the list at a, as it stands at each turn (a loop may append to it) -/
def Itl (K : PySem.W.Frag) (a : Addr) : It :=
  ⟨fun i H => ∃ xs x, SqL K H a xs ∧ xs[i]? = some x, fun i H x H' => H' = H ∧ ∀ xs, SqL K H a xs → xs[i]? = some x, fun i H => ∃ xs, SqL K H a xs ∧ xs.length ≤ i⟩
/-- lo, lo + 1, .. (n of them) -/
def Itr (lo : Int) (n : Nat) : It := ⟨fun i _ => i < n, fun i H x H' => H' = H ∧ x = .int (lo + i), fun i _ => n ≤ i⟩
theorem turn_list {P : Program} {w : World} {K : PySem.W.Frag} {tg : Expr} (a it : Addr) : Turn P w K tg (Itl K a) [it] it (fun i h => h.IsListIter it a i) where
  mem := by simp
  obj := fun i h st b hb => by
    have e : b = it := by simpa using hb
    subst e
    obtain ⟨o, e, c, d⟩ := st
    exact ⟨o, e, fun v z => by rw [d] at z; cases z⟩
  keep := fun i h h' st k => st.at fun o e => k it (by simp) o e
  item := by
    intro X hP hw hK hc i pins s σ H E I hf st hg
    subst hP hw hK
    obtain ⟨xs, x, hq, hx⟩ := hg
    obtain ⟨its, rv, p, hz⟩ := I.list hq
    obtain ⟨u, hu, ru⟩ := rv.get hx
    obtain ⟨f0, f1, f2, f3, f4, f5⟩ := hf it (by simp)
    refine wpAny_pyNext_list_item st p.isList (x := u) (by simpa using hu) fun h' st' sb => ?_
    have I1 : Inv X pins σ H { s with heap := h' } := I.turned (t' := s.toks) (fun b o hb e => (sb.2 b hb).trans e) f0 f1 f3 f4 f5
    obtain ⟨o, e, c, d⟩ := id st'
    exact ⟨u, rfl, go_of (s := { s with heap := h' }) e c d (by decide) ⟨x, H, I1, ru, ⟨rfl, fun ys hy => by rw [I.list_inj hy hq]; exact hx⟩, st', fun b hb => (hf b hb).1⟩⟩
  done := by
    intro X hP hw hK hc i pins s σ H E I hf st hg
    subst hP hw hK
    obtain ⟨xs, hq, hx⟩ := hg
    obtain ⟨its, rv, p, hz⟩ := I.list hq
    obtain ⟨f0, f1, f2, f3, f4, f5⟩ := hf it (by simp)
    have hl := rv.length
    exact wpAny_pyNext_list_end (I.ok.hd hc) st p.isList (by simp; omega) fun h' eb => ⟨rfl, I.turned (t' := s.toks) (fun b o hb e => eb b o hb e) f0 f1 f3 f4 f5⟩
  self := fun _ _ _ _ _ st h => wpAny_pyIter_listiter st h
theorem turn_range {P : Program} {w : World} {K : PySem.W.Frag} {tg : Expr} (it : Addr) (lo : Int) (n : Nat) : Turn P w K tg (Itr lo n) [it] it (fun i h => IsRangeIter h it (lo + (i : Nat) * 1) ((n : Int) - (i : Nat)) 1) where
  mem := by simp
  obj := fun i h st b hb => by
    have e : b = it := by simpa using hb
    subst e
    exact ⟨_, st, fun v z => by
      have z' : Data.fields _ = Data.cell v := z
      cases z'⟩
  keep := fun i h h' st k => k it (by simp) _ st
  item := by
    intro X hP hw hK hc i pins s σ H E I hf st hg
    subst hP hw hK
    obtain ⟨f0, f1, f2, f3, f4, f5⟩ := hf it (by simp)
    have W := Walks.range (prog := X.prog) (w := X.w) (I.ok.hd hc) it lo 1 n
    refine W.item i s _ _ hg st fun v h' tk hv st' kk => ?_
    obtain ⟨t, rfl⟩ := hv
    have I1 : Inv X pins σ H { s with heap := h', toks := tk } := I.turned (fun b o hb e => kk b o (by simpa using hb) e) f0 f1 f3 f4 f5
    refine ⟨_, rfl, go_of (s := { s with heap := h', toks := tk }) (n := "range_iterator") st' rfl rfl (by decide) ⟨.int (lo + i), H, I1, ⟨t, ?_⟩, ⟨rfl, rfl⟩, st', fun b hb => (hf b hb).1⟩⟩
    rw [Int.mul_one]
  done := by
    intro X hP hw hK hc i pins s σ H E I hf st hg
    subst hP hw hK
    obtain ⟨f0, f1, f2, f3, f4, f5⟩ := hf it (by simp)
    exact wpAny_pyNext_range_end (I.ok.hd hc) st (by have : n ≤ i := hg; omega) fun h' eb => ⟨rfl, I.turned (t' := s.toks) (fun b o hb e => eb b o hb e) f0 f1 f3 f4 f5⟩
  self := fun _ _ _ _ _ st h => wpAny_pyIter_rangeiter st h
end L2

namespace L2
open PySem PySem.Spec PyProof.Rows
section
variable {X : Cx} {tg : Expr}
def iList (K : PySem.W.Frag) (tl : TE) : TI := fun σ H R => tl σ H fun x H1 => ∃ a, x = .ref a ∧ (∃ xs, SqL K H1 a xs) ∧ R (Itl K a) H1
theorem pi_list {l : Expr} {tl : TE} (hl : PE X l tl) : PI X tg l (iList X.K tl) := by
  intro pins s σ H R I h
  refine thn (hl pins s σ H _ I h) fun v s1 ⟨x, H1, I1, r1, q1⟩ => ?_
  obtain ⟨a, e, ⟨xs, hq⟩, q⟩ := q1
  subst e
  cases r1
  obtain ⟨its, rv, p, hz⟩ := I1.list hq
  refine wpAny_pyIter_list p.isList ?_
  refine ⟨s1.heap.objs.size, [s1.heap.objs.size], _, _, H1, rfl, I1.kept (t' := s1.toks) fun b o e => Heap.get?_push_of_some _ e, turn_list a _, ⟨_, Heap.get?_push_size _ rfl, rfl, rfl⟩, fun b hb => ?_, q⟩
  have e : b = s1.heap.objs.size := by simpa using hb
  subst e
  exact I1.fpOk (Nat.le_refl _) (I1.hok.fresh (Nat.le_refl _))
/-- a range object just made, walked -/
theorem range_it {pins : List (Addr × Obj)} {σ : St} {H : Hp} {s : Shared} {R : It → Hp → Prop} {E : Value → Shared → Prop} {lo hi : Int} {t u v : Tok} {tk : Nat} (I : Inv X pins σ H s) (h1 : -(2 ^ 62) ≤ lo) (h2 : lo < 2 ^ 62) (h3 : -(2 ^ 62) ≤ hi) (h4 : hi < 2 ^ 62)
    (q : R (Itr lo (hi - lo).toNat) H) : wpAny (model X.prog X.w) X.A (pyIter (.ref s.heap.objs.size)) (PIE X pins σ tg R) E { s with heap := s.heap.push { cls := .type "range", data := .fields #[.int lo t, .int hi u, .int 1 v] }, toks := tk } := by
  refine wpAny_pyIter_range (IsRange.new ..) (small_one h1 h2 h3 h4) ?_
  have I1 : Inv X pins σ H { s with heap := s.heap.push { cls := .type "range", data := .fields #[.int lo t, .int hi u, .int 1 v] }, toks := tk } := I.kept fun b o e => Heap.get?_push_of_some _ e
  refine ⟨(s.heap.push { cls := .type "range", data := .fields #[.int lo t, .int hi u, .int 1 v] }).objs.size, [(s.heap.push { cls := .type "range", data := .fields #[.int lo t, .int hi u, .int 1 v] }).objs.size], _, _, H, rfl,
    I1.kept (t' := tk) fun b o e => Heap.get?_push_of_some _ e, turn_range _ lo (hi - lo).toNat, ?_, fun b hb => ?_, q⟩
  · have e1 : lo + ((0 : Nat) : Int) * 1 = lo := by simp
    have e2 : (((hi - lo).toNat : Nat) : Int) - ((0 : Nat) : Int) = Builtin.Range.rangeSize lo hi 1 := by rw [rangeSize_one]; split <;> omega
    show IsRangeIter _ _ (lo + ((0 : Nat) : Int) * 1) ((((hi - lo).toNat : Nat) : Int) - ((0 : Nat) : Int)) 1
    rw [e1, e2]
    exact Heap.get?_push_size _ rfl
  · have e : b = (s.heap.push { cls := .type "range", data := .fields #[.int lo t, .int hi u, .int 1 v] }).objs.size := by simpa using hb
    subst e
    exact I1.fpOk (Nat.le_refl _) (I1.hok.fresh (Nat.le_refl _))
def iRng1 (ta : TA) : TI := fun σ H R => ta σ H fun vs H1 => ∃ j : Int, vs = [.int j] ∧ -(2 ^ 62) ≤ j ∧ j < 2 ^ 62 ∧ R (Itr 0 j.toNat) H1
theorem pi_range1 {a : Expr} {ta : TA} {p pos : Pos} (hg : Gl X "range") (hm : X.mg "range" = none) (ha : PA X [a] ta) (hs : starEach [a] X.env = [(false, eval a X.env)] := by rfl) : PI X tg (.Call (.Name "range" p) [a] [] pos) (iRng1 ta) := by
  intro pins s σ H R I h
  refine Call_ (ld_blt I hg hm boot_range (PyProof.Rows.callWith_type1 (thn (ha pos pins s σ H _ I h) fun us s1 ⟨vs, H1, I1, r1, q1⟩ => ?_) hs rfl))
  obtain ⟨j, e, q1, q2, q⟩ := q1
  subst e
  cases r1 with
  | cons r rr =>
    cases rr
    obtain ⟨t, rfl⟩ := r
    exact call_range_1 (range_it I1 (by omega) (by omega) q1 q2 (by simpa using q))
/-! ### for -/
/-- W: the invariant by the turn and a measure; N: what the body is to reach -/
def tFor (wi : TI) (g : TG) (tb : TS) : TS := fun D σ H => wi σ H fun J H1 => ∃ W : Nat → Nat → St → Hp → Prop, (∃ m, W 0 m σ H1) ∧ ∀ i m σ H, W i m σ H →
  (J.stop i H ∧ D.nx σ H) ∨ (J.go i H ∧ ∃ N : St → Hp → Prop, (∀ σ' H', N σ' H' → ∃ m', m' < m ∧ W (i + 1) m' σ' H') ∧ ∀ x H', J.yld i H x H' → g x σ H' fun σ2 H2 => tb { D with nx := N, ct := N, bk := D.nx } σ2 H2)
/-- the records at fp as they stand -/
def pinsAt (fp : List Addr) (h : Heap) : List (Addr × Obj) := fp.filterMap fun b => (h.get? b).map fun o => (b, o)
theorem mem_pinsAt {fp : List Addr} {h : Heap} {b : Addr} {o : Obj} (hb : b ∈ fp) (e : h.get? b = some o) : (b, o) ∈ pinsAt fp h := List.mem_filterMap.mpr ⟨b, hb, by rw [e]; rfl⟩
theorem of_pinsAt {fp : List Addr} {h : Heap} {p : Addr × Obj} (hp : p ∈ pinsAt fp h) : p.1 ∈ fp ∧ h.get? p.1 = some p.2 := by
  obtain ⟨b, hb, e⟩ := List.mem_filterMap.mp hp
  cases q : h.get? b with
  | none => rw [q] at e; cases e
  | some o =>
    rw [q] at e
    have e' : (b, o) = p := Option.some.inj e
    subst e'
    exact ⟨hb, q⟩
theorem Inv.pinned {pins : List (Addr × Obj)} {σ : St} {H : Hp} {s : Shared} {fp : List Addr} (I : Inv X pins σ H s) (hf : ∀ b ∈ fp, FpOk X pins H b) (ho : ∀ b ∈ fp, ∃ o, s.heap.get? b = some o ∧ ∀ v, o.data ≠ .cell v) : Inv X (pins ++ pinsAt fp s.heap) σ H s :=
  I.pins_of fun p hp => (List.mem_append.mp hp).elim (fun z => I.pin p (List.mem_append_right _ z)) fun z => by
    obtain ⟨hb, e⟩ := of_pinsAt z
    obtain ⟨f0, f1, f2, _⟩ := hf p.1 hb
    obtain ⟨o, e', d⟩ := ho p.1 hb
    rw [e] at e'; cases e'
    exact ⟨e, f0, f1, f2, d⟩
theorem Inv.unpinned {pins pl : List (Addr × Obj)} {σ : St} {H : Hp} {s : Shared} (I : Inv X (pins ++ pl) σ H s) : Inv X pins σ H s := I.pins_of fun p hp => I.pin p (List.mem_append_right _ (List.mem_append_left _ hp))
theorem ps_for {iter : Expr} {body : List Stmt} {wi : TI} {g : TG} {tb : TS} {pos : Pos} (hp : PassesOwn (model X.prog X.w) X.A X.env X.xe) (hc : X.calm = true) (hi : PI X tg iter wi) (hg : PG X tg g) (hb : PSs X body tb)
    (hs : ∀ x, foldedSetIterable iter X.env x = pure x := by intro _; rfl) : PS X (.For tg iter body [] pos) (tFor wi g tb) := by
  intro pins s σ H D I h
  refine wpAny_For (thn (hi pins s σ H _ I h) fun v s1 h1 => thn h1 fun itv s2 h2 => ?_) hs
  obtain ⟨it, fp, tn, J, H2, e, I2, T, st2, f2, W, ⟨m0, w0⟩, turn⟩ := h2
  subst e
  -- what stays true of the iterator's objects through the loop
  have stat : ∀ {H' : Hp}, (∀ b ∈ fp, H' b = none) → ∀ b ∈ fp, FpOk X pins H' b := fun hn b hb => ⟨hn b hb, (f2 b hb).2⟩
  refine codeAny_forLoop_any (fun n s' => ∃ i σ' H', Inv X pins σ' H' s' ∧ tn i s'.heap ∧ (∀ b ∈ fp, H' b = none) ∧ W i n σ' H') ?_ m0 ⟨0, σ, H2, I2, st2, fun b hb => (f2 b hb).1, w0⟩
  rintro n s3 ⟨i, σ3, H3, I3, st3, fr3, w3⟩
  rcases turn i n σ3 H3 w3 with ⟨stop, qn⟩ | ⟨go, N, hN, step⟩
  · refine wpAny_passesOwn hp (thn (T.done X rfl rfl rfl hc i pins s3 σ3 H3 X.xe I3 (stat fr3) st3 stop) fun r s4 ⟨hr, I4⟩ => ?_)
    subst hr
    exact wpAny_execs_nil ⟨σ3, H3, I4, qn⟩
  · refine wpAny_passesOwn hp (thn (T.item X rfl rfl rfl hc i pins s3 σ3 H3 X.xe I3 (stat fr3) st3 go) fun r s4 ⟨u, hr, h4⟩ => ?_)
    subst hr
    refine wpAny_passesOwn hp (thn h4 fun _ s5 ⟨x, H5, I5, r5, y5, st5, fr5⟩ => ?_)
    have I5' := I5.pinned (stat fr5) (T.obj _ _ st5)
    refine wpAny_passesOwn hp (thn (hg _ s5 σ3 H5 x u _ I5' r5 (step x H5 y5)) fun _ s6 ⟨σ6, H6, I6, q6⟩ => ?_)
    refine wpAny_passesOwn hp (thn (hb _ s6 σ6 H6 _ I6 q6) fun f s7 q7 => ?_)
    have again : ∀ {σ7 : St} {H7 : Hp}, Inv X (pins ++ pinsAt fp s5.heap) σ7 H7 s7 → N σ7 H7 → ∃ m, m < n ∧ ∃ i σ' H', Inv X pins σ' H' s7 ∧ tn i s7.heap ∧ (∀ b ∈ fp, H' b = none) ∧ W i m σ' H' := fun {σ7 H7} I7 n7 => by
      obtain ⟨m', hm, w7⟩ := hN σ7 H7 n7
      refine ⟨m', hm, i + 1, σ7, H7, I7.unpinned, T.keep _ _ _ st5 fun b hb o e => (I7.pin (b, o) (List.mem_append_right _ (List.mem_append_right _ (mem_pinsAt hb e)))).1, fun b hb => ?_, w7⟩
      obtain ⟨o, e, d⟩ := T.obj _ _ st5 b hb
      exact (I7.pin (b, o) (List.mem_append_right _ (List.mem_append_right _ (mem_pinsAt hb e)))).2.1
    cases f with
    | next => obtain ⟨σ7, H7, I7, n7⟩ := q7; exact again I7 n7
    | cont => obtain ⟨σ7, H7, I7, n7⟩ := q7; exact again I7 n7
    | brk => obtain ⟨σ7, H7, I7, q7⟩ := q7; exact ⟨σ7, H7, I7.unpinned, q7⟩
    | ret v => obtain ⟨x7, σ7, H7, I7, r7, q7⟩ := q7; exact ⟨x7, σ7, H7, I7.unpinned, r7, q7⟩
end

/-! ### the forms one uses -/
/-- over a list that the body leaves as it is -/
theorem for_list {K : PySem.W.Frag} {a : Addr} {xs : List V} {g : TG} {tb : TS} {D : Ends} {σ : St} {H : Hp} (Pv : Nat → St → Hp → Prop) (h0 : Pv 0 σ H) (hl : ∀ i σ H, i ≤ xs.length → Pv i σ H → SqL K H a xs)
    (hs : ∀ i x σ H, xs[i]? = some x → Pv i σ H → g x σ H fun σ2 H2 => tb { D with nx := Pv (i + 1), ct := Pv (i + 1), bk := D.nx } σ2 H2) (hd : ∀ σ H, Pv xs.length σ H → D.nx σ H) :
    ∃ W : Nat → Nat → St → Hp → Prop, (∃ m, W 0 m σ H) ∧ ∀ i m σ H, W i m σ H →
      ((Itl K a).stop i H ∧ D.nx σ H) ∨ ((Itl K a).go i H ∧ ∃ N : St → Hp → Prop, (∀ σ' H', N σ' H' → ∃ m', m' < m ∧ W (i + 1) m' σ' H') ∧ ∀ x H', (Itl K a).yld i H x H' → g x σ H' fun σ2 H2 => tb { D with nx := N, ct := N, bk := D.nx } σ2 H2) := by
  refine ⟨fun i m σ H => m = xs.length - i ∧ i ≤ xs.length ∧ Pv i σ H, ⟨xs.length, by simp, Nat.zero_le _, h0⟩, ?_⟩
  rintro i m σ H ⟨rfl, hi, p⟩
  have q := hl i σ H hi p
  by_cases hlt : i < xs.length
  · refine .inr ⟨⟨xs, xs[i], q, by simp [hlt]⟩, Pv (i + 1), fun σ' H' p' => ⟨xs.length - (i + 1), by omega, rfl, hlt, p'⟩, fun x H' y => ?_⟩
    obtain ⟨e, y⟩ := y
    subst e
    exact hs i x σ _ (y xs q) p
  · have e : i = xs.length := by omega
    subst e
    exact .inl ⟨⟨xs, q, Nat.le_refl _⟩, hd σ H p⟩
theorem for_range {lo : Int} {n : Nat} {g : TG} {tb : TS} {D : Ends} {σ : St} {H : Hp} (Pv : Nat → St → Hp → Prop) (h0 : Pv 0 σ H)
    (hs : ∀ i σ H, i < n → Pv i σ H → g (.int (lo + i)) σ H fun σ2 H2 => tb { D with nx := Pv (i + 1), ct := Pv (i + 1), bk := D.nx } σ2 H2) (hd : ∀ σ H, Pv n σ H → D.nx σ H) :
    ∃ W : Nat → Nat → St → Hp → Prop, (∃ m, W 0 m σ H) ∧ ∀ i m σ H, W i m σ H →
      ((Itr lo n).stop i H ∧ D.nx σ H) ∨ ((Itr lo n).go i H ∧ ∃ N : St → Hp → Prop, (∀ σ' H', N σ' H' → ∃ m', m' < m ∧ W (i + 1) m' σ' H') ∧ ∀ x H', (Itr lo n).yld i H x H' → g x σ H' fun σ2 H2 => tb { D with nx := N, ct := N, bk := D.nx } σ2 H2) := by
  refine ⟨fun i m σ H => m = n - i ∧ i ≤ n ∧ Pv i σ H, ⟨n, by simp, Nat.zero_le _, h0⟩, ?_⟩
  rintro i m σ H ⟨rfl, hi, p⟩
  by_cases hlt : i < n
  · refine .inr ⟨hlt, Pv (i + 1), fun σ' H' p' => ⟨n - (i + 1), by omega, rfl, hlt, p'⟩, fun x H' y => ?_⟩
    obtain ⟨e, y⟩ := y
    subst e y
    exact hs i σ _ hlt p
  · have e : i = n := by omega
    subst e
    exact .inl ⟨Nat.le_refl _, hd σ H p⟩
end L2

namespace L2
open PySem PySem.Spec PyProof.Rows

abbrev R2 := V → V → Hp → VK → Prop
/-- a two-place operation on values: f is binaryOp op, inplaceOp op or compareOp op -/
def OpR (X : Cx) (f : Value → Value → Sem Value) (r : R2) : Prop :=
  ∀ (pins : List (Addr × Obj)) (s : Shared) (σ : St) (H : Hp) (x y : V) (v u : Value) (Q : VK), Inv X pins σ H s → RelV x v → RelV y u → r x y H Q →
    wpAny (model X.prog X.w) X.A (f v u) (EP X pins σ Q) X.xe s
/-- a one-place operation -/
def UnR (X : Cx) (f : Value → Sem Value) (r : V → Hp → VK → Prop) : Prop :=
  ∀ (pins : List (Addr × Obj)) (s : Shared) (σ : St) (H : Hp) (x : V) (v : Value) (Q : VK), Inv X pins σ H s → RelV x v → r x H Q →
    wpAny (model X.prog X.w) X.A (f v) (EP X pins σ Q) X.xe s
/-- a call of a value that is known (a builtin, a type) with values -/
def CallR (X : Cx) (f : Value) (r : List V → Hp → VK → Prop) : Prop :=
  ∀ (pins : List (Addr × Obj)) (s : Shared) (σ : St) (H : Hp) (xs : List V) (us : List Value) (Q : VK), Inv X pins σ H s → Vals xs us → r xs H Q →
    wpAny (model X.prog X.w) X.A (call f us) (EP X pins σ Q) X.xe s
def tOp (r : R2) (ta tb : TE) : TE := fun σ H Q => ta σ H fun x H1 => tb σ H1 fun y H2 => r x y H2 Q
def tUn (r : V → Hp → VK → Prop) (ta : TE) : TE := fun σ H Q => ta σ H fun x H1 => r x H1 Q
/-- ints in, under C, and a value out -/
def rI (C : Int → Int → Prop) (g : Int → Int → V) : R2 := fun x y H Q => ∃ i j, x = .int i ∧ y = .int j ∧ C i j ∧ Q (g i j) H
def rI0 (g : Int → Int → V) : R2 := fun x y H Q => ∃ i j, x = .int i ∧ y = .int j ∧ Q (g i j) H
def rU (g : Int → V) : V → Hp → VK → Prop := fun x H Q => ∃ i, x = .int i ∧ Q (g i) H

section
variable {X : Cx} {a b c : Expr} {ta tb tc : TE} {pos : Pos}

theorem binT (ha : PE X a ta) (hb : PE X b tb) {pins : List (Addr × Obj)} {s : Shared} {σ : St} {H : Hp} {R : V → V → Hp → Prop} (I : Inv X pins σ H s)
    (h : ta σ H fun x H1 => tb σ H1 fun y H2 => R x y H2) {Q : Value → Shared → Prop} {f : Value → Value → Sem Value}
    (hf : ∀ v u s2 x y H2, Inv X pins σ H2 s2 → RelV x v → RelV y u → R x y H2 → wpAny (model X.prog X.w) X.A (f v u) Q X.xe s2) :
    wpAny (model X.prog X.w) X.A (eval a X.env) (fun v s₁ => wpAny (model X.prog X.w) X.A (eval b X.env) (fun u s₂ => wpAny (model X.prog X.w) X.A (f v u) Q X.xe s₂) X.xe s₁) X.xe s := by
  refine thn (ha pins s σ H _ I h) fun v s1 ⟨x, H1, I1, r1, q1⟩ => ?_
  refine thn (hb pins s1 σ H1 _ I1 q1) fun u s2 ⟨y, H2, I2, r2, q2⟩ => ?_
  exact hf v u s2 x y H2 I2 r1 r2 q2

theorem pe_op {op : Operator} {r : R2} (ho : OpR X (binaryOp op) r) (ha : PE X a ta) (hb : PE X b tb) : PE X (.BinOp a op b pos) (tOp r ta tb) := by
  intro pins s σ H Q I h
  exact wpAny_BinOp (binT ha hb I h fun v u s2 x y H2 I2 rx ry q => ho pins s2 σ H2 x y v u Q I2 rx ry q)
theorem pe_un {op : UnaryOp} {r : V → Hp → VK → Prop} (ho : UnR X (unaryOp op) r) (ha : PE X a ta) : PE X (.UnaryOp op a pos) (tUn r ta) := by
  intro pins s σ H Q I h
  exact UnaryOp_ (thn (ha pins s σ H _ I h) fun v s1 ⟨x, H1, I1, r1, q1⟩ => ho pins s1 σ H1 x v Q I1 r1 q1)
/-! ### ints -/
theorem opI {f : Value → Value → Sem Value} {C : Int → Int → Prop} {g : Int → Int → Int}
    (rule : ∀ (i j : Int) (t u : Tok) (s : Shared) (Q : Value → Shared → Prop) (E : Value → Shared → Prop), C i j → Q (.int (g i j) s.toks) { s with toks := s.toks + 1 } → wpAny (model X.prog X.w) X.A (f (.int i t) (.int j u)) Q E s) :
    OpR X f (rI C fun i j => .int (g i j)) := by
  intro pins s σ H x y v u Q I rx ry h
  obtain ⟨i, j, rfl, rfl, hc, q⟩ := h
  obtain ⟨t, rfl⟩ := rx
  obtain ⟨t', rfl⟩ := ry
  exact rule i j t t' s _ _ hc ⟨.int (g i j), H, I.tok _, ⟨_, rfl⟩, q⟩
theorem opI0 {f : Value → Value → Sem Value} {g : Int → Int → Int}
    (rule : ∀ (i j : Int) (t u : Tok) (s : Shared) (Q : Value → Shared → Prop) (E : Value → Shared → Prop), Q (.int (g i j) s.toks) { s with toks := s.toks + 1 } → wpAny (model X.prog X.w) X.A (f (.int i t) (.int j u)) Q E s) :
    OpR X f (rI0 fun i j => .int (g i j)) := by
  intro pins s σ H x y v u Q I rx ry h
  obtain ⟨i, j, rfl, rfl, q⟩ := h
  obtain ⟨t, rfl⟩ := rx
  obtain ⟨t', rfl⟩ := ry
  exact rule i j t t' s _ _ ⟨.int (g i j), H, I.tok _, ⟨_, rfl⟩, q⟩
theorem opB0 {f : Value → Value → Sem Value} {g : Int → Int → Bool}
    (rule : ∀ (i j : Int) (t u : Tok) (s : Shared) (Q : Value → Shared → Prop) (E : Value → Shared → Prop), Q (.bool (g i j)) s → wpAny (model X.prog X.w) X.A (f (.int i t) (.int j u)) Q E s) :
    OpR X f (rI0 fun i j => .bl (g i j)) := by
  intro pins s σ H x y v u Q I rx ry h
  obtain ⟨i, j, rfl, rfl, q⟩ := h
  obtain ⟨t, rfl⟩ := rx
  obtain ⟨t', rfl⟩ := ry
  exact rule i j t t' s _ _ ⟨.bl (g i j), H, I, rfl, q⟩

def CDiv (i j : Int) : Prop := 0 < j ∧ j < 1073741824
def CDivN (i j : Int) : Prop := j ≠ 0 ∧ j.natAbs < 1073741824
def CPow (i j : Int) : Prop := 0 ≤ j ∧ j ≤ 1000000 ∧ i.natAbs < 2 ^ 64
def CMul (i j : Int) : Prop := (-(2 ^ 64) < i ∧ i < 2 ^ 64) ∨ (-(2 ^ 64) < j ∧ j < 2 ^ 64)
theorem CMul.ok {i j : Int} (h : CMul i j) : IntMulOk i j := by
  rcases h with ⟨h1, h2⟩ | ⟨h1, h2⟩
  · exact .of_left (intBits_le_64 h1 h2)
  · exact .of_right (intBits_le_64 h1 h2)
theorem op_add : OpR X (binaryOp .Add) (rI0 fun i j => .int (i + j)) := opI0 fun _ _ _ _ _ _ _ q => add_int q
theorem op_sub : OpR X (binaryOp .Sub) (rI0 fun i j => .int (i - j)) := opI0 fun _ _ _ _ _ _ _ q => sub_int q
theorem op_mul : OpR X (binaryOp .Mult) (rI CMul fun i j => .int (i * j)) := opI fun _ _ _ _ _ _ _ hc q => mul_int q hc.ok
/-- // by a positive divisor -/
theorem op_fdiv : OpR X (binaryOp .FloorDiv) (rI CDiv fun i j => .int (i / j)) := opI fun i j _ _ _ _ _ hc q => by
  have h1 : (0 : Int) < j := hc.1
  have h2 : j < 1073741824 := hc.2
  exact floordiv_int (by omega) (by rw [Int.fdiv_eq_ediv_of_nonneg i (by omega)]; exact q) (.inl (PyProof.noPylong_small (by omega)))
/-- % by a positive divisor of any size -/
theorem op_mod : OpR X (binaryOp .Mod) (rI (fun _ j => 0 < j) fun i j => .int (i % j)) := opI fun i j _ _ _ _ _ hc q => by
  have h1 : (0 : Int) < j := hc
  exact mod_int' (by omega) (by rw [Int.fmod_eq_emod_of_nonneg i (by omega)]; exact q)
theorem op_pow : OpR X (binaryOp .Pow) (rI CPow fun i j => .int (i ^ j.toNat)) := opI fun _ _ _ _ _ _ _ hc q => pow_int_small hc.1 hc.2.1 hc.2.2 q
theorem unI {f : Value → Sem Value} {g : Int → Int}
    (rule : ∀ (i : Int) (t : Tok) (s : Shared) (Q : Value → Shared → Prop) (E : Value → Shared → Prop), Q (.int (g i) s.toks) { s with toks := s.toks + 1 } → wpAny (model X.prog X.w) X.A (f (.int i t)) Q E s) :
    UnR X f (rU fun i => .int (g i)) := by
  intro pins s σ H x v Q I rx h
  obtain ⟨i, rfl, q⟩ := h
  obtain ⟨t, rfl⟩ := rx
  exact rule i t s _ _ ⟨.int (g i), H, I.tok _, ⟨_, rfl⟩, q⟩
theorem un_neg : UnR X (unaryOp .USub) (rU fun i => .int (-i)) := unI fun _ _ _ _ _ q => neg_int q
/-! ### bools among ints: n += (a < b) -/
end

/-! ### comparisons -/
/-- the scalars that == tells apart as data does -/
def scal : V → V → Bool
  | .non, .non => true | .non, .int _ => true | .int _, .non => true | .non, .bl _ => true | .bl _, .non => true | .non, .str _ => true | .str _, .non => true
  | .int _, .int _ => true | .bl _, .bl _ => true | .str _, .str _ => true | .byt _, .byt _ => true
  | .int _, .str _ => true | .str _, .int _ => true | .bl _, .str _ => true | .str _, .bl _ => true
  | _, _ => false
def rEq : R2 := fun x y H Q => scal x y = true ∧ Q (.bl (decide (x = y))) H
def rNe : R2 := fun x y H Q => scal x y = true ∧ Q (.bl (!decide (x = y))) H

theorem dec_int {i j : Int} : decide (V.int i = V.int j) = (i == j) := by
  rw [Bool.eq_iff_iff]
  simp
theorem dec_bl {i j : Bool} : decide (V.bl i = V.bl j) = (i == j) := by
  rw [Bool.eq_iff_iff]
  simp
theorem dec_str {i j : Str} : decide (V.str i = V.str j) = (i == j) := by
  rw [Bool.eq_iff_iff]
  simp
theorem dec_byt {i j : Array UInt8} : decide (V.byt i = V.byt j) = (i.toList == j.toList) := by
  rw [Bool.eq_iff_iff]
  cases i
  cases j
  simp

section
variable {X : Cx} {a b c : Expr} {ta tb tc : TE} {pos : Pos}
theorem fin_bl {pins : List (Addr × Obj)} {σ : St} {H : Hp} {s : Shared} {Q : VK} {k k' : Bool} (I : Inv X pins σ H s) (q : Q (.bl k) H) (e : k = k') : EP X pins σ Q (.bool k') s := by
  subst e
  exact ⟨.bl k, H, I, rfl, q⟩
theorem op_eq : OpR X (compareOp .Eq) rEq := by
  intro pins s σ H x y v u Q I rx ry h
  obtain ⟨hs, q⟩ := h
  cases x with
  | non =>
    cases rx
    cases y with
    | non => cases ry; exact PySem.EqNone.eq_none_none (fin_bl I q (by simp))
    | bl j => cases ry; exact PySem.EqNone.eq_none_bool (fin_bl I q (by simp))
    | int j => obtain ⟨t', rfl⟩ := ry; exact PySem.EqNone.eq_none_int (fin_bl I q (by simp))
    | str j => obtain ⟨t', rfl⟩ := ry; exact PySem.EqNone.eq_none_str (fin_bl I q (by simp))
    | _ => exact absurd (show false = true from hs) Bool.false_ne_true
  | bl i =>
    cases rx
    cases y with
    | non => cases ry; exact PySem.EqNone.eq_bool_none (fin_bl I q (by simp))
    | bl j => cases ry; exact eq_bool (fin_bl I q dec_bl)
    | str j => obtain ⟨t', rfl⟩ := ry; exact PySem.EqMixed.eq_bool_str (fin_bl I q (by simp))
    | _ => exact absurd (show false = true from hs) Bool.false_ne_true
  | int i =>
    obtain ⟨t, rfl⟩ := rx
    cases y with
    | non => cases ry; exact PySem.EqNone.eq_int_none (fin_bl I q (by simp))
    | int j => obtain ⟨t', rfl⟩ := ry; exact eq_int (fin_bl I q dec_int)
    | str j => obtain ⟨t', rfl⟩ := ry; exact PySem.EqMixed.eq_int_str (fin_bl I q (by simp))
    | _ => exact absurd (show false = true from hs) Bool.false_ne_true
  | str i =>
    obtain ⟨t, rfl⟩ := rx
    cases y with
    | non => cases ry; exact PySem.EqNone.eq_str_none (fin_bl I q (by simp))
    | bl j => cases ry; exact PySem.EqMixed.eq_str_bool (fin_bl I q (by simp))
    | int j => obtain ⟨t', rfl⟩ := ry; exact PySem.EqMixed.eq_str_int (fin_bl I q (by simp))
    | str j => obtain ⟨t', rfl⟩ := ry; exact eq_str (fin_bl I q dec_str)
    | _ => exact absurd (show false = true from hs) Bool.false_ne_true
  | byt i =>
    obtain ⟨t, rfl⟩ := rx
    cases y with
    | byt j => obtain ⟨t', rfl⟩ := ry; exact PySem.W.eq_bytes (fin_bl I q dec_byt)
    | _ => exact absurd (show false = true from hs) Bool.false_ne_true
  | _ => cases y <;> exact absurd (show false = true from hs) Bool.false_ne_true
theorem op_ne : OpR X (compareOp .NotEq) rNe := by
  intro pins s σ H x y v u Q I rx ry h
  obtain ⟨hs, q⟩ := h
  cases x with
  | non =>
    cases rx
    cases y with
    | non => cases ry; exact PySem.EqNone.ne_none_none (fin_bl I q (by simp))
    | bl j => cases ry; exact PySem.EqNone.ne_none_bool (fin_bl I q (by simp))
    | int j => obtain ⟨t', rfl⟩ := ry; exact PySem.EqNone.ne_none_int (fin_bl I q (by simp))
    | str j => obtain ⟨t', rfl⟩ := ry; exact PySem.EqNone.ne_none_str (fin_bl I q (by simp))
    | _ => exact absurd (show false = true from hs) Bool.false_ne_true
  | bl i =>
    cases rx
    cases y with
    | non => cases ry; exact PySem.EqNone.ne_bool_none (fin_bl I q (by simp))
    | bl j => cases ry; exact ne_bool (fin_bl I q (congrArg not dec_bl))
    | str j => obtain ⟨t', rfl⟩ := ry; exact PySem.EqMixed.ne_bool_str (fin_bl I q (by simp))
    | _ => exact absurd (show false = true from hs) Bool.false_ne_true
  | int i =>
    obtain ⟨t, rfl⟩ := rx
    cases y with
    | non => cases ry; exact PySem.EqNone.ne_int_none (fin_bl I q (by simp))
    | int j => obtain ⟨t', rfl⟩ := ry; exact ne_int (fin_bl I q (congrArg not dec_int))
    | str j => obtain ⟨t', rfl⟩ := ry; exact PySem.EqMixed.ne_int_str (fin_bl I q (by simp))
    | _ => exact absurd (show false = true from hs) Bool.false_ne_true
  | str i =>
    obtain ⟨t, rfl⟩ := rx
    cases y with
    | non => cases ry; exact PySem.EqNone.ne_str_none (fin_bl I q (by simp))
    | bl j => cases ry; exact PySem.EqMixed.ne_str_bool (fin_bl I q (by simp))
    | int j => obtain ⟨t', rfl⟩ := ry; exact PySem.EqMixed.ne_str_int (fin_bl I q (by simp))
    | str j => obtain ⟨t', rfl⟩ := ry; exact ne_str (fin_bl I q (congrArg not dec_str))
    | _ => exact absurd (show false = true from hs) Bool.false_ne_true
  | byt i =>
    obtain ⟨t, rfl⟩ := rx
    cases y with
    | byt j => obtain ⟨t', rfl⟩ := ry; exact PySem.W.ne_bytes (fin_bl I q (congrArg not dec_byt))
    | _ => exact absurd (show false = true from hs) Bool.false_ne_true
  | _ => cases y <;> exact absurd (show false = true from hs) Bool.false_ne_true

theorem op_lt : OpR X (compareOp .Lt) (rI0 fun i j => .bl (decide (i < j))) := opB0 fun _ _ _ _ _ _ _ q => lt_int q
theorem op_ge : OpR X (compareOp .GtE) (rI0 fun i j => .bl (decide (j ≤ i))) := opB0 fun _ _ _ _ _ _ _ q => ge_int q
/-- is None, is not None: the right side a value none -/
theorem op_isN : OpR X (compareOp .Is) (fun x y H Q => y = .non ∧ Q (.bl (decide (x = .non))) H) := by
  intro pins s σ H x y v u Q I rx ry h
  obtain ⟨rfl, q⟩ := h
  cases ry
  refine is_none_gen (fin_bl I q ?_)
  cases x <;> first
    | (cases rx; rfl)
    | (obtain ⟨t, rfl⟩ := rx; rfl)
theorem nomark (b : Expr) {op : CmpOp} (h : op ≠ .In := by decide) (h2 : op ≠ .NotIn := by decide) : behindInMarks op b = false := by
  have e1 : (op == CmpOp.In) = false := by cases op <;> first | rfl | exact absurd rfl h
  have e2 : (op == CmpOp.NotIn) = false := by cases op <;> first | rfl | exact absurd rfl h2
  cases b <;> simp [behindInMarks, e1, e2]
/-- a comparison as a value; hm: nomark b, or (for in, not in) by with_unfolding_all rfl -/
theorem pe_cmpR {op : CmpOp} {r : R2} (ho : OpR X (compareOp op) r) (ha : PE X a ta) (hb : PE X b tb) (hm : behindInMarks op b = false) : PE X (.Compare a [op] [b] pos) (tOp r ta tb) := by
  intro pins s σ H Q I h
  exact wpAny_Compare1 (binT ha hb I h fun v u s2 x y H2 I2 rx ry q => ho pins s2 σ H2 x y v u Q I2 rx ry q) hm
/-- a reading of a value as a test -/
def tTest (t : TE) : TT := fun σ H Q => t σ H fun x H' => ∃ k, x = .bl k ∧ Q k H'
theorem pt_cmpR {op : CmpOp} {r : R2} (ho : OpR X (compareOp op) r) (ha : PE X a ta) (hb : PE X b tb) (hm : behindInMarks op b = false) : PT X (.Compare a [op] [b] pos) (tTest (tOp r ta tb)) := by
  intro pins s σ H Q I h
  refine wpAny_isTrue_Compare1 (thn (ha pins s σ H _ I h) fun v s1 ⟨x, H1, I1, r1, q1⟩ => thn (hb pins s1 σ H1 _ I1 q1) fun u s2 ⟨y, H2, I2, r2, q2⟩ =>
    thn (ho pins s2 σ H2 x y v u _ I2 r1 r2 q2) fun c s3 ⟨z, H3, I3, r3, k, e, q3⟩ => ?_) hm
  subst e
  cases r3
  exact wpAny_truthy_bool ⟨H3, I3, q3⟩
/-! ### truth -/
theorem line63 : (sizeLine : Nat) < 2 ^ 63 := by rw [sizeLine_eq]; decide
/-! ### strs and bytes -/
theorem op_add_str : OpR X (binaryOp .Add) (fun x y H Q => ∃ i j, x = .str i ∧ y = .str j ∧ i.length + j.length ≤ sizeLine ∧ Q (.str (i ++ j)) H) := by
  intro pins s σ H x y v u Q I rx ry h
  obtain ⟨i, j, rfl, rfl, hz, q⟩ := h
  obtain ⟨t, rfl⟩ := rx
  obtain ⟨t', rfl⟩ := ry
  exact add_str (fun t' tk => ⟨.str (i ++ j), H, I.tok _, ⟨_, rfl⟩, q⟩) hz
/-! ### scalar builtins, by CallR -/
theorem vals1 {x : V} {us : List Value} (r : Vals [x] us) : ∃ u, us = [u] ∧ RelV x u := by
  cases r with
  | cons r1 r2 => cases r2; exact ⟨_, rfl, r1⟩
end
end L2

namespace L2
open PySem PySem.Spec PyProof.Rows

/-! ### an instance, its attributes a map -/
structure ObjM (h : Heap) (x dx C : Addr) (mA : Str → Option Value) : Prop where
  obj : h.get? x = some (PySem.W.instObj C dx)
  ns : h.Ns1 dx mA
  ne : dx ≠ x

theorem lookIn_ns {h : Heap} {dx : Addr} {mA : Str → Option Value} (n : h.Ns1 dx mA) : ∃ od, h.get? dx = some od ∧ ∀ name, PySem.W.lookIn name od = some (mA name) := by
  obtain ⟨o, es, ep, ho, hd, hk, _, hm⟩ := n
  refine ⟨o, ho, fun name => ?_⟩
  have e := hm name
  unfold nsFind findBy at e
  rw [← Array.find?_toList] at e
  unfold PySem.W.lookIn
  rw [hd]
  dsimp only
  split
  · rename_i y q
    rw [q] at e
    exact congrArg some e
  · rename_i q
    rw [q] at e
    have a : es.toList.any (·.refKey) = false := by
      rw [List.any_eq_false]
      intro y hy
      obtain ⟨z, t, hkey⟩ := hk y (Array.mem_toList_iff.mp hy)
      simp [DictEntry.refKey, hkey]
    have a' : ¬ es.toList.any (·.refKey) = true := by rw [a]; exact Bool.false_ne_true
    rw [if_neg a']
    exact congrArg some e

theorem ObjM.look {h : Heap} {x dx C : Addr} {mA : Str → Option Value} (I : ObjM h x dx C mA) : ∃ od, PySem.W.InstAt h x (PySem.W.instObj C dx) C (some od) ∧ ∀ name, PySem.W.lookIn name od = some (mA name) :=
  let ⟨od, ho, hl⟩ := lookIn_ns I.ns
  ⟨od, ⟨I.obj, rfl, rfl, ho⟩, hl⟩

section
variable {prog : Program} {w : World} {A : Around} {E : Value → Shared → Prop} {s : Shared} {K : PySem.W.Frag} {x dx C f : Addr} {mA : Str → Option Value} {name : Str} {v : Value}

theorem get_map {expr : Bool} {Q : Value → Shared → Prop} (X : K.In s.heap) (I : ObjM s.heap x dx C mA) (hg : PySem.W.plainGet K C name = true) (hh : PySem.W.hasDictIn K C = true)
    (ha : PySem.W.findIn K (.ref C) name = some none) (hv : mA name = some v) (hv' : PySem.W.handedIn v = true) (h : Q v { s with toks := s.toks + 1 }) :
    wpAny (model prog w) A (getAttr (.ref x) name expr) Q E s := by
  obtain ⟨od, J, hl⟩ := I.look
  exact PySem.W.get_value X J (PySem.W.plainGet_of hg).1 (PySem.W.findObj_own hh ha rfl (by rw [hl, hv])) hv' h

theorem get_meth {pl : Sem Bool} {Q : Value × List Value → Shared → Prop} (X : K.In s.heap) (I : ObjM s.heap x dx C mA) (hg : PySem.W.plainGet K C name = true)
    (hf : PySem.W.findIn K (.ref C) name = some (some (.ref f))) (ht : PySem.W.isFn K (.ref f) = true) (hv : mA name = none) (h : Q (.ref f, [.ref x]) s) :
    wpAny (model prog w) A (getMethod (.ref x) name pl) Q E s := by
  obtain ⟨od, J, hl⟩ := I.look
  exact PySem.W.method_fn X J (PySem.W.plainGet_of hg).1 (PySem.W.plainGet_of hg).2 hf (beq_iff_eq.mp ht) (by show (PySem.W.lookIn name od).map (·.isSome) = some false; rw [hl, hv]; rfl) h

theorem set_map {ns : List Str} {Q : Unit → Shared → Prop} (X : K.In s.heap) (I : ObjM s.heap x dx C mA)
    (hs : PySem.W.findIn K (.ref C) "__setattr__" = some (some (.builtin "object.__setattr__"))) (hp : PySem.W.plainOver K C = true) (ht : PySem.W.takerIn K C name = some none) (hh : PySem.W.hasDictIn K C = true)
    (hw : PySem.Within mA ns) (hsz : ns.length ≤ sizeLine)
    (h : ∀ h', ObjM h' x dx C (fun y => if y = name then some v else mA y) → Heap.SameBut dx s.heap h' → Q () { s with heap := h', toks := s.toks + 2 }) :
    wpAny (model prog w) A (setAttr (.ref x) name v) Q E s := by
  obtain ⟨od, J, hl⟩ := I.look
  refine PySem.W.set_plain X J hs (PySem.W.osa_open (s := { s with toks := s.toks + 1 }) (r := none) X J hp ht fun b => ?_)
  obtain ⟨cd, hc, hd'⟩ := PySem.W.any_some hh
  have hx : s.heap.get? x = some ⟨.ref C, some dx, .plain, #[]⟩ := I.obj
  refine wpAny_bind (wpAny_pure (wpAny_bind (wpAny_bind (wpAny_loadPart hx (wpAny_bind (PySem.W.Looks.here (s := { s with toks := s.toks + 1 }) (PySem.W.looks_clsIn X hc) ?_))))))
  rw [hd']
  refine wpAny_pure (a := some dx) (wpAny_bind (wpAny_pure (wpAny_bind ?_)))
  refine wpAny_nsSet1 (s := { s with toks := s.toks + 1 }) I.ns fun h' hn2 hs2 => ?_
  obtain ⟨oD, esD, epD, hoD, hdD, hcD⟩ := hn2.count (PySem.Within.cons name v hw)
  refine wpAny_bind (wpAny_lookBehind hoD (by rw [hdD]; exact pastItsLine_dict (Nat.le_trans hcD (by rw [List.length_cons]; omega))) ?_)
  exact wpAny_pure (h _ ⟨(hs2.2 _ (Ne.symm I.ne)).trans I.obj, hn2, I.ne⟩ hs2)

/-- C(..): the dict at the heap's end, the instance behind it; then its __init__ -/
theorem make_map {R : Result → Shared → Prop} {vs : List Value} {kw : List (Str × Value)} (X : K.In s.heap) (hm : PySem.W.makesIn K C = true)
    (hi : PySem.W.findIn K (.ref C) "__init__" = some (some (.ref f))) (hf : PySem.W.typeIn K (.ref f) = some (.type "function"))
    (h : codeAny (model prog w) (A.under (.builtin "type.__call__" ⟨.ref C :: vs, kw⟩)) (.call (.ref f) ⟨.ref (s.heap.objs.size + 1) :: vs, kw⟩) (PySem.W.InitBack (s.heap.objs.size + 1) R)
      { s with heap := (s.heap.push PySem.W.emptyDict).push (PySem.W.instObj C s.heap.objs.size) }) :
    codeAny (model prog w) A (.call (.ref C) ⟨vs, kw⟩) R s := by
  obtain ⟨hh, g, d, t, os⟩ := s
  exact PySem.W.make_core (PySem.W.makes_of X hm) (PySem.W.looks_findIn X hi) (fun self => PySem.W.bind_fn X self hf) (.inl rfl) h
end

/-! ### the attributes as a list of pairs -/
def putF (f : Str) (v : V) : List (Str × V) → List (Str × V)
  | [] => [(f, v)]
  | (g, x) :: r => if g = f then (g, v) :: r else (g, x) :: putF f v r
theorem lookup_putF (f g : Str) (v : V) : ∀ fs : List (Str × V), (putF f v fs).lookup g = if g = f then some v else fs.lookup g
  | [] => by
    show List.lookup g [(f, v)] = _
    by_cases h : g = f
    · have hb : (g == f) = true := beq_iff_eq.mpr h
      simp only [List.lookup, hb, if_pos h]
    · have hb : (g == f) = false := beq_eq_false_iff_ne.mpr h
      simp only [List.lookup, hb, if_neg h]
  | (k, x) :: r => by
    have ih := lookup_putF f g v r
    rw [show putF f v ((k, x) :: r) = (if k = f then (k, v) :: r else (k, x) :: putF f v r) from rfl]
    by_cases hk : k = f
    · rw [if_pos hk]
      by_cases h : g = k
      · have hb : (g == k) = true := beq_iff_eq.mpr h
        simp only [List.lookup, hb, if_pos (h.trans hk)]
      · have hb : (g == k) = false := beq_eq_false_iff_ne.mpr h
        simp only [List.lookup, hb, if_neg (fun e : g = f => h (e.trans hk.symm))]
    · rw [if_neg hk]
      by_cases h : g = k
      · have hb : (g == k) = true := beq_iff_eq.mpr h
        simp only [List.lookup, hb, if_neg (fun e : g = f => hk (h.symm.trans e))]
      · have hb : (g == k) = false := beq_eq_false_iff_ne.mpr h
        simp only [List.lookup, hb]
        exact ih
theorem keys_putF (f : Str) (v : V) : ∀ fs : List (Str × V), f ∈ (putF f v fs).map (·.1) ∧ ∀ g, g ∈ fs.map (·.1) → g ∈ (putF f v fs).map (·.1)
  | [] => ⟨by simp [putF], fun g h => by simp at h⟩
  | (k, x) :: r => by
    obtain ⟨i1, i2⟩ := keys_putF f v r
    rw [show putF f v ((k, x) :: r) = (if k = f then (k, v) :: r else (k, x) :: putF f v r) from rfl]
    by_cases hk : k = f
    · rw [if_pos hk]
      subst hk
      exact ⟨by simp, fun g h => by simpa using h⟩
    · rw [if_neg hk]
      refine ⟨?_, fun g h => ?_⟩
      · rw [List.map_cons]
        exact List.mem_cons_of_mem _ i1
      · rw [List.map_cons] at h ⊢
        rcases List.mem_cons.mp h with e | e
        · exact List.mem_cons.mpr (.inl e)
        · exact List.mem_cons_of_mem _ (i2 g e)
theorem length_putF (f : Str) (v : V) : ∀ fs : List (Str × V), (putF f v fs).length ≤ fs.length + 1
  | [] => by simp [putF]
  | (k, x) :: r => by
    have ih := length_putF f v r
    rw [show putF f v ((k, x) :: r) = (if k = f then (k, v) :: r else (k, x) :: putF f v r) from rfl]
    by_cases hk : k = f
    · rw [if_pos hk, List.length_cons, List.length_cons]; omega
    · rw [if_neg hk, List.length_cons, List.length_cons]; omega

theorem RelO.some_of {v : V} {o : Option Value} (r : RelO (some v) o) : ∃ u, o = some u ∧ RelV v u := by
  cases o with
  | none => exact (show False from r).elim
  | some u => exact ⟨u, rfl, r⟩
theorem RelO.none_of {o : Option Value} (r : RelO none o) : o = none := by
  cases o with
  | none => rfl
  | some u => exact (show False from r).elim
theorem handed_of {v : V} {u : Value} (r : RelV v u) : PySem.W.handedIn u = true := by
  cases v with
  | non => cases (show u = Value.none from r); rfl
  | bl b => cases (show u = Value.bool b from r); rfl
  | int i => obtain ⟨t, e⟩ := (show ∃ t, u = Value.int i t from r); cases e; rfl
  | str x => obtain ⟨t, e⟩ := (show ∃ t, u = Value.str x t from r); cases e; rfl
  | byt b => obtain ⟨t, e⟩ := (show ∃ t, u = Value.bytes b t from r); cases e; rfl
  | flt b => obtain ⟨t, e⟩ := (show ∃ t, u = Value.float b t from r); cases e; rfl
  | ref a => cases (show u = Value.ref a from r); rfl
  | ty n => cases (show u = Value.type n from r); rfl

section
variable {P : Program} {w : World} {H H' : Hp} {h h' : Heap} {a C dx : Addr} {fs fs' : List (Str × V)}
theorem ins_get (hok : HOk P w H h) (e : H a = some (.ins C dx fs)) : ∃ mA, ObjM h a dx C mA ∧ (∀ f, RelO (fs.lookup f) (mA f)) ∧ PySem.Within mA (fs.map (·.1)) ∧ fs.length ≤ 1000 ∧ H dx = some (.own a) := by
  obtain ⟨d, z, ne, ob, mA, n, r, q⟩ := (show ObjOk P w H h a (.ins C dx fs) from hok a _ e)
  exact ⟨mA, ⟨ob, n, ne⟩, r, q, z, d⟩
end

/-! ### what of the text a class must have -/
structure Cls (K : PySem.W.Frag) (C : Addr) : Prop where
  pg : PySem.W.plainGet K C Str.empty = true
  hd : PySem.W.hasDictIn K C = true
  po : PySem.W.plainOver K C = true
  sa : PySem.W.findIn K (.ref C) "__setattr__" = some (some (.builtin "object.__setattr__"))
theorem Cls.get {K : PySem.W.Frag} {C : Addr} (c : Cls K C) (f : Str) : PySem.W.plainGet K C f = true := c.pg
/-- no class of it has the name -/
def NoAttr (K : PySem.W.Frag) (C : Addr) (f : Str) : Prop := PySem.W.findIn K (.ref C) f = some none
theorem NoAttr.taker {K : PySem.W.Frag} {C : Addr} {f : Str} (n : NoAttr K C f) : PySem.W.takerIn K C f = some none := by
  unfold PySem.W.takerIn
  rw [show PySem.W.findIn K (.ref C) f = some none from n]
  rfl
/-- a method: a plain def of the class or of one above it -/
structure Meth (K : PySem.W.Frag) (C : Addr) (m : Str) (f : Addr) : Prop where
  at_ : PySem.W.findIn K (.ref C) m = some (some (.ref f))
  fn : PySem.W.isFn K (.ref f) = true
  kp : PySem.W.keepIn K (.ref f) = true

section
variable {X : Cx} {pins : List (Addr × Obj)} {σ : St} {H : Hp} {s : Shared} {a C dx : Addr} {fs : List (Str × V)} {f : Str} {v : V} {A : Around} {E : Value → Shared → Prop}

theorem getattr_ok {b : Bool} {Q : Value → Shared → Prop} (I : Inv X pins σ H s) (e : H a = some (.ins C dx fs)) (c : Cls X.K C) (n : NoAttr X.K C f) (l : fs.lookup f = some v)
    (h : ∀ u s', Inv X pins σ H s' → RelV v u → Q u s') : wpAny (model X.prog X.w) A (getAttr (.ref a) f b) Q E s := by
  obtain ⟨mA, O, r, _, _, _⟩ := ins_get I.hok e
  obtain ⟨u, hu, ru⟩ := RelO.some_of (v := v) (o := mA f) (by rw [← l]; exact r f)
  exact get_map I.kIn O (c.get f) c.hd n hu (handed_of ru) (h u _ (I.tok _) ru)

theorem getmeth_ok {m : Str} {g : Addr} {pl : Sem Bool} {Q : Value × List Value → Shared → Prop} (I : Inv X pins σ H s) (e : H a = some (.ins C dx fs)) (c : Cls X.K C) (k : Meth X.K C m g) (l : fs.lookup m = none)
    (h : Q (.ref g, [.ref a]) s) : wpAny (model X.prog X.w) A (getMethod (.ref a) m pl) Q E s := by
  obtain ⟨mA, O, r, _, _, _⟩ := ins_get I.hok e
  have hn : mA m = none := RelO.none_of (by rw [← l]; exact r m)
  exact get_meth I.kIn O (c.get m) k.at_ k.fn hn h

theorem setattr_ok {y : V} {u : Value} {Q : Unit → Shared → Prop} (I : Inv X pins σ H s) (e : H a = some (.ins C dx fs)) (c : Cls X.K C) (n : NoAttr X.K C f) (hl : fs.length < 1000) (ry : RelV y u)
    (h : ∀ s', Inv X pins σ (upd H a (.ins C dx (putF f y fs))) s' → Q () s') : wpAny (model X.prog X.w) A (setAttr (.ref a) f u) Q E s := by
  obtain ⟨mA, O, r, wi, _, ho⟩ := ins_get I.hok e
  have hz : (fs.map (·.1)).length ≤ sizeLine := by rw [List.length_map, sizeLine_eq]; omega
  refine set_map I.kIn O c.sa c.po n.taker c.hd wi hz fun h' O' sb => h _ ?_
  have hd : ∃ o, h'.get? dx = some o := let ⟨o, _, _, e', _⟩ := O'.ns; ⟨o, e'⟩
  refine I.write (x := a) (e := dx) (by rw [e]; exact True.intro) (.inr ho) (fun b q hb z => (sb.2 b hb).trans z) hd ?_
  refine ⟨by rw [upd_ne O.ne]; exact ho, ?_, O.ne, O'.obj, _, O'.ns, fun g => ?_, fun g hg => ?_⟩
  · have := length_putF f y fs; omega
  · show RelO ((putF f y fs).lookup g) (if g = f then some u else mA g)
    rw [lookup_putF]
    by_cases q : g = f
    · rw [if_pos q, if_pos q]; exact ry
    · rw [if_neg q, if_neg q]; exact r g
  · by_cases q : g = f
    · rw [q]; exact (keys_putF f y fs).1
    · refine (keys_putF f y fs).2 g (wi g fun z => hg ?_)
      show (if g = f then some u else mA g) = none
      rw [if_neg q]; exact z

/-- a new instance, tracked, without attributes -/
theorem Inv.made (I : Inv X pins σ H s) : Inv X pins σ (upd (upd H s.heap.objs.size (.own (s.heap.objs.size + 1))) (s.heap.objs.size + 1) (.ins C s.heap.objs.size []))
    { s with heap := (s.heap.push PySem.W.emptyDict).push (PySem.W.instObj C s.heap.objs.size) } := by
  have e1 : (s.heap.push PySem.W.emptyDict).get? s.heap.objs.size = some PySem.W.emptyDict := Heap.get?_push_size s.heap rfl
  have e2 : ((s.heap.push PySem.W.emptyDict).push (PySem.W.instObj C s.heap.objs.size)).get? (s.heap.objs.size + 1) = some (PySem.W.instObj C s.heap.objs.size) := by
    have := Heap.get?_push_size (s.heap.push PySem.W.emptyDict) (o := PySem.W.instObj C s.heap.objs.size) rfl
    rwa [Heap.size_push] at this
  have e3 : (s.heap.push PySem.W.emptyDict).Ns s.heap.objs.size (fun _ => none) := ⟨PySem.W.emptyDict, #[], _, e1, rfl, (fun e he => absurd he (by simp)), fun _ => rfl⟩
  have I1 := I.laid (a := s.heap.objs.size) (o := .own (s.heap.objs.size + 1)) (h' := s.heap.push PySem.W.emptyDict) (t' := s.toks) (fun b u q => Heap.get?_push_of_some _ q) (Nat.le_refl _) ⟨_, e1⟩
  refine I1.laid (a := s.heap.objs.size + 1) (o := .ins C s.heap.objs.size []) (t' := s.toks) (fun b u q => Heap.get?_push_of_some _ q) (Nat.le_of_eq (Heap.size_push _ _)) ?_
  have ne : s.heap.objs.size ≠ s.heap.objs.size + 1 := Nat.ne_of_lt (Nat.lt_succ_self _)
  refine ⟨by rw [upd_ne ne, upd_same], Nat.zero_le _, ne, e2, fun _ => none, (Heap.Ns1.of_empty e3).at fun o q => Heap.get?_push_of_some _ q, fun _ => True.intro, fun y hy => absurd rfl hy⟩

/-- e.f where nothing but the object is asked: through attributeBase (super) and the last hold -/
theorem attr_of {prog : Program} {w : World} {env : Env} {e : Expr} {f : Str} {pos : Pos} {s : Shared} {Q : Value → Shared → Prop} (hb : attributeBase e f env (eval e env) = eval e env)
    (h : wpAny (model prog w) A (eval e env) (fun o s₁ => wpAny (model prog w) A (getAttr o f true) Q E s₁) E s) : wpAny (model prog w) A (eval (.Attribute e f pos) env) Q E s :=
  Attribute_any_ h (by rw [arm_eval_Attribute, hb])
end

/-! ### readings and rules -/
section
variable {X : Cx} {o e value : Expr} {f : Str} {pos pos' tpos : Pos} {ta tv : TE}
/-- what is between an instance and its method: the tree of a method call -/
theorem methcall_of {pl : Sem Bool} {m : Str} {apos : Pos} {args : List Expr} {pins : List (Addr × Obj)} {s : Shared} {σ : St} {H : Hp} {Q : Value → Shared → Prop} {te : TE} (he : PE X e te) (I : Inv X pins σ H s)
    (h : te σ H fun x H1 => ∃ a C dx fs g, x = .ref a ∧ H1 a = some (.ins C dx fs) ∧ Cls X.K C ∧ Meth X.K C m g ∧ fs.lookup m = none ∧
      ∀ s1, Inv X pins σ H1 s1 → wpAny (model X.prog X.w) X.A (callWith pos (.ref g) [.ref a] (backTo pos (starEach args X.env)) (backToKw pos (keywordEach [] X.env))) Q X.xe s1)
    (ht : eval (.Call (.Attribute e m apos) args [] pos) X.env = (do
      let ov ← eval e X.env
      standAt apos.atName
      let (f, first) ← holding [ov] (getMethod ov m pl)
      callWith pos f first (backTo pos (starEach args X.env)) (backToKw pos (keywordEach [] X.env)))) :
    wpAny (model X.prog X.w) X.A (eval (.Call (.Attribute e m apos) args [] pos) X.env) Q X.xe s := by
  refine PySem.W.methodCall_KW (pl := pl) (thn (he pins s σ H _ I h) fun u s1 ⟨x, H1, I1, rx, a, C, dx, fs, g, ex, ea, c, k, l, q⟩ => ?_) ht
  subst ex
  obtain rfl : u = Value.ref a := rx
  exact getmeth_ok I1 ea c k l (q s1 I1)
end

/-! ### isinstance -/
section
variable {X : Cx} {pins : List (Addr × Obj)} {σ : St} {H : Hp} {s : Shared} {A : Around} {E : Value → Shared → Prop} {Q : Value → Shared → Prop} {c : Value} {b : Bool}
/-- the type of a value, as the fragment's deciders take it; for an instance its class -/
inductive TyOf (K : PySem.W.Frag) (H : Hp) : V → Value → Prop where
  | non : TyOf K H .non (.type "NoneType")
  | bl (x : Bool) : TyOf K H (.bl x) (.type "bool")
  | int (i : Int) : TyOf K H (.int i) (.type "int")
  | str (x : Str) : TyOf K H (.str x) (.type "str")
  | flt (x : UInt64) : TyOf K H (.flt x) (.type "float")
  | lst {a : Addr} {xs : List V} (e : H a = some (.lst xs)) : TyOf K H (.ref a) (.type "list")
  | frz {a : Addr} {o : Obj} {xs : List V} (e : H a = some (.frz o (.lst xs))) : TyOf K H (.ref a) (.type "list")
  | tup {a : Addr} {xs : List V} (e : H a = some (.tup xs)) : TyOf K H (.ref a) (.type "tuple")
  | dK {a : Addr} {kvs : List (Key × V)} (e : H a = some (.dK kvs)) : TyOf K H (.ref a) (.type "dict")
  | dT {a : Addr} {kvs : List (List Key × V)} (e : H a = some (.dT kvs)) : TyOf K H (.ref a) (.type "dict")
  | ins {a C dx : Addr} {fs : List (Str × V)} (e : H a = some (.ins C dx fs)) (cl : Cls K C) (ha : PySem.W.findIn K (.ref C) "__class__" = some (some (.builtin "object.__class__")))
      (hn : PySem.W.specialIn K (.builtin "object.__class__") "__get__" = some (some (.builtin "getset_descriptor.__get__"))) (htk : PySem.W.takesIn K (.builtin "object.__class__") = some true)
      (hm : PySem.W.mroIn K C (.type "object") = some true) : TyOf K H (.ref a) (.ref C)
/-- isinstance(x, c) for one class c, a built-in or an own one: kitOne's answer -/
theorem isinst_ok {x : V} {u t : Value} (I : Inv X pins σ H s) (rx : RelV x u) (ty : TyOf X.K H x t) (e : PySem.W.kitOne X.K t c = some b) (h : ∀ tk, Q (.bool b) { s with toks := tk }) :
    wpAny (model X.prog X.w) A (call (.builtin "isinstance") [u, c]) Q E s := by
  cases ty with
  | non => cases (show u = Value.none from rx); exact PySem.W.kia_one PySem.W.kitx_none I.kIn True.intro e (fun z => nomatch z) h
  | bl y => cases (show u = Value.bool y from rx); exact PySem.W.kia_one PySem.W.kitx_bool I.kIn True.intro e (fun z => nomatch z) h
  | int i => obtain ⟨t, q⟩ := (show ∃ t, u = Value.int i t from rx); cases q; exact PySem.W.kia_one PySem.W.kitx_int I.kIn True.intro e (fun z => nomatch z) h
  | str y => obtain ⟨t, q⟩ := (show ∃ t, u = Value.str y t from rx); cases q; exact PySem.W.kia_one PySem.W.kitx_str I.kIn True.intro e (fun z => nomatch z) h
  | flt y => obtain ⟨t, q⟩ := (show ∃ t, u = Value.float y t from rx); cases q; exact PySem.W.kia_one PySem.W.kitx_float I.kIn True.intro e (fun z => nomatch z) h
  | @lst a xs ea =>
    cases (show u = Value.ref a from rx)
    obtain ⟨_, _, n, _, h1⟩ := (show ObjOk X.prog X.w H s.heap a (.lst xs) from I.hok a _ ea)
    exact PySem.W.kia_one PySem.W.kitx_list I.kIn ⟨_, h1, rfl⟩ e (fun z => nomatch z) h
  | @frz a ob xs ea =>
    cases (show u = Value.ref a from rx)
    obtain ⟨_, _, _, n, _, h1⟩ := (show ObjOk X.prog X.w H s.heap a (.frz ob (.lst xs)) from I.hok a _ ea)
    exact PySem.W.kia_one PySem.W.kitx_list I.kIn ⟨_, h1, rfl⟩ e (fun z => nomatch z) h
  | @tup a xs ea =>
    cases (show u = Value.ref a from rx)
    obtain ⟨_, _, _, p⟩ := (show ObjOk X.prog X.w H s.heap a (.tup xs) from I.hok a _ ea)
    obtain ⟨o, h1, h2, _⟩ := p
    exact PySem.W.kia_one PySem.W.kitx_tuple I.kIn ⟨o, h1, h2⟩ e (fun z => nomatch z) h
  | @dK a kvs ea =>
    cases (show u = Value.ref a from rx)
    obtain ⟨_, _, vs, _, p⟩ := (show ObjOk X.prog X.w H s.heap a (.dK kvs) from I.hok a _ ea)
    obtain ⟨o, es, ep, h1, h2, _⟩ := p
    exact PySem.W.kia_one PySem.W.kitx_dict I.kIn ⟨o, h1, h2.1⟩ e (fun z => nomatch z) h
  | @dT a kvs ea =>
    cases (show u = Value.ref a from rx)
    obtain ⟨_, _, xs, _, o, es, ep, h1, h2, _⟩ := (show ObjOk X.prog X.w H s.heap a (.dT kvs) from I.hok a _ ea)
    exact PySem.W.kia_one PySem.W.kitx_dict I.kIn ⟨o, h1, h2.1⟩ e (fun z => nomatch z) h
  | @ins a C dx fs ea cl ha hn htk hm =>
    cases (show u = Value.ref a from rx)
    obtain ⟨mA, O, _⟩ := ins_get I.hok ea
    obtain ⟨od, J, _⟩ := O.look
    exact PySem.W.kia_one (PySem.W.kitx_own (cl.get _) cl.hd ha hn htk hm) I.kIn J e (fun z => nomatch z) h
end
end L2

namespace L2
open PySem PySem.Spec PyProof.Rows

/-! ### room -/
structure Room (k : Nat) (A : Around) : Prop where
  hd : A.handled = none
  dp : A.depth + 3 * k + 5 < recursionLimit
  un : A.units + 16 * k + 200 < cLine
theorem Room.mono {j k : Nat} {A : Around} (r : Room k A) (h : j ≤ k) : Room j A := ⟨r.hd, by have := r.dp; omega, by have := r.un; omega⟩
theorem Room.deeper {k : Nat} {A : Around} (r : Room (k + 1) A) (env : Env) : Room k (A.deeper env) :=
  ⟨r.hd, by have := r.dp; show A.depth + 1 + 3 * k + 5 < _; omega, by have := r.un; show A.units + 3 + 16 * k + 200 < _; omega⟩
theorem make_depth {A : Around} {C : Addr} {us : List Value} {kw : List (Str × Value)} : (A.under (.builtin "type.__call__" ⟨.ref C :: us, kw⟩)).depth = A.depth + 1 := by
  first | rfl | simp [Around.under, Code.weight, Code.isCreation, Code.isGuard, Code.isCaller, Code.frames, Code.isFrame, guardIds]
theorem make_units {A : Around} {C : Addr} {us : List Value} {kw : List (Str × Value)} : (A.under (.builtin "type.__call__" ⟨.ref C :: us, kw⟩)).units = A.units + 1 := by
  first | rfl | simp [Around.under, Code.cUnits, Code.frames, Code.isFrame]
theorem Room.make {k : Nat} {A : Around} (r : Room (k + 1) A) (C : Addr) (us : List Value) (kw : List (Str × Value)) : Room k (A.under (.builtin "type.__call__" ⟨.ref C :: us, kw⟩)) :=
  ⟨r.hd, by have := r.dp; rw [make_depth]; omega, by have := r.un; rw [make_units]; omega⟩
theorem Room.depth {k : Nat} {A : Around} (r : Room k A) : A.depth < recursionLimit := by have := r.dp; omega
theorem Room.units {k : Nat} {A : Around} (r : Room k A) : A.units + 64 < cLine := by have := r.un; omega
/-! ### argument lists and displays -/
def tNil : TA := fun _ H Q => Q [] H
def tCons (ta : TE) (tr : TA) : TA := fun σ H Q => ta σ H fun x H1 => tr σ H1 fun xs H2 => Q (x :: xs) H2
section
variable {X : Cx} {e : Expr} {es : List Expr} {te : TE} {t : TA} {pos : Pos}
theorem pa_nil : PA X [] tNil := fun _ _ _ _ H Q I h => Calls.spliced_nil ⟨[], H, I, .nil, h⟩
theorem pa_cons (ha : PE X e te) (hr : PA X es t) (hs : starEach (e :: es) X.env = (false, eval e X.env) :: starEach es X.env := by rfl) : PA X (e :: es) (tCons te t) := by
  intro pos pins s σ H Q I h
  rw [hs]
  show wpAny _ _ (spliced ((false, eval e X.env) :: backTo pos (starEach es X.env))) _ _ s
  refine Calls.spliced_cons (thn (ha pins s σ H _ I h) fun u s1 ⟨x, H1, I1, r1, q1⟩ => ?_)
  exact thn (hr pos pins s1 σ H1 _ I1 q1) fun us s2 ⟨xs, H2, I2, r2, q2⟩ => ⟨x :: xs, H2, I2, .cons r1 r2, q2⟩

/-- a tuple, a list of written items -/
def tTup (t : TA) : TE := fun σ H Q => t σ H fun xs H1 => xs.length ≤ sizeLine ∧ ∀ p, H1 p = none → Q (.ref p) (upd H1 p (.tup xs))
def tLst (t : TA) : TE := fun σ H Q => t σ H fun xs H1 => xs.length ≤ sizeLine ∧ ∀ p, H1 p = none → Q (.ref p) (upd H1 p (.lst xs))
theorem pe_tup {x1} (h : PA X es t) : PE X (.Tuple es x1 pos) (tTup t) := by
  intro pins s σ H Q I hq
  refine wpAny_Tuple_spliced (thn (h pos pins s σ H _ I hq) fun us s1 ⟨xs, H1, I1, r, z, q⟩ => ⟨by rw [← r.length]; exact z, ?_⟩)
  have hf : H1 s1.heap.objs.size = none := I1.hok.fresh (Nat.le_refl _)
  refine ⟨.ref s1.heap.objs.size, upd H1 s1.heap.objs.size (.tup xs), I1.laid (t' := s1.toks) (fun b u e => Heap.get?_push_of_some _ e) (Nat.le_refl _) ?_, rfl, q _ hf⟩
  exact ⟨z, us, r, ⟨_, Heap.get?_push_size _ rfl, rfl, _, rfl⟩⟩
theorem pe_lst (h : PA X es t) : PE X (.List es pos) (tLst t) := by
  intro pins s σ H Q I hq
  refine wpAny_List_spliced (thn (h pos pins s σ H _ I hq) fun us s1 ⟨xs, H1, I1, r, z, q⟩ => ⟨by rw [← r.length]; exact z, ?_⟩)
  have hf : H1 s1.heap.objs.size = none := I1.hok.fresh (Nat.le_refl _)
  refine ⟨.ref s1.heap.objs.size, upd H1 s1.heap.objs.size (.lst xs), I1.laid (t' := s1.toks) (fun b u e => Heap.get?_push_of_some _ e) (Nat.le_refl _) ?_, rfl, q _ hf⟩
  exact ⟨z, us, 0, r, Heap.get?_push_size _ rfl⟩
end

/-! ### what a def promises -/
/-- a def's promise: the bound arguments in the parameters' order, the heap, the wanted end, the wanted exception -/
abbrev Sp := List V → Hp → VK → XK → Prop
/-- how an exception lies behind a call (file 08 gives it): the callers' frames, abstract heap and state ahead of the call, the wish, the exception, the state -/
abbrev CXT := List Env → Hp → Shared → XK → Value → Shared → Prop

/-- the state at a call -/
structure Env0 (P : Program) (w : World) (K : PySem.W.Frag) (mg : Str → Option Value) (base : Heap) (A : Around) (outer : List Env) (s : Shared) (H : Hp) : Prop where
  frames : A.frames = some outer
  mod : Mod K mg base
  bs : ∀ b o, base.get? b = some o → s.heap.get? b = some o ∧ H b = none
  bsz : base.objs.size ≤ s.heap.objs.size
  funs : s.heap.FunFrames base outer
  frf : ∀ b ∈ frs outer, H b = none
  hok : HOk P w H s.heap
  bare : AllBare s.gens
/-- a call's end -/
def CE (outer : List Env) (P : Program) (w : World) (H : Hp) (s : Shared) (Q : VK) (u : Value) (s' : Shared) : Prop :=
  ∃ v H', s'.os = s.os ∧ AllBare s'.gens ∧ Un (frs outer) [] H H' s.heap s'.heap ∧ HOk P w H' s'.heap ∧ RelV v u ∧ Q v H'
def CR (CX : CXT) (outer : List Env) (P : Program) (w : World) (H : Hp) (s : Shared) (Q : VK) (E : XK) (r : Result) (s' : Shared) : Prop :=
  match r with
  | .ok (.ret u) => CE outer P w H s Q u s'
  | .ok _ => False
  | .error e => CX outer H s E e s'
structure FnOk (P : Program) (w : World) (K : PySem.W.Frag) (mg : Str → Option Value) (base : Heap) (CX : CXT) (k : Nat) (f : Addr) (fd : FuncData) (ps : List Str) (sp : Sp) : Prop where
  len : ∀ vs H Q E, sp vs H Q E → vs.length = ps.length
  run : ∀ (A : Around) (outer : List Env) (s : Shared) (H : Hp) (args : Args) (us : List Value) (vs : List V) (Q : VK) (E : XK), Room k A → Env0 P w K mg base A outer s H → BindsTo s fd args (ps.zip us) → Vals vs us → sp vs H Q E →
    codeAny (model P w) A (.call (.ref f) args) (CR CX outer P w H s Q E) s
theorem FnOk.mono {P : Program} {w : World} {K : PySem.W.Frag} {mg : Str → Option Value} {base : Heap} {CX : CXT} {j k : Nat} {f : Addr} {fd : FuncData} {ps : List Str} {sp : Sp} (F : FnOk P w K mg base CX j f fd ps sp) (h : j ≤ k) :
    FnOk P w K mg base CX k f fd ps sp := ⟨F.len, fun A outer s H args us vs Q E hr => F.run A outer s H args us vs Q E (hr.mono h)⟩
/-- a weaker promise -/
theorem FnOk.imp {P : Program} {w : World} {K : PySem.W.Frag} {mg : Str → Option Value} {base : Heap} {CX : CXT} {k : Nat} {f : Addr} {fd : FuncData} {ps : List Str} {sp sp' : Sp} (F : FnOk P w K mg base CX k f fd ps sp)
    (h : ∀ vs H Q E, sp' vs H Q E → sp vs H Q E) : FnOk P w K mg base CX k f fd ps sp' :=
  ⟨fun vs H Q E q => F.len vs H Q E (h _ _ _ _ q), fun A outer s H args us vs Q E hr he hb hv hs => F.run A outer s H args us vs Q E hr he hb hv (h _ _ _ _ hs)⟩

theorem Env0.make {P : Program} {w : World} {K : PySem.W.Frag} {mg : Str → Option Value} {base : Heap} {A : Around} {outer : List Env} {s : Shared} {H : Hp} (e : Env0 P w K mg base A outer s H) (C : Addr) (us : List Value) (kw : List (Str × Value)) :
    Env0 P w K mg base (A.under (.builtin "type.__call__" ⟨.ref C :: us, kw⟩)) outer s H := ⟨by first | exact e.frames | (simpa [Around.under, Code.envs, Code.isFrame, pushEnvs] using e.frames), e.mod, e.bs, e.bsz, e.funs, e.frf, e.hok, e.bare⟩
section
variable {X : Cx} {pins : List (Addr × Obj)} {σ : St} {H : Hp} {s s' : Shared}
/-- from a body: what a callee wants -/
theorem Inv.env0 (I : Inv X pins σ H s) : Env0 X.prog X.w X.K X.mg X.base X.A X.stack s H :=
  ⟨I.ok.frames, I.ok.mod, I.bs, Nat.le_trans I.ok.bsz I.sz, I.stack, I.stkFree, I.hok, I.bare⟩
/-- behind a call -/
theorem Inv.after {Q : VK} {u : Value} (I : Inv X pins σ H s) (h : CE X.stack X.prog X.w H s Q u s') : EP X pins σ Q u s' := by
  obtain ⟨v, H', os, bare, un, hok, r, q⟩ := h
  obtain ⟨hh, g, d, t, os'⟩ := s'
  obtain rfl : os' = s.os := os
  exact ⟨v, H', I.call (h' := hh) (g' := g) (d' := d) (t' := t) (ch := []) un hok bare (fun b z => absurd z (by simp)), r, q⟩
end

/-! ### calls -/
/-- f(..): the written arguments, then the defaults dvs; E: what is wanted of an exception -/
def tCall (sp : Sp) (dvs : List V) (E : XK) (t : TA) : TE := fun σ H Q => t σ H fun vs H1 => sp (vs ++ dvs) H1 Q E
/-- o.m(..) of an instance of the class at C -/
def tMeth (C : Addr) (m : Str) (sp : Sp) (dvs : List V) (E : XK) (ta : TE) (t : TA) : TE := fun σ H Q => ta σ H fun x H1 => ∃ a dx fs, x = .ref a ∧ H1 a = some (.ins C dx fs) ∧ fs.lookup m = none ∧
  t σ H1 fun vs H2 => sp (x :: (vs ++ dvs)) H2 Q E
/-- C(..): a new instance and its dict, then __init__ -/
def tMake (C : Addr) (sp : Sp) (dvs : List V) (E : XK) (t : TA) : TE := fun σ H Q => t σ H fun vs H1 => ∀ x dx, H1 x = none → H1 dx = none → dx ≠ x →
  sp (.ref x :: (vs ++ dvs)) (upd (upd H1 dx (.own x)) x (.ins C dx [])) (fun v H2 => v = .non ∧ Q (.ref x) H2) E

/-- how the parameters are bound: us the positional arguments, kw the keywords' values by name, ds the defaults that fill up -/
def Binds (K : PySem.W.Frag) (fd : FuncData) (ps : List Str) (ds : List Value) : Prop :=
  ∀ (s : Shared) (us : List Value), K.In s.heap → (us ++ ds).length = ps.length → BindsTo s fd ⟨us, []⟩ (ps.zip (us ++ ds))
/-- every parameter is given -/
theorem Binds.all {K : PySem.W.Frag} {fd : FuncData} {ps : List Str} (h : ∀ us : List Value, us.length = ps.length → bindArgs fd ⟨us, []⟩ = pure (ps.zip us)) : Binds K fd ps [] := fun s us _ hl => by
  rw [List.append_nil] at hl ⊢
  exact .of_eq (h us hl)

/-- an exception of a callee reaches what this body wants of exceptions -/
def Passes (CX : CXT) (X : Cx) (E : XK) : Prop := ∀ (pins : List (Addr × Obj)) (σ : St) (H : Hp) (s : Shared) (e : Value) (s' : Shared), Inv X pins σ H s → CX X.stack H s E e s' → X.xe e s'

section
variable {X : Cx} {CX : CXT} {k : Nat} {f C : Addr} {fd : FuncData} {ps : List Str} {sp : Sp} {dvs : List V} {ds : List Value} {E : XK} {x m : Str} {p pos apos : Pos} {e o : Expr} {es : List Expr} {ta : TE} {t : TA}

/-- the callee runs -/
theorem run_fn {pins : List (Addr × Obj)} {σ : St} {H : Hp} {s : Shared} {Q : VK} {us : List Value} {vs : List V} (F : FnOk X.prog X.w X.K X.mg X.base CX k f fd ps sp) (hr : Room k X.A) (hb : Binds X.K fd ps ds) (hd : Vals dvs ds) (hx : Passes CX X E)
    (I : Inv X pins σ H s) (r : Vals vs us) (h : sp (vs ++ dvs) H Q E) : wpAny (model X.prog X.w) X.A (call (.ref f) us) (EP X pins σ Q) X.xe s := by
  have r2 : Vals (vs ++ dvs) (us ++ ds) := r.append hd
  have hl : (us ++ ds).length = ps.length := by rw [← r2.length]; exact F.len _ _ _ _ h
  refine wpAny_call (codeAny_mono (F.run X.A X.stack s H ⟨us, []⟩ (us ++ ds) (vs ++ dvs) Q E hr I.env0 (hb s us I.kIn hl) r2 h) fun r s' hq => ?_)
  cases r with
  | error e => exact hx pins σ H s e s' I hq
  | ok fl =>
    cases fl with
    | ret u => exact I.after hq
    | next => exact False.elim hq
    | brk => exact False.elim hq
    | cont => exact False.elim hq

theorem pe_call (F : FnOk X.prog X.w X.K X.mg X.base CX k f fd ps sp) (hr : Room k X.A) (hg : Gl X x) (hm : X.mg x = some (.ref f)) (hk : PySem.W.keepIn X.K (.ref f) = true) (hb : Binds X.K fd ps ds) (hd : Vals dvs ds) (hx : Passes CX X E)
    (ha : PA X (e :: es) t) (hdb : (x == ("__debug__" : Str)) = false := by decide) (he : starEach (e :: es) X.env = (false, eval e X.env) :: starEach es X.env := by rfl) (hpl : (backTo pos (starEach es X.env)).any (·.1) = false := by rfl) :
    PE X (.Call (.Name x p) (e :: es) [] pos) (tCall sp dvs E t) := by
  intro pins s σ H Q I h
  refine wpAny_Call_Name_kw (ld_glob I hg hm ?_ hdb)
  refine PySem.W.callWith_K (h₀ := X.base) I.ok.mod.kin hk (thn (ha pos pins s σ H _ I h) fun us s1 ⟨vs, H1, I1, r, q⟩ => ⟨I1.kIn, ?_⟩) he hpl
  exact run_fn F hr hb hd hx I1 r q
/-- o.m(e, ..) -/
theorem pe_meth {pl : Sem Bool} (he : PE X o ta) (c : Cls X.K C) (hm : Meth X.K C m f) (F : FnOk X.prog X.w X.K X.mg X.base CX k f fd ps sp) (hr : Room k X.A) (hb : Binds X.K fd ps ds) (hd : Vals dvs ds) (hx : Passes CX X E) (ha : PA X (e :: es) t)
    (hst : starEach (e :: es) X.env = (false, eval e X.env) :: starEach es X.env := by rfl) (hpl : (backTo pos (starEach es X.env)).any (·.1) = false := by rfl)
    (ht : eval (.Call (.Attribute o m apos) (e :: es) [] pos) X.env = (do
      let ov ← eval o X.env
      standAt apos.atName
      let (f, first) ← holding [ov] (getMethod ov m pl)
      callWith pos f first (backTo pos (starEach (e :: es) X.env)) (backToKw pos (keywordEach [] X.env))) := by rfl) :
    PE X (.Call (.Attribute o m apos) (e :: es) [] pos) (tMeth C m sp dvs E ta t) := by
  intro pins s σ H Q I h
  refine PySem.W.methodCall_KW (pl := pl) (thn (he pins s σ H _ I h) fun u s1 ⟨x, H1, I1, rx, a, dx, fs, ex, ea, l, q⟩ => ?_) ht
  subst ex
  obtain rfl : u = Value.ref a := rx
  refine getmeth_ok I1 ea c hm l ?_
  refine PySem.W.callWith_K (first := [.ref a]) (h₀ := X.base) I.ok.mod.kin hm.kp (thn (ha pos pins s1 σ H1 _ I1 q) fun us s2 ⟨vs, H2, I2, r, q2⟩ => ⟨I2.kIn, ?_⟩) hst hpl
  exact run_fn (us := .ref a :: us) (vs := .ref a :: vs) F hr hb hd hx I2 (.cons rfl r) q2
/-- o.m() -/
theorem pe_meth0 {pl : Sem Bool} (he : PE X o ta) (c : Cls X.K C) (hm : Meth X.K C m f) (F : FnOk X.prog X.w X.K X.mg X.base CX k f fd ps sp) (hr : Room k X.A) (hb : Binds X.K fd ps ds) (hd : Vals dvs ds) (hx : Passes CX X E)
    (ht : eval (.Call (.Attribute o m apos) [] [] pos) X.env = (do
      let ov ← eval o X.env
      standAt apos.atName
      let (f, first) ← holding [ov] (getMethod ov m pl)
      callWith pos f first (backTo pos (starEach [] X.env)) (backToKw pos (keywordEach [] X.env))) := by rfl) :
    PE X (.Call (.Attribute o m apos) [] [] pos) (tMeth C m sp dvs E ta tNil) := by
  intro pins s σ H Q I h
  refine PySem.W.methodCall_KW (pl := pl) (thn (he pins s σ H _ I h) fun u s1 ⟨x, H1, I1, rx, a, dx, fs, ex, ea, l, q⟩ => ?_) ht
  subst ex
  obtain rfl : u = Value.ref a := rx
  refine getmeth_ok I1 ea c hm l ?_
  exact PySem.W.callWith_K0 (first := [.ref a]) I1.kIn hm.kp (run_fn (us := [.ref a]) (vs := [.ref a]) F hr hb hd hx I1 (.cons rfl .nil) q)

/-- what a class must have to be made -/
structure Mk (K : PySem.W.Frag) (C f : Addr) : Prop where
  makes : PySem.W.makesIn K C = true
  init : PySem.W.findIn K (.ref C) "__init__" = some (some (.ref f))
  fn : PySem.W.isFn K (.ref f) = true
  kp : PySem.W.keepIn K (.ref C) = true

theorem run_make {pins : List (Addr × Obj)} {σ : St} {H : Hp} {s : Shared} {Q : VK} {us : List Value} {vs : List V} (M : Mk X.K C f) (F : FnOk X.prog X.w X.K X.mg X.base CX k f fd ps sp) (hr : Room (k + 1) X.A) (hb : Binds X.K fd ps ds) (hd : Vals dvs ds)
    (hx : Passes CX X E) (I : Inv X pins σ H s) (r : Vals vs us)
    (h : ∀ x dx, H x = none → H dx = none → dx ≠ x → sp (.ref x :: (vs ++ dvs)) (upd (upd H dx (.own x)) x (.ins C dx [])) (fun v H2 => v = .non ∧ Q (.ref x) H2) E) :
    wpAny (model X.prog X.w) X.A (call (.ref C) us) (EP X pins σ Q) X.xe s := by
  have hq := h (s.heap.objs.size + 1) s.heap.objs.size (I.hok.fresh (Nat.le_succ _)) (I.hok.fresh (Nat.le_refl _)) (Nat.ne_of_lt (Nat.lt_succ_self _))
  have I2 := Inv.made (C := C) I
  have r2 : Vals (V.ref (s.heap.objs.size + 1) :: (vs ++ dvs)) (Value.ref (s.heap.objs.size + 1) :: (us ++ ds)) := .cons rfl (r.append hd)
  have hl : (Value.ref (s.heap.objs.size + 1) :: us ++ ds).length = ps.length := by
    have e := r2.length
    rw [F.len _ _ _ _ hq] at e
    exact e.symm
  refine wpAny_call (make_map (f := f) I.kIn M.makes M.init (beq_iff_eq.mp M.fn) (codeAny_mono (F.run _ X.stack _ _ ⟨Value.ref (s.heap.objs.size + 1) :: us, []⟩ (Value.ref (s.heap.objs.size + 1) :: (us ++ ds)) _ _ E (hr.make C us [])
    (I2.env0.make C us []) (hb _ (Value.ref (s.heap.objs.size + 1) :: us) I2.kIn hl) r2 hq) fun r s' hq' => ?_))
  cases r with
  | error e => exact hx pins σ _ _ e s' I2 hq'
  | ok fl =>
    cases fl with
    | ret u =>
      obtain ⟨v, H', I3, rv, ev, q3⟩ := I2.after hq'
      subst ev
      exact ⟨rv, ⟨V.ref (s.heap.objs.size + 1), H', I3, rfl, q3⟩⟩
    | next => exact False.elim hq'
    | brk => exact False.elim hq'
    | cont => exact False.elim hq'
theorem pe_make0 (M : Mk X.K C f) (F : FnOk X.prog X.w X.K X.mg X.base CX k f fd ps sp) (hr : Room (k + 1) X.A) (hg : Gl X x) (hm : X.mg x = some (.ref C)) (hb : Binds X.K fd ps ds) (hd : Vals dvs ds) (hx : Passes CX X E)
    (hdb : (x == ("__debug__" : Str)) = false := by decide) : PE X (.Call (.Name x p) [] [] pos) (tMake C sp dvs E tNil) := by
  intro pins s σ H Q I h
  refine wpAny_Call_Name_kw (ld_glob I hg hm ?_ hdb)
  exact PySem.W.callWith_K0 I.kIn M.kp (run_make (us := []) M F hr hb hd hx I .nil h)
end

/-! ### keywords -/
section
variable {X : Cx} {CX : CXT} {k : Nat} {f C : Addr} {fd : FuncData} {ps ks : List Str} {sp : Sp} {E : XK} {x m : Str} {p pos apos kpos : Pos} {e o : Expr} {es : List Expr} {kws : List Keyword} {te ta : TE} {t tk : TA} {nm : Option Str}
variable {g : List Value → List Value → List Value} {gV : List V → List V → List V}
end

/-! ### a def's body keeps its promise -/
/-- names: the parameters first -/
structure FnScope (N P : List Str) (sc : Scope) : Prop where
  kind : sc.kind = .function
  co : sc.isCoroutine = false
  gen : sc.isGenerator = false
  nd : N.Nodup
  pre : N.take P.length = P
  par : ∀ x ∈ P, sc.names.lookup x = some .local ∨ sc.names.lookup x = some .cell
  nofree : ∀ y ∈ sc.names, y.2 ≠ .free

theorem bindL_out {kindOf : Str → Option NameKind} {x : Str} : ∀ {binds : List (Str × Value)} {m : Str → Option Value}, (∀ v, (x, v) ∉ binds) → bindL kindOf binds m x = m x
  | [], _, _ => rfl
  | (n, v) :: r, m, h => by
    unfold bindL
    rw [bindL_out fun w hw => h w (List.mem_cons_of_mem _ hw)]
    split
    · have : x ≠ n := by rintro rfl; exact h v List.mem_cons_self
      simp [this]
    · rfl
theorem bindC_out {kindOf : Str → Option NameKind} {x : Str} : ∀ {binds : List (Str × Value)} {m : Str → Option Value}, (∀ v, (x, v) ∉ binds) → bindC kindOf binds m x = m x
  | [], _, _ => rfl
  | (n, v) :: r, m, h => by
    unfold bindC
    rw [bindC_out fun w hw => h w (List.mem_cons_of_mem _ hw)]
    split
    · rfl
    · have : x ≠ n := by rintro rfl; exact h v List.mem_cons_self
      simp [this]
theorem bindL_get {kindOf : Str → Option NameKind} {x : Str} {v : Value} : ∀ {P : List Str} {vs : List Value} {i : Nat} {m : Str → Option Value}, P.Nodup → P[i]? = some x → vs[i]? = some v → kindOf x = some .local →
    bindL kindOf (P.zip vs) m x = some v
  | [], _, _, _, _, h, _, _ => by simp at h
  | _ :: _, [], _, _, _, _, h, _ => by simp at h
  | p :: P, w :: vs, 0, m, nd, h1, h2, hk => by
    simp at h1 h2; subst h1; subst h2
    show bindL kindOf ((p, w) :: P.zip vs) m p = _
    unfold bindL
    rw [bindL_out fun v hv => (List.nodup_cons.mp nd).1 (List.of_mem_zip hv).1, if_pos hk]
    simp
  | p :: P, w :: vs, i + 1, m, nd, h1, h2, hk => by
    show bindL kindOf ((p, w) :: P.zip vs) m x = _
    unfold bindL
    exact bindL_get (i := i) (List.nodup_cons.mp nd).2 (by simpa using h1) (by simpa using h2) hk
theorem bindC_get {kindOf : Str → Option NameKind} {x : Str} {v : Value} : ∀ {P : List Str} {vs : List Value} {i : Nat} {m : Str → Option Value}, P.Nodup → P[i]? = some x → vs[i]? = some v → kindOf x ≠ some .local →
    bindC kindOf (P.zip vs) m x = some v
  | [], _, _, _, _, h, _, _ => by simp at h
  | _ :: _, [], _, _, _, _, h, _ => by simp at h
  | p :: P, w :: vs, 0, m, nd, h1, h2, hk => by
    simp at h1 h2; subst h1; subst h2
    show bindC kindOf ((p, w) :: P.zip vs) m p = _
    unfold bindC
    rw [bindC_out fun v hv => (List.nodup_cons.mp nd).1 (List.of_mem_zip hv).1, if_neg hk]
    simp
  | p :: P, w :: vs, i + 1, m, nd, h1, h2, hk => by
    show bindC kindOf ((p, w) :: P.zip vs) m x = _
    unfold bindC
    exact bindC_get (i := i) (List.nodup_cons.mp nd).2 (by simpa using h1) (by simpa using h2) hk

/-- the names' values at the entry -/
def start (N : List Str) (vs : List V) : St := vs.map some ++ List.replicate (N.length - vs.length) none

/-- the context of a def's body, at its entry; an exception leaves the frame, then lies as CX says -/
def cxOf (CX : CXT) (P : Program) (w : World) (K : PySem.W.Frag) (mg : Str → Option Value) (base : Heap) (N : List Str) (qual : Str) (scope : Scope) (f : Addr) (cd : Value) (A : Around) (outer : List Env) (s : Shared) (H : Hp) (E : XK) : Cx where
  prog := P
  w := w
  K := K
  mg := mg
  base := base
  A := A.deeper (envOfC qual scope s.heap.objs.size f cd)
  N := N
  s₀ := s
  H₀ := H
  env := envOfC qual scope s.heap.objs.size f cd
  outer := outer
  stack := envOfC qual scope s.heap.objs.size f cd :: outer
  ex := []
  calm := true
  fn := fun _ => true
  pn := []
  xe := fun e s' => wpAny (model P w) (A.deeper (envOfC qual scope s.heap.objs.size f cd)) (leaving (envOfC qual scope s.heap.objs.size f cd) e) (fun _ s'' => CX outer H s E e s'') (fun e' s'' => CX outer H s E e' s'') s'

theorem cell_has {sc : Scope} {n : Nat} {x : Str} (h : sc.names.lookup x = some .cell) : ∃ c, (cellsFrom n sc.names []).lookup x = some c := by
  have q := PySem.W.cellsFrom_some sc.names n [] (.inl h)
  exact Option.isSome_iff_exists.mp q

theorem inv_start {CX : CXT} {P : Program} {w : World} {K : PySem.W.Frag} {mg : Str → Option Value} {base : Heap} {N ps : List Str} {qual : Str} {scope : Scope} {f : Addr} {cd : Value} {A : Around} {outer : List Env} {s s1 : Shared} {H : Hp} {E : XK} {us : List Value} {vs : List V}
    (S : FnScope N ps scope) (hd : A.handled = none) (e0 : Env0 P w K mg base A outer s H) (hl : vs.length = ps.length) (r : Vals vs us)
    (x : InCallC s s.heap.objs.size (bindL (envOfC qual scope s.heap.objs.size f cd).kindOf (ps.zip us) fun _ => none) (cellsFrom (s.heap.objs.size + 1) scope.names []) (bindC (envOfC qual scope s.heap.objs.size f cd).kindOf (ps.zip us) fun _ => none) s1) :
    Inv (cxOf CX P w K mg base N qual scope f cd A outer s H E) [] (start N vs) H s1 := by
  have hpl : ps.length ≤ N.length := by have := congrArg List.length S.pre; rw [List.length_take] at this; omega
  obtain ⟨h1, tk, rfl, hk⟩ := x.done
  have noA : ∀ b : Addr, b ∉ (cxOf CX P w K mg base N qual scope f cd A outer s H E).ex := fun b z => absurd (show b ∈ ([] : List Addr) from z) (by simp)
  refine ⟨⟨e0.mod, S.kind, rfl, rfl, Nat.le_refl _, fun y z c h1 h2 => ?_, fun y hy => ?_, fun y c _ h => ?_, fun _ => hd, Around.frames_deeper e0.frames, .inr ⟨rfl, rfl⟩, fun b z => absurd z (noA b), e0.bs, e0.bsz, fun b _ _ => noA b, fun b z => absurd z (noA b), e0.funs, e0.frf⟩,
    rfl, e0.bare, Un.kept hk, ⟨_, x.toInCall.ns, fun i y v h1 h2 h3 => ?_⟩, fun y c h => ⟨_, x.cell y c h⟩, e0.hok.fresh (Nat.le_refl _), fun y c h => ?_, fun p hp => absurd (show p ∈ ([] : List (Addr × Obj)) from hp) (by simp), e0.hok.kept hk, ?_⟩
  · exact name_of_addr x.apart (PySem.mem_of_lookup h1) (PySem.mem_of_lookup h2)
  · have hy : scope.names.lookup y = some .cell ∨ scope.names.lookup y = some .free := hy
    rcases hy with hy | hy
    · exact cell_has hy
    · exact absurd rfl (S.nofree _ (PySem.mem_of_lookup hy))
  · exact Nat.le_of_lt (x.above y c (PySem.mem_of_lookup h))
  · have hi : i < vs.length := by
      unfold start at h2
      by_cases hi : i < vs.length
      · exact hi
      · rw [List.getElem?_append_right (by simpa using hi)] at h2
        rw [List.getElem?_replicate] at h2
        split at h2 <;> cases h2
    have ha : vs[i]? = some v := by
      unfold start at h2
      rw [List.getElem?_append_left (by simpa using hi), List.getElem?_map] at h2
      cases e : vs[i]? with
      | none => rw [e] at h2; cases h2
      | some a => rw [e] at h2; cases h2; rfl
    obtain ⟨u, hu, rv⟩ := r.get ha
    have hp : ps[i]? = some y := by
      rw [← S.pre, List.getElem?_take_of_lt (by omega)]; exact h1
    have ndP : ps.Nodup := by rw [← S.pre]; exact S.nd.sublist (List.take_sublist _ _)
    refine ⟨u, rv, ?_⟩
    rcases S.par y (List.mem_of_getElem? hp) with k | k
    · exact .inl ⟨k, bindL_get ndP hp hu k⟩
    · obtain ⟨c, e⟩ := cell_has (n := s.heap.objs.size + 1) k
      refine .inr ⟨.inl k, c, e, ?_⟩
      have q := x.cell y c e
      rw [bindC_get ndP hp hu (by show scope.names.lookup y ≠ _; rw [k]; decide)] at q
      exact q
  · exact e0.hok.fresh (Nat.le_of_lt (x.above y c (PySem.mem_of_lookup h)))
  · unfold start
    show _ = N.length
    rw [List.length_append, List.length_map, List.length_replicate]
    omega

/-- THE RULE: a def (or a method) of the text, by its body. The body's reading t is chosen for each entry; it is run at the parameters' values -/
theorem fn_of {CX : CXT} {P : Program} {w : World} {K : PySem.W.Frag} {mg : Str → Option Value} {base : Heap} {k : Nat} {f : Addr} {name qual : Str} {params : Arguments} {body : List Stmt} {scope : Scope} {dV kV doc pm cdv ct oc : Value} {an od : Option Addr}
    {osl : Array (Option Value)} {N ps : List Str} {sp : Sp} (lk : K.lookup f = some ⟨oc, od, .func (PySem.W.fnOf name qual params body scope dV kV doc pm an cdv ct), osl⟩) (hcd : PySem.W.codeIn K cdv qual = true) (S : FnScope N ps scope)
    (len : ∀ vs H Q E, sp vs H Q E → vs.length = ps.length)
    (hbody : ∀ (A : Around) (outer : List Env) (s : Shared) (H : Hp) (vs : List V) (Q : VK) (E : XK), Room k (A.deeper (envOfC qual scope s.heap.objs.size f cdv)) → sp vs H Q E →
      ∃ t, PSs (cxOf CX P w K mg base N qual scope f cdv A outer s H E) body t ∧ t { nx := fun _ H' => Q .non H', rt := Q } (start N vs) H) :
    FnOk P w K mg base CX (k + 1) f (PySem.W.fnOf name qual params body scope dV kV doc pm an cdv ct) ps sp := by
  refine ⟨len, fun A outer s H args us vs Q E hr e0 hb r hsp => ?_⟩
  have hl := len _ _ _ _ hsp
  have KX : K.In s.heap := e0.mod.kin.keeps fun b o e => (e0.bs b o e).1
  have lim : s.heap.NoLimit := e0.mod.nolimit.keeps fun b o e => (e0.bs b o e).1
  have hkind : ∀ y ∈ ps.zip us, scope.names.lookup y.1 = some .local ∨ (scope.names.lookup y.1 = some .cell ∧ ((cellsFrom (s.heap.objs.size + 1) scope.names []).lookup y.1).isSome = true) := fun ⟨n, v⟩ hy => by
    rcases S.par n (List.of_mem_zip hy).1 with q | q
    · exact .inl q
    · exact .inr ⟨q, PySem.W.cellsFrom_some _ _ _ (.inl q)⟩
  refine codeAny_call_function hr.depth (KX _ _ lk) rfl S.co S.gen rfl (PySem.W.codeRec_of KX hcd) (hb _ _ _ _ ?_)
  refine wpAny_newFunctionEnv_cells S.kind hkind fun env he s1 x => ?_
  subst he
  refine ⟨lim.keeps x.toInCall.keep, codeAny_func ?_⟩
  obtain ⟨t, ht, hq⟩ := hbody A outer s H vs Q E (hr.deeper _) hsp
  have I : Inv (cxOf CX P w K mg base N qual scope f cdv A outer s H E) [] (start N vs) H s1 := inv_start S hr.hd e0 hl r x
  refine wpAny_mono (ht [] s1 (start N vs) H _ I hq) (fun fl s' hs => ?_) fun e s' hs => hs
  have fin : ∀ {σ' : St} {H' : Hp} {v : V} {u : Value}, Inv (cxOf CX P w K mg base N qual scope f cdv A outer s H E) [] σ' H' s' → RelV v u → Q v H' → CE outer P w H s Q u s' :=
    fun {σ' H' v u} J rv q => ⟨v, H', J.os, J.bare, J.base, J.hok, rv, q⟩
  cases fl with
  | ret u =>
    obtain ⟨v, σ', H', J, rv, q⟩ := hs
    exact fin J rv q
  | next =>
    obtain ⟨σ', H', J, q⟩ := hs
    exact fin (v := V.non) (u := Value.none) J rfl q
  | brk =>
    obtain ⟨_, _, _, q⟩ := hs
    exact False.elim q
  | cont =>
    obtain ⟨_, _, _, q⟩ := hs
    exact False.elim q
end L2

namespace L2
open PySem PySem.Spec PyProof.Rows
section
variable {X : Cx} {x : Str} {p pos : Pos} {e : Expr} {es : List Expr} {t : TA} {id T : String} {r : List V → Hp → VK → Prop}

def tCB (r : List V → Hp → VK → Prop) (t : TA) : TE := fun σ H Q => t σ H fun vs H1 => r vs H1 Q
/-- f(e, ..), f a built-in function -/
theorem pe_callB (hc : CallR X (.builtin id) r) (hg : Gl X x) (hm : X.mg x = none) (hv : bootBuiltins x = some (.builtin id)) (ha : PA X (e :: es) t) (hn : x ≠ "__name__" := by decide) (hdb : (x == ("__debug__" : Str)) = false := by decide)
    (he : starEach (e :: es) X.env = (false, eval e X.env) :: starEach es X.env := by rfl) (hpl : (backTo pos (starEach es X.env)).any (·.1) = false := by rfl) : PE X (.Call (.Name x p) (e :: es) [] pos) (tCB r t) := by
  intro pins s σ H Q I h
  refine wpAny_Call_Name_kw (ld_blt I hg hm hv ?_ hn hdb)
  exact PyProof.Rows.callWith_builtin1 (thn (ha pos pins s σ H _ I h) fun us s1 ⟨vs, H1, I1, r1, q1⟩ => hc pins s1 σ H1 vs us Q I1 r1 q1) he hpl
/-- T(e, ..), T a built-in type -/
theorem pe_callTy (hc : CallR X (.type T) r) (hg : Gl X x) (hm : X.mg x = none) (hv : bootBuiltins x = some (.type T)) (ha : PA X (e :: es) t) (hn : x ≠ "__name__" := by decide) (hdb : (x == ("__debug__" : Str)) = false := by decide)
    (he : starEach (e :: es) X.env = (false, eval e X.env) :: starEach es X.env := by rfl) (hpl : (backTo pos (starEach es X.env)).any (·.1) = false := by rfl) : PE X (.Call (.Name x p) (e :: es) [] pos) (tCB r t) := by
  intro pins s σ H Q I h
  refine wpAny_Call_Name_kw (ld_blt I hg hm hv ?_ hn hdb)
  exact PyProof.Rows.callWith_type1 (thn (ha pos pins s σ H _ I h) fun us s1 ⟨vs, H1, I1, r1, q1⟩ => hc pins s1 σ H1 vs us Q I1 r1 q1) he hpl
end
end L2

namespace L2
open PySem PySem.Spec PyProof.Rows

/-! ### lists of pairs as tables -/
section
variable {κ : Type} [DecidableEq κ]
def valV (kvs : List (κ × V)) (k : κ) : Option V := (kvs.find? fun kv => decide (kv.1 = k)).map (·.2)
/-- in its place, or at the end -/
def putK (kvs : List (κ × V)) (k : κ) (v : V) : List (κ × V) :=
  if (kvs.any fun kv => decide (kv.1 = k)) = true then kvs.map (fun kv => if kv.1 = k then (kv.1, v) else kv) else kvs ++ [(k, v)]
def dropK (kvs : List (κ × V)) (k : κ) : List (κ × V) := kvs.filter fun kv => decide (kv.1 ≠ k)

theorem valV_pos {p : κ × V} {r : List (κ × V)} {k : κ} (e : p.1 = k) : valV (p :: r) k = some p.2 := by simp [valV, List.find?_cons, e]
theorem valV_neg {p : κ × V} {r : List (κ × V)} {k : κ} (e : ¬ p.1 = k) : valV (p :: r) k = valV r k := by simp [valV, List.find?_cons, e]
theorem valV_any (k : κ) : ∀ kvs : List (κ × V), (kvs.any fun kv => decide (kv.1 = k)) = (valV kvs k).isSome
  | [] => rfl
  | p :: r => by
    rw [List.any_cons]
    by_cases e : p.1 = k
    · simp only [valV_pos e, decide_eq_true e, Bool.true_or, Option.isSome_some]
    · rw [valV_neg e, decide_eq_false e, Bool.false_or]; exact valV_any k r
theorem length_putK (kvs : List (κ × V)) (k : κ) (v : V) : (putK kvs k v).length ≤ kvs.length + 1 := by
  unfold putK
  split
  · rw [List.length_map]; omega
  · rw [List.length_append, List.length_cons, List.length_nil]; omega
theorem RelO.isSome_eq {o : Option V} {u : Option Value} (r : RelO o u) : o.isSome = u.isSome := by
  cases o with
  | none => cases u with
    | none => rfl
    | some _ => exact (show False from r).elim
  | some _ => cases u with
    | none => exact (show False from r).elim
    | some _ => rfl
theorem RelO.getD {o : Option V} {u : Option Value} {d : V} {d' : Value} (r : RelO o u) (rd : RelV d d') : RelV (o.getD d) (u.getD d') := by
  cases o with
  | none => cases u with
    | none => exact rd
    | some _ => exact (show False from r).elim
  | some _ => cases u with
    | none => exact (show False from r).elim
    | some _ => exact r

/-- raw tables of the same keys -/
theorem KV.val {kvs : List (κ × V)} {vs : List (κ × Value)} (r : KV kvs vs) (k : κ) : RelO (valV kvs k) (valueAt vs k) := by
  unfold KV at r
  induction r with
  | nil => exact True.intro
  | @cons p q ps qs h t ih =>
    obtain ⟨h1, h2⟩ := h
    by_cases e : p.1 = k
    · have e' : q.1 = k := h1.symm.trans e
      have b : valueAt (q :: qs) k = some q.2 := by simp [valueAt, List.find?_cons, e']
      rw [valV_pos e, b]; exact h2
    · have e' : ¬ q.1 = k := fun z => e (h1.trans z)
      have b : valueAt (q :: qs) k = valueAt qs k := by simp [valueAt, List.find?_cons, e']
      rw [valV_neg e, b]; exact ih
theorem KV.any {kvs : List (κ × V)} {vs : List (κ × Value)} (r : KV kvs vs) (k : κ) : (kvs.any fun kv => decide (kv.1 = k)) = vs.any fun kv => decide (kv.1 = k) := by
  unfold KV at r
  induction r with
  | nil => rfl
  | cons h t ih => rw [List.any_cons, List.any_cons, ih, h.1]
theorem KV.repl {kvs : List (κ × V)} {vs : List (κ × Value)} (r : KV kvs vs) (k : κ) {y : V} {u : Value} (ry : RelV y u) :
    KV (kvs.map fun kv => if kv.1 = k then (kv.1, y) else kv) (vs.map fun kv => if kv.1 = k then (kv.1, u) else kv) := by
  unfold KV at r ⊢
  induction r with
  | nil => exact .nil
  | @cons p q ps qs h t ih =>
    rw [List.map_cons, List.map_cons]
    refine .cons ?_ ih
    obtain ⟨h1, h2⟩ := h
    by_cases e : p.1 = k
    · rw [if_pos e, if_pos (h1.symm.trans e)]; exact ⟨h1, ry⟩
    · rw [if_neg e, if_neg (fun z => e (h1.trans z))]; exact ⟨h1, h2⟩
theorem KV.put {kvs : List (κ × V)} {vs : List (κ × Value)} (r : KV kvs vs) (k : κ) {y : V} {u : Value} (ry : RelV y u) : KV (putK kvs k y) (stored vs k u) := by
  unfold putK stored
  rw [r.any k]
  by_cases e : (vs.any fun kv => decide (kv.1 = k)) = true
  · rw [if_pos e, if_pos e]; exact r.repl k ry
  · rw [if_neg e, if_neg e]; exact Paired.snoc r ⟨rfl, ry⟩
theorem KV.drop {kvs : List (κ × V)} {vs : List (κ × Value)} (r : KV kvs vs) (k : κ) : KV (dropK kvs k) (without vs k) := by
  unfold KV at r ⊢
  unfold dropK without
  induction r with
  | nil => exact .nil
  | @cons p q ps qs h t ih =>
    obtain ⟨h1, h2⟩ := h
    rw [List.filter_cons, List.filter_cons]
    by_cases e : p.1 = k
    · have a : ¬ decide (p.1 ≠ k) = true := by simp [e]
      have b : ¬ decide (q.1 ≠ k) = true := by simp [h1.symm.trans e]
      rw [if_neg a, if_neg b]; exact ih
    · have e' : ¬ q.1 = k := fun z => e (h1.trans z)
      have a : decide (p.1 ≠ k) = true := by simp [e]
      have b : decide (q.1 ≠ k) = true := by simp [e']
      rw [if_pos a, if_pos b]; exact .cons ⟨h1, h2⟩ ih
theorem KV.keys {kvs : List (κ × V)} {vs : List (κ × Value)} (r : KV kvs vs) : kvs.map (·.1) = vs.map (·.1) := by
  unfold KV at r
  induction r with
  | nil => rfl
  | cons h t ih => rw [List.map_cons, List.map_cons, ih, h.1]
theorem KV.length {kvs : List (κ × V)} {vs : List (κ × Value)} (r : KV kvs vs) : kvs.length = vs.length := Paired.length r
theorem dropK_le (kvs : List (κ × V)) (k : κ) : (dropK kvs k).length ≤ kvs.length := List.length_filter_le _ _
end


/-! ### a tracked dict, its keys ints and texts or tuples of these -/
theorem kV_is {P : Program} {w : World} {k : Key} {u : Value} (r : RelV (kV k) u) : (mixKind P w).is k u = true := by
  cases k with
  | inl i => obtain ⟨t, e⟩ := (show ∃ t, u = Value.int i t from r); subst e; exact mixKind_int P w i t
  | inr x => obtain ⟨t, e⟩ := (show ∃ t, u = Value.str x t from r); subst e; exact mixKind_str P w x t
theorem items_are {P : Program} {w : World} : ∀ {ks : List Key} {us : List Value}, Vals (ks.map kV) us → ItemsAre (mixKind P w) ks us
  | [], _, r => by rw [List.map_nil] at r; cases r; exact .nil
  | k :: ks, _, r => by
    rw [List.map_cons] at r
    cases r with
    | cons h t => exact .cons (kV_is h) (items_are t)

/-- raw entries of a dict with tuple keys -/
abbrev KT (H : Hp) : List (List Key × V) → List (List Key × Addr × Value) → Prop := Paired fun p q => p.1 = q.1 ∧ H q.2.1 = some (.tup (p.1.map kV)) ∧ RelV p.2 q.2.2
theorem KT.val {H : Hp} {kvs : List (List Key × V)} {xs : List (List Key × Addr × Value)} (r : KT H kvs xs) (k : List Key) : RelO (valV kvs k) ((atKey xs k).map (·.2)) := by
  induction r with
  | nil => exact True.intro
  | @cons p q ps qs h t ih =>
    obtain ⟨h1, _, h2⟩ := h
    by_cases e : p.1 = k
    · have e' : q.1 = k := h1.symm.trans e
      have b : atKey (q :: qs) k = some q.2 := by simp [atKey, List.find?_cons, e']
      rw [valV_pos e, b]; exact h2
    · have e' : ¬ q.1 = k := fun z => e (h1.trans z)
      have b : atKey (q :: qs) k = atKey qs k := by simp [atKey, List.find?_cons, e']
      rw [valV_neg e, b]; exact ih
theorem KT.repl {H : Hp} {kvs : List (List Key × V)} {xs : List (List Key × Addr × Value)} (r : KT H kvs xs) (k : List Key) {y : V} {u : Value} (ry : RelV y u) :
    KT H (kvs.map fun kv => if kv.1 = k then (kv.1, y) else kv) (xs.map (putAt k u)) := by
  induction r with
  | nil => exact .nil
  | @cons p q ps qs h t ih =>
    rw [List.map_cons, List.map_cons]
    refine .cons ?_ ih
    obtain ⟨h1, h2, h3⟩ := h
    unfold putAt
    by_cases e : p.1 = k
    · rw [if_pos e, if_pos (h1.symm.trans e)]; exact ⟨h1, h2, ry⟩
    · rw [if_neg e, if_neg (fun z => e (h1.trans z))]; exact ⟨h1, h2, h3⟩
theorem KT.put {H : Hp} {kvs : List (List Key × V)} {xs : List (List Key × Addr × Value)} (r : KT H kvs xs) (k : List Key) {b : Addr} {y : V} {u : Value} (hb : H b = some (.tup (k.map kV))) (ry : RelV y u) :
    KT H (putK kvs k y) (storedH xs k b u) := by
  have e : (kvs.any fun kv => decide (kv.1 = k)) = (atKey xs k).isSome := by
    rw [valV_any, (r.val k).isSome_eq, Option.isSome_map]
  unfold putK storedH
  rw [e]
  by_cases q : (atKey xs k).isSome = true
  · rw [if_pos q, if_pos q]; exact r.repl k ry
  · rw [if_neg q, if_neg q]; exact Paired.snoc r ⟨rfl, hb, ry⟩
theorem KT.keeps {H H' : Hp} {kvs : List (List Key × V)} {xs : List (List Key × Addr × Value)} (r : KT H kvs xs) (ht : ∀ b ys, H b = some (.tup ys) → H' b = some (.tup ys)) : KT H' kvs xs :=
  Paired.mapP r fun _ _ z => ⟨z.1, ht _ _ z.2.1, z.2.2⟩

section
variable {P : Program} {w : World} {H : Hp} {h : Heap} {a : Addr}
theorem rd_of {u : HO} (ok : HOk P w H h) (e : Rd H a u) : ObjOk P w H h a u := e.ok ok
theorem dk_rd {kvs : List (Key × V)} (ok : HOk P w H h) (e : Rd H a (.dK kvs)) : kvs.length ≤ sizeLine ∧ (a == sysModules) = false ∧ ∃ vs, KV kvs vs ∧ h.DictOf (mixKind P w) a vs :=
  show ObjOk P w H h a (.dK kvs) from rd_of ok e
theorem dk_of {kvs : List (Key × V)} (ok : HOk P w H h) (e : H a = some (.dK kvs)) : kvs.length ≤ sizeLine ∧ (a == sysModules) = false ∧ ∃ vs, KV kvs vs ∧ h.DictOf (mixKind P w) a vs := dk_rd ok (.inl e)
/-- a tracked tuple of ints and texts is a key -/
theorem key_of {ks : List Key} (ok : HOk P w H h) (e : H a = some (.tup (ks.map kV))) : (tupleKind (mixKind P w)).is h ks a := by
  obtain ⟨_, its, r, o, h1, h2, n, h3⟩ := (show ObjOk P w H h a (.tup (ks.map kV)) from ok a _ e)
  exact ⟨o, its.toArray, n, h1, h2, h3, by simpa using items_are r⟩
theorem dt_rd {kvs : List (List Key × V)} (ok : HOk P w H h) (e : Rd H a (.dT kvs)) : kvs.length ≤ sizeLine ∧ (a == sysModules) = false ∧
    ∃ xs, KT H kvs xs ∧ h.DictOfH (tupleKind (mixKind P w)) a xs := by
  obtain ⟨z, y, xs, r, o, es, ep, h1, h2, h3, h4, h5⟩ := (show ObjOk P w H h a (.dT kvs) from rd_of ok e)
  refine ⟨z, y, xs, r, o, es, ep, h1, h2, h3, h4, fun x hx => ?_, h5⟩
  have all : ∀ {l : List (List Key × V)} {m : List (List Key × Addr × Value)}, KT H l m → ∀ x ∈ m, (tupleKind (mixKind P w)).is h x.1 x.2.1 := by
    intro l m q
    induction q with
    | nil => intro x hx; exact nomatch hx
    | @cons p q ps qs hq t ih =>
      intro x hx
      rcases List.mem_cons.mp hx with e | hx
      · subst e
        exact key_of ok (by rw [← hq.1]; exact hq.2.1)
      · exact ih x hx
  exact all r x hx
theorem dt_of {kvs : List (List Key × V)} (ok : HOk P w H h) (e : H a = some (.dT kvs)) : kvs.length ≤ sizeLine ∧ (a == sysModules) = false ∧
    ∃ xs, KT H kvs xs ∧ h.DictOfH (tupleKind (mixKind P w)) a xs := dt_rd ok (.inl e)
end

/-- what the dict at a holds at the key y -/
def DGet (H : Hp) (a : Addr) (y : V) (r : Option V) : Prop :=
  (∃ kvs k, Rd H a (.dK kvs) ∧ y = kV k ∧ r = valV kvs k) ∨ ∃ kvs k b, Rd H a (.dT kvs) ∧ y = .ref b ∧ H b = some (.tup (k.map kV)) ∧ r = valV kvs k
/-- the heap behind a[y] = v -/
def DPut (H : Hp) (a : Addr) (y v : V) (H' : Hp) : Prop :=
  (∃ kvs k, H a = some (.dK kvs) ∧ y = kV k ∧ kvs.length < sizeLine ∧ H' = upd H a (.dK (putK kvs k v))) ∨
  ∃ kvs k b, H a = some (.dT kvs) ∧ y = .ref b ∧ H b = some (.tup (k.map kV)) ∧ kvs.length < sizeLine ∧ H' = upd H a (.dT (putK kvs k v))
theorem DGet.k {H : Hp} {a : Addr} {kvs : List (Key × V)} {k : Key} (e : H a = some (.dK kvs)) : DGet H a (kV k) (valV kvs k) := .inl ⟨kvs, k, .inl e, rfl, rfl⟩
theorem DGet.t {H : Hp} {a b : Addr} {kvs : List (List Key × V)} {k : List Key} (e : H a = some (.dT kvs)) (eb : H b = some (.tup (k.map kV))) : DGet H a (.ref b) (valV kvs k) := .inr ⟨kvs, k, b, .inl e, rfl, eb, rfl⟩
theorem DPut.k {H : Hp} {a : Addr} {kvs : List (Key × V)} {k : Key} {v : V} (e : H a = some (.dK kvs)) (hl : kvs.length < sizeLine) : DPut H a (kV k) v (upd H a (.dK (putK kvs k v))) := .inl ⟨kvs, k, e, rfl, hl, rfl⟩
theorem DPut.t {H : Hp} {a b : Addr} {kvs : List (List Key × V)} {k : List Key} {v : V} (e : H a = some (.dT kvs)) (eb : H b = some (.tup (k.map kV))) (hl : kvs.length < sizeLine) :
    DPut H a (.ref b) v (upd H a (.dT (putK kvs k v))) := .inr ⟨kvs, k, b, e, rfl, eb, hl, rfl⟩


section
variable {X : Cx} {pins : List (Addr × Obj)} {σ : St} {H : Hp} {s : Shared} {a : Addr} {y v : V} {u r : Value} {o : Option V} {A : Around} {E : Value → Shared → Prop}

theorem Inv.big (I : Inv X pins σ H s) : sysModules < s.heap.objs.size := by
  have h : mainGlobals < s.heap.objs.size := (I.mod.glob.keeps I.bk).lt
  exact Nat.lt_trans (by decide) h

/-- d[y], there -/
theorem d_getItem {Q : Value → Shared → Prop} (hu : A.units + 1 < cLine) (I : Inv X pins σ H s) (g : DGet H a y (some v)) (ry : RelV y u) (h : ∀ w' s', Inv X pins σ H s' → RelV v w' → Q w' s') :
    wpAny (model X.prog X.w) A (getItem (.ref a) u) Q E s := by
  rcases g with ⟨kvs, k, e, ey, l⟩ | ⟨kvs, k, b, e, ey, eb, l⟩
  · subst ey
    obtain ⟨z, hd, vs, rel, dd⟩ := dk_rd I.hok e
    obtain ⟨w', hw, rw'⟩ := RelO.some_of (v := v) (o := valueAt vs k) (by rw [l]; exact rel.val k)
    exact wpAny_getItem_of (kV_is ry) dd.mapOf hw (h w' _ (I.tok _) rw')
  · subst ey
    cases (show u = Value.ref b from ry)
    obtain ⟨z, hd, xs, rel, dd⟩ := dt_rd I.hok e
    obtain ⟨w', hw, rw'⟩ := RelO.some_of (v := v) (o := (atKey xs k).map (·.2)) (by rw [l]; exact rel.val k)
    obtain ⟨p, hp, hp2⟩ := Option.map_eq_some_iff.mp hw
    refine wpAny_getItem_heap (tupleKind_room_in1 hu) (key_of I.hok eb) dd hp ?_
    rw [hp2]
    exact h w' _ (I.tok _) rw'
/-- y in d -/
theorem d_in {Q : Value → Shared → Prop} (hu : A.units + 1 < cLine) (I : Inv X pins σ H s) (g : DGet H a y o) (ry : RelV y u) (h : ∀ s', Inv X pins σ H s' → Q (.bool o.isSome) s') :
    wpAny (model X.prog X.w) A (compareOp .In u (.ref a)) Q E s := by
  rcases g with ⟨kvs, k, e, ey, l⟩ | ⟨kvs, k, b, e, ey, eb, l⟩
  · subst ey
    obtain ⟨z, hd, vs, rel, dd⟩ := dk_rd I.hok e
    refine wpAny_in_of (kV_is ry) hd dd.mapOf ?_
    rw [← (rel.val k).isSome_eq, ← l]
    exact h _ (I.tok _)
  · subst ey
    cases (show u = Value.ref b from ry)
    obtain ⟨z, hd, xs, rel, dd⟩ := dt_rd I.hok e
    refine wpAny_in_heap (tupleKind_room_in1 hu) (key_of I.hok eb) hd dd ?_
    have q := (rel.val k).isSome_eq
    rw [Option.isSome_map] at q
    rw [← q, ← l]
    exact h _ (I.tok _)
theorem d_notIn {Q : Value → Shared → Prop} (hu : A.units + 1 < cLine) (I : Inv X pins σ H s) (g : DGet H a y o) (ry : RelV y u) (h : ∀ s', Inv X pins σ H s' → Q (.bool (!o.isSome)) s') :
    wpAny (model X.prog X.w) A (compareOp .NotIn u (.ref a)) Q E s := by
  rcases g with ⟨kvs, k, e, ey, l⟩ | ⟨kvs, k, b, e, ey, eb, l⟩
  · subst ey
    obtain ⟨z, hd, vs, rel, dd⟩ := dk_rd I.hok e
    refine wpAny_notIn_of (kV_is ry) hd dd.mapOf ?_
    rw [← (rel.val k).isSome_eq, ← l]
    exact h _ (I.tok _)
  · subst ey
    cases (show u = Value.ref b from ry)
    obtain ⟨z, hd, xs, rel, dd⟩ := dt_rd I.hok e
    refine wpAny_notIn_heap (tupleKind_room_in1 hu) (key_of I.hok eb) hd dd ?_
    have q := (rel.val k).isSome_eq
    rw [Option.isSome_map] at q
    rw [← q, ← l]
    exact h _ (I.tok _)
/-- a dict's object is replaced -/
theorem d_write {h' : Heap} {t' : Nat} {ob : HO} (I : Inv X pins σ H s) (mu : Mut (H a)) (hs : Heap.SameBut a s.heap h') (he : ∃ q, h'.get? a = some q) (new : ObjOk X.prog X.w (upd H a ob) h' a ob) :
    Inv X pins σ (upd H a ob) { s with heap := h', toks := t' } :=
  I.write (x := a) (e := a) mu (.inl rfl) (fun b q hb z => (hs.2 b hb).trans z) he new
theorem dk_new {P : Program} {w : World} {H' : Hp} {h' : Heap} {kvs : List (Key × V)} {vs : List (Key × Value)} (z : kvs.length ≤ sizeLine) (hd : (a == sysModules) = false) (rel : KV kvs vs) (dd : h'.DictOf (mixKind P w) a vs) :
    ObjOk P w H' h' a (.dK kvs) := ⟨z, hd, vs, rel, dd⟩
/-- d[y] = v -/
theorem d_setItem {H' : Hp} {Q : Unit → Shared → Prop} (hu : A.units + 1 < cLine) (I : Inv X pins σ H s) (g : DPut H a y v H') (ry : RelV y u) (rv : RelV v r) (h : ∀ s', Inv X pins σ H' s' → Q () s') :
    wpAny (model X.prog X.w) A (setItem (.ref a) u r) Q E s := by
  rcases g with ⟨kvs, k, e, ey, l, eH⟩ | ⟨kvs, k, b, e, ey, eb, l, eH⟩
  · subst ey eH
    obtain ⟨z, hd, vs, rel, dd⟩ := dk_of I.hok e
    have hz : vs.length ≤ sizeLine := by rw [← rel.length]; exact z
    have hl : (putK kvs k v).length ≤ sizeLine := by have := length_putK kvs k v; omega
    refine wpAny_setItem_pairs (hsz := hz) (kV_is ry) dd fun h' dd' hs => h _ ?_
    have he : ∃ q, h'.get? a = some q := let ⟨q, _, _, hq, _⟩ := dd'; ⟨q, hq⟩
    exact d_write I (by rw [e]; exact True.intro) hs he (dk_new hl hd (rel.put k rv) dd')
  · subst ey eH
    cases (show u = Value.ref b from ry)
    obtain ⟨z, hd, xs, rel, dd⟩ := dt_of I.hok e
    have hz : xs.length ≤ sizeLine := by rw [← Paired.length rel]; exact z
    have hl : (putK kvs k v).length ≤ sizeLine := by have := length_putK kvs k v; omega
    refine wpAny_setItem_heap (hsz := hz) (tupleKind_room_in1 hu) (key_of I.hok eb) dd fun h' dd' hs => h _ ?_
    obtain ⟨q, es, ep, hq, h2, h3, h4, _, h5⟩ := dd'
    refine d_write I (by rw [e]; exact True.intro) hs ⟨q, hq⟩ ⟨hl, hd, _, (rel.put k eb rv).keeps fun c ys ec => ?_, q, es, ep, hq, h2, h3, h4, h5⟩
    rw [upd_ne (ne_of ec e (fun z => nomatch z))]
    exact ec
end

section
variable {X : Cx} {pins : List (Addr × Obj)} {σ : St} {H : Hp} {s : Shared} {a : Addr} {kvs : List (Key × V)} {k : Key} {u : Value} {A : Around} {E : Value → Shared → Prop}
/-- del d[k] -/
theorem d_delItem {Q : Unit → Shared → Prop} (I : Inv X pins σ H s) (e : H a = some (.dK kvs)) (ry : RelV (kV k) u) (l : (valV kvs k).isSome = true) (h : ∀ s', Inv X pins σ (upd H a (.dK (dropK kvs k))) s' → Q () s') :
    wpAny (model X.prog X.w) A (delItem (.ref a) u) Q E s := by
  obtain ⟨z, hd, vs, rel, dd⟩ := dk_of I.hok e
  refine wpAny_delItem_slot dd.typeIs (by decide) PySem.F.slot_dict_delitem
    (call_meetsIn PySem.F.slot_dict_delitem dd.typeIs PySem.F.entry_dict_delitem (PySem.F.args_dict_delitem_2 _ _) (meets_dict_delitem_pairs (mixKind X.prog X.w) a (kV_is ry)) ⟨vs, dd, by rw [← rel.length]; exact z, by rw [← (rel.val k).isSome_eq]; exact l, fun h' dd' hs => h _ ?_⟩)
  have he : ∃ q, h'.get? a = some q := let ⟨q, _, _, hq, _⟩ := dd'; ⟨q, hq⟩
  exact d_write I (by rw [e]; exact True.intro) hs he (dk_new (Nat.le_trans (dropK_le kvs k) z) hd (rel.drop k) dd')
/-- d.pop(k[, x]), there -/
theorem d_pop {v : V} {more : List Value} {Q : Value → Shared → Prop} (I : Inv X pins σ H s) (e : H a = some (.dK kvs)) (ry : RelV (kV k) u) (l : valV kvs k = some v) (hm : more = [] ∨ ∃ x, more = [x])
    (h : ∀ w' s', Inv X pins σ (upd H a (.dK (dropK kvs k))) s' → RelV v w' → Q w' s') : wpAny (model X.prog X.w) A (call (.builtin "dict.pop") (.ref a :: u :: more)) Q E s := by
  obtain ⟨z, hd, vs, rel, dd⟩ := dk_of I.hok e
  obtain ⟨w', hw, rw'⟩ := RelO.some_of (v := v) (o := valueAt vs k) (by rw [← l]; exact rel.val k)
  have hp : (keyPart u).isSome = true := by
    cases k with
    | inl i => obtain ⟨t, q⟩ := (show ∃ t, u = Value.int i t from ry); subst q; rfl
    | inr x => obtain ⟨t, q⟩ := (show ∃ t, u = Value.str x t from ry); subst q; rfl
  have ha : argsOk "dict.pop" ⟨.ref a :: u :: more, []⟩ := by
    rcases hm with q | ⟨x, q⟩
    · subst q; exact PySem.F.args_dict_pop_2 _ _
    · subst q; exact PySem.F.args_dict_pop_3 _ _ _
  refine call_meetsIn PySem.F.slot_dict_pop dd.typeIs PySem.F.entry_dict_pop ha (meets_dict_pop_there (mixKind X.prog X.w) a (kV_is ry) more hm hp)
    ⟨vs, w', dd, by rw [← rel.length]; exact z, hw, fun h' dd' hs => h w' _ ?_ rw'⟩
  have he : ∃ q, h'.get? a = some q := let ⟨q, _, _, hq, _⟩ := dd'; ⟨q, hq⟩
  exact d_write I (by rw [e]; exact True.intro) hs he (dk_new (Nat.le_trans (dropK_le kvs k) z) hd (rel.drop k) dd')
/-- len(d) -/
theorem d_len {Q : Value → Shared → Prop} (I : Inv X pins σ H s) (e : Rd H a (.dK kvs)) (h : ∀ t s', Inv X pins σ H s' → Q (.int kvs.length t) s') : wpAny (model X.prog X.w) A (call (.builtin "len") [.ref a]) Q E s := by
  obtain ⟨z, hd, vs, rel, dd⟩ := dk_rd I.hok e
  refine call_len_dict hd dd (by rw [← rel.length]; rw [sizeLine_eq] at z; omega) ?_
  rw [← rel.length]
  exact h _ _ (I.tok _)
end


/-! ### readings and rules -/
/-- the element of a subscription, not a slice -/
def NoSl (i : Expr) : Prop := ∀ ov iv, subscripted i false ov iv = operate [ov, iv] (getItem ov iv)
theorem subD_of {prog : Program} {w : World} {A : Around} {E : Value → Shared → Prop} {s : Shared} {env : Env} {value slice : Expr} {pos : Pos} {T id : String} {Q : Value → Shared → Prop}
    (hl : typeLookup (.type T) "__getitem__" = pure (some (.builtin id))) (hs : NoSl slice)
    (h : wpAny (model prog w) A (eval value env) (fun o s₁ => wpAny (model prog w) A (eval slice env) (fun i s₂ => s₂.TypeIs o T ∧ wpAny (model prog w) A (getItem o i) Q E s₂) E s₁) E s) :
    wpAny (model prog w) A (eval (.Subscript value slice pos) env) Q E s := by
  refine Subscript_ (wpAny_mono h (fun o s₁ h₁ => wpAny_mono h₁ (fun i s₂ h₂ => ?_) fun _ _ x => x) fun _ _ x => x)
  obtain ⟨hT, h₂⟩ := h₂
  unfold subscriptTail
  refine wpAny_bind ?_
  rw [getitemInPython_of_ne hT.not_modules]
  refine wpAny_bind (wpAny_specialOf hT hl ?_)
  have fin : wpAny (model prog w) A (subscripted slice false o i) (fun r s₃ => wpAny (model prog w) A (letTemporaryGo value o r >>= fun _ => pure r) Q E s₃) E s₂ := by
    rw [hs o i]
    exact wpAny_operating (wpAny_mono h₂ (fun r s₃ h₃ => wpAny_bind (wpAny_letTemporaryGo (wpAny_pure h₃))) fun _ _ x => x)
  first
    | exact wpAny_pure (wpAny_bind fin)
    | exact wpAny_bind (wpAny_pure (wpAny_bind fin))
    | exact wpAny_bind fin

theorem dict_typeIs {X : Cx} {pins : List (Addr × Obj)} {σ : St} {H : Hp} {s : Shared} {a : Addr} {y : V} {o : Option V} (I : Inv X pins σ H s) (g : DGet H a y o) : s.TypeIs (.ref a) "dict" := by
  rcases g with ⟨kvs, k, e, _, _⟩ | ⟨kvs, k, b, e, _, _, _⟩
  · obtain ⟨_, _, vs, _, dd⟩ := dk_rd I.hok e
    exact dd.typeIs
  · obtain ⟨_, _, xs, _, dd⟩ := dt_rd I.hok e
    exact dd.typeIs
/-- d[y] -/
def tDGet (td ty : TE) : TE := fun σ H Q => td σ H fun x H1 => ty σ H1 fun y H2 => ∃ a v, x = .ref a ∧ DGet H2 a y (some v) ∧ Q v H2
/-- y in d, y not in d -/
def tDIn (ty td : TE) : TE := fun σ H Q => ty σ H fun y H1 => td σ H1 fun x H2 => ∃ a o, x = .ref a ∧ DGet H2 a y o ∧ Q (.bl o.isSome) H2
def tDNotIn (ty td : TE) : TE := fun σ H Q => ty σ H fun y H1 => td σ H1 fun x H2 => ∃ a o, x = .ref a ∧ DGet H2 a y o ∧ Q (.bl (!o.isSome)) H2
/-- d[y] = v -/
def sDPut (td ty tv : TE) : TS := fun D σ H => tv σ H fun v H1 => td σ H1 fun x H2 => ty σ H2 fun y H3 => ∃ a H4, x = .ref a ∧ DPut H3 a y v H4 ∧ D.nx σ H4
section
variable {X : Cx} {o i e value : Expr} {pos pos' tpos : Pos} {td ty tv : TE}
theorem pe_dget (hu : X.A.units + 1 < cLine) (ho : PE X o td) (hi : PE X i ty) (hs : NoSl i) : PE X (.Subscript o i pos) (tDGet td ty) := by
  intro pins s σ H Q I h
  refine subD_of PySem.F.slot_dict_getitem.lookup hs (thn (ho pins s σ H _ I h) fun u s1 ⟨x, H1, I1, rx, q1⟩ => thn (hi pins s1 σ H1 _ I1 q1) fun iv s2 ⟨y, H2, I2, ry, a, v, ex, g, q2⟩ => ?_)
  subst ex
  obtain rfl : u = Value.ref a := rx
  exact ⟨dict_typeIs I2 g, d_getItem hu I2 g ry fun w' s3 I3 rw' => ⟨v, H2, I3, rw', q2⟩⟩
theorem pc_din (hu : X.A.units + 1 < cLine) (hi : PE X i ty) (ho : PE X o td) : PC X .In i o (tDIn ty td) := by
  intro pins s σ H Q I h
  refine thn (hi pins s σ H _ I h) fun iv s1 ⟨y, H1, I1, ry, q1⟩ => thn (ho pins s1 σ H1 _ I1 q1) fun u s2 ⟨x, H2, I2, rx, a, ov, ex, g, q2⟩ => ?_
  subst ex
  obtain rfl : u = Value.ref a := rx
  exact d_in hu I2 g ry fun s3 I3 => ⟨.bl ov.isSome, H2, I3, rfl, q2⟩
theorem pc_dnotin (hu : X.A.units + 1 < cLine) (hi : PE X i ty) (ho : PE X o td) : PC X .NotIn i o (tDNotIn ty td) := by
  intro pins s σ H Q I h
  refine thn (hi pins s σ H _ I h) fun iv s1 ⟨y, H1, I1, ry, q1⟩ => thn (ho pins s1 σ H1 _ I1 q1) fun u s2 ⟨x, H2, I2, rx, a, ov, ex, g, q2⟩ => ?_
  subst ex
  obtain rfl : u = Value.ref a := rx
  exact d_notIn hu I2 g ry fun s3 I3 => ⟨.bl (!ov.isSome), H2, I3, rfl, q2⟩
theorem ps_dput (hu : X.A.units + 1 < cLine) (ho : PE X o td) (hi : PE X i ty) (hv : PE X value tv) (hs : swapsWith value (some (.Subscript o i pos')) pos.line X.env = pure false) :
    PS X (.Assign [.Subscript o i pos'] value pos) (sDPut td ty tv) := by
  intro pins s σ H D I h
  refine wpAny_Assign_Subscript (thn (hv pins s σ H _ I h) fun r s1 ⟨v, H1, I1, rv, q1⟩ => thn (ho pins s1 σ H1 _ I1 q1) fun u s2 ⟨x, H2, I2, rx, q2⟩ => thn (hi pins s2 σ H2 _ I2 q2) fun iv s3 ⟨y, H3, I3, ry, a, H4, ex, g, q3⟩ => ?_) hs
  subst ex
  obtain rfl : u = Value.ref a := rx
  exact d_setItem hu I3 g ry rv fun s4 I4 => ⟨σ, H4, I4, q3⟩
end


/-! ### displays -/
theorem dk_empty {P : Program} {w : World} {H : Hp} (h : Heap) (hb : sysModules < h.objs.size) : ObjOk P w H (h.push { cls := .type "dict", data := .dict #[] }) h.objs.size (.dK []) :=
  ⟨Nat.zero_le _, beq_eq_false_iff_ne.mpr (Ne.symm (Nat.ne_of_lt hb)), [], .nil, Heap.DictOf.new h⟩
/-- {}, to be a dict of the kind that is wanted -/
def tDNewK : TE := fun _ H Q => ∀ p, H p = none → Q (.ref p) (upd H p (.dK []))
section
variable {X : Cx} {pos : Pos}
theorem pe_dnewK : PE X (.Dict [] [] pos) tDNewK := fun pins s σ H Q I h =>
  wpAny_Dict_empty ⟨.ref s.heap.objs.size, _, I.laid (a := s.heap.objs.size) (o := .dK []) (t' := s.toks) (fun _ _ q => Heap.get?_push_of_some _ q) (Nat.le_refl _) (dk_empty s.heap I.big), rfl, h _ (I.hok.fresh (Nat.le_refl _))⟩
end

/-! ### methods -/
/-- a method call o.m(e) of a built-in, with one argument: what must be seen of the text -/
structure M1 (X : Cx) (o : Expr) (m : Str) (apos : Pos) (e : Expr) (cpos : Pos) : Prop where
  base : attributeBase o m X.env (eval o X.env) = eval o X.env
  few : ((backTo cpos (starEach [e] X.env)).all (fun x => !x.1) && (backToKw cpos (keywordEach [] X.env)).all (fun x => x.1.isSome)
    && decide (([e] : List Expr).length + ([] : List Keyword).length + (if ([] : List Keyword).isEmpty then 0 else 1) < 30)) = true
  line : (apos.endLine == cpos.line) = true
  trees : backTo cpos (starEach [e] X.env) = [(false, eval e X.env)]
structure M2 (X : Cx) (o : Expr) (m : Str) (apos : Pos) (e f : Expr) (cpos : Pos) : Prop where
  base : attributeBase o m X.env (eval o X.env) = eval o X.env
  few : ((backTo cpos (starEach [e, f] X.env)).all (fun x => !x.1) && (backToKw cpos (keywordEach [] X.env)).all (fun x => x.1.isSome)
    && decide (([e, f] : List Expr).length + ([] : List Keyword).length + (if ([] : List Keyword).isEmpty then 0 else 1) < 30)) = true
  line : (apos.endLine == cpos.line) = true
  trees : backTo cpos (starEach [e, f] X.env) = [(false, eval e X.env), (false, eval f X.env)]

/-- a is a dict, whatever its keys -/
def IsD (H : Hp) (a : Addr) : Prop := (∃ kvs, Rd H a (.dK kvs)) ∨ ∃ kvs, Rd H a (.dT kvs)
theorem isD_at {X : Cx} {pins : List (Addr × Obj)} {σ : St} {H : Hp} {s : Shared} {a : Addr} (I : Inv X pins σ H s) (d : IsD H a) :
    s.TypeIs (.ref a) "dict" ∧ (∀ b, Value.ref a = .ref b → ∃ ob, s.heap.get? b = some ob ∧ ob.dict = none) ∧ (a == sysModules) = false := by
  rcases d with ⟨kvs, e⟩ | ⟨kvs, e⟩
  · obtain ⟨_, hd, vs, _, dd⟩ := dk_rd I.hok e
    refine ⟨dd.typeIs, fun b q => ?_, hd⟩
    cases q
    obtain ⟨ob, _, _, h1, h2, _⟩ := dd
    exact ⟨ob, h1, h2.2.1⟩
  · obtain ⟨_, hd, xs, _, dd⟩ := dt_rd I.hok e
    refine ⟨dd.typeIs, fun b q => ?_, hd⟩
    cases q
    obtain ⟨ob, _, _, h1, h2, _⟩ := dd
    exact ⟨ob, h1, h2.2.1⟩

section
variable {X : Cx} {pins : List (Addr × Obj)} {σ : St} {H : Hp} {s : Shared} {a : Addr} {y d : V} {u r : Value} {o : Option V} {A : Around} {E : Value → Shared → Prop}
end

/-- d.pop(k): there; d.pop(k, x): there or not -/
def tDPop1 (td ty : TE) : TE := fun σ H Q => td σ H fun x H1 => ∃ a, x = .ref a ∧ IsD H1 a ∧ ty σ H1 fun y H2 => ∃ kvs k v, H2 a = some (.dK kvs) ∧ y = kV k ∧ valV kvs k = some v ∧ Q v (upd H2 a (.dK (dropK kvs k)))
section
variable {X : Cx} {o e f : Expr} {apos cpos : Pos} {td ty tx : TE}
theorem pe_dpop1 (ho : PE X o td) (he : PE X e ty) (m : M1 X o "pop" apos e cpos) : PE X (.Call (.Attribute o "pop" apos) [e] [] cpos) (tDPop1 td ty) := by
  intro pins s σ H Q I h
  refine wpAny_Call_method m.base m.few m.line PySem.F.plainAttrs_dict PySem.F.slot_dict_pop PySem.F.type_dict_pop (thn (ho pins s σ H _ I h) fun u s1 ⟨x, H1, I1, rx, a, ex, d, q1⟩ => ?_)
  subst ex
  obtain rfl : u = Value.ref a := rx
  obtain ⟨t1, t2, _⟩ := isD_at I1 d
  refine ⟨t1, t2, ?_⟩
  rw [m.trees]
  refine Calls.callWith_builtin rfl (Calls.evalArgs_plain (Calls.spliced_cons (thn (he pins s1 σ H1 _ I1 q1) fun iv s2 ⟨y, H2, I2, ry, kvs, k, v, ea, ey, l, q2⟩ => Calls.spliced_nil ?_)))
  subst ey
  exact d_pop I2 ea ry l (.inl rfl) fun w' s3 I3 rw' => ⟨v, _, I3, rw', q2⟩
end

/-! ### dict(d): a copy -/
section
variable {X : Cx} {pins : List (Addr × Obj)} {σ : St} {H : Hp} {s : Shared} {a : Addr} {kvs : List (Key × V)} {A : Around} {E : Value → Shared → Prop}
end


section
variable {X : Cx} {pins : List (Addr × Obj)} {σ : St} {H : Hp} {s : Shared} {a : Addr} {y : V} {u : Value} {A : Around} {E : Value → Shared → Prop}
end
end L2

namespace HT
open PySem PyProof.Rows

section
open PySem.SeqAt
open PySem.AutoSeq1 (wpAny_loadPart')
open PySem.MeetsSeq PySem.MeetsSeq2 PySem.MeetsSeq3

end

section
variable {prog : Program} {w : World} {A : Around} {E : Value → Shared → Prop} {s : Shared}

/-! ### t[a:b], not the whole -/
/-- a slice's bound as a place among n (d where it is left out) -/
def sIx (n d : Nat) : Option Int → Nat
  | none => d
  | some v => if v < 0 then (v + (n : Int)).toNat else min v.toNat n
end
end HT

namespace L2
open PySem PySem.Spec PyProof.Rows

/-! ### the parts of a slice -/
abbrev TO := St → Hp → (Option Int → Hp → Prop) → Prop
/-- a slice's part (left out, or an int) -/
def PO (X : Cx) (e : Option Expr) (t : TO) : Prop :=
  ∀ (pins : List (Addr × Obj)) (s : Shared) (σ : St) (H : Hp) (Q : Option Int → Hp → Prop), Inv X pins σ H s → t σ H Q →
    wpAny (model X.prog X.w) X.A (evalPart e X.env) (fun u s' => ∃ o H', Inv X pins σ H' s' ∧ IsPart u o ∧ Q o H') X.xe s
def tNoPart : TO := fun _ H Q => Q none H
def tPart (t : TE) : TO := fun σ H Q => t σ H fun x H1 => ∃ i, x = .int i ∧ Q (some i) H1

section
variable {X : Cx} {e : Expr} {te : TE} {lo hi : Option Expr} {tl th : TO} {pos p2 : Pos}

theorem po_none : PO X none tNoPart := by
  intro pins s σ H Q I h
  rw [evalPart_none]
  exact wpAny_pure ⟨none, H, I, .none, h⟩
theorem po_some (h : PE X e te) : PO X (some e) (tPart te) := by
  intro pins s σ H Q I hw
  rw [evalPart_some]
  refine thn (h pins s σ H _ I hw) fun u s1 ⟨x, H1, I1, r1, q1⟩ => ?_
  obtain ⟨i, rfl, q⟩ := q1
  obtain ⟨t, rfl⟩ := r1
  exact ⟨some i, H1, I1, .int i t, q⟩

/-- what a slice of a value is, by values: the slice object stands at sl -/
def SlR (X : Cx) (r : V → Option Int → Option Int → Hp → VK → Prop) : Prop :=
  ∀ (pins : List (Addr × Obj)) (s : Shared) (σ : St) (H : Hp) (x : V) (v vl vu : Value) (lo hi : Option Int) (sl : Addr) (Q : VK), Inv X pins σ H s → RelV x v → s.heap.IsSliceOf sl vl vu .none → IsPart vl lo → IsPart vu hi → r x lo hi H Q →
    ∃ T id, typeLookup (.type T) "__getitem__" = pure (some (.builtin id)) ∧ s.TypeIs v T ∧ wpAny (model X.prog X.w) X.A (getItem v (.ref sl)) (EP X pins σ Q) X.xe s
def tSl (r : V → Option Int → Option Int → Hp → VK → Prop) (te : TE) (tl th : TO) : TE := fun σ H Q => te σ H fun x H1 => tl σ H1 fun l H2 => th σ H2 fun u H3 => r x l u H3 Q
/-- a[lo:hi], any a -/
theorem pe_slice {r : V → Option Int → Option Int → Hp → VK → Prop} (hr : SlR X r) (he : PE X e te) (hl : PO X lo tl) (hu : PO X hi th) : PE X (.Subscript e (.Slice lo hi none p2) pos) (tSl r te tl th) := by
  intro pins s σ H Q I h
  refine Subscript_ (thn (he pins s σ H _ I h) fun v s1 ⟨x, H1, I1, r1, q1⟩ => ?_)
  refine wpAny_Slice (thn (hl pins s1 σ H1 _ I1 q1) fun vl s2 ⟨l, H2, I2, pl, q2⟩ => thn (hu pins s2 σ H2 _ I2 q2) fun vu s3 ⟨u, H3, I3, pu, q3⟩ => ?_)
  rw [evalPart_none]
  refine wpAny_pure ?_
  have I4 : Inv X pins σ H3 { s3 with heap := s3.heap.push { cls := .type "slice", data := .fields #[vl, vu, .none] } } := I3.kept (t' := s3.toks) fun b ob q => Heap.get?_push_of_some _ q
  obtain ⟨T, id, hT, ht, hg⟩ := hr pins { s3 with heap := s3.heap.push { cls := .type "slice", data := .fields #[vl, vu, .none] } } σ H3 x v vl vu l u s3.heap.objs.size Q I4 r1 (Heap.IsSliceOf.new ..) pl pu q3
  show wpAny (model X.prog X.w) X.A (subscriptTail e (.Slice lo hi none p2) v (.ref s3.heap.objs.size)) (EP X pins σ Q) X.xe { s3 with heap := s3.heap.push { cls := .type "slice", data := .fields #[vl, vu, .none] } }
  exact tail_any (ops := [.ref s3.heap.objs.size, v]) ht hT hg (by with_unfolding_all rfl)

/-- the items of xs[lo:hi] -/
def cutV (xs : List V) (lo hi : Option Int) : List V := (xs.drop (HT.sIx xs.length 0 lo)).take (HT.sIx xs.length xs.length hi - HT.sIx xs.length 0 lo)
theorem cutV_length (xs : List V) (lo hi : Option Int) : (cutV xs lo hi).length ≤ xs.length := by
  unfold cutV
  rw [List.length_take, List.length_drop]
  omega
/-- t[lo:hi], not the whole of it (the whole would be t itself) -/
def rSlT (K : PySem.W.Frag) : V → Option Int → Option Int → Hp → VK → Prop := fun x lo hi H Q => ∃ a xs, x = .ref a ∧ SqT K H a xs ∧
  ¬ (HT.sIx xs.length 0 lo = 0 ∧ HT.sIx xs.length xs.length hi = xs.length) ∧ ∀ p, H p = none → Q (.ref p) (upd H p (.tup (cutV xs lo hi)))
/-! ### t < u, t + u -/
end
end L2

namespace L2
open PySem PySem.Spec PyProof.Rows

/-! ### places -/
/-- the place that an index of any sign means -/
def ixN (n : Nat) (i : Int) : Option Nat := if 0 ≤ i then (if i < n then some i.toNat else none) else if -(n : Int) ≤ i then some (i + n).toNat else none
def atI {α : Type} (xs : List α) (i : Int) : Option α := (ixN xs.length i).bind fun j => xs[j]?
theorem ixN_seq {n : Nat} {i : Int} {j : Nat} (h : ixN n i = some j) : seqIndex? i n = some j ∧ j < n ∧ -(n : Int) ≤ i ∧ i < n := by
  unfold ixN at h
  by_cases h0 : 0 ≤ i
  · rw [if_pos h0] at h
    by_cases h1 : i < n
    · rw [if_pos h1] at h
      have e : i.toNat = j := Option.some.inj h
      exact ⟨by rw [seqIndex_of h0 h1, e], by omega, by omega, h1⟩
    · rw [if_neg h1] at h; cases h
  · rw [if_neg h0] at h
    by_cases h1 : -(n : Int) ≤ i
    · rw [if_pos h1] at h
      have e : (i + n).toNat = j := Option.some.inj h
      exact ⟨by rw [seqIndex_neg (by omega) h1, e], by omega, h1, by omega⟩
    · rw [if_neg h1] at h; cases h
theorem atI_get {α : Type} {xs : List α} {i : Int} {v : α} (h : atI xs i = some v) : ∃ j, seqIndex? i xs.length = some j ∧ xs[j]? = some v ∧ j < xs.length ∧ -(xs.length : Int) ≤ i ∧ i < xs.length := by
  unfold atI at h
  cases e : ixN xs.length i with
  | none => rw [e] at h; cases h
  | some j =>
    rw [e] at h
    obtain ⟨h1, h2, h3, h4⟩ := ixN_seq e
    exact ⟨j, h1, h, h2, h3, h4⟩
theorem atI_nat {α : Type} {xs : List α} {j : Nat} {v : α} (h : xs[j]? = some v) : atI xs (j : Int) = some v := by
  have hj : j < xs.length := (List.getElem?_eq_some_iff.mp h).1
  have e : ixN xs.length (j : Int) = some j := by
    unfold ixN
    rw [if_pos (by omega), if_pos (by omega)]; simp
  unfold atI; rw [e]; exact h
/-! ### what may be subscripted -/
/-- what stands as an index of a plain subscript -/
def PlainIx (b : Expr) : Prop := ∀ o i, subscripted b false o i = operate [o, i] (getItem o i)
/-- a subscript by values -/
def IxR (X : Cx) (r : R2) : Prop :=
  ∀ (value slice : Expr) (pins : List (Addr × Obj)) (s : Shared) (σ : St) (H : Hp) (x y : V) (v u : Value) (Q : VK), Inv X pins σ H s → RelV x v → RelV y u → r x y H Q →
    subscripted slice false v u = operate [v, u] (getItem v u) → wpAny (model X.prog X.w) X.A (subscriptTail value slice v u) (EP X pins σ Q) X.xe s
/-- a call of a builtin's method by values: the receiver, the arguments -/
def MtR (X : Cx) (id : String) (r : V → List V → Hp → VK → Prop) : Prop :=
  ∀ (pins : List (Addr × Obj)) (s : Shared) (σ : St) (H : Hp) (x : V) (xs : List V) (v : Value) (us : List Value) (Q : VK), Inv X pins σ H s → RelV x v → Vals xs us → r x xs H Q →
    wpAny (model X.prog X.w) X.A (call (.builtin id) (v :: us)) (EP X pins σ Q) X.xe s
section
variable {X : Cx} {a b : Expr} {ta tb : TE} {pos : Pos}
/-- a[b] -/
theorem pe_ix {r : R2} (hr : IxR X r) (ha : PE X a ta) (hb : PE X b tb) (hs : PlainIx b) : PE X (.Subscript a b pos) (tOp r ta tb) := by
  intro pins s σ H Q I h
  exact Subscript_ (binT ha hb I h fun v u s2 x y H2 I2 rx ry q => hr a b pins s2 σ H2 x y v u Q I2 rx ry q (hs _ _))

def rIxL (K : PySem.W.Frag) : R2 := fun x y H Q => ∃ p xs i v, x = .ref p ∧ y = .int i ∧ SqL K H p xs ∧ atI xs i = some v ∧ Q v H
def rIxT (K : PySem.W.Frag) : R2 := fun x y H Q => ∃ p xs i v, x = .ref p ∧ y = .int i ∧ SqT K H p xs ∧ atI xs i = some v ∧ Q v H
def rIxS : R2 := fun x y H Q => ∃ z i c, x = .str z ∧ y = .int i ∧ z.length ≤ sizeLine ∧ atI z.cps.toList i = some c ∧ Q (.str ⟨#[c]⟩) H
theorem ix_list : IxR X (rIxL X.K) := by
  intro value slice pins s σ H x y v u Q I rx ry h hs
  obtain ⟨p, xs, i, z, rfl, rfl, hq, he, q⟩ := h
  cases rx
  obtain ⟨t, rfl⟩ := ry
  obtain ⟨its, r, pl, hz⟩ := I.list hq
  obtain ⟨j, h1, h2, h3, h4, h5⟩ := atI_get he
  obtain ⟨w, ew, rw'⟩ := r.get h2
  have hl := r.length
  have hn := line63
  have fin : EP X pins σ Q w s := ⟨z, H, I, rw', q⟩
  by_cases h0 : 0 ≤ i
  · have hj : i.toNat = j := by
      rw [seqIndex_of h0 h5] at h1
      exact Option.some.inj h1
    exact item_listR pl.isList h0 (by omega) (by rw [hj]; simpa using ew) fin hs
  · have hj : (i + (its.toArray.size : Int)).toNat = j := by
      rw [seqIndex_neg (by omega) h4] at h1
      rw [List.size_toArray, ← hl]
      exact Option.some.inj h1
    exact subscriptTail_builtinR (x := w) pl.isList.typeIs slot_list_getitem.lookup
      (wpAny_getItem_list_neg (Q := fun r s' => r = w ∧ EP X pins σ Q r s') pl.isList (by omega) (by rw [List.size_toArray] <;> omega) (by omega) (by rw [hj]; simpa using ew) ⟨rfl, fin⟩) hs
theorem ix_tup : IxR X (rIxT X.K) := by
  intro value slice pins s σ H x y v u Q I rx ry h hs
  obtain ⟨p, xs, i, z, rfl, rfl, hq, he, q⟩ := h
  cases rx
  obtain ⟨t, rfl⟩ := ry
  obtain ⟨its, r, pl, hz⟩ := I.tuple hq
  obtain ⟨j, h1, h2, h3, h4, h5⟩ := atI_get he
  obtain ⟨w, ew, rw'⟩ := r.get h2
  have hl := r.length
  have hn := line63
  have fin : EP X pins σ Q w s := ⟨z, H, I, rw', q⟩
  exact subscriptTail_builtinR (x := w) pl.typeIs slot_tuple_getitem.lookup
    (getItem_tuple (j := j) (Q := fun r s' => r = w ∧ EP X pins σ Q r s') pl (by omega) (by omega) (by rw [List.size_toArray, ← hl]; exact h1) (by simpa using ew) ⟨rfl, fin⟩) hs
theorem ix_str : IxR X rIxS := by
  intro value slice pins s σ H x y v u Q I rx ry h hs
  obtain ⟨z, i, c, rfl, rfl, hz, he, q⟩ := h
  obtain ⟨t, rfl⟩ := rx
  obtain ⟨t', rfl⟩ := ry
  obtain ⟨j, h1, h2, h3, h4, h5⟩ := atI_get he
  have hl : z.cps.toList.length = z.length := by simp [Str.length]
  rw [hl] at h1 h4 h5
  have hn := line63
  exact tail_any (typeIs_str s z t) slot_str_getitem.lookup (getItem_str (c := c) (by
    have e1 : decide (i < -(2 ^ 63 : Int)) = false := decide_eq_false (by omega)
    have e2 : decide (i ≥ 2 ^ 63) = false := decide_eq_false (by omega)
    rw [e1, e2, Bool.or_false]) (by rw [h1]; simpa using h2) ⟨.str ⟨#[c]⟩, H, I.tok _, ⟨_, rfl⟩, q⟩) hs
/-! ### xs[i] = v, any sign -/
/-- the list's object behind a store -/
theorem mapSeq_set (its : List Value) (n j : Nat) (u : Value) : Obj.mapSeq (·.setIfInBounds j u) { cls := .type "list", data := .seq its.toArray n } = { cls := .type "list", data := .seq (its.set j u).toArray n } := by
  simp [Obj.mapSeq]
theorem Inv.lst {pins : List (Addr × Obj)} {σ : St} {H : Hp} {s : Shared} {p : Addr} {xs : List V} (I : Inv X pins σ H s) (h : H p = some (.lst xs)) :
    ∃ (its : List Value) (n : Nat), Vals xs its ∧ s.heap.get? p = some { cls := .type "list", data := .seq its.toArray n } ∧ xs.length ≤ sizeLine := by
  obtain ⟨z, its, n, r, e⟩ := I.hok p _ h
  exact ⟨its, n, r, e, z⟩
/-- the list at p is written by an update of its object -/
theorem Inv.lstUpd {pins : List (Addr × Obj)} {σ : St} {H : Hp} {s : Shared} {p : Addr} {xs ys : List V} {its its' : List Value} {n n' : Nat} {f : Obj → Obj} (I : Inv X pins σ H s) (h : H p = some (.lst xs))
    (ho : s.heap.get? p = some { cls := .type "list", data := .seq its.toArray n }) (hf : f { cls := .type "list", data := .seq its.toArray n } = { cls := .type "list", data := .seq its'.toArray n' }) (r : Vals ys its') (hz : ys.length ≤ sizeLine) (t : Nat) :
    Inv X pins σ (upd H p (.lst ys)) { s with heap := s.heap.update p f, toks := t } := by
  have e : (s.heap.update p f).get? p = some { cls := .type "list", data := .seq its'.toArray n' } := by
    rw [Heap.get?_update_self f ho (by rw [hf] <;> rfl), hf]
  refine I.write (x := p) (e := p) (by rw [h]; trivial) (.inl rfl) (fun b u hb q => (Heap.get?_update_other _ _ (Ne.symm hb)).trans q) ⟨_, e⟩ ?_
  exact ⟨hz, its', n', r, e⟩
def rSetL : V → V → V → Hp → (Hp → Prop) → Prop := fun o i v H Q => ∃ p xs k j, o = .ref p ∧ i = .int k ∧ H p = some (.lst xs) ∧ ixN xs.length k = some j ∧ Q (upd H p (.lst (xs.set j v)))
theorem set_list : PSet X rSetL := by
  intro pins s σ H o i v ov iv u Q I ro ri rv h
  obtain ⟨p, xs, k, j, rfl, rfl, hp, hj, q⟩ := h
  cases ro
  obtain ⟨t, rfl⟩ := ri
  obtain ⟨its, n, r, ho, hz⟩ := I.lst hp
  obtain ⟨h1, h2, h3, h4⟩ := ixN_seq hj
  have hl := r.length
  have hn := line63
  have I' : Inv X pins σ (upd H p (.lst (xs.set j v))) { s with heap := s.heap.update p (Obj.mapSeq (·.setIfInBounds j u)) } :=
    I.lstUpd hp ho (mapSeq_set its n j u) (r.set rv j) (by rw [List.length_set]; exact hz) s.toks
  by_cases h0 : 0 ≤ k
  · have hk : k.toNat = j := by
      rw [seqIndex_of h0 h4] at h1
      exact Option.some.inj h1
    exact PySem.W.ki_setAt ho h0 (by omega) (by rw [List.size_toArray, ← hl]; exact h4) (by rw [hk]; exact ⟨_, I', q⟩)
  · have hk : (k + (its.toArray.size : Int)).toNat = j := by
      rw [seqIndex_neg (by omega) h3] at h1
      rw [List.size_toArray, ← hl]
      exact Option.some.inj h1
    exact PySem.W.ki_setBack ho (by omega) (by rw [List.size_toArray, ← hl]; exact h3) (by omega) (by rw [hk]; exact ⟨_, I', q⟩)

/-! ### slices -/
theorem slice_bounds (lo hi : Option Int) (n : Nat) : (sliceBounds lo hi none n).1 = ((HT.sIx n 0 lo : Nat) : Int) ∧ (sliceBounds lo hi none n).2.1 = ((HT.sIx n n hi : Nat) : Int) ∧ (sliceBounds lo hi none n).2.2 = 1 := by
  refine ⟨?_, ?_, rfl⟩
  · cases lo with
    | none => simp [sliceBounds, HT.sIx]
    | some i =>
      simp only [sliceBounds, HT.sIx, Option.getD_none, show (1 : Int) > 0 by decide, if_true]
      by_cases h : i < 0
      · simp only [h, if_true] <;> omega
      · simp only [h, if_false] <;> omega
  · cases hi with
    | none => simp [sliceBounds, HT.sIx]
    | some i =>
      simp only [sliceBounds, HT.sIx, Option.getD_none, show (1 : Int) > 0 by decide, if_true]
      by_cases h : i < 0
      · simp only [h, if_true] <;> omega
      · simp only [h, if_false] <;> omega
theorem slicePick_cut (its : List Value) (lo hi : Option Int) : slicePick its.toArray lo hi none = ((its.drop (HT.sIx its.length 0 lo)).take (HT.sIx its.length its.length hi - HT.sIx its.length 0 lo)).toArray := by
  obtain ⟨h1, h2, h3⟩ := slice_bounds lo hi its.toArray.size
  unfold slicePick
  rw [h1, h2, h3]
  simp only [sliceRange_one, pick_run, List.size_toArray] <;> rfl
/-- xs[lo:hi] of a list: a new list -/
def rSlL (K : PySem.W.Frag) : V → Option Int → Option Int → Hp → VK → Prop := fun x lo hi H Q => ∃ a xs, x = .ref a ∧ SqL K H a xs ∧ ∀ p, H p = none → Q (.ref p) (upd H p (.lst (cutV xs lo hi)))
theorem sl_list : SlR X (rSlL X.K) := by
  intro pins s σ H x v vl vu lo hi sl Q I rx hs pl pu h
  obtain ⟨a, xs, rfl, hx, q⟩ := h
  cases rx
  obtain ⟨its, r, ht, hz⟩ := I.list hx
  have hlen := r.length
  refine ⟨"list", _, slot_list_getitem.lookup, ht.isList.typeIs, ?_⟩
  refine wpAny_getItem_list_slice ht.isList hs pl pu .none (by simp) ?_ (by rw [List.size_toArray] <;> omega)
  rw [slicePick_cut, ← hlen]
  refine ⟨.ref s.heap.objs.size, _, I.laid (t' := s.toks) (o := .lst (cutV xs lo hi)) (fun b ob q => Heap.get?_push_of_some _ q) (Nat.le_refl _) ?_, rfl, q _ (I.hok.fresh (Nat.le_refl _))⟩
  exact ⟨Nat.le_trans (cutV_length xs lo hi) hz, _, 0, (r.drop (HT.sIx xs.length 0 lo)).take (HT.sIx xs.length xs.length hi - HT.sIx xs.length 0 lo), Heap.get?_push_size _ rfl⟩

/-! ### in, not in: flat items -/
def flatV : V → Bool
  | .non => true
  | .bl _ => true
  | .int _ => true
  | .str _ => true
  | _ => false
/-- == of flat values -/
def eqV : V → V → Bool
  | .non, .non => true
  | .bl a, .bl b => a == b
  | .bl a, .int b => (if a then 1 else 0) == b
  | .int a, .bl b => a == (if b then 1 else 0)
  | .int a, .int b => a == b
  | .str a, .str b => a == b
  | _, _ => false
theorem eqAt_V {A : Around} {s : Shared} {y x : V} {u v : Value} (ry : RelV y u) (rx : RelV x v) (fy : flatV y = true) (fx : flatV x = true) : SeqAt.EqAt A s u v (eqV y x) := by
  cases y with
  | non =>
    cases ry
    cases x with
    | non => cases rx; exact SeqAt.EqAt.same _
    | bl b => cases rx; exact SeqAt.EqAt.none_bool b
    | int b => obtain ⟨t, rfl⟩ := rx; exact SeqAt.EqAt.none_int b t
    | str b => obtain ⟨t, rfl⟩ := rx; exact SeqAt.EqAt.none_str b t
    | _ => exact absurd (show false = true from fx) Bool.false_ne_true
  | bl a =>
    cases ry
    cases x with
    | non => cases rx; exact SeqAt.EqAt.bool_none a
    | bl b => cases rx; exact SeqAt.EqAt.bool_bool a b
    | int b => obtain ⟨t, rfl⟩ := rx; exact SeqAt.EqAt.bool_int a b t
    | str b => obtain ⟨t, rfl⟩ := rx; exact SeqAt.EqAt.bool_str a b t
    | _ => exact absurd (show false = true from fx) Bool.false_ne_true
  | int a =>
    obtain ⟨t', rfl⟩ := ry
    cases x with
    | non => cases rx; exact SeqAt.EqAt.int_none a t'
    | bl b => cases rx; exact SeqAt.EqAt.int_bool a t' b
    | int b => obtain ⟨t, rfl⟩ := rx; exact SeqAt.EqAt.int_int a t' b t
    | str b => obtain ⟨t, rfl⟩ := rx; exact SeqAt.EqAt.int_str a t' b t
    | _ => exact absurd (show false = true from fx) Bool.false_ne_true
  | str a =>
    obtain ⟨t', rfl⟩ := ry
    cases x with
    | non => cases rx; exact SeqAt.EqAt.str_none a t'
    | bl b => cases rx; exact SeqAt.EqAt.str_bool a t' b
    | int b => obtain ⟨t, rfl⟩ := rx; exact SeqAt.EqAt.str_int a t' b t
    | str b => obtain ⟨t, rfl⟩ := rx; exact SeqAt.EqAt.str_str a t' b t
    | _ => exact absurd (show false = true from fx) Bool.false_ne_true
  | _ => exact absurd (show false = true from fy) Bool.false_ne_true
/-- the items' answers, read off the values (a value's own answer does not lean on its token) -/
def eqU (x : V) (u : Value) : Bool := match u with
  | .none => eqV .non x
  | .bool b => eqV (.bl b) x
  | .int i _ => eqV (.int i) x
  | .str z _ => eqV (.str z) x
  | _ => false
theorem eqU_of {x y : V} {u : Value} (r : RelV y u) (f : flatV y = true) : eqU x u = eqV y x := by
  cases y with
  | non => cases r; rfl
  | bl b => cases r; rfl
  | int i => obtain ⟨t, rfl⟩ := r; rfl
  | str z => obtain ⟨t, rfl⟩ := r; rfl
  | _ => exact absurd (show false = true from f) Bool.false_ne_true
theorem any_eqU {x : V} : ∀ {xs : List V} {us : List Value}, Vals xs us → xs.all flatV = true → us.any (eqU x) = xs.any fun y => eqV y x
  | _, _, .nil, _ => rfl
  | y :: xs, u :: us, .cons r t, f => by
    rw [List.all_cons, Bool.and_eq_true] at f
    rw [List.any_cons, List.any_cons, eqU_of r f.1, any_eqU t f.2]
theorem mem_eqAt {A : Around} {s : Shared} {x : V} {v : Value} (rx : RelV x v) (fx : flatV x = true) : ∀ {xs : List V} {us : List Value}, Vals xs us → xs.all flatV = true → ∀ u ∈ us, SeqAt.EqAt A s u v (eqU x u)
  | _, _, .nil, _ => fun u hu => by cases hu
  | y :: xs, u :: us, .cons r t, f => fun u' hu => by
    rw [List.all_cons, Bool.and_eq_true] at f
    rcases List.mem_cons.mp hu with rfl | hu
    · rw [eqU_of r f.1]; exact eqAt_V r rx f.1 fx
    · exact mem_eqAt rx fx t f.2 u' hu
def inV (x : V) (xs : List V) : Bool := xs.any fun y => eqV y x
/-- x in a list or tuple of flat items -/
def rIn (K : PySem.W.Frag) (neg : Bool) : R2 := fun x y H Q => ∃ p xs, y = .ref p ∧ (SqL K H p xs ∨ SqT K H p xs) ∧ flatV x = true ∧ xs.all flatV = true ∧ Q (.bl (if neg then !inV x xs else inV x xs)) H
theorem op_in_seq : OpR X (compareOp .In) (rIn X.K false) := by
  intro pins s σ H x y v u Q I rx ry h
  obtain ⟨p, xs, rfl, hq, fx, fs, q⟩ := h
  cases ry
  rcases hq with hq | hq
  · obtain ⟨its, r, pl, hz⟩ := I.list hq
    refine SeqAt.in_listAt (eqU x) pl.isList (fun w hw => mem_eqAt rx fx r fs w (by simpa using hw)) ⟨.bl _, H, I, rfl, ?_⟩
    rw [show its.toArray.any (eqU x) = its.any (eqU x) by simp, any_eqU r fs]
    exact q
  · obtain ⟨its, r, pl, hz⟩ := I.tuple hq
    refine SeqAt.in_tupleAt (eqU x) pl (fun w hw => mem_eqAt rx fx r fs w (by simpa using hw)) ⟨.bl _, H, I, rfl, ?_⟩
    rw [show its.toArray.any (eqU x) = its.any (eqU x) by simp, any_eqU r fs]
    exact q
/-! ### len, list(x), tuple(x) of any list or tuple that is read -/
theorem call_len_seq : CallR X (.builtin "len") (fun xs H Q => ∃ p ys, xs = [.ref p] ∧ (SqL X.K H p ys ∨ SqT X.K H p ys) ∧ Q (.int ys.length) H) := by
  intro pins s σ H xs us Q I r h
  obtain ⟨p, ys, rfl, hq, q⟩ := h
  obtain ⟨u, rfl, rx⟩ := vals1 r
  cases rx
  have hn := line63
  rcases hq with hq | hq
  · obtain ⟨its, r', pl, hz⟩ := I.list hq
    have hlen := r'.length
    exact Calls.call_len_list pl.isList (by simp only [List.size_toArray] <;> omega) ⟨.int ys.length, H, I.tok _, ⟨s.toks + 1, by rw [List.size_toArray, hlen]⟩, q⟩
  · obtain ⟨its, r', pl, hz⟩ := I.tuple hq
    have hlen := r'.length
    exact len_tuple pl (by simp only [List.size_toArray] <;> omega) ⟨.int ys.length, H, I.tok _, ⟨s.toks + 1, by rw [List.size_toArray, hlen]⟩, q⟩
theorem call_list_of : CallR X (.type "list") (fun xs H Q => ∃ p ys, xs = [.ref p] ∧ (SqL X.K H p ys ∨ SqT X.K H p ys) ∧ ∀ l, H l = none → Q (.ref l) (upd H l (.lst ys))) := by
  intro pins s σ H xs us Q I r h
  obtain ⟨p, ys, rfl, hq, q⟩ := h
  obtain ⟨u, rfl, rx⟩ := vals1 r
  cases rx
  have fin : ∀ (its : List Value), Vals ys its → ys.length ≤ sizeLine → ∀ (h' : Heap) (c' : Nat), (∀ b o', s.heap.get? b = some o' → h'.get? b = some o') →
      h'.get? s.heap.objs.size = some { cls := .type "list", dict := none, data := .seq its.toArray c', slots := #[] } → EP X pins σ Q (.ref s.heap.objs.size) { s with heap := h' } := fun its r' hz h' c' kp e =>
    ⟨.ref s.heap.objs.size, _, I.laid (t' := s.toks) kp (Nat.le_refl _) (show ObjOk X.prog X.w _ h' _ (.lst ys) from ⟨hz, its, c', r', e⟩), rfl, q _ (I.hok.fresh (Nat.le_refl _))⟩
  rcases hq with hq | hq
  · obtain ⟨its, r', pl, hz⟩ := I.list hq
    have hlen := r'.length
    obtain ⟨o, ho, hc, n, hd⟩ := pl.isList
    exact call_list_seq p (.inl rfl) ho hc hd (fun h' c' kp e => fin its r' hz h' c' kp e) (by simp only [List.size_toArray] <;> omega)
  · obtain ⟨its, r', pl, hz⟩ := I.tuple hq
    have hlen := r'.length
    obtain ⟨o, ho, hc, n, hd⟩ := pl
    exact call_list_seq p (.inr rfl) ho hc hd (fun h' c' kp e => fin its r' hz h' c' kp e) (by simp only [List.size_toArray] <;> omega)
/-! ### the call of a builtin's method: o.m(..) -/
/-- the value is of that builtin type -/
def tyV (K : PySem.W.Frag) (T : String) (x : V) (H : Hp) : Prop := match x with
  | .str _ => T = "str"
  | .int _ => T = "int"
  | .ref p => (T = "list" ∧ ∃ xs, SqL K H p xs) ∨ (T = "tuple" ∧ ∃ o, K.lookup p = some o ∧ o.cls = .type "tuple" ∧ o.dict = none) ∨
      (T = "dict" ∧ ((∃ kvs, H p = some (.dK kvs)) ∨ ∃ kvs, H p = some (.dT kvs))) ∨ (T = "set" ∧ ∃ S n, H p = some (.set S n))
  | _ => False
theorem tyV_is {pins : List (Addr × Obj)} {σ : St} {H : Hp} {s : Shared} {T : String} {x : V} {v : Value} (I : Inv X pins σ H s) (r : RelV x v) (ty : tyV X.K T x H) :
    s.TypeIs v T ∧ ∀ a, v = .ref a → ∃ ob, s.heap.get? a = some ob ∧ ob.dict = none := by
  cases x with
  | str z =>
    obtain ⟨t, rfl⟩ := r
    cases (show T = "str" from ty)
    exact ⟨typeIs_str s z t, fun _ e => nomatch e⟩
  | int i =>
    obtain ⟨t, rfl⟩ := r
    cases (show T = "int" from ty)
    exact ⟨typeIs_int s i t, fun _ e => nomatch e⟩
  | ref p =>
    cases r
    rcases ty with ⟨rfl, xs, hq⟩ | ⟨rfl, o, hk, hc, hd⟩ | ⟨rfl, hk⟩ | ⟨rfl, S, n, hk⟩
    · obtain ⟨its, _, pl, _⟩ := I.list hq
      refine ⟨pl.isList.typeIs, fun a e => ?_⟩
      cases e
      obtain ⟨o, n, e, c, hd, _⟩ := pl
      exact ⟨o, e, hd⟩
    · refine ⟨⟨o, I.kIn p o hk, hc⟩, fun a e => ?_⟩
      cases e
      exact ⟨o, I.kIn _ o hk, hd⟩
    · have z : ∃ o, s.heap.get? p = some o ∧ o.ExactDict := by
        rcases hk with ⟨kvs, hk⟩ | ⟨kvs, hk⟩
        · obtain ⟨_, _, _, _, o, _, _, e, ex, _⟩ := I.hok p _ hk
          exact ⟨o, e, ex⟩
        · obtain ⟨_, _, _, _, o, _, _, e, ex, _⟩ := I.hok p _ hk
          exact ⟨o, e, ex⟩
      obtain ⟨o, e, ex⟩ := z
      refine ⟨⟨o, e, ex.1⟩, fun a e2 => ?_⟩
      cases e2
      exact ⟨o, e, ex.2.1⟩
    · obtain ⟨o, _, _, _, e, ex, _⟩ := I.hok p _ hk
      refine ⟨⟨o, e, ex.1⟩, fun a e2 => ?_⟩
      cases e2
      exact ⟨o, e, ex.2.1⟩
  | _ => exact False.elim ty
def tBM0 (K : PySem.W.Frag) (T : String) (r : V → List V → Hp → VK → Prop) (to : TE) : TE := fun σ H Q => to σ H fun x H1 => tyV K T x H1 ∧ r x [] H1 Q
def tBM (K : PySem.W.Frag) (T : String) (r : V → List V → Hp → VK → Prop) (to : TE) (t : TA) : TE := fun σ H Q => to σ H fun x H1 => tyV K T x H1 ∧ t σ H1 fun xs H2 => r x xs H2 Q
variable {o e : Expr} {es : List Expr} {to : TE} {t : TA} {name : Str} {apos cpos : Pos} {T id : String} {r : V → List V → Hp → VK → Prop}
theorem pe_bm (pa : PlainAttrs T) (slot : Slot T name id) (hty : typeOf (.builtin id) = pure (.type "method_descriptor")) (hm : MtR X id r) (ho : PE X o to) (ha : PA X (e :: es) t)
    (hbase : attributeBase o name X.env (eval o X.env) = eval o X.env := by rfl)
    (hfew : ((backTo cpos (starEach (e :: es) X.env)).all (fun x => !x.1) && (backToKw cpos (keywordEach [] X.env)).all (fun x => x.1.isSome)
      && decide ((e :: es).length + ([] : List Keyword).length + (if ([] : List Keyword).isEmpty then 0 else 1) < 30)) = true := by rfl)
    (hline : (apos.endLine == cpos.line) = true := by rfl) (hs : starEach (e :: es) X.env = (false, eval e X.env) :: starEach es X.env := by rfl) (hplain : (backTo cpos (starEach es X.env)).any (·.1) = false := by rfl) :
    PE X (.Call (.Attribute o name apos) (e :: es) [] cpos) (tBM X.K T r to t) := by
  intro pins s σ H Q I h
  refine wpAny_Call_method_late hbase hfew hline rfl (thn (ho pins s σ H _ I h) fun v s1 ⟨x, H1, I1, r1, ty, q1⟩ => ?_)
  obtain ⟨h1, h2⟩ := tyV_is I1 r1 ty
  refine ⟨T, id, pa, slot, hty, h1, h2, ?_⟩
  have hA := ha cpos pins s1 σ H1 _ I1 q1
  rw [hs] at hA ⊢
  refine Calls.callWith_builtin (by show (false || (backTo cpos (starEach es X.env)).any (·.1)) = false; rw [hplain] <;> rfl) (Calls.evalArgs_plain ?_)
  exact thn hA fun us s2 ⟨vs, H2, I2, r2, q2⟩ => hm pins s2 σ H2 x vs v us Q I2 r1 r2 q2
/- xs.append(e), list.index on a module's tuple .. are MtR facts of 06m -/
end
end L2

namespace L2
open PySem PySem.Spec PyProof.Rows

def MtM (X : Cx) (id : String) (r : V → List V → Hp → VK → Prop) : Prop :=
  ∀ (pins : List (Addr × Obj)) (s : Shared) (σ : St) (H : Hp) (x : V) (xs : List V) (v : Value) (us : List Value) (Q : VK), Inv X pins σ H s → RelV x v → Vals xs us → r x xs H Q →
    wpAny (model X.prog X.w) X.A (call (.builtin id) (v :: us)) (EP X pins σ Q) X.xe s

/-! ### lists of values -/
theorem Vals.one : ∀ {x : V} {us : List Value}, Vals [x] us → ∃ u, us = [u] ∧ RelV x u
  | _, _, .cons r .nil => ⟨_, rfl, r⟩
theorem Vals.two : ∀ {x y : V} {us : List Value}, Vals [x, y] us → ∃ u v, us = [u, v] ∧ RelV x u ∧ RelV y v
  | _, _, _, .cons r (.cons q .nil) => ⟨_, _, rfl, r, q⟩
section
variable {X : Cx} {pins : List (Addr × Obj)} {σ : St} {H : Hp} {s : Shared} {l b : Addr} {xs ys zs : List V}

/-! ### the two steps: a tracked list is rewritten, a new list is laid -/
theorem Inv.lset {its its' : List Value} {n : Nat} {f : Array Value → Array Value} {t' : Nat} (I : Inv X pins σ H s) (hH : H l = some (.lst xs))
    (e : s.heap.get? l = some { cls := .type "list", data := .seq its.toArray n }) (hf : f its.toArray = its'.toArray) (hv : Vals ys its') (hz : ys.length ≤ sizeLine) :
    Inv X pins σ (upd H l (.lst ys)) { s with heap := s.heap.update l (Obj.mapSeq f), toks := t' } := by
  have q := PySem.IsL.update e f
  rw [hf] at q
  refine I.write (x := l) (e := l) (by rw [hH]; exact trivial) (.inl rfl) (fun b' u hb hu => (Heap.get?_update_other s.heap (Obj.mapSeq f) (Ne.symm hb)).trans hu) ⟨_, q⟩ ?_
  exact ⟨hz, its', _, hv, q⟩
theorem Inv.lnew {its : List Value} {t' : Nat} (I : Inv X pins σ H s) (hv : Vals ys its) (hz : ys.length ≤ sizeLine) :
    Inv X pins σ (upd H s.heap.objs.size (.lst ys)) { s with heap := s.heap.push { cls := .type "list", data := .seq its.toArray }, toks := t' } :=
  I.laid (fun _ _ q => Heap.get?_push_of_some _ q) (Nat.le_refl _) ⟨hz, its, 0, hv, Heap.get?_push_size _ rfl⟩
theorem Inv.fresh (I : Inv X pins σ H s) : H s.heap.objs.size = none := I.hok.fresh (Nat.le_refl _)
theorem Inv.lstM (I : Inv X pins σ H s) (hH : H l = some (.lst xs)) : xs.length ≤ sizeLine ∧ ∃ (its : List Value) (n : Nat), Vals xs its ∧ xs.length = its.length ∧ s.heap.get? l = some { cls := .type "list", data := .seq its.toArray n } := by
  obtain ⟨z, its, n, r, e⟩ := I.hok l _ hH
  exact ⟨z, its, n, r, r.length, e⟩

theorem notLongL {n : Nat} (h : n ≤ sizeLine) : Builtin.List.listTooLong n = false := by
  unfold Builtin.List.listTooLong
  exact decide_eq_false (by omega)
end

section
variable {X : Cx}

/-! ### methods -/
def rAppend : V → List V → Hp → VK → Prop := fun x vs H Q => ∃ l xs y, x = .ref l ∧ vs = [y] ∧ H l = some (.lst xs) ∧ xs.length < sizeLine ∧ Q .non (upd H l (.lst (xs ++ [y])))
theorem mt_append : MtM X "list.append" rAppend := by
  intro pins s σ H x vs v us Q I rx rv h
  obtain ⟨l, xs, y, rfl, rfl, hH, hz, q⟩ := h
  cases rx
  obtain ⟨u, rfl, ru⟩ := rv.one
  obtain ⟨z, its, n, r, hl, e⟩ := I.lstM hH
  refine call_meets F.slot_list_append ⟨_, e, rfl⟩ F.entry_list_append (F.args_list_append_2 _ _) (PySem.list_append l its.toArray n u (by rw [List.size_toArray]; omega)) ⟨e, ?_⟩
  refine ⟨.non, _, I.lset (its' := its ++ [u]) hH e (by simp) (r.append (.cons ru .nil)) ?_, rfl, q⟩
  rw [List.length_append, List.length_singleton]
  omega

def rExtend : V → List V → Hp → VK → Prop := fun x vs H Q => ∃ l b xs zs, x = .ref l ∧ vs = [.ref b] ∧ H l = some (.lst xs) ∧ H b = some (.lst zs) ∧ xs.length + zs.length ≤ sizeLine ∧ Q .non (upd H l (.lst (xs ++ zs)))
theorem mt_extend : MtM X "list.extend" rExtend := by
  intro pins s σ H x vs v us Q I rx rv h
  obtain ⟨l, b, xs, zs, rfl, rfl, hH, hB, hz, q⟩ := h
  cases rx
  obtain ⟨u, rfl, ru⟩ := rv.one
  cases ru
  obtain ⟨z, its, n, r, hl, e⟩ := I.lstM hH
  obtain ⟨z2, its2, n2, r2, hl2, e2⟩ := I.lstM hB
  have hsz : its.toArray.size + its2.toArray.size ≤ sizeLine := by rw [List.size_toArray, List.size_toArray]; omega
  have hlong : ¬ (!its.toArray.isEmpty && Builtin.List.listTooLong (its.toArray.size + its2.toArray.size)) = true := by
    rw [notLongL hsz, Bool.and_false]
    exact Bool.false_ne_true
  refine call_meets F.slot_list_extend ⟨_, e, rfl⟩ F.entry_list_extend (F.args_list_extend_2 _ _)
    (AutoSeq1.list_extend_list_list_0 l its.toArray n b its2.toArray n2 hlong (by rw [List.size_toArray]; omega) (by omega)) ⟨e, e2, ?_⟩
  refine ⟨.non, _, I.lset (its' := its ++ its2) hH e (by simp) (r.append r2) ?_, rfl, q⟩
  rw [List.length_append]
  omega

/-! ### list + list, list += list, list * int -/
def rCat : R2 := fun x y H Q => ∃ l b xs zs, x = .ref l ∧ y = .ref b ∧ H l = some (.lst xs) ∧ H b = some (.lst zs) ∧ xs.length + zs.length ≤ sizeLine ∧ ∀ p, H p = none → Q (.ref p) (upd H p (.lst (xs ++ zs)))
theorem op_cat : OpR X (binaryOp .Add) rCat := by
  intro pins s σ H x y v u Q I rx ry h
  obtain ⟨l, b, xs, zs, rfl, rfl, hH, hB, hz, q⟩ := h
  cases rx
  cases ry
  obtain ⟨z, its, n, r, hl, e⟩ := I.lstM hH
  obtain ⟨z2, its2, n2, r2, hl2, e2⟩ := I.lstM hB
  refine PySem.P.add_list e e2 ?_ (by rw [List.size_toArray, List.size_toArray]; omega)
  have ea : its.toArray ++ its2.toArray = (its ++ its2).toArray := by simp
  rw [ea]
  exact ⟨.ref _, _, I.lnew (t' := s.toks) (r.append r2) (by rw [List.length_append]; omega), rfl, q _ I.fresh⟩
/-- a list times an int (a negative one is nothing) -/
def rRep : R2 := fun x y H Q => ∃ l k xs, x = .ref l ∧ y = .int k ∧ H l = some (.lst xs) ∧ -(2 ^ 63) ≤ k ∧ k < 2 ^ 63 ∧ xs.length * k.toNat ≤ sizeLine ∧
  ∀ p, H p = none → Q (.ref p) (upd H p (.lst (List.replicate k.toNat xs).flatten))
/-! ### del xs[i] -/
end

/-! ### xs[a:b] = ys -/
section
variable {prog : Program} {w : World} {A : Around} {E : Value → Shared → Prop} {s : Shared}
end

section
variable {X : Cx}
end
end L2

namespace Att
open PySem PySem.W PySem.Calls PyProof.Rows

/-! ### the script -/
theorem ints_of_wellAll {P : Params} {h : Heap} : ∀ (ns : List Int) (vs : List Value), WellAll P h vs (ns.map WData.int) → IntsAre vs ns := by
  intro ns
  induction ns with
  | nil =>
    intro vs w
    rw [List.map_nil] at w
    cases w
    exact .nil
  | cons n ns ih =>
    intro vs w
    rw [List.map_cons] at w
    cases w with
    | cons a b =>
      cases a
      exact .cons _ _ (ih _ b)

theorem script_of {l : OpenLaw} {n : Nat} (hn : l.most = some n) {P : Params} {h : Heap} {args : List WData} {vals : List Value}
    (hpre : l.row.toRowW.claim.pre args = true) (hwl : WellAll P h vals args) :
    ∃ a vs ns, vals = [Value.ref a] ∧ args = [WData.list (ns.map WData.int)] ∧ h.get? a = some { cls := .type "list", data := .seq vs.toArray } ∧ IntsAre vs ns ∧ ns.length ≤ n := by
  have hsh : WShape.hasAll [] args [.list .int] = true := (pre_splitW hpre).1
  have hc : l.pre.holds [] { args := args } = true := (pre_splitW hpre).2
  obtain ⟨d, r, rfl, h1, h2⟩ := hasAllW_cons hsh
  obtain rfl := hasAllW_nil h2
  obtain ⟨xs, rfl, h3⟩ := hasW_list h1
  obtain ⟨ns, rfl⟩ := items_int h3
  have hlen : ns.length ≤ n := by
    unfold OpenLaw.pre at hc
    have h4 : (WTm.not (.lt (.lit (.int (n : Int))) (.len (.arg 0)))).holds [] { args := [.list (ns.map .int)] } = true := by
      have h4 := (holds_andW hc).1
      rw [hn] at h4
      exact h4
    have h5 := condW_of h4 (w_not (w_lt w_lit (w_len_list (w_arg rfl))))
    rw [List.length_map] at h5
    refine Nat.le_of_not_lt fun q => ?_
    have q' : (n : Int) < ((ns.length : Nat) : Int) := by omega
    first
      | (rw [decide_eq_true q'] at h5; exact absurd h5 (by decide))
      | (simp at h5; omega)
  cases hwl with
  | cons w1 w2 =>
    cases w2
    cases w1 with
    | list ho hall => exact ⟨_, _, ns, rfl, rfl, ho, ints_of_wellAll ns _ hall, hlen⟩

theorem post_true (l : OpenLaw) (args : List WData) : l.row.toRowW.claim.post args (.bool true) args = true :=
  postW_of (r := l.row.toRowW) (X := (true == true))
    (show WShape.has [] (.bool true) .bool = true by first | rfl | decide | simp [WShape.has, WShape.arms, WShape.armsAll])
    (show (WTm.eq .res (.lit (.bool true))).value [] { args := args, res := some (.bool true), after := args } = some (.bool (true == true)) from w_eq_bool (w_res rfl) w_lit) rfl

/-! ### the attachment: holds_open's last premise (the goal 'hc' behind k_head) from a wpAny of the law's body -/
/-! ### rules over ANY heap (no ledger) from facts about the written part K: the library's own take a ledger (News) for what they write -/
section
variable {prog : Program} {w : World} {A : Around} {E : Value → Shared → Prop} {s : Shared} {K : Frag}

/-! the whole heap as the ledger: makes every rule that writes through a ledger a rule over any heap -/
def ledger (h : Heap) (L d : Addr) : List (Addr × Obj) := (List.range h.objs.size).filterMap fun a => if a = L ∨ a = d then none else (h.get? a).map fun o => (a, o)
end
end Att

namespace L2
open PySem PySem.Spec PyProof.Rows

theorem vals_ints : ∀ {vs : List Value} {ns : List Int}, IntsAre vs ns → Vals (ns.map V.int) vs
  | _, _, .nil => .nil
  | _, _, .cons n t h => .cons ⟨t, rfl⟩ (vals_ints h)

/-- nothing is tracked but the script, known to the object (or it is an object of the module) -/
def Only (H : Hp) : Prop := ∀ b, H b = none ∨ ∃ o xs, H b = some (.frz o (.lst xs))

/-- THE HEAD: the law's promise, at the heap behind the top. F, the promise of the law's def, may use that base is part of the heap (so K.In base, base.Ns mainGlobals mg stand in Mod) -/
theorem law_call {P : Program} {w : World} {K : PySem.W.Frag} {mg mb : Str → Option Value} {CX : CXT} {k : Nat} {fa a : Addr} {fd : FuncData} {x : Str} {sp : Sp} {s₁ : Shared} {vs : List Value} {ns : List Int}
    (KX : K.In s₁.heap) (hns : s₁.heap.Ns mainGlobals mg) (hb : s₁.heap.Ns builtinsNs mb) (hbb : ∀ x : Str, x ≠ "__name__" → mb x = bootBuiltins x) (hlim : s₁.heap.NoLimit) (hg : s₁.gens = #[])
    (ha : s₁.heap.get? a = some { cls := .type "list", data := .seq vs.toArray }) (hi : IntsAre vs ns) (hl : ns.length ≤ sizeLine) (hr : Room k callerA)
    (F : ∀ base : Heap, K.In base → base.Ns mainGlobals mg → FnOk P w K mg base CX k fa fd [x] sp) (hbind : ∀ (s : Shared) (u : Value), BindsTo s fd ⟨[u], []⟩ [(x, u)])
    (hsp : ∀ H : Hp, Only H → SqL K H a (ns.map V.int) → sp [.ref a] H (fun v _ => v = .bl true) fun _ _ _ => False)
    (hCX : ∀ H e s', CX [] H s₁ (fun _ _ _ => False) e s' → False) :
    codeAny (model P w) callerA (.call (.ref fa) ⟨[.ref a], []⟩) (fun r s' => r = .ok (.ret (.bool true)) ∧ OldK s₁.heap s'.heap ∧ s'.os = s₁.os ∧ AllBare s'.gens) s₁ := by
  have rv := vals_ints hi
  have lenV := hi.length
  -- from an abstract heap in which nothing but the script may be tracked
  have core : ∀ H : Hp, Only H → SqL K H a (ns.map V.int) → HOk P w H s₁.heap → (∀ b, H b ≠ none → b = a) → (H a ≠ none → K.lookup a = none) →
      codeAny (model P w) callerA (.call (.ref fa) ⟨[.ref a], []⟩) (fun r s' => r = .ok (.ret (.bool true)) ∧ OldK s₁.heap s'.heap ∧ s'.os = s₁.os ∧ AllBare s'.gens) s₁ := by
    intro H hO hS hok hA hK
    have base_of : ∀ {b : Addr} {o : Obj}, s₁.heap.get? b = some o → H b = none → (hidT s₁.heap H).get? b = some o := fun e n => hidT_get e n
    have noA : ∀ {b : Addr} {o : Obj} {es : Array DictEntry} {ep : Nat}, s₁.heap.get? b = some o → o.data = .dict es ep → H b = none := fun {b o es ep} e d => by
      cases q : H b with
      | none => rfl
      | some u =>
        have e' : b = a := hA b (by rw [q]; simp)
        subst e'
        rw [ha] at e; cases e
        have d' : Data.seq vs.toArray _ = Data.dict es ep := d
        cases d'
    have nsK : ∀ {b : Addr} {m : Str → Option Value}, s₁.heap.Ns b m → (hidT s₁.heap H).Ns b m := fun {b m} ⟨o, es, ep, e, d, r⟩ => ⟨o, es, ep, base_of e (noA e d), d, r⟩
    have hKb : K.In (hidT s₁.heap H) := fun b o e => base_of (KX b o e) (by
      cases q : H b with
      | none => rfl
      | some u =>
        have e' : b = a := hA b (by rw [q]; simp)
        subst e'
        rw [hK (by rw [q]; simp)] at e; cases e)
    have hM : Mod K mg (hidT s₁.heap H) := ⟨hKb, nsK hns, ⟨mb, nsK hb, hbb⟩, let ⟨mc, h1, h2⟩ := hlim; ⟨mc, nsK h1, h2⟩⟩
    have e0 : Env0 P w K mg (hidT s₁.heap H) callerA [] s₁ H := ⟨rfl, hM, fun b o e => of_hidT e, Nat.le_of_eq (hidT_size _ _), trivial, fun b hb => absurd (show b ∈ ([] : List Addr) from hb) (by simp), hok, .of_eq hg⟩
    refine codeAny_mono ((F _ hKb (nsK hns)).run callerA [] s₁ H ⟨[.ref a], []⟩ [.ref a] [.ref a] _ _ hr e0 (hbind s₁ (.ref a)) (.cons rfl .nil) (hsp H hO hS)) fun r s' h => ?_
    cases r with
    | error e => exact (hCX H e s' h).elim
    | ok fl =>
      cases fl with
      | next => exact False.elim h
      | brk => exact False.elim h
      | cont => exact False.elim h
      | ret u =>
        obtain ⟨v, H', os, bare, un, hok', r', q⟩ := h
        have q' : v = .bl true := q
        subst q'
        obtain rfl : u = Value.bool true := r'
        refine ⟨rfl, OldK.of_keep fun b o e => ?_, os, bare⟩
        cases q : H b with
        | none => exact un.keep b o e q (by intro z; exact absurd (show b ∈ ([] : List Addr) from z) (by simp)) (by simp)
        | some u =>
          rcases hO b with z | ⟨ob, xs, z⟩
          · rw [q] at z; cases z
          · have z2 := un.frzs b ob _ z
            obtain ⟨e1, _⟩ := hok b _ z
            obtain ⟨e2, _⟩ := hok' b _ z2
            rw [e] at e1; cases e1
            exact e2
  cases hk : K.lookup a with
  | some o =>
    -- the script is one of the module's own objects
    have e := KX a o hk
    rw [ha] at e
    cases e
    refine core (fun _ => none) (fun _ => .inl rfl) (.inr ⟨_, vs.toArray, _, hk, rfl, rfl, rfl, by rw [List.size_toArray, lenV]; exact hl, by simpa using rv⟩) (fun b u z => by have z' : (none : Option HO) = some u := z; cases z') (fun b z => absurd rfl z) fun z => absurd rfl z
  | none =>
    refine core (fun b => if b = a then some (.frz { cls := .type "list", data := .seq vs.toArray } (.lst (ns.map V.int))) else none) (fun b => ?_) (.inl (.inr ⟨{ cls := .type "list", data := .seq vs.toArray }, if_pos rfl⟩)) (fun b u z => ?_) (fun b z => ?_) fun _ => hk
    · by_cases hb : b = a
      · exact .inr ⟨_, _, if_pos hb⟩
      · exact .inl (if_neg hb)
    · by_cases hb : b = a
      · have z' := (if_pos hb).symm.trans z
        cases z'
        subst hb
        exact ⟨ha, by rw [List.length_map]; exact hl, vs, _, rv, ha⟩
      · have z' := (if_neg hb).symm.trans z
        cases z'
    · by_cases hb : b = a
      · exact hb
      · exact absurd (if_neg hb) z
end L2

namespace L2
open PySem PySem.Spec PyProof.Rows

abbrev KOf {K : PySem.W.Frag} {h : Heap} (_ : K.In h) : PySem.W.Frag := K

end L2

/- THE LAST THEOREM (shape; LID, My.* are yours):
   My.Adr: a structure of the addresses that your layer names (classes, functions); My.Txt K t: a structure (Prop) of the equations over K;
   My.txt_mk : {K} {implicit addresses ..} (e1 : nsIn K mainGlobals "law" = some (some (.ref f))) (e2 : K.lookup f = some ⟨oc, od, .func (fnOf "law" "law" params body scope dV kV doc pm an cdv ct), sl⟩) (e3 : codeIn K cdv "law" = true) .. : ∃ t, My.Txt K t

set_option maxRecDepth 100000 in
set_option maxHeartbeats 0 in
theorem PySem.Challenge.cw_LID_holds : PySem.Challenge.rw_LID.Holds := by
  w_on; o_law; k_head; (case hw => w_witness2)
  k_fill
  refine L2.walk_of (l := PySem.Challenge.rw_LID) (n := 63) (k := 40) (x := "script") (CX := fun w => ..) (sp := fun _ => My.sp_law) rfl (by decide) rfl ⟨rfl, by decide, by decide⟩ (fun w h Y => PySem.W.kIn_of Y) ?F ?S ?C
  case F =>
    intro w mg fa h KX G hmg
    have T : ∃ t, My.Txt (L2.KOf KX) t := by
      dsimp only [L2.KOf]                          -- K must stand as «<heap const> w.params» for k_is
      refine' My.txt_mk ?e1 ?e2 ?e3 ..
      (case e1 => PySem.W.k_is)                    -- in the order: a name -> its address -> its object -> its parts
      (case e2 => PySem.W.k_is)
      ..
    obtain ⟨t, T⟩ := T
    have e0 := hmg.symm.trans (PySem.W.mg_of KX G T.law)
    cases e0                                       -- fa is the law's own address
    exact ⟨_, fun s u => .of_eq rfl, fun base kb nb => My.law_fn T kb nb⟩     -- if «.of_eq rfl» comes too early: refine' ⟨_, ?b, fun base kb nb => My.law_fn T kb nb⟩; exact fun s u => .of_eq rfl
  case S => exact fun w H a ns hl hO hS => ..
  case C => exact ..
(the tactic k_is has no namespace: write k_is) -/

/-! SHORT WORDS over the layer: a def of the text, its body, what a loop and a test want. -/
namespace L2
open PySem PySem.Spec PyProof.Rows

/-! ### the text by places -/
/-- the j-th statement of a class's body -/
def inClass (s : Stmt) (j : Nat) : Stmt := match s with
  | .ClassDef _ _ _ body _ _ _ _ _ _ _ => body.getD j (.Pass ⟨0, 0, 0, 0⟩)
  | _ => .Pass ⟨0, 0, 0, 0⟩
def defArgs (s : Stmt) : Arguments := match s with
  | .FunctionDef _ a _ _ _ _ _ _ _ _ => a
  | _ => { posonlyargs := [], args := [], vararg := none, kwonlyargs := [], kw_defaults := [], kwarg := none, defaults := [] }
def defBody (s : Stmt) : List Stmt := match s with
  | .FunctionDef _ _ b _ _ _ _ _ _ _ => b
  | _ => []
def defScope (s : Stmt) : Scope := match s with
  | .FunctionDef _ _ _ _ _ _ sc _ _ _ => sc
  | _ => { kind := .function, names := [], isGenerator := false, isCoroutine := false }

/-! ### no exception leaves a def -/
abbrev E0 : XK := fun _ _ _ => False
/-! ### a def (or method) of the text as it stands behind the top -/
structure Fun (K : PySem.W.Frag) (x qual : Str) (st : Stmt) (f : Addr) (fd : FuncData) : Prop where
  ex : ∃ (oc : Value) (od : Option Addr) (kV doc pm : Value) (an : Option Addr) (cdv ct : Value) (osl : Array (Option Value)),
    fd = PySem.W.fnOf x qual (defArgs st) (defBody st) (defScope st) .none kV doc pm an cdv ct ∧ K.lookup f = some ⟨oc, od, .func fd, osl⟩ ∧ PySem.W.codeIn K cdv qual = true
  kp : PySem.W.keepIn K (.ref f) = true
section
variable {P : Program} {w : World} {K : PySem.W.Frag} {mg : Str → Option Value} {base : Heap}
/-- how its arguments bind (no defaults): h is «fun _ _ _ _ _ _ us hl => match us, hl with | [_, _], _ => rfl», one _ a parameter -/
theorem Fun.binds {x qual : Str} {st : Stmt} {f : Addr} {fd : FuncData} {ps : List Str} (F : Fun K x qual st f fd)
    (h : ∀ (kV doc pm : Value) (an : Option Addr) (cdv ct : Value) (us : List Value), us.length = ps.length → bindArgs (PySem.W.fnOf x qual (defArgs st) (defBody st) (defScope st) .none kV doc pm an cdv ct) ⟨us, []⟩ = pure (ps.zip us)) : Binds K fd ps [] := by
  obtain ⟨oc, od, kV, doc, pm, an, cdv, ct, osl, rfl, lk, hcd⟩ := F.ex
  exact .all (h kV doc pm an cdv ct)
theorem fun_mk {x qual : Str} {st : Stmt} {f : Addr} {oc : Value} {od an : Option Addr} {osl : Array (Option Value)} {kV doc pm cdv ct : Value} (l : K.lookup f = some ⟨oc, od, .func (PySem.W.fnOf x qual (defArgs st) (defBody st) (defScope st) .none kV doc pm an cdv ct), osl⟩)
    (c : PySem.W.codeIn K cdv qual = true) (k : PySem.W.keepIn K (.ref f) = true) : Fun K x qual st f (PySem.W.fnOf x qual (defArgs st) (defBody st) (defScope st) .none kV doc pm an cdv ct) := ⟨⟨oc, od, kV, doc, pm, an, cdv, ct, osl, rfl, l, c⟩, k⟩
end
/-! ### expressions in short: the name that stands in the i-th slot -/
section
variable {X : Cx}
theorem pv (i : Nat) {x : Str} {pos : Pos} (hN : X.N[i]? = some x := by rfl) (hv : Vis X.env.scope x := by first | exact Or.inl rfl | exact Or.inr (Or.inl rfl) | exact Or.inr (Or.inr rfl)) (hd : (x == ("__debug__" : Str)) = false := by decide)
    (hcd : (x == ("__classdict__" : Str)) = false := by decide) : PE X (.Name x pos) (tVar i) := pe_var hN hv hd hcd
/-- len of a dict -/
theorem call_lenD : CallR X (.builtin "len") (fun xs H Q => ∃ a kvs, xs = [V.ref a] ∧ H a = some (.dK kvs) ∧ Q (.int kvs.length) H) := by
  intro pins s σ H xs us Q I r h
  obtain ⟨a, kvs, rfl, ha, q⟩ := h
  obtain ⟨u, rfl, ru⟩ := vals1 r
  cases ru
  exact d_len I (.inl ha) fun t s' I' => ⟨.int kvs.length, H, I', ⟨t, rfl⟩, q⟩
end

/-! ### tests -/
theorem iteF {A B : Prop} (h : B) : if false = true then A else B := by
  rw [if_neg Bool.false_ne_true]
  exact h
theorem iteT {A B : Prop} (h : A) : if true = true then A else B := by
  rw [if_pos rfl]
  exact h
theorem ite2 {c A B : Prop} [Decidable c] (h1 : c → A) (h2 : ¬ c → B) : if c then A else B := by
  by_cases h : c
  · rw [if_pos h]
    exact h1 h
  · rw [if_neg h]
    exact h2 h
/-! ### heaps -/
/-- all that was tracked is as it was -/
def Same (H H' : Hp) : Prop := ∀ b o, H b = some o → H' b = some o
theorem Same.trans {H H1 H2 : Hp} (a : Same H H1) (b : Same H1 H2) : Same H H2 := fun c o h => b c o (a c o h)
theorem Same.free {H H' : Hp} (e : Same H H') {l : Addr} (h : H' l = Option.none) : H l = Option.none := by
  cases q : H l with
  | none => rfl
  | some o =>
    rw [e l o q] at h
    cases h
theorem Same.seq {K : PySem.W.Frag} {H H' : Hp} {a : Addr} {xs : List V} (e : Same H H') (h : SqL K H a xs) : SqL K H' a xs := by
  rcases h with (h | ⟨o, h⟩) | h
  · exact .inl (.inl (e _ _ h))
  · exact .inl (.inr ⟨o, e _ _ h⟩)
  · exact .inr h

/-! ### a dict's pairs: keys that differ -/
section
variable {κ : Type} [DecidableEq κ]
theorem valV_not {kvs : List (κ × V)} {k : κ} (h : valV kvs k = none) : ¬ k ∈ kvs.map (·.1) := by
  intro m
  obtain ⟨p, hp, e⟩ := List.mem_map.mp m
  have q : (kvs.any fun kv => decide (kv.1 = k)) = true := List.any_eq_true.mpr ⟨p, hp, decide_eq_true e⟩
  rw [valV_any, h] at q
  exact absurd q (by simp)
theorem valV_in {kvs : List (κ × V)} {k : κ} {v : V} (h : valV kvs k = some v) : k ∈ kvs.map (·.1) := by
  have q : (kvs.any fun kv => decide (kv.1 = k)) = true := by
    rw [valV_any, h]
    all_goals rfl
  obtain ⟨p, hp, e⟩ := List.any_eq_true.mp q
  exact List.mem_map.mpr ⟨p, hp, of_decide_eq_true e⟩
theorem dropK_pos {p : κ × V} {r : List (κ × V)} {k : κ} (e : p.1 = k) : dropK (p :: r) k = dropK r k := by
  unfold dropK
  rw [List.filter_cons, if_neg (by simp [e])]
theorem dropK_neg {p : κ × V} {r : List (κ × V)} {k : κ} (e : ¬ p.1 = k) : dropK (p :: r) k = p :: dropK r k := by
  unfold dropK
  rw [List.filter_cons, if_pos (by simp [e])]
theorem dropK_mem {kvs : List (κ × V)} {k : κ} {p : κ × V} (h : p ∈ dropK kvs k) : p ∈ kvs := (List.mem_filter.mp h).1
theorem nd_dropK : ∀ {kvs : List (κ × V)} {k : κ}, (kvs.map (·.1)).Nodup → ((dropK kvs k).map (·.1)).Nodup
  | [], _, _ => List.nodup_nil
  | p :: r, k, h => by
    have h : (p.1 :: r.map (·.1)).Nodup := h
    obtain ⟨h1, h2⟩ := List.nodup_cons.mp h
    by_cases e : p.1 = k
    · rw [dropK_pos e]
      exact nd_dropK h2
    · rw [dropK_neg e]
      show (p.1 :: (dropK r k).map (·.1)).Nodup
      refine List.nodup_cons.mpr ⟨fun m => h1 ?_, nd_dropK h2⟩
      obtain ⟨q, hq, eq⟩ := List.mem_map.mp m
      exact List.mem_map.mpr ⟨q, dropK_mem hq, eq⟩
end
end L2
set_option Elab.async false
set_option linter.all false
set_option maxRecDepth 100000
namespace L2
open PySem PySem.Spec PyProof.Rows

/-! ### refusals: how an exception lies behind a call -/
/-- the exception at ea, of the class cls, is on its way through the frames l; B: what stays through it all -/
structure FlyAt (P : Program) (w : World) (l : List Env) (H : Hp) (h0 : Heap) (H' : Hp) (h : Heap) (ea : Addr) (cls : Value) : Prop where
  un : Un (frs l) [] H H' h0 h
  hok : HOk P w H' h
  new : h0.get? ea = none
  fly : ∃ B a0, Heap.FlyingW B l ea cls a0 h ∧ (∀ b u o, H' b = some u → h.get? b = some o → B.get? b = some o) ∧ ∀ b o o', h0.get? b = some o → h.get? b = some o' → b ∉ frs l → B.get? b = some o'
def CXR (P : Program) (w : World) : CXT := fun outer H s E e s' => ∃ (H' : Hp) (ea : Addr) (cls : Value), e = .ref ea ∧ s'.os = s.os ∧ AllBare s'.gens ∧ FlyAt P w outer H s.heap H' s'.heap ea cls ∧ E cls none H'
theorem passR0 {P : Program} {w : World} {X : Cx} : Passes (CXR P w) X E0 := fun _ _ _ _ _ _ _ ⟨_, _, _, _, _, _, _, h⟩ => h.elim

/-! ### a def of the module, found by its name -/
/-- the def st stands under the name x -/
def Def (K : PySem.W.Frag) (mg : Str → Option Value) (x : Str) (st : Stmt) : Prop := ∃ f fd, mg x = some (.ref f) ∧ Fun K x x st f fd
/-- .. and keeps the promise sp -/
structure FnD (P : Program) (w : World) (K : PySem.W.Frag) (mg : Str → Option Value) (base : Heap) (k : Nat) (x : Str) (ps : List Str) (sp : Sp) : Prop where
  ex : ∃ f fd, mg x = some (.ref f) ∧ PySem.W.keepIn K (.ref f) = true ∧ Binds K fd ps [] ∧ FnOk P w K mg base (CXR P w) k f fd ps sp
theorem FnD.mono {P : Program} {w : World} {K : PySem.W.Frag} {mg : Str → Option Value} {base : Heap} {j k : Nat} {x : Str} {ps : List Str} {sp : Sp} (F : FnD P w K mg base j x ps sp) (h : j ≤ k) : FnD P w K mg base k x ps sp := by
  obtain ⟨f, fd, h1, h2, h3, h4⟩ := F.ex
  exact ⟨f, fd, h1, h2, h3, h4.mono h⟩
section
variable {P : Program} {w : World} {K : PySem.W.Frag} {mg : Str → Option Value} {base : Heap}
theorem Fun.okN {x qual : Str} {st : Stmt} {f : Addr} {fd : FuncData} {N ps : List Str} {k : Nat} {sp : Sp} (F : Fun K x qual st f fd) (S : FnScope N ps (defScope st)) (len : ∀ vs H Q E, sp vs H Q E → vs.length = ps.length)
    (hbody : ∀ (cdv : Value) (A : Around) (outer : List Env) (s : Shared) (H : Hp) (vs : List V) (Q : VK) (E : XK), Room k (A.deeper (envOfC qual (defScope st) s.heap.objs.size f cdv)) → sp vs H Q E →
      ∃ t, PSs (cxOf (CXR P w) P w K mg base N qual (defScope st) f cdv A outer s H E).nox (defBody st) t ∧ t { nx := fun _ H' => Q .non H', rt := Q } (start N vs) H) : FnOk P w K mg base (CXR P w) (k + 1) f fd ps sp := by
  obtain ⟨oc, od, kV, doc, pm, an, cdv, ct, osl, rfl, lk, hcd⟩ := F.ex
  refine fn_of lk hcd S len fun A outer s H vs Q E hr hsp => ?_
  obtain ⟨t, h, q⟩ := hbody cdv A outer s H vs Q E hr hsp
  exact ⟨t, h.nox, q⟩
/-- a def that refuses nothing -/
theorem Def.ok {x : Str} {st : Stmt} {N ps : List Str} {k : Nat} {sp : Sp} (D : Def K mg x st) (S : FnScope N ps (defScope st)) (len : ∀ vs H Q E, sp vs H Q E → vs.length = ps.length)
    (hb : ∀ (kV doc pm : Value) (an : Option Addr) (cdv ct : Value) (us : List Value), us.length = ps.length → bindArgs (PySem.W.fnOf x x (defArgs st) (defBody st) (defScope st) .none kV doc pm an cdv ct) ⟨us, []⟩ = pure (ps.zip us))
    (hbody : ∀ (f : Addr) (cdv : Value) (A : Around) (outer : List Env) (s : Shared) (H : Hp) (vs : List V) (Q : VK) (E : XK), Room k (A.deeper (envOfC x (defScope st) s.heap.objs.size f cdv)) → sp vs H Q E →
      ∃ t, PSs (cxOf (CXR P w) P w K mg base N x (defScope st) f cdv A outer s H E).nox (defBody st) t ∧ t { nx := fun _ H' => Q .non H', rt := Q } (start N vs) H) : FnD P w K mg base (k + 1) x ps sp := by
  obtain ⟨f, fd, hm, F⟩ := D
  refine ⟨f, fd, hm, F.kp, F.binds hb, ?_⟩
  obtain ⟨oc, od, kV, doc, pm, an, cdv, ct, osl, rfl, lk, hcd⟩ := F.ex
  refine fn_of lk hcd S len fun A outer s H vs Q E hr hsp => ?_
  obtain ⟨t, h, q⟩ := hbody f cdv A outer s H vs Q E hr hsp
  exact ⟨t, h.nox, q⟩
end
section
variable {X : Cx} {k : Nat} {ps : List Str} {sp : Sp} {E : XK} {x : Str} {p pos : Pos} {e : Expr} {es : List Expr} {t : TA}
/-- f(e, ..): a def of the module -/
theorem pe_callD (F : FnD X.prog X.w X.K X.mg X.base k x ps sp) (hr : Room k X.A) (hg : Gl X x) (hx : Passes (CXR X.prog X.w) X E) (ha : PA X (e :: es) t)
    (hdb : (x == ("__debug__" : Str)) = false := by decide) (he : starEach (e :: es) X.env = (false, eval e X.env) :: starEach es X.env := by rfl) (hpl : (backTo pos (starEach es X.env)).any (·.1) = false := by rfl) :
    PE X (.Call (.Name x p) (e :: es) [] pos) (tCall sp [] E t) := by
  obtain ⟨f, fd, h1, h2, h3, h4⟩ := F.ex
  exact pe_call h4 hr hg h1 h2 h3 .nil hx ha hdb he hpl
end
section
variable {X : Cx}
/-- isinstance(x, c), c a class (built in, or a class of the module) -/
def rIsi (K : PySem.W.Frag) : List V → Hp → VK → Prop := fun xs H Q => ∃ x c t b, xs = [x, c] ∧ TyOf K H x t ∧ ((∃ n, c = .ty n ∧ PySem.W.kitOne K t (.type n) = some b) ∨ ∃ a, c = .ref a ∧ PySem.W.kitOne K t (.ref a) = some b) ∧ Q (.bl b) H
theorem call_isi : CallR X (.builtin "isinstance") (rIsi X.K) := by
  intro pins s σ H xs us Q I r h
  obtain ⟨x, c, t, b, rfl, ty, hc, q⟩ := h
  obtain ⟨u, v, rfl, ru, rv⟩ := Vals.two r
  rcases hc with ⟨n, rfl, e⟩ | ⟨a, rfl, e⟩
  · cases (show v = Value.type n from rv)
    exact isinst_ok I ru ty e fun tk => ⟨.bl b, H, I.tok tk, rfl, q⟩
  · cases (show v = Value.ref a from rv)
    exact isinst_ok I ru ty e fun tk => ⟨.bl b, H, I.tok tk, rfl, q⟩
end
theorem bt_isinstance : bootBuiltins "isinstance" = some (.builtin "isinstance") := by decide +kernel
theorem bt_len : bootBuiltins "len" = some (.builtin "len") := by decide +kernel
theorem bt_int : bootBuiltins "int" = some (.type "int") := by decide +kernel
theorem bt_bool : bootBuiltins "bool" = some (.type "bool") := by decide +kernel
theorem bt_str : bootBuiltins "str" = some (.type "str") := by decide +kernel
theorem bt_list : bootBuiltins "list" = some (.type "list") := by decide +kernel
theorem bt_tuple : bootBuiltins "tuple" = some (.type "tuple") := by decide +kernel
theorem bt_sorted : bootBuiltins "sorted" = some (.builtin "sorted") := by decide +kernel
theorem bt_ValueError : bootBuiltins "ValueError" = some (.type "ValueError") := by decide +kernel
/-- the built-in names that the module doesn't lay over -/
structure Blt (mg : Str → Option Value) : Prop where
  isinstance : mg "isinstance" = none
  len : mg "len" = none
  int : mg "int" = none
  bool : mg "bool" = none
  str : mg "str" = none
  list : mg "list" = none
  tuple : mg "tuple" = none
  dict : mg "dict" = none
  range : mg "range" = none
  sorted : mg "sorted" = none
  min : mg "min" = none
  max : mg "max" = none
  all : mg "all" = none
  any : mg "any" = none
  enumerate : mg "enumerate" = none
  sum : mg "sum" = none
  ValueError : mg "ValueError" = none
theorem blt_mk {K : PySem.W.Frag} {h : Heap} {mg : Str → Option Value} (X : K.In h) (G : h.Ns mainGlobals mg)
    (z0 : PySem.W.nsIn K mainGlobals "isinstance" = some none)
    (z1 : PySem.W.nsIn K mainGlobals "len" = some none)
    (z2 : PySem.W.nsIn K mainGlobals "int" = some none)
    (z3 : PySem.W.nsIn K mainGlobals "bool" = some none)
    (z4 : PySem.W.nsIn K mainGlobals "str" = some none)
    (z5 : PySem.W.nsIn K mainGlobals "list" = some none)
    (z6 : PySem.W.nsIn K mainGlobals "tuple" = some none)
    (z7 : PySem.W.nsIn K mainGlobals "dict" = some none)
    (z8 : PySem.W.nsIn K mainGlobals "range" = some none)
    (z9 : PySem.W.nsIn K mainGlobals "sorted" = some none)
    (z10 : PySem.W.nsIn K mainGlobals "min" = some none)
    (z11 : PySem.W.nsIn K mainGlobals "max" = some none)
    (z12 : PySem.W.nsIn K mainGlobals "all" = some none)
    (z13 : PySem.W.nsIn K mainGlobals "any" = some none)
    (z14 : PySem.W.nsIn K mainGlobals "enumerate" = some none)
    (z15 : PySem.W.nsIn K mainGlobals "sum" = some none)
    (z16 : PySem.W.nsIn K mainGlobals "ValueError" = some none)
    : Blt mg := ⟨PySem.W.mg_none_of X G z0, PySem.W.mg_none_of X G z1, PySem.W.mg_none_of X G z2, PySem.W.mg_none_of X G z3, PySem.W.mg_none_of X G z4, PySem.W.mg_none_of X G z5, PySem.W.mg_none_of X G z6, PySem.W.mg_none_of X G z7, PySem.W.mg_none_of X G z8, PySem.W.mg_none_of X G z9, PySem.W.mg_none_of X G z10, PySem.W.mg_none_of X G z11, PySem.W.mg_none_of X G z12, PySem.W.mg_none_of X G z13, PySem.W.mg_none_of X G z14, PySem.W.mg_none_of X G z15, PySem.W.mg_none_of X G z16⟩
theorem def_mk {K : PySem.W.Frag} {h : Heap} {mg : Str → Option Value} {x : Str} {st : Stmt} {f : Addr} {oc : Value} {od an : Option Addr} {osl : Array (Option Value)} {kV doc pm cdv ct : Value} (X : K.In h) (G : h.Ns mainGlobals mg)
    (a : PySem.W.nsIn K mainGlobals x = some (some (.ref f))) (l : K.lookup f = some ⟨oc, od, .func (PySem.W.fnOf x x (defArgs st) (defBody st) (defScope st) .none kV doc pm an cdv ct), osl⟩)
    (c : PySem.W.codeIn K cdv x = true) (k : PySem.W.keepIn K (.ref f) = true) : Def K mg x st := ⟨f, _, PySem.W.mg_of X G a, fun_mk l c k⟩
theorem law_F {P : Program} {w : World} {K : PySem.W.Frag} {mg : Str → Option Value} {st : Stmt} {fa : Addr} {k : Nat} {sp : Sp} {x : Str} (D : Def K mg "law" st) (hmg : mg "law" = some (.ref fa))
    (hb : ∀ (kV doc pm : Value) (an : Option Addr) (cdv ct u : Value), bindArgs (PySem.W.fnOf "law" "law" (defArgs st) (defBody st) (defScope st) .none kV doc pm an cdv ct) ⟨[u], []⟩ = pure [(x, u)])
    (ok : ∀ (base : Heap) (f : Addr) (fd : FuncData), Fun K "law" "law" st f fd → FnOk P w K mg base (CXR P w) k f fd [x] sp) :
    ∃ fd : FuncData, (∀ (s : Shared) (u : Value), BindsTo s fd ⟨[u], []⟩ [(x, u)]) ∧ ∀ base : Heap, K.In base → base.Ns mainGlobals mg → FnOk P w K mg base (CXR P w) k fa fd [x] sp := by
  obtain ⟨f, fd, hm, F⟩ := D
  rw [hm] at hmg
  cases hmg
  obtain ⟨oc, od, kV, doc, pm, an, cdv, ct, osl, rfl, lk, hcd⟩ := id F.ex
  exact ⟨_, fun s u => .of_eq (hb kV doc pm an cdv ct u), fun base _ _ => ok base _ _ F⟩
end L2
set_option Elab.async false
set_option linter.all false
set_option maxRecDepth 100000
namespace L2
open PySem PySem.Spec PyProof.Rows
theorem cxOf_K {CX : CXT} {P : Program} {w : World} {K : PySem.W.Frag} {mg : Str → Option Value} {base : Heap} {N : List Str} {qual : Str} {scope : Scope} {f : Addr} {cd : Value} {A : Around} {outer : List Env} {s : Shared} {H : Hp} {E : XK} : (cxOf CX P w K mg base N qual scope f cd A outer s H E).K = K := rfl
/-! ### reading a block part by part: the rest behind a letter -/
/-- an equation that no rewriting uses -/
def Is {α : Sort _} (a b : α) : Prop := a = b
theorem Is.eq {α : Sort _} {a b : α} (h : Is a b) : a = b := h
theorem Is.rfl {α : Sort _} {a : α} : Is a a := Eq.refl a
theorem seqI {t u : TS} {D : Ends} {σ : St} {H : Hp} (h : ∀ M, Is M (u D) → t { D with nx := M } σ H) : tSeq t u D σ H := h _ Is.rfl
/-- a loop over a list that is known when it begins -/
def LoopL (K : PySem.W.Frag) (a : Addr) (g : TG) (tb : TS) (D : Ends) (σ : St) (H : Hp) : Prop :=
  ∃ W : Nat → Nat → St → Hp → Prop, (∃ m, W 0 m σ H) ∧ ∀ i m σ H, W i m σ H →
      ((Itl K a).stop i H ∧ D.nx σ H) ∨ ((Itl K a).go i H ∧ ∃ N : St → Hp → Prop, (∀ σ' H', N σ' H' → ∃ m', m' < m ∧ W (i + 1) m' σ' H') ∧ ∀ x H', (Itl K a).yld i H x H' → g x σ H' fun σ2 H2 => tb { D with nx := N, ct := N, bk := D.nx } σ2 H2)
theorem forL {K : PySem.W.Frag} {tl : TE} {g : TG} {tb : TS} {D : Ends} {σ : St} {H : Hp}
    (h : ∀ L, Is L (fun a H1 => LoopL K a g tb D σ H1) → tl σ H fun x H1 => ∃ a, x = .ref a ∧ (∃ xs, SqL K H1 a xs) ∧ L a H1) : tFor (iList K tl) g tb D σ H := h _ Is.rfl
theorem loopL {K : PySem.W.Frag} {a : Addr} {g : TG} {tb : TS} {D : Ends} {σ : St} {H : Hp} (xs : List V) (Pv : Nat → St → Hp → Prop) (h0 : Pv 0 σ H) (hl : ∀ i σ H, i ≤ xs.length → Pv i σ H → SqL K H a xs)
    (hs : ∀ i x σ H, xs[i]? = some x → Pv i σ H → g x σ H fun σ2 H2 => tb { D with nx := Pv (i + 1), ct := Pv (i + 1), bk := D.nx } σ2 H2) (hd : ∀ σ H, Pv xs.length σ H → D.nx σ H) : LoopL K a g tb D σ H := for_list Pv h0 hl hs hd
def LoopR (lo : Int) (n : Nat) (g : TG) (tb : TS) (D : Ends) (σ : St) (H : Hp) : Prop :=
  ∃ W : Nat → Nat → St → Hp → Prop, (∃ m, W 0 m σ H) ∧ ∀ i m σ H, W i m σ H →
      ((Itr lo n).stop i H ∧ D.nx σ H) ∨ ((Itr lo n).go i H ∧ ∃ N : St → Hp → Prop, (∀ σ' H', N σ' H' → ∃ m', m' < m ∧ W (i + 1) m' σ' H') ∧ ∀ x H', (Itr lo n).yld i H x H' → g x σ H' fun σ2 H2 => tb { D with nx := N, ct := N, bk := D.nx } σ2 H2)
theorem forR1 {ta : TA} {g : TG} {tb : TS} {D : Ends} {σ : St} {H : Hp}
    (h : ∀ L, Is L (fun n H1 => LoopR 0 n g tb D σ H1) → ta σ H fun vs H1 => ∃ j : Int, vs = [.int j] ∧ -(2 ^ 62) ≤ j ∧ j < 2 ^ 62 ∧ L j.toNat H1) : tFor (iRng1 ta) g tb D σ H := h _ Is.rfl
theorem loopR {lo : Int} {n : Nat} {g : TG} {tb : TS} {D : Ends} {σ : St} {H : Hp} (Pv : Nat → St → Hp → Prop) (h0 : Pv 0 σ H)
    (hs : ∀ i σ H, i < n → Pv i σ H → g (.int (lo + i)) σ H fun σ2 H2 => tb { D with nx := Pv (i + 1), ct := Pv (i + 1), bk := D.nx } σ2 H2) (hd : ∀ σ H, Pv n σ H → D.nx σ H) : LoopR lo n g tb D σ H := for_range Pv h0 hs hd
theorem iteD {c : Prop} [Decidable c] {A B : Prop} (h1 : c → A) (h2 : ¬ c → B) : if decide c = true then A else B := by
  by_cases h : c
  · rw [decide_eq_true h]; exact iteT (h1 h)
  · rw [decide_eq_false h]; exact iteF (h2 h)
theorem same_upd {H : Hp} {a : Addr} {o : HO} (h : H a = none) : Same H (upd H a o) := fun b o' e => by rw [upd_ne (ne_of_none e h)]; exact e
end L2
local macro_rules | `(tactic| walk_at "rd") => `(tactic| simp only [L2.tSeq, L2.tAsg])
set_option Elab.async false
set_option linter.all false
set_option maxRecDepth 100000
namespace L2
open PySem PySem.Spec PyProof.Rows
section
variable {X : Cx}
/-! ### items, where the list or tuple is one that is tracked -/
def rIxA : R2 := fun x y H Q => ∃ p i, x = .ref p ∧ y = .int i ∧ ((∃ xs, H p = some (.lst xs) ∧ ∃ v, atI xs i = some v ∧ Q v H) ∨ (∃ xs, H p = some (.tup xs) ∧ ∃ v, atI xs i = some v ∧ Q v H))
theorem ix_any : IxR X rIxA := by
  intro value slice pins s σ H x y v u Q I rx ry h hs
  obtain ⟨p, i, e1, e2, ⟨xs, hp, z, ha, q⟩ | ⟨xs, hp, z, ha, q⟩⟩ := h
  · exact ix_list value slice pins s σ H x y v u Q I rx ry ⟨p, xs, i, z, e1, e2, SqL.of hp, ha, q⟩ hs
  · exact ix_tup value slice pins s σ H x y v u Q I rx ry ⟨p, xs, i, z, e1, e2, SqT.of hp, ha, q⟩ hs
/-- len of what is tracked: a list, a tuple, a dict -/
def rLenA : List V → Hp → VK → Prop := fun xs H Q => ∃ p, xs = [.ref p] ∧ ((∃ ys, H p = some (.lst ys) ∧ Q (.int ys.length) H) ∨ (∃ ys, H p = some (.tup ys) ∧ Q (.int ys.length) H) ∨ (∃ kvs, H p = some (.dK kvs) ∧ Q (.int kvs.length) H))
theorem call_lenA : CallR X (.builtin "len") rLenA := by
  intro pins s σ H xs us Q I r h
  obtain ⟨p, e1, ⟨ys, hp, q⟩ | ⟨ys, hp, q⟩ | ⟨kvs, hp, q⟩⟩ := h
  · exact call_len_seq pins s σ H xs us Q I r ⟨p, ys, e1, .inl (SqL.of hp), q⟩
  · exact call_len_seq pins s σ H xs us Q I r ⟨p, ys, e1, .inr (SqT.of hp), q⟩
  · exact call_lenD pins s σ H xs us Q I r ⟨p, kvs, e1, hp, q⟩
theorem atI_0 {α : Type} {x : α} {xs : List α} : atI (x :: xs) 0 = some x := atI_nat (j := 0) rfl
theorem atI_1 {α : Type} {x y : α} {xs : List α} : atI (x :: y :: xs) 1 = some y := atI_nat (j := 1) rfl
theorem atI_2 {α : Type} {x y z : α} {xs : List α} : atI (x :: y :: z :: xs) 2 = some z := atI_nat (j := 2) rfl
theorem atI_3 {α : Type} {x y z t : α} {xs : List α} : atI (x :: y :: z :: t :: xs) 3 = some t := atI_nat (j := 3) rfl
theorem atI_4 {α : Type} {x y z t r : α} {xs : List α} : atI (x :: y :: z :: t :: r :: xs) 4 = some r := atI_nat (j := 4) rfl
/-- isinstance of plain values by built-in types, reckoned -/
def isiT (t n : String) : Option Bool := PySem.W.kitOne [] (.type t) (.type n)
/-- the kind of a value by what is tracked -/
def tyN (H : Hp) : V → Option String
  | .non => some "NoneType"
  | .bl _ => some "bool"
  | .int _ => some "int"
  | .str _ => some "str"
  | .ref a => match H a with
    | some (.lst _) => some "list"
    | some (.tup _) => some "tuple"
    | some (.dK _) => some "dict"
    | _ => none
  | _ => none
theorem tyN_ok {K : PySem.W.Frag} {H : Hp} {x : V} {t : String} (h : tyN H x = some t) : TyOf K H x (.type t) := by
  cases x with
  | non => cases h; exact .non
  | bl b => cases h; exact .bl b
  | int i => cases h; exact .int i
  | str i => cases h; exact .str i
  | ref a =>
    unfold tyN at h
    cases e : H a with
    | none => simp only [e] at h; cases h
    | some o =>
      simp only [e] at h
      cases o with
      | lst xs => cases h; exact .lst e
      | tup xs => cases h; exact .tup e
      | dK xs => cases h; exact .dK e
      | _ => cases h
  | _ => cases h
theorem kit_ty (K : PySem.W.Frag) (t n : String) : PySem.W.kitOne K (.type t) (.type n) = isiT t n := by
  unfold isiT PySem.W.kitOne PySem.W.kitCls PySem.W.subIn
  rfl
def rIsiN : List V → Hp → VK → Prop := fun xs H Q => ∃ x n t b, xs = [x, .ty n] ∧ tyN H x = some t ∧ isiT t n = some b ∧ Q (.bl b) H
theorem call_isiN : CallR X (.builtin "isinstance") rIsiN := by
  intro pins s σ H xs us Q I r h
  obtain ⟨x, n, t, b, e1, e2, e3, q⟩ := h
  exact call_isi pins s σ H xs us Q I r ⟨x, .ty n, .type t, b, e1, tyN_ok e2, .inl ⟨n, rfl, by rw [kit_ty]; exact e3⟩, q⟩
theorem isi_int_int : isiT "int" "int" = some true := rfl
theorem isi_int_bool : isiT "int" "bool" = some false := rfl
theorem isi_bool_int : isiT "bool" "int" = some true := rfl
theorem isi_bool_bool : isiT "bool" "bool" = some true := rfl
theorem isi_none_int : isiT "NoneType" "int" = some false := rfl
theorem isi_none_bool : isiT "NoneType" "bool" = some false := rfl
theorem isi_str_int : isiT "str" "int" = some false := rfl
theorem isi_str_bool : isiT "str" "bool" = some false := rfl
theorem isi_list_int : isiT "list" "int" = some false := rfl
theorem isi_list_bool : isiT "list" "bool" = some false := rfl
theorem isi_tuple_int : isiT "tuple" "int" = some false := rfl
theorem isi_tuple_bool : isiT "tuple" "bool" = some false := rfl
theorem isi_list_list : isiT "list" "list" = some true := rfl
theorem isi_tuple_tuple : isiT "tuple" "tuple" = some true := rfl
theorem isi_tuple_list : isiT "tuple" "list" = some false := rfl
theorem isi_list_tuple : isiT "list" "tuple" = some false := rfl
theorem isi_none_list : isiT "NoneType" "list" = some false := rfl
theorem isi_none_tuple : isiT "NoneType" "tuple" = some false := rfl
theorem isi_str_list : isiT "str" "list" = some false := rfl
theorem isi_int_list : isiT "int" "list" = some false := rfl
theorem isi_bool_list : isiT "bool" "list" = some false := rfl
theorem isi_int_tuple : isiT "int" "tuple" = some false := rfl
theorem isi_bool_tuple : isiT "bool" "tuple" = some false := rfl
theorem isi_str_str : isiT "str" "str" = some true := rfl
/-! ### a list grows by one -/
end
section
variable {X : Cx} {o e : Expr} {to : TE} {t : TA} {apos pos : Pos}
end
/-! ### new objects, the heap behind a letter -/
end L2
set_option Elab.async false
set_option linter.all false
set_option maxRecDepth 100000
namespace L2
open PySem PySem.Spec PyProof.Rows

/-! ### refusals: raised, passed on, caught -/
theorem ObjOk.there {P : Program} {w : World} {H : Hp} {h : Heap} {a : Addr} {o : HO} (x : ObjOk P w H h a o) : ∃ u, h.get? a = some u := by
  cases o with
  | lst xs => obtain ⟨_, _, _, _, e⟩ := x; exact ⟨_, e⟩
  | tup xs => obtain ⟨_, _, _, o, e, _⟩ := x; exact ⟨_, e⟩
  | dK kvs => obtain ⟨_, _, _, _, o, _, _, e, _⟩ := x; exact ⟨_, e⟩
  | dT kvs => obtain ⟨_, _, _, _, o, _, _, e, _⟩ := x; exact ⟨_, e⟩
  | set S n => obtain ⟨o, _, _, _, e, _⟩ := x; exact ⟨_, e⟩
  | ins C dx fs => obtain ⟨_, _, _, e, _⟩ := x; exact ⟨_, e⟩
  | own y => obtain ⟨_, e⟩ := x; exact ⟨_, e⟩
  | xd fs => obtain ⟨_, ⟨_, _, _, e, _⟩, _⟩ := x; exact ⟨_, e⟩
  | rng lo hi => obtain ⟨_, _, _, e⟩ := x; exact ⟨_, e⟩
  | frz ob u => obtain ⟨e, _⟩ := x; exact ⟨_, e⟩
  | tbl ps => exact ⟨_, (show h.get? a = some _ from x)⟩
  | met f y => exact ⟨_, (show h.get? a = some _ from x)⟩
  | ext φ => obtain ⟨_, ⟨_, e⟩, _⟩ := x; exact ⟨_, e⟩

theorem fly_un {P : Program} {w : World} {l : List Env} {H H' : Hp} {h0 h h2 B : Heap} (un : Un (frs l) [] H H' h0 h) (hok : HOk P w H' h) (fr : h.FunFrames B l)
    (tr : ∀ b u o, H' b = some u → h.get? b = some o → B.get? b = some o) (kp : ∀ b o o', h0.get? b = some o → h.get? b = some o' → b ∉ frs l → B.get? b = some o') (st : B.StaysIn h2) (sm : h.UpToSlots h2) :
    Un (frs l) [] H H' h0 h2 ∧ HOk P w H' h2 := by
  refine ⟨⟨fun b o q n hb hx => ?_, fun b o q n hb hx => ?_, un.free, fun b o q hx => ?_, un.tups, un.frzs, un.tbls⟩, fun a o e => ?_⟩
  · exact st b o (kp b o o q (un.keep b o q n hb hx) hb)
  · obtain ⟨sl, e⟩ := un.slot b o q n hb hx
    obtain ⟨_, o', ho', hd⟩ := fr.mem hb
    rw [e] at ho'; cases ho'
    obtain ⟨sl', e'⟩ := sm b _ e hd
    exact ⟨sl', e'⟩
  · obtain ⟨o', e⟩ := un.there b o q hx
    by_cases hb : b ∈ frs l
    · obtain ⟨_, o2, ho2, hd⟩ := fr.mem hb
      obtain ⟨sl', e'⟩ := sm b _ ho2 hd
      exact ⟨_, e'⟩
    · exact ⟨o', st b o' (kp b o o' q e hb)⟩
  · refine (hok a o e).stay (fun b u hb q => ?_) (fun _ q => q) fun _ _ q => q
    rcases hb with rfl | hb
    · exact st b u (tr b _ u e q)
    · exact st b u (tr b _ u hb q)

theorem un_down {fs fs' : List Addr} {L : Addr} {H H1 H2 : Hp} {h h1 h2 : Heap} (a : Un fs [] H H1 h h1) (b : Un fs' [] H1 H2 h1 h2) (hL : h.get? L = none) (sub : ∀ x ∈ fs', x = L ∨ x ∈ fs) : Un fs [] H H2 h h2 where
  keep := fun c ob q n hc hx => b.keep c ob (a.keep c ob q n hc hx) (a.free c ob q n hx) (fun z => (sub c z).elim (fun e => by rw [e, hL] at q; cases q) hc) hx
  slot := fun c ob q n hc hx => by
    obtain ⟨sl, e1⟩ := a.slot c ob q n hc hx
    obtain ⟨sl', e2⟩ := b.any e1 (a.free c ob q n hx) hx
    exact ⟨sl', e2⟩
  free := fun c ob q n hx => by
    obtain ⟨o', e1⟩ := a.there c ob q hx
    exact b.free c o' e1 (a.free c ob q n hx) hx
  there := fun c ob q hx => by
    obtain ⟨o', e1⟩ := a.there c ob q hx
    exact b.there c o' e1 hx
  tups := fun c xs q => b.tups c xs (a.tups c xs q)
  frzs := fun c ob xs q => b.frzs c ob xs (a.frzs c ob xs q)
  tbls := fun c ps q => by
    obtain ⟨m1, e1⟩ := a.tbls c ps q
    obtain ⟨m2, e2⟩ := b.tbls c _ e1
    exact ⟨m1 ++ m2, by rw [e2, Array.append_assoc]⟩

section
variable {P : Program} {w : World} {K : PySem.W.Frag} {mg : Str → Option Value} {base : Heap} {N : List Str} {qual : Str} {scope : Scope} {f : Addr} {cd : Value} {A : Around} {outer : List Env} {s : Shared} {H : Hp} {E : XK}
/-- the body's context, a def that may refuse -/
abbrev cxR (P : Program) (w : World) (K : PySem.W.Frag) (mg : Str → Option Value) (base : Heap) (N : List Str) (qual : Str) (scope : Scope) (f : Addr) (cd : Value) (A : Around) (outer : List Env) (s : Shared) (H : Hp) (E : XK) : Cx :=
  cxOf (CXR P w) P w K mg base N qual scope f cd A outer s H E
theorem frs_cons {L : Addr} {env : Env} {l : List Env} (h : env.frame = some L) : frs (env :: l) = L :: frs l := by unfold frs; rw [List.filterMap_cons, h]
/-- what a callee refuses, this def refuses too -/
theorem passR : Passes (CXR P w) (cxR P w K mg base N qual scope f cd A outer s H E) E := by
  intro pins σ H1 s1 e s' I h
  obtain ⟨H', ea, cls, rfl, os, bare, fl, hE⟩ := h
  obtain ⟨B, a0, hfl, tr, kp⟩ := fl.fly
  have fr := hfl.2.2.1
  show wpAny _ _ (leaving _ _) _ _ s'
  refine wpAny_leaves_onW (I.ok.frames) (L := s.heap.objs.size) rfl hfl fun h2 hfl2 sm => ?_
  obtain ⟨un2, hok2⟩ := fly_un fl.un fl.hok fr tr kp hfl2.1 sm
  have hfs : frs (envOfC qual scope s.heap.objs.size f cd :: outer) = s.heap.objs.size :: frs outer := frs_cons rfl
  have hL : s.heap.get? s.heap.objs.size = none := Heap.get?_none_of_le (Nat.le_refl _)
  have sub : ∀ x ∈ frs (envOfC qual scope s.heap.objs.size f cd :: outer), x = s.heap.objs.size ∨ x ∈ frs outer := fun x hx => by rw [hfs] at hx; exact List.mem_cons.mp hx
  refine ⟨H', ea, cls, rfl, os.trans I.os, bare, ⟨un_down I.base un2 hL sub, hok2, ?_, B, a0, hfl2, fun b u o e q => ?_, fun b o o2 q q2 hb => ?_⟩, hE⟩
  · cases q : s.heap.get? ea with
    | none => rfl
    | some o =>
      obtain ⟨o', e⟩ := I.base.there ea o q (by intro z; cases z)
      rw [fl.new] at e; cases e
  · obtain ⟨o', e'⟩ := (fl.hok b u e).there
    have h1 := tr b u o' e e'
    have h2' := hfl2.1 b o' h1
    rw [q] at h2'; cases h2'; exact h1
  · obtain ⟨o1, e1⟩ := I.base.there b o q (by intro z; cases z)
    obtain ⟨o', e'⟩ := fl.un.there b o1 e1 (by intro z; cases z)
    have nb : b ∉ frs (envOfC qual scope s.heap.objs.size f cd :: outer) := fun z => (sub b z).elim (fun e => by rw [e, hL] at q; cases q) hb
    have h1 := kp b o1 o' e1 e' nb
    have h2' := hfl2.1 b o' h1
    rw [q2] at h2'; cases h2'; exact h1
/-- an exception made here leaves -/
theorem raise_leaves {pins : List (Addr × Obj)} {σ : St} {H1 : Hp} {s2 : Shared} {h' : Heap} {e C : Addr} {vs : List Value} (I : Inv (cxR P w K mg base N qual scope f cd A outer s H E) pins σ H1 s2)
    (hx : Heap.MadeExcOf s2.heap h' e (.ref C) vs) (hE : E (.ref C) none H1) : (cxR P w K mg base N qual scope f cd A outer s H E).xe (.ref e) { s2 with heap := h' } := by
  have hfs : frs (envOfC qual scope s.heap.objs.size f cd :: outer) = s.heap.objs.size :: frs outer := frs_cons rfl
  have hL : s.heap.get? s.heap.objs.size = none := Heap.get?_none_of_le (Nat.le_refl _)
  have sub : ∀ x ∈ frs (envOfC qual scope s.heap.objs.size f cd :: outer), x = s.heap.objs.size ∨ x ∈ frs outer := fun x hx => by rw [hfs] at hx; exact List.mem_cons.mp hx
  have hin : ∀ env ∈ (envOfC qual scope s.heap.objs.size f cd :: outer), ∀ b, env.frame = some b → b ∈ (envOfC qual scope s.heap.objs.size f cd :: outer).filterMap (·.frame) := fun env he b hb => List.mem_filterMap.mpr ⟨env, he, hb⟩
  have fr0 : s2.heap.FunFrames (PySem.W.hideAll s2.heap (frs (envOfC qual scope s.heap.objs.size f cd :: outer))) (envOfC qual scope s.heap.objs.size f cd :: outer) := PySem.W.funFrames_hide I.stack hin
  have kB : ∀ b o, s2.heap.get? b = some o → b ∉ frs (envOfC qual scope s.heap.objs.size f cd :: outer) → (PySem.W.hideAll s2.heap (frs (envOfC qual scope s.heap.objs.size f cd :: outer))).get? b = some o := fun b o q hb => PySem.W.hideAll_get _ q hb
  show wpAny _ _ (leaving _ _) _ _ _
  refine wpAny_leaves_madeW (s := { s2 with heap := h' }) (base := PySem.W.hideAll s2.heap (frs (envOfC qual scope s.heap.objs.size f cd :: outer))) (h := s2.heap) I.ok.frames (L := s.heap.objs.size) rfl (fun b o q => PySem.W.of_hideAll _ q) fr0 hx fun h2 t hfl2 _ _ sm => ?_
  have nfr : ∀ b u, H1 b = some u → b ∉ frs (envOfC qual scope s.heap.objs.size f cd :: outer) := fun b u q z => by rw [I.stkFree b z] at q; cases q
  have tr : ∀ b u o, H1 b = some u → h'.get? b = some o → (PySem.W.hideAll s2.heap (frs (envOfC qual scope s.heap.objs.size f cd :: outer))).get? b = some o := fun b u o q qo => by
    obtain ⟨o', e'⟩ := (I.hok b u q).there
    have := hx.keeps b o' e'
    rw [qo] at this; cases this
    exact kB b _ e' (nfr b u q)
  have kp : ∀ b o o', s2.heap.get? b = some o → h'.get? b = some o' → b ∉ frs (envOfC qual scope s.heap.objs.size f cd :: outer) → (PySem.W.hideAll s2.heap (frs (envOfC qual scope s.heap.objs.size f cd :: outer))).get? b = some o' := fun b o o' q q' hb => by
    have := hx.keeps b o q
    rw [q'] at this; cases this
    exact kB b _ q hb
  obtain ⟨un2, hok2⟩ := fly_un (l := envOfC qual scope s.heap.objs.size f cd :: outer) (H := H1) (H' := H1) (h0 := s2.heap) (Un.kept hx.keeps) (I.hok.kept hx.keeps) (fr0.of_keeps fun b o q _ => ⟨o, hx.keeps b o q, rfl⟩) tr kp hfl2.1 sm
  refine ⟨H1, e, .ref C, rfl, I.os, I.bare, ⟨un_down I.base un2 hL sub, hok2, ?_, _, _, hfl2, fun b u o q qo => ?_, fun b o o2 q q2 hb => ?_⟩, hE⟩
  · cases q : s.heap.get? e with
    | none => rfl
    | some o =>
      obtain ⟨o', e'⟩ := I.base.there e o q (by intro z; cases z)
      rw [hx.new] at e'; cases e'
  · obtain ⟨o', e'⟩ := (I.hok b u q).there
    have h1 := kB b o' e' (nfr b u q)
    have h2' := hfl2.1 b o' h1
    rw [qo] at h2'; cases h2'; exact h1
  · obtain ⟨o1, e1⟩ := I.base.there b o q (by intro z; cases z)
    have nb : b ∉ frs (envOfC qual scope s.heap.objs.size f cd :: outer) := fun z => (sub b z).elim (fun e => by rw [e, hL] at q; cases q) hb
    have h1 := kB b o1 e1 nb
    have h2' := hfl2.1 b o1 h1
    rw [q2] at h2'; cases h2'; exact h1
end
/-- an error class of the module, under ValueError -/
structure Exc (K : PySem.W.Frag) (mg : Str → Option Value) (x : Str) (C : Addr) : Prop where
  mgC : mg x = some (.ref C)
  ex : PySem.W.excIn K C [.type "ValueError", .type "Exception", .type "BaseException", .type "object"] "ValueError.__new__" = true
theorem Exc.own {K : PySem.W.Frag} {mg : Str → Option Value} {x : Str} {C : Addr} {h : Heap} (O : Exc K mg x C) (X : K.In h) : OwnCls x C [.type "ValueError", .type "Exception", .type "BaseException", .type "object"] "ValueError.__new__" mg h := by
  refine ⟨O.mgC, ?_⟩
  have q := O.ex
  unfold PySem.W.excIn at q
  split at q
  · rename_i dd cd sl ho
    split at q
    · rename_i C' bm k0 k1 k2 k3 n k5 hm hs
      simp only [Bool.and_eq_true, beq_iff_eq, Bool.not_eq_true'] at q
      obtain ⟨⟨⟨⟨⟨rfl, rfl⟩, hdel⟩, ht⟩, hok⟩, hni⟩ := q
      obtain ⟨nm, bs, mro, ns, qn, hd, sn, sub, ab, col, del⟩ := cd
      dsimp only at hm hdel hok hni
      subst hm hdel
      have hsl : sl = #[k0, k1, k2, k3, some (.builtin "ValueError.__new__"), k5] := by
        obtain ⟨l⟩ := sl
        simp only at hs
        rw [hs]
      subst hsl
      exact ⟨bm, ns, nm, qn, bs, hd, sn, sub, ab, col, dd, k0, k1, k2, k3, k5, _, X _ _ ho, .of_isNs (PySem.W.isNs_of_in X hok), PySem.W.nsMap_none_of_in X hok hni, PySem.W.tail_of_in X ht⟩
    · cases q
  · cases q
theorem exc_mk {K : PySem.W.Frag} {h : Heap} {mg : Str → Option Value} {x : Str} {C : Addr} (X : K.In h) (G : h.Ns mainGlobals mg) (a : PySem.W.nsIn K mainGlobals x = some (some (.ref C)))
    (q : PySem.W.excIn K C [.type "ValueError", .type "Exception", .type "BaseException", .type "object"] "ValueError.__new__" = true) : Exc K mg x C := ⟨PySem.W.mg_of X G a, q⟩
section
variable {P : Program} {w : World} {K : PySem.W.Frag} {mg : Str → Option Value} {base : Heap} {N : List Str} {qual : Str} {scope : Scope} {f : Addr} {cd : Value} {A : Around} {outer : List Env} {s : Shared} {H : Hp} {E : XK}
/-- raise C('..') -/
def tRaise (E : XK) (C : Addr) (ta : TA) : TS := fun _ σ H => ta σ H fun vs H1 => vs.length ≤ sizeLine ∧ E (.ref C) none H1
theorem ps_raise {x : Str} {C : Addr} {e₀ : Expr} {np cpos pos : Pos} {ta : TA} (O : Exc K mg x C) (hg : Gl (cxR P w K mg base N qual scope f cd A outer s H E) x) (ha : PA (cxR P w K mg base N qual scope f cd A outer s H E) [e₀] ta)
    (hd : (x == ("__debug__" : Str)) = false := by decide) (he : starEach [e₀] (cxR P w K mg base N qual scope f cd A outer s H E).env = [(false, eval e₀ (cxR P w K mg base N qual scope f cd A outer s H E).env)] := by rfl) :
    PS (cxR P w K mg base N qual scope f cd A outer s H E) (.Raise (some (.Call (.Name x np) [e₀] [] cpos)) none pos) (tRaise E C ta) := by
  intro pins s1 σ H1 D I h
  have own := O.own I.mod.kin
  obtain ⟨tl, NN, nm, q, bs, hdct, sn, sub, ab, col, dd, k0, k1, k2, k3, k5, mN, hC, hN, hni, T⟩ := own.obj
  refine wpAny_Raise_call_subT (C := C) (nm := nm) (q := q) (N := NN) (bs := bs) (bm := tl) (hdct := hdct) (sn := sn) (sub := sub) (ab := ab) (col := col) (dd := dd) (k0 := k0) (k1 := k1) (k2 := k2) (k3 := k3) (k5 := k5)
    PySem.F.excBase_ValueError (mN := mN) (T.hasType PySem.F.excBase_ValueError.hasBase) (I.ok.hd rfl) (by rw [he]; rfl) hni (ld_glob I hg O.mgC ⟨rfl, ?_⟩ hd)
  rw [he]
  have ha' := ha cpos pins s1 σ H1 _ I h
  rw [he] at ha'
  refine Calls.evalArgs_plain (wpAny_mono ha' (fun us s2 hq => ?_) fun _ _ y => y)
  obtain ⟨vs, H2, I2, r, hl, hE⟩ := hq
  exact ⟨rfl, by rw [← r.length]; exact hl, I2.bk _ _ hC, hN.keeps I2.bk, T.keeps I2.bk, fun h' e hx => raise_leaves I2 hx hE⟩
end
end L2
set_option Elab.async false
set_option linter.all false
set_option maxRecDepth 100000
namespace L2
open PySem PySem.Spec PyProof.Rows
/-! ### try .. except C as n -/
/-- within the suite of an except -/
abbrev Cx.caught (X : Cx) (ea : Addr) : Cx := { X with A := X.A.mark (some (.ref ea)), calm := false }
def IsExc (ea : Addr) (cls : Value) : Heap → Prop := fun h => ∃ o, h.get? ea = some o ∧ o.cls = cls
section
variable {X : Cx} {pins : List (Addr × Obj)} {σ : St} {H : Hp} {s : Shared}
theorem Inv.caught (I : Inv X pins σ H s) (ea : Addr) : Inv (X.caught ea) pins σ H s :=
  ⟨⟨I.ok.mod, I.ok.kind, I.ok.glob, I.ok.blt, I.ok.above, I.ok.inj, I.ok.has, I.ok.cab, (fun z => nomatch z), I.ok.frames, I.ok.stk, I.ok.exf, I.ok.bs, I.ok.bsz, I.ok.noex, I.ok.exfs, I.ok.funs, I.ok.frf⟩, I.os, I.bare, I.base, I.loc, I.cell, I.free, I.freeC, I.pin, I.hok, I.len⟩
theorem Inv.uncaught {ea : Addr} (I : Inv (X.caught ea) pins σ H s) (ok : X.Ok) : Inv X pins σ H s := ⟨ok, I.os, I.bare, I.base, I.loc, I.cell, I.free, I.freeC, I.pin, I.hok, I.len⟩
/-- an object that was not tracked, made behind the entry, is tracked from now on -/
theorem Inv.track {ea : Addr} {o : HO} (I : Inv X pins σ H s) (hn : H ea = none) (h0 : X.s₀.heap.get? ea = none) (hL : ea ≠ X.env.locals) (hc : ∀ x c, X.env.cells.lookup x = some c → c ≠ ea) (hp : ∀ p ∈ X.pn ++ pins, p.1 ≠ ea)
    (new : ObjOk X.prog X.w (upd H ea o) s.heap ea o) : Inv X pins σ (upd H ea o) s := by
  have nn : ∀ b u, H b = some u → b ≠ ea := fun b u q z => by rw [z, hn] at q; cases q
  refine ⟨I.ok, I.os, I.bare, ⟨I.base.keep, I.base.slot, fun b ob q n hx => ?_, I.base.there, fun b xs q => ?_, fun b ob u q => ?_, fun b ps q => ?_⟩, I.loc, I.cell, ?_, fun x c e => ?_, fun p hp' => ?_, fun b u q => ?_, I.len⟩
  · rw [upd_ne (fun z => by rw [z, h0] at q; cases q)]; exact I.base.free b ob q n hx
  · have := I.base.tups b xs q
    rw [upd_ne (nn b _ this)]; exact this
  · have := I.base.frzs b ob u q
    rw [upd_ne (nn b _ this)]; exact this
  · obtain ⟨m, e⟩ := I.base.tbls b ps q
    exact ⟨m, by rw [upd_ne (nn b _ e)]; exact e⟩
  · rw [upd_ne (Ne.symm hL)]; exact I.free
  · rw [upd_ne (hc x c e)]; exact I.freeC x c e
  · obtain ⟨a, b, c, d, e⟩ := I.pin p hp'
    exact ⟨a, by rw [upd_ne (hp p hp')]; exact b, c, d, e⟩
  · by_cases hb : b = ea
    · subst hb; rw [upd_same] at q; cases q; exact new
    · rw [upd_ne hb] at q
      refine (I.hok b u q).stay (fun _ _ _ r => r) (fun c r => by rw [upd_ne (nn c _ r)]; exact r) fun c xs r => by rw [upd_ne (nn c _ r)]; exact r
/-- the name of an except clause goes -/
theorem unbind_ok {M : Model} {A : Around} {E : Value → Shared → Prop} {i : Nat} {x : Str} {pos : Pos} {Q : Unit → Shared → Prop} (I : Inv X pins σ H s) (hN : X.N.Nodup) (hi : X.N[i]? = some x) (hk : X.env.scope.names.lookup x = some .local)
    (h : ∀ s', Inv X pins (σ.set i none) H s' → Q () s') : wpAny M A (do bindName X.env x .none; unbindBehindTheSuite X.env x pos) Q E s := by
  obtain ⟨m, hn, hl⟩ := id I.loc
  have hcls : (X.env.scope.kind == .class || (X.env.scope.kind == .module && X.env.locals != X.env.globals)) = false := by rw [I.ok.kind]; rfl
  have hiσ : i < σ.length := by rw [I.len]; exact (List.getElem?_eq_some_iff.mp hi).1
  have cne := I.cne
  refine wpAny_nameGoes_keeps hk hn hcls fun h' v hn' hs => ?_
  obtain ⟨oL, _, _, hoL, _⟩ := id hn
  have tracked : HOk X.prog X.w H h' := fun b ob e => by
    refine (I.hok b ob e).stay (fun c w' hc q => (hs.2 c ?_).trans q) (fun _ q => q) fun _ _ q => q
    rintro rfl
    rcases hc with rfl | hc
    · rw [I.free] at e; cases e
    · rw [I.free] at hc; cases hc
  refine h _ ⟨I.ok, I.os, I.bare, ⟨fun b o e n hb hx => ?_, fun b o e n hb hx => ?_, I.base.free, fun b o e hx => ?_, I.base.tups, I.base.frzs, I.base.tbls⟩, ⟨_, hn', fun j y v' e1 e2 e3 => ?_⟩, fun y c e => ?_, I.free, I.freeC, fun p hp => ?_, tracked, by simpa using I.len⟩
  · exact (hs.2 b (Nat.ne_of_lt (Nat.lt_of_lt_of_le (Heap.lt_size e) I.ok.above))).trans (I.base.keep b o e n hb hx)
  · obtain ⟨sl, e1⟩ := I.base.slot b o e n hb hx
    exact ⟨sl, (hs.2 b (Nat.ne_of_lt (Nat.lt_of_lt_of_le (Heap.lt_size e) I.ok.above))).trans e1⟩
  · obtain ⟨o', e1⟩ := I.base.there b o e hx
    exact ⟨o', (hs.2 b (Nat.ne_of_lt (Nat.lt_of_lt_of_le (Heap.lt_size e) I.ok.above))).trans e1⟩
  · by_cases hj : j = i
    · subst hj
      rw [List.getElem?_set_self hiσ] at e2
      cases e2
    · rw [List.getElem?_set_ne (Ne.symm hj)] at e2
      obtain ⟨u', r', q⟩ := hl j y v' e1 e2 e3
      refine ⟨u', r', ?_⟩
      rcases q with ⟨k, e⟩ | ⟨k, c, e, z⟩
      · refine .inl ⟨k, ?_⟩
        have : y ≠ x := fun e => hj (nodup_ix hN e1 (e ▸ hi))
        simp [this, e]
      · exact .inr ⟨k, c, e, z.sameBut hs (cne y c e)⟩
  · obtain ⟨w', z⟩ := I.cell y c e
    exact ⟨w', z.sameBut hs (cne y c e)⟩
  · obtain ⟨e, n, ne, nf, d⟩ := I.pin p hp
    exact ⟨(hs.2 p.1 ne).trans e, n, ne, nf, d⟩
end
/-- what a try's body raises: as a callee's refusal lies, the names as at the entry -/
abbrev XR (X : Cx) (pins : List (Addr × Obj)) (σ : St) (E : XK) : Value → Shared → Prop := fun e s' => ∃ H1 s1, Inv X pins σ H1 s1 ∧ CXR X.prog X.w X.stack H1 s1 E e s'
def PEX (X : Cx) (e : Expr) (t : XK → TE) : Prop :=
  ∀ (E : XK) (pins : List (Addr × Obj)) (s : Shared) (σ : St) (H : Hp) (Q : VK), Inv X pins σ H s → t E σ H Q → wpAny (model X.prog X.w) X.A (eval e X.env) (EP X pins σ Q) (XR X pins σ E) s
def PSX (X : Cx) (st : Stmt) (t : XK → TS) : Prop :=
  ∀ (E : XK) (pins : List (Addr × Obj)) (s : Shared) (σ : St) (H : Hp) (D : Ends), Inv X pins σ H s → t E D σ H → wpAny (model X.prog X.w) X.A (exec st X.env) (SP X pins D) (XR X pins σ E) s
def PSXs (X : Cx) (st : List Stmt) (t : XK → TS) : Prop :=
  ∀ (E : XK) (pins : List (Addr × Obj)) (s : Shared) (σ : St) (H : Hp) (D : Ends), Inv X pins σ H s → t E D σ H → wpAny (model X.prog X.w) X.A (execs st X.env) (SP X pins D) (XR X pins σ E) s
section
variable {X : Cx}
theorem psxs_one {st : Stmt} {t : XK → TS} (h1 : PSX X st t) : PSXs X [st] t := by
  intro E pins s σ H D I h
  refine wpAny_execs_cons (thn (h1 E pins s σ H D I h) fun f s1 q => ?_)
  cases f with
  | next =>
    obtain ⟨σ', H', I', q'⟩ := q
    exact wpAny_execs_nil ⟨σ', H', I', q'⟩
  | _ => exact q
theorem psx_if {c : Expr} {a b : List Stmt} {tc : TT} {t u : XK → TS} {pos : Pos} (hc : PT X.nox c tc) (ha : PSXs X a t) (hb : PSXs X b u) : PSX X (.If c a b pos) fun E => tIfS tc (t E) (u E) := by
  intro E pins s σ H D I h
  refine wpAny_If (wpAny_mono (hc pins s σ H _ (I.wish _) h) (fun b s1 ⟨H1, I1, q⟩ => ?_) fun _ _ z => z.elim)
  cases b with
  | true => exact ha E pins s1 σ H1 D I1.unwish (by simpa using q)
  | false => exact hb E pins s1 σ H1 D I1.unwish (by simpa using q)
theorem psx_set {i : Nat} {x : Str} {e : Expr} {te : XK → TE} {pos pos' : Pos} (hN : X.N.Nodup) (hi : X.N[i]? = some x) (hx : Loc X.env.scope x) (he : PEX X e te) (hs : swapsWith e (some (.Name x pos')) pos.line X.env = pure false := by rfl)
    (hf : X.fn x = true ∨ X.env.scope.names.lookup x = some .local := by first | exact .inl rfl | exact .inr rfl | assumption) : PSX X (.Assign [.Name x pos'] e pos) fun E => tAsg (te E) (gName i) := by
  intro E pins s σ H D I h
  refine wpAny_Assign_Name (thn (he E pins s σ H _ I h) fun v s1 ⟨x', H1, I1, r, q⟩ => ?_) hs
  exact store_ok I1 hN hi hx r (fun s' I' => ⟨_, _, I', q⟩) hf
theorem psx_expr {e : Expr} {te : XK → TE} {pos : Pos} (he : PEX X e te) (hs : swapsWith e none pos.line X.env = pure false := by rfl) : PSX X (.Expr e pos) fun E => tDrop (te E) := by
  intro E pins s σ H D I h
  exact wpAny_Expr_any (thn (he E pins s σ H _ I h) fun v s1 ⟨x', H1, I1, r, q⟩ => ⟨_, _, I1, q⟩) I.quiet hs
end
end L2
set_option Elab.async false
set_option linter.all false
set_option maxRecDepth 100000
namespace PySem.W
open PySem PySem.Spec PySem.Calls PyProof.Rows Builtin Builtin.ObjectAttr Builtin.Getset_descriptor
section
variable {prog : Program} {w : World} {A : Around} {E : Value → Shared → Prop} {s : Shared} {K : Frag} {x C : Addr} {R : Result → Shared → Prop}
theorem xc_get {tp : Value} (X : K.In s.heap) (L0 : ∀ M, Looks M s.heap (typeOf (.ref x)) (.ref C)) (hm : mroIn K C (.type "object") = some true)
    (h : R (.ok (.ret (.ref C))) s) : codeAny (model prog w) A (.call (.builtin "getset_descriptor.__get__") ⟨[.builtin "object.__class__", .ref x, tp], []⟩) R s := by
  obtain ⟨hh, g, dr, t, os⟩ := s
  have L0 := L0 (model prog w)
  have L1 := looks_mroIn (M := model prog w) X hm
  refine codeAny_call_builtin KF.slot_gs.plain KF.entry_gs (KF.slot_gs.check _ _ _ _ _ _ _ _ KF.type_class (KF.args_gs _ _ _) ?_)
  unfold Builtin.«getset_descriptor.__get__» descrGet
  rw [dga_obj]
  refine wpAny_bind (wpAny_pure ?_)
  unfold descrGetter descrCheckInstance descrNameAndClass isInstance
  simp only [KF.owner_class]
  repeat lk
  refine ⟨Code.quiet_builtin _ (by decide +kernel), codeAny_builtin KF.entry_class ?_⟩
  unfold Builtin.«object.__class__» shownTypeOf
  repeat lk
  exact h
theorem xc_find {M : Model} {h : Heap} {a g : Value} {name : Str} (X : K.In h) (ha : findIn K (.ref C) name = some (some a)) (hg : specialIn K a "__get__" = some (some g)) (hd : takesIn K a = some true) : Looks M h (find (.ref x) (.ref C) name) (.bind g a) := by
  have L1 := looks_findIn (M := M) X ha
  have L2 : Looks M h (getOf (some a)) (some g) := looks_specialIn X hg
  refine L1.andThen (L2.andThen ?_)
  have L3 := looks_takesIn (M := M) X hd
  exact (show Looks M h (dataDescriptor? (some a) (some g)) (some (g, a)) from L3.andThen .now).andThen (Looks.tag .now)
theorem xc_check {M : Model} {nameV : Value} {Q : Unit → Shared → Prop} (X : K.In s.heap) (L0 : ∀ M, Looks M s.heap (typeOf (.ref x)) (.ref C)) (hb : subIn K (.ref C) (.type "BaseException") = some true) (hq : Q () s) :
    wpAny M A (checkBuiltinCall "BaseException.__getattribute__" ⟨[.ref x, nameV], []⟩) Q E s := by
  have hk : builtinKind "BaseException.__getattribute__" = some .slot := by decide +kernel
  have hsplit : splitId "BaseException.__getattribute__" = some ("BaseException", "__getattribute__") := by decide +kernel
  have ha := F.args_bexc_ga (.ref x) nameV
  have L0 := L0 M
  have L1 : Looks M s.heap (isSubtype (.ref C) (.type "BaseException")) true := looks_subIn X hb
  obtain ⟨hh, g, dr, t, os⟩ := s
  simp only [checkBuiltinCall, hk, hsplit]
  refine wpAny_bind ?_
  unfold isInstance
  repeat (any_goals (first | assumption | with_reducible refine Looks.at (by assumption) ?_ | wp_step))
  all_goals exact hq
theorem xc_class {Q : Option Value → Shared → Prop} (X : K.In s.heap) (L0 : ∀ M h, (∀ b o, s.heap.get? b = some o → h.get? b = some o) → Looks M h (typeOf (.ref x)) (.ref C))
    (h1 : findIn K (.ref C) "__getattribute__" = some (some (.builtin "BaseException.__getattribute__"))) (h2 : findIn K (.ref C) "__getattr__" = some none) (h3 : findIn K (.ref C) "__class__" = some (some (.builtin "object.__class__")))
    (h4 : specialIn K (.builtin "object.__class__") "__get__" = some (some (.builtin "getset_descriptor.__get__"))) (h5 : takesIn K (.builtin "object.__class__") = some true) (h6 : mroIn K C (.type "object") = some true) (h7 : subIn K (.ref C) (.type "BaseException") = some true)
    (h : Q (some (.ref C)) { s with toks := s.toks + 1 }) : wpAny (model prog w) A (getAttr? (.ref x) "__class__") Q E s := by
  obtain ⟨hh, g, dr, t, os⟩ := s
  have LT := L0 (model prog w) hh fun _ _ e => e
  have L1 := looks_findIn (M := model prog w) X h1
  have L2 := looks_findIn (M := model prog w) X h2
  have L3 : Looks (model prog w) hh (find (.ref x) (.ref C) "__class__") (.bind (.builtin "getset_descriptor.__get__") (.builtin "object.__class__")) := xc_find X h3 h4 h5
  have hx2 : (Value.builtin "BaseException.__getattribute__" == Value.builtin "object.__getattribute__") = false := by decide +kernel
  unfold getAttr? getAttrBy? getAttrBy
  refine wpAny_bind (wpAny_mkText (wpAny_bind (wpAny_attempt (wpAny_holding (wpAny_bind (LT.at (wpAny_bind (L1.at ?_))))))))
  dsimp only
  rw [if_neg (by rw [hx2]; simp)]
  unfold getAttrByItsOwn hookBefore
  rw [if_pos (by rfl)]
  refine wpAny_bind (L2.at ?_)
  refine wpAny_bind (wpAny_attempt (wpAny_holding ?_))
  unfold callGetattribute
  rw [if_neg (by simp)]
  unfold boundAndCalled
  have ga : Slot "ValueError" "__getattribute__" "BaseException.__getattribute__" := PySem.F.attr_ValueError.ga
  have f3 := ga.bind (.ref x)
  refine wpAny_bind (wpAny_of_eq f3 ?_)
  show wpAny _ _ (call (.builtin "BaseException.__getattribute__") [.ref x, _]) _ _ _
  refine wpAny_call (codeAny_call_builtin ga.plain F.entry_bexc_ga (xc_check X (fun M => L0 M hh fun _ _ e => e) h7 ?_))
  repeat (any_goals (first | assumption | with_reducible refine Looks.at (by assumption) ?_ | wp_step))
  refine xc_get X (fun M => L0 M hh fun _ _ e => e) h6 ?_
  repeat (any_goals (first | assumption | with_reducible refine Looks.at (by assumption) ?_ | wp_step))
/-- an error class, what isinstance asks of it -/
structure ExcI (K : Frag) (C : Addr) : Prop where
  c0 : hasDictIn K C = true
  c1 : findIn K (.ref C) "__getattribute__" = some (some (.builtin "BaseException.__getattribute__"))
  c2 : findIn K (.ref C) "__getattr__" = some none
  c3 : findIn K (.ref C) "__class__" = some (some (.builtin "object.__class__"))
  c4 : specialIn K (.builtin "object.__class__") "__get__" = some (some (.builtin "getset_descriptor.__get__"))
  c5 : takesIn K (.builtin "object.__class__") = some true
  c6 : mroIn K C (.type "object") = some true
  c7 : subIn K (.ref C) (.type "BaseException") = some true
theorem kitx_exc (Z : ExcI K C) : KitX K (.ref x) (.ref C) (L2.IsExc x (.ref C)) where
  ty := fun _ _ _ ⟨o, e, c⟩ => c ▸ (Looks.ld e).andThen .now
  it := fun _ _ X _ => by
    obtain ⟨cdD, hcD, _⟩ := any_some Z.c0
    unfold clsIn at hcD
    split at hcD
    · rename_i c' d' cd' sl' ho
      intro A' Q' E' s' k q
      unfold isType loadHead
      exact wpAny_bind (wpAny_loadPart (k _ _ (X _ _ ho)) (wpAny_pure q))
    · cases hcD
  ne := fun h tp dd its n sl X htp => by
    obtain ⟨cdD, hcD, _⟩ := any_some Z.c0
    refine Bool.eq_false_iff.mpr fun q => ?_
    have e : C = tp := Value.ref.inj (beq_iff_eq.mp q)
    subst e
    unfold clsIn at hcD
    split at hcD
    · rename_i c' d' cd' sl' ho
      have z := (X _ _ ho).symm.trans htp
      cases z
    · cases hcD
  ca := fun {prog w A E Q s} X I k => xc_class X (fun M h kk => by
    obtain ⟨o, e, c⟩ := I
    exact c ▸ (Looks.ld (kk _ _ e)).andThen .now) Z.c1 Z.c2 Z.c3 Z.c4 Z.c5 Z.c6 Z.c7 k
end
end PySem.W
set_option Elab.async false
set_option linter.all false
set_option maxRecDepth 100000
namespace L2
open PySem PySem.Spec PyProof.Rows
section
variable {X : Cx}
/-- try: body / except x as n: suite -/
def tTry (K : PySem.W.Frag) (C : Addr) (i : Nat) (tb : XK → TS) (ts : TS) : TS := fun D σ H =>
  tb (fun cls _ H' => PySem.W.exmOne K cls (.ref C) = some true ∧ ∀ ea, H' ea = none →
    ts { nx := fun σ2 H2 => D.nx (σ2.set i none) H2, rt := D.rt, bk := fun σ2 H2 => D.bk (σ2.set i none) H2, ct := fun σ2 H2 => D.ct (σ2.set i none) H2 } (σ.set i (some (.ref ea))) (upd H' ea (.ext (IsExc ea cls)))) D σ H
/-- .. except x: suite -/
def tTry0 (K : PySem.W.Frag) (C : Addr) (tb : XK → TS) (ts : TS) : TS := fun D σ H =>
  tb (fun cls _ H' => PySem.W.exmOne K cls (.ref C) = some true ∧ ts D σ H') D σ H
theorem inv_at {pins : List (Addr × Obj)} {σ : St} {H1 H' : Hp} {s1 s' : Shared} {h6 B : Heap} {ea : Addr} {cls a0 : Value} (I : Inv X pins σ H1 s1) (os : s'.os = s1.os) (bare : AllBare s'.gens) (fl : FlyAt X.prog X.w X.stack H1 s1.heap H' s'.heap ea cls)
    (hfl : Heap.FlyingW B X.stack ea cls a0 s'.heap) (tr : ∀ b u o, H' b = some u → s'.heap.get? b = some o → B.get? b = some o) (kp : ∀ b o o', s1.heap.get? b = some o → s'.heap.get? b = some o' → b ∉ frs X.stack → B.get? b = some o')
    (h6l : Heap.FlyingW B X.stack ea cls a0 h6) (sm : s'.heap.UpToSlots h6) : Inv X pins σ H' { s' with heap := h6 } := by
  obtain ⟨un2, hok2⟩ := fly_un fl.un fl.hok hfl.2.2.1 tr kp h6l.1 sm
  exact I.call' (s' := { s' with heap := h6 }) (ch := []) os un2 hok2 bare (fun _ z => nomatch z)
theorem ps_try {body : List Stmt} {b₀ : Stmt} {suite : List Stmt} {x n : Str} {C : Addr} {i : Nat} {tb : XK → TS} {ts : TS} {np hpos pos : Pos} (hst : X.stack = X.env :: X.outer) (hf : X.env.frame = some X.env.locals) (hex : X.ex = []) (hb : PSXs X body tb) (hg : Gl X x) (hm : X.mg x = some (.ref C))
    (hN : X.N.Nodup) (hi : X.N[i]? = some n) (hk : X.env.scope.names.lookup n = some .local) (hs : ∀ ea, PSs (X.caught ea).nox (b₀ :: suite) ts) (hd : (x == ("__debug__" : Str)) = false := by decide) :
    PS X (.Try body [.ExceptHandler (some (.Name x np)) (some n) (b₀ :: suite) hpos] [] [] pos) (tTry X.K C i tb ts) := by
  intro pins s σ H D I h
  refine wpAny_Try_except (wpAny_mono (hb _ pins s σ H D I h) (fun f s1 q => ?_) fun e s' q => ?_)
  · cases f with
    | next => exact wpAny_execs_nil q
    | _ => exact q
  · obtain ⟨H1, s1, I1, H', ea, cls, rfl, os, bare, fl, hmt, k⟩ := q
    obtain ⟨B, a0, hfl, tr, kp⟩ := id fl.fly
    have up : ∀ {h6 : Heap}, Heap.FlyingW B (X.env :: X.outer) ea cls a0 h6 → s'.heap.UpToSlots h6 → Inv X pins σ H' { s' with heap := h6 } := fun z sm => inv_at I1 os bare fl hfl tr kp (by rw [hst]; exact z) sm
    have hfl' : Heap.FlyingW B (X.env :: X.outer) ea cls a0 s'.heap := by rw [← hst]; exact hfl
    refine wpAny_looks_onW (by rw [I1.ok.frames, hst]) hf hfl' fun h4 hh4 sm4 => ?_
    refine wpAny_landsW hh4 fun h5 hfl5 sm5 => ?_
    have I5 := up hfl5 (sm4.trans sm5)
    have hea : H' ea = none := by
      cases q : H' ea with
      | none => rfl
      | some u =>
        obtain ⟨o, e⟩ := (fl.hok ea u q).there
        have := tr ea u o q e
        rw [hfl.2.1] at this; cases this
    refine wpAny_handleBy_cons (codeAny_handlers_test (ld_glob (X := X.caught ea) (I5.caught ea) hg hm ?_ hd)) (by intro q; cases q)
    have LT : PySem.W.Looks (model X.prog X.w) h5 (typeOf (.ref ea)) cls := by
      obtain ⟨ob, e, c⟩ := hfl5.there
      exact c ▸ (PySem.W.Looks.ld e).andThen .now
    refine (PySem.W.exm_one I5.kIn LT hmt).here ?_
    refine codeAny_handlers_suite_as ?_
    refine lands_againW hfl5 fun h6 hfl6 sm6 => ?_
    have I6 := up hfl6 ((sm4.trans sm5).trans sm6)
    have e0 : ∀ b o, s1.heap.get? b = some o → b ≠ ea := fun b o e z => by rw [z, fl.new] at e; cases e
    have I7 : Inv X pins σ (upd H' ea (.ext (IsExc ea cls))) { s' with heap := h6 } := by
      refine I6.track hea ?_ ?_ (fun y c e => ?_) (fun p hp => ?_) ?_
      · cases q : X.s₀.heap.get? ea with
        | none => rfl
        | some o =>
          obtain ⟨o', e⟩ := I1.base.there ea o q (by rw [hex]; intro z; cases z)
          rw [fl.new] at e; cases e
      · obtain ⟨m, ⟨o, _, _, e, _⟩, _⟩ := I1.loc
        exact (e0 _ o e).symm
      · obtain ⟨v, o, ho, _⟩ := I1.cell y c e
        exact e0 c o ho
      · exact e0 _ _ (I1.pin p hp).1
      · obtain ⟨ob, e, c⟩ := hfl6.there
        exact ⟨⟨ob, e, c⟩, ⟨ob, e⟩, fun h1 h2 ⟨o1, e1, c1⟩ kk => ⟨o1, kk o1 e1, c1⟩⟩
    refine store_ok (X := X) I7 hN hi (Or.inl hk) (v := .ref ea) rfl (fun s8 I8 => ?_) (Or.inr hk)
    refine wpAny_mono (hs ea pins s8 _ _ _ ((I8.caught ea).wish _) (k ea hea)) (fun f s9 q9 => ?_) fun _ _ z => z.elim
    cases f with
    | next =>
      obtain ⟨σ', H9, I9, q'⟩ := q9
      exact unbind_ok (I9.unwish.uncaught I.ok) hN hi hk fun s10 I10 => ⟨_, _, I10, q'⟩
    | brk =>
      obtain ⟨σ', H9, I9, q'⟩ := q9
      exact unbind_ok (I9.unwish.uncaught I.ok) hN hi hk fun s10 I10 => ⟨_, _, I10, q'⟩
    | cont =>
      obtain ⟨σ', H9, I9, q'⟩ := q9
      exact unbind_ok (I9.unwish.uncaught I.ok) hN hi hk fun s10 I10 => ⟨_, _, I10, q'⟩
    | ret u =>
      obtain ⟨v, σ', H9, I9, r, q'⟩ := q9
      exact unbind_ok (I9.unwish.uncaught I.ok) hN hi hk fun s10 I10 => ⟨_, _, _, I10, r, q'⟩
end
/-! ### a call within a try -/
section
variable {X : Cx} {k : Nat} {f C : Addr} {fd : FuncData} {ps : List Str} {sp : Sp} {x m : Str} {p pos apos : Pos} {e o : Expr} {es : List Expr} {ta : TE} {t : TA}
theorem run_fnX {E : XK} {pins : List (Addr × Obj)} {σ : St} {H : Hp} {s : Shared} {Q : VK} {us : List Value} {vs : List V} (F : FnOk X.prog X.w X.K X.mg X.base (CXR X.prog X.w) k f fd ps sp) (hr : Room k X.A) (hb : Binds X.K fd ps [])
    (I : Inv X pins σ H s) (r : Vals vs us) (h : sp vs H Q E) : wpAny (model X.prog X.w) X.A (call (.ref f) us) (EP X pins σ Q) (XR X pins σ E) s := by
  have hl : (us ++ []).length = ps.length := by rw [List.append_nil, ← r.length]; exact F.len _ _ _ _ h
  refine wpAny_call (codeAny_mono (F.run X.A X.stack s H ⟨us, []⟩ us vs Q E hr I.env0 (by have := hb s us I.kIn hl; rw [List.append_nil] at this; exact this) r h) fun r s' hq => ?_)
  cases r with
  | error e => exact ⟨H, s, I, hq⟩
  | ok fl =>
    cases fl with
    | ret u => exact I.after hq
    | next => exact False.elim hq
    | brk => exact False.elim hq
    | cont => exact False.elim hq
end
/-! ### isinstance of a caught exception -/
def rIsiX (K : PySem.W.Frag) : List V → Hp → VK → Prop := fun xs H Q => ∃ ea C c b, xs = [.ref ea, c] ∧ H ea = some (.ext (IsExc ea (.ref C))) ∧ PySem.W.ExcI K C ∧
  ((∃ n, c = .ty n ∧ PySem.W.kitOne K (.ref C) (.type n) = some b) ∨ (∃ d, c = .ref d ∧ PySem.W.kitOne K (.ref C) (.ref d) = some b) ∨ ∃ (d : Addr) (ds : List Addr), c = .ref d ∧ H d = some (.tup (ds.map V.ref)) ∧ PySem.W.kitAny K (.ref C) (ds.map Value.ref) = some b) ∧ Q (.bl b) H
theorem vals_refs : ∀ {ds : List Addr} {us : List Value}, Vals (ds.map V.ref) us → us = ds.map Value.ref
  | [], _, .nil => rfl
  | _ :: _, _, .cons r t => by rw [vals_refs t, show _ = Value.ref _ from r]; rfl
theorem call_isiX {X : Cx} : CallR X (.builtin "isinstance") (rIsiX X.K) := by
  intro pins s σ H xs us Q I r h
  obtain ⟨ea, C, c, b, rfl, he, Z, hc, q⟩ := h
  obtain ⟨u, v, rfl, ru, rv⟩ := Vals.two r
  cases (show u = Value.ref ea from ru)
  have ob : IsExc ea (.ref C) s.heap := (I.hok ea _ he).1
  have kx := PySem.W.kitx_exc (x := ea) Z
  rcases hc with ⟨n, rfl, e⟩ | ⟨d, rfl, e⟩ | ⟨d, ds, rfl, hd, e⟩
  · cases (show v = Value.type n from rv)
    exact PySem.W.kia_one kx I.kIn ob e (fun z => nomatch z) fun tk => ⟨.bl b, H, I.tok tk, rfl, q⟩
  · cases (show v = Value.ref d from rv)
    exact PySem.W.kia_one kx I.kIn ob e (fun z => nomatch z) fun tk => ⟨.bl b, H, I.tok tk, rfl, q⟩
  · cases (show v = Value.ref d from rv)
    obtain ⟨_, its, rr, o, h1, h2, n, h3⟩ := (show ObjOk X.prog X.w H s.heap d (.tup (ds.map V.ref)) from I.hok d _ hd)
    have e2 := vals_refs rr
    subst e2
    obtain ⟨oc, od, oda, osl⟩ := o
    cases h2
    cases h3
    exact PySem.W.kia_tup kx I.kIn ob h1 e (fun z => nomatch z) fun tk => ⟨.bl b, H, I.tok tk, rfl, q⟩
end L2
set_option Elab.async false
set_option linter.all false
set_option maxRecDepth 100000
namespace L2
open PySem PySem.Spec PyProof.Rows
/-! ### comprehensions -/
def closOf (cells : List (Str × Addr)) : List (Str × NameKind) → List (Str × Addr) → List (Str × Addr)
  | [], cs => cs
  | (n, k) :: r, cs => closOf cells r (if k == .free then (n, (cells.lookup n).getD 0) :: cs else cs)
theorem closureFor_eq {scope : Scope} {env : Env} (h : ∀ y ∈ scope.names, y.2 = .free → ∃ c, env.cells.lookup y.1 = some c) : closureFor scope env = pure (closOf env.cells scope.names []) := by
  simp only [closureFor]
  have all : ∀ (l : List (Str × NameKind)) (cs : List (Str × Addr)), (∀ y ∈ l, y.2 = .free → ∃ c, env.cells.lookup y.1 = some c) →
      (forIn l cs fun (x : Str × NameKind) (r : List (Str × Addr)) => match x with
        | (name, kind) => if (kind == NameKind.free) = true then do
            let __do_lift ← cellOf env name
            pure (ForInStep.yield ((name, __do_lift) :: r))
          else pure (ForInStep.yield r)) = (pure (closOf env.cells l cs) : Sem (List (Str × Addr))) := by
    intro l
    induction l with
    | nil => intro cs _; rfl
    | cons y r ih =>
      intro cs hy
      obtain ⟨n, k⟩ := y
      rw [List.forIn_cons]
      have hr : ∀ y ∈ r, y.2 = .free → ∃ c, env.cells.lookup y.1 = some c := fun y hm => hy y (List.mem_cons_of_mem _ hm)
      by_cases hk : k = .free
      · subst hk
        obtain ⟨c, hc⟩ := hy (n, .free) List.mem_cons_self rfl
        have hc' : env.cells.lookup n = some c := hc
        have e1 : cellOf env n = pure c := by unfold cellOf; rw [hc']
        simp only [beq_self_eq_true, if_true, e1, pure_bind]
        rw [ih _ hr]
        simp only [closOf, beq_self_eq_true, if_true, hc', Option.getD_some]
      · have hb : (k == NameKind.free) = false := by simpa using hk
        simp only [hb, Bool.false_eq_true, if_false, pure_bind]
        rw [ih _ hr]
        simp only [closOf, hb, Bool.false_eq_true, if_false]
  first
    | (rw [all scope.names [] h]; rfl)
    | (have := all scope.names [] h; simp only [this, pure_bind])
theorem closOf_sub {cells : List (Str × Addr)} : ∀ (l : List (Str × NameKind)) (cs : List (Str × Addr)) {y : Str} {c : Addr}, (closOf cells l cs).lookup y = some c → ((y, .free) ∈ l ∧ c = (cells.lookup y).getD 0) ∨ cs.lookup y = some c
  | [], _, _, _, h => .inr h
  | (n, k) :: r, cs, y, c, h => by
    rw [closOf] at h
    rcases closOf_sub r _ h with ⟨a, b⟩ | q
    · exact .inl ⟨List.mem_cons_of_mem _ a, b⟩
    · by_cases hk : k = .free
      · subst hk
        simp only [beq_self_eq_true, if_true, List.lookup_cons] at q
        by_cases hy : y = n
        · subst hy
          simp only [beq_self_eq_true] at q
          cases q
          exact .inl ⟨List.mem_cons_self, rfl⟩
        · have : (y == n) = false := by simpa using hy
          simp only [this] at q
          exact .inr q
      · have hb : (k == NameKind.free) = false := by simpa using hk
        simp only [hb, Bool.false_eq_true, if_false] at q
        exact .inr q
theorem closOf_keeps {cells : List (Str × Addr)} : ∀ (l : List (Str × NameKind)) (cs : List (Str × Addr)) {y : Str}, (∃ c, cs.lookup y = some c) ∨ (y, NameKind.free) ∈ l → ∃ c, (closOf cells l cs).lookup y = some c
  | [], _, _, h => by
    rcases h with h | h
    · exact h
    · cases h
  | (n, k) :: r, cs, y, h => by
    rw [closOf]
    refine closOf_keeps r _ ?_
    rcases h with ⟨c, h⟩ | h
    · refine .inl ?_
      split
      · rw [List.lookup_cons]
        split
        · exact ⟨_, rfl⟩
        · exact ⟨c, h⟩
      · exact ⟨c, h⟩
    · rcases List.mem_cons.mp h with e | e
      · cases e
        refine .inl ⟨(List.lookup n cells).getD 0, ?_⟩
        simp only [beq_self_eq_true, if_true, List.lookup_cons]
      · exact .inr e
/-- a comprehension's scope within a def's -/
structure CompSc (scope es : Scope) (x : Str) (N : List Str) : Prop where
  kind : scope.kind = .function
  cell : ∀ y ∈ scope.names, y.2 ≠ .cell
  nms : ∀ y ∈ scope.names, y.2 = .local → scope.names.lookup y.1 = some .local
  loc : scope.names.lookup x = some .local
  noe : scope.names.lookup ("" : Str) = none
  fre : ∀ y ∈ scope.names, y.2 = .free → es.names.lookup y.1 = some .cell ∨ es.names.lookup y.1 = some .free
  only : ∀ y ∈ scope.names, y.2 = .local → y.1 = x ∨ y.1 ∉ N
  nd : (x :: N.map fun y => if y = x then ("" : Str) else y).Nodup
theorem lookup_mem {α β : Type} [BEq α] [LawfulBEq α] : ∀ {l : List (α × β)} {x : α} {v : β}, l.lookup x = some v → (x, v) ∈ l
  | (n, k) :: r, x, v, h => by
    rw [List.lookup_cons] at h
    split at h
    · rename_i e; cases h; rw [eq_of_beq e]; exact List.mem_cons_self
    · exact List.mem_cons_of_mem _ (lookup_mem h)
theorem relabel_lookup {scope : Scope} {env : Env} : ∀ {l : List (Str × NameKind)} {y : Str} {k : NameKind}, (l.map fun (p : Str × NameKind) => match p with | (n, k) => if (k == .free && env.scope.kind == .function && env.kindOf n == some .cell) then (n, NameKind.cell) else (n, k)).lookup y = some k →
    l.lookup y = some k ∨ (k = .cell ∧ l.lookup y = some .free)
  | [], _, _, h => by simp at h
  | (n, k0) :: r, y, k, h => by
    rw [List.map_cons, List.lookup_cons] at h
    rw [List.lookup_cons]
    dsimp only at h
    split at h
    · rename_i e
      split at e
      · rename_i hc
        dsimp only at e h
        cases h
        have : k0 = .free := by simp only [Bool.and_eq_true, beq_iff_eq] at hc; exact hc.1.1
        subst this
        rw [e, if_pos hc]
        exact .inr ⟨rfl, rfl⟩
      · rename_i hc
        dsimp only at e h
        rw [e]
        rw [if_neg hc] at h
        exact .inl h
    · rename_i e
      have e' : (y == n) = false := by
        split at e <;> exact e
      rw [e']
      exact relabel_lookup (scope := scope) h
/-- what is wanted behind a comprehension's block -/
def compPostX (M : Model) (A : Around) (E : Value → Shared → Prop) (use : Option (Value → Sem Unit)) (Q : Value → Shared → Prop) (acc : Value) (cenv : Env) (r : Result) (s' : Shared) : Prop :=
  match r, use with
  | .ok _, none => ∃ m, s'.heap.Ns cenv.locals m ∧ ∀ h', Heap.SameBut cenv.locals s'.heap h' → Q acc { s' with heap := h' }
  | .ok _, some u => wpAny M A (u acc) (fun _ s'' => ∃ m, s''.heap.Ns cenv.locals m ∧ ∀ h', Heap.SameBut cenv.locals s''.heap h' → Q .none { s'' with heap := h' }) E s'
  | .error x, _ => ∃ m, s'.heap.Ns cenv.locals m ∧ ∀ h', Heap.SameBut cenv.locals s'.heap h' → wpAny M A (passOn "comprehension.variables-let-go" x cenv : Sem Value) (fun _ _ => False) E { s' with heap := h' }
theorem wpAny_comprehensionX {M : Model} {A : Around} {E : Value → Shared → Prop} {s : Shared} {env : Env} {e : Expr} {scope : Scope} {pos : Pos} {newAcc first : Sem Value} {g : Comprehension} {gs : List Comprehension} {cl : List (Str × Addr)} {use : Option (Value → Sem Unit)}
    {Q : Value → Shared → Prop}
    (hcl : clausesOf e = g :: gs) (hs : ∀ x, foldedSetIterable g.iter env x = pure x) (hclos : closureFor scope env = pure cl)
    (hkind : scope.kind = .function) (hnames : ∀ x ∈ scope.names, x.2 = .local → scope.names.lookup x.1 = some .local)
    (h : wpAny M A first (fun x s₁ => wpAny M A (pyIter x) (fun it s₂ => wpAny M A newAcc (fun acc s₃ =>
      wpAny M A (newFunctionEnv scope env.globals cl [] env.qual none .none (some env)) (fun cenv s₄ =>
        codeAny M A (.compStart e 0 it acc { cenv with scope := relabel scope env }) (compPostX M A E use Q acc { cenv with scope := relabel scope env }) s₄) E s₃) E s₂) E s₁) E s) :
    wpAny M A (comprehension e scope env pos newAcc false first use) Q E s := by
  unfold comprehension
  rw [hclos, hcl]
  refine wpAny_bind (wpAny_mono h (fun x s₁ h₁ => wpAny_bind (wpAny_standAt (wpAny_bind (wpAny_of_eq (hs x) (wpAny_bind (wpAny_holding (wpAny_mono h₁ (fun it s₂ h₂ =>
    wpAny_standIf (wpAny_bind (wpAny_mono h₂ (fun acc s₃ h₃ => wpAny_bind (wpAny_pure (wpAny_bind (wpAny_mono h₃ (fun cenv s₄ h₄ => ?_) fun _ _ h' => h')))) fun _ _ h' => h')))
      fun _ _ h' => h'))))))) fun _ _ h' => h')
  dsimp only
  have hv : ∀ x ∈ (scope.names.filter fun x => (x.2 == .local || x.2 == .cell) && x.1 != (".0" : Str)).reverse, x.2 = .local →
      Env.kindOf { cenv with scope := relabel scope env } x.1 = some .local := fun x hx hl => lookup_relabel_local (hnames x (List.mem_filter.mp (List.mem_reverse.mp hx)).1 hl)
  have hv' : ∀ x ∈ (scope.names.filter fun x => (x.2 == .local || x.2 == .cell) && x.1 != (".0" : Str)).reverse.drop 1 ++ (scope.names.filter fun x => (x.2 == .local || x.2 == .cell) && x.1 != (".0" : Str)).reverse.take 1,
      x.2 = .local → Env.kindOf { cenv with scope := relabel scope env } x.1 = some .local := fun x hx hl => by
    rcases List.mem_append.mp hx with h1 | h1
    · exact hv x (List.mem_of_mem_drop h1) hl
    · exact hv x (List.mem_of_mem_take h1) hl
  refine wpAny_holding (wpAny_bind (wpAny_attempt (wpAny_holding (wpAny_run (codeAny_mono h₄ fun r s' hr => ?_)))))
  cases r with
  | ok f =>
    cases use with
    | none =>
      obtain ⟨m, hn, hr⟩ := hr
      exact wpAny_bind (wpAny_holding (wpAny_comp_letGo (cenv := { cenv with scope := relabel scope env }) hkind _ s' m hv hn fun h' m' _ hs' => wpAny_pure (hr h' hs')))
    | some u =>
      refine wpAny_bind (wpAny_rule (wpAny_bind (wpAny_holding (wpAny_mono hr (fun _ s'' hr' => ?_) fun _ _ h' => h'))))
      obtain ⟨m, hn, hr'⟩ := hr'
      exact wpAny_bind (wpAny_comp_letGo (cenv := { cenv with scope := relabel scope env }) hkind _ s'' m hv' hn fun h' m' _ hs' => wpAny_pure (hr' h' hs'))
  | error x =>
    have hr' : ∃ m, s'.heap.Ns cenv.locals m ∧ ∀ h', Heap.SameBut cenv.locals s'.heap h' → wpAny M A (passOn "comprehension.variables-let-go" x { cenv with scope := relabel scope env } : Sem Value) (fun _ _ => False) E { s' with heap := h' } := by cases use <;> exact hr
    obtain ⟨m, hn, hr⟩ := hr'
    exact wpAny_bind (wpAny_holding (wpAny_comp_letGo (cenv := { cenv with scope := relabel scope env }) hkind _ s' m hv hn fun h' m' _ hs' => wpAny_mono (hr h' hs') (fun _ _ f => f.elim) fun _ _ y => y))
/-- the context of a comprehension's block -/
def Cx.comp (X : Cx) (scope : Scope) (x : Str) (pins : List (Addr × Obj)) (fp : List Addr) (s3 : Shared) (H3 : Hp) (E : Value → Shared → Prop) : Cx where
  prog := X.prog
  w := X.w
  K := X.K
  mg := X.mg
  base := X.base
  A := X.A
  N := x :: X.N.map fun y => if y = x then ("" : Str) else y
  s₀ := s3
  H₀ := H3
  env := compEnvC scope (closOf X.env.cells scope.names []) s3.heap.objs.size X.env
  outer := X.stack
  stack := X.stack
  ex := fp
  fn := fun _ => false
  calm := X.calm
  pn := X.pn ++ pins
  xe := E
section
variable {X : Cx} {pins : List (Addr × Obj)} {σ : St} {H3 : Hp} {s3 : Shared} {scope : Scope} {x : Str} {fp : List Addr} {E : Value → Shared → Prop}
theorem comp_kind {y : Str} (h : (compEnvC scope (closOf X.env.cells scope.names []) s3.heap.objs.size X.env).kindOf y = some .cell ∨ (compEnvC scope (closOf X.env.cells scope.names []) s3.heap.objs.size X.env).kindOf y = some .free) (hc : ∀ y ∈ scope.names, y.2 ≠ .cell) : (y, NameKind.free) ∈ scope.names := by
  rcases h with h | h
  · rcases relabel_lookup (scope := scope) (env := X.env) h with q | ⟨_, q⟩
    · exact absurd rfl (hc _ (lookup_mem q))
    · exact lookup_mem q
  · rcases relabel_lookup (scope := scope) (env := X.env) h with q | ⟨z, _⟩
    · exact lookup_mem q
    · cases z
theorem clos_cell (ok : X.Ok) (S : CompSc scope X.env.scope x X.N) {y : Str} {c : Addr} (h : (closOf X.env.cells scope.names []).lookup y = some c) : (y, NameKind.free) ∈ scope.names ∧ X.env.cells.lookup y = some c := by
  rcases closOf_sub scope.names [] h with ⟨a, b⟩ | q
  · obtain ⟨c', e⟩ := ok.has y (S.fre _ a rfl)
    rw [e] at b
    exact ⟨a, by rw [e, b]; rfl⟩
  · simp at q
theorem comp_ok (I : Inv X pins σ H3 s3) (S : CompSc scope X.env.scope x X.N) (hfp : ∀ b ∈ fp, FpOk X pins H3 b) (hfo : ∀ b ∈ fp, ∃ o, s3.heap.get? b = some o) : (X.comp scope x pins fp s3 H3 E).Ok where
  mod := I.ok.mod
  kind := S.kind
  glob := I.ok.glob
  blt := I.ok.blt
  above := Nat.le_refl _
  inj := fun y z c h1 h2 => I.ok.inj y z c (clos_cell I.ok S h1).2 (clos_cell I.ok S h2).2
  has := fun y h => closOf_keeps scope.names [] (.inr (comp_kind h S.cell))
  cab := fun _ _ h => nomatch h
  hd := I.ok.hd
  frames := I.ok.frames
  stk := .inl rfl
  exf := fun b hb => by
    obtain ⟨o, e⟩ := hfo b hb
    refine ⟨Nat.ne_of_lt (Heap.lt_size e), fun y c h => ?_⟩
    exact (hfp b hb).2.2.2.2.1 y c (clos_cell I.ok S h).2
  bs := I.bs
  bsz := Nat.le_trans I.ok.bsz I.sz
  noex := fun b o e hb => by
    rcases (hfp b hb).2.2.2.1 with z | z
    · exact I.ok.noex b o e z
    · exact absurd (Nat.lt_of_lt_of_le (Heap.lt_size e) (Nat.le_trans I.ok.bsz z)) (Nat.lt_irrefl _)
  exfs := fun b hb z => by
    rcases List.mem_cons.mp (I.stkSub b z) with q | q
    · exact (hfp b hb).2.1 q
    · exact (hfp b hb).2.2.1 q
  funs := I.stack
  frf := I.stkFree
/-- the block's first state -/
theorem comp_start {s4 : Shared} (I : Inv X pins σ H3 s3) (S : CompSc scope X.env.scope x X.N) (hfp : ∀ b ∈ fp, FpOk X pins H3 b) (hfo : ∀ b ∈ fp, ∃ o, s3.heap.get? b = some o) {m : Str → Option Value} (hn : s4.heap.Ns s3.heap.objs.size m) (kk : ∀ b o, s3.heap.get? b = some o → s4.heap.get? b = some o)
    (os : s4.os = s3.os) (bare : AllBare s4.gens) : Inv (X.comp scope x pins fp s3 H3 E) [] (none :: σ) H3 s4 := by
  refine ⟨comp_ok I S hfp hfo, os, bare, Un.kept kk, ⟨m, hn, fun i y v h1 h2 h3 => ?_⟩, fun y c h => ?_, I.hok.fresh (Nat.le_refl _), fun y c h => I.freeC y c (clos_cell I.ok S h).2, fun p hp => ?_, I.hok.kept kk, ?_⟩
  · cases i with
    | zero => cases h2
    | succ i =>
      have h1' : (X.N.map fun y => if y = x then ("" : Str) else y)[i]? = some y := h1
      have h2' : σ[i]? = some (some v) := h2
      rw [List.getElem?_map] at h1'
      cases hN : X.N[i]? with
      | none => rw [hN] at h1'; cases h1'
      | some z =>
        rw [hN] at h1'
        have h1'' : (if z = x then ("" : Str) else z) = y := Option.some.inj h1'
        have vis : ∀ y, Vis (relabel scope X.env) y → y ≠ ("" : Str) := fun y hv e => by
          subst e
          have no : ∀ k, (relabel scope X.env).names.lookup ("" : Str) = some k → False := fun k h => by
            rcases relabel_lookup (scope := scope) (env := X.env) h with q | ⟨_, q⟩ <;> (rw [S.noe] at q; cases q)
          rcases hv with q | q | q <;> exact no _ q
        have hz : z ≠ x := fun e => by rw [if_pos e] at h1''; exact vis y h3 h1''.symm
        rw [if_neg hz] at h1''
        subst h1''
        -- z is seen by the block, and is no local of it: it is free there
        have hf : (z, NameKind.free) ∈ scope.names ∨ (relabel scope X.env).names.lookup z = some .local := by
          rcases h3 with q | q | q
          · exact .inr q
          · exact .inl (comp_kind (X := X) (s3 := s3) (.inl q) S.cell)
          · exact .inl (comp_kind (X := X) (s3 := s3) (.inr q) S.cell)
        have hfr : (z, NameKind.free) ∈ scope.names := by
          rcases hf with q | q
          · exact q
          · rcases relabel_lookup (scope := scope) (env := X.env) q with q | ⟨e, _⟩
            · rcases S.only _ (lookup_mem q) rfl with e | e
              · exact absurd e hz
              · exact absurd (List.mem_of_getElem? hN) e
            · cases e
        have hnl : (relabel scope X.env).names.lookup z ≠ some .local := fun q => by
          rcases relabel_lookup (scope := scope) (env := X.env) q with q | ⟨e, _⟩
          · rcases S.only _ (lookup_mem q) rfl with e | e
            · exact absurd e hz
            · exact absurd (List.mem_of_getElem? hN) e
          · cases e
        have hk := S.fre _ hfr rfl
        obtain ⟨m0, hn0, hl0⟩ := I.loc
        obtain ⟨u, r, l⟩ := hl0 i z v hN h2' (hk.elim (fun q => .inr (.inl q)) fun q => .inr (.inr q))
        refine ⟨u, r, .inr ⟨?_, ?_⟩⟩
        · rcases h3 with q | q | q
          · exact absurd q hnl
          · exact .inl q
          · exact .inr q
        · rcases l with ⟨k, _⟩ | ⟨_, c, e, hc⟩
          · have k' : X.env.scope.names.lookup z = some .local := k
            rcases hk with q | q <;> (rw [show List.lookup z X.env.scope.names = _ from k'] at q; cases q)
          · obtain ⟨c', e'⟩ := closOf_keeps (cells := X.env.cells) scope.names [] (.inr hfr)
            have := (clos_cell I.ok S e').2
            rw [e] at this; cases this
            obtain ⟨o, ho, hd⟩ := hc
            exact ⟨c, e', o, kk _ _ ho, hd⟩
  · obtain ⟨v, o, ho, hd⟩ := I.cell y c (clos_cell I.ok S h).2
    exact ⟨v, o, kk _ _ ho, hd⟩
  · have hp' : p ∈ X.pn ++ pins := by simpa [Cx.comp] using hp
    obtain ⟨a, b, c, d, e⟩ := I.pin p hp'
    refine ⟨kk _ _ a, b, Nat.ne_of_lt (Heap.lt_size a), fun z => ?_, e⟩
    rcases List.mem_cons.mp (I.stkSub _ z) with q | q
    · exact c q
    · exact d q
  · show (none :: σ).length = (x :: X.N.map fun y => if y = x then ("" : Str) else y).length
    rw [List.length_cons, List.length_cons, List.length_map, I.len]
end
end L2
set_option Elab.async false
set_option linter.all false
set_option maxRecDepth 100000
namespace L2
open PySem PySem.Spec PyProof.Rows
theorem fly_unX {P : Program} {w : World} {l : List Env} {ex : List Addr} {H H' : Hp} {h0 h h2 B : Heap} (un : Un (frs l) ex H H' h0 h) (hok : HOk P w H' h) (fr : h.FunFrames B l)
    (tr : ∀ b u o, H' b = some u → h.get? b = some o → B.get? b = some o) (kp : ∀ b o o', h0.get? b = some o → h.get? b = some o' → b ∉ frs l → b ∉ ex → B.get? b = some o') (st : B.StaysIn h2)
    (sm : ∀ b ∈ frs l, ∀ o, h.get? b = some o → (∀ vs, o.data ≠ .fields vs) → ∃ sl, h2.get? b = some { o with slots := sl }) : Un (frs l) ex H H' h0 h2 ∧ HOk P w H' h2 := by
  refine ⟨⟨fun b o q n hb hx => ?_, fun b o q n hb hx => ?_, un.free, fun b o q hx => ?_, un.tups, un.frzs, un.tbls⟩, fun a o e => ?_⟩
  · exact st b o (kp b o o q (un.keep b o q n hb hx) hb hx)
  · obtain ⟨sl, e⟩ := un.slot b o q n hb hx
    obtain ⟨_, o', ho', hd⟩ := fr.mem hb
    rw [e] at ho'; cases ho'
    obtain ⟨sl', e'⟩ := sm b hb _ e hd
    exact ⟨sl', e'⟩
  · obtain ⟨o', e⟩ := un.there b o q hx
    by_cases hb : b ∈ frs l
    · obtain ⟨_, o2, ho2, hd⟩ := fr.mem hb
      obtain ⟨sl', e'⟩ := sm b hb _ ho2 hd
      exact ⟨_, e'⟩
    · exact ⟨o', st b o' (kp b o o' q e hb hx)⟩
  · refine (hok a o e).stay (fun b u hb q => ?_) (fun _ q => q) fun _ _ q => q
    rcases hb with rfl | hb
    · exact st b u (tr b _ u e q)
    · exact st b u (tr b _ u hb q)
/-- an exception that this frame has noted already -/
def HXR (X : Cx) (E : XK) : Value → Shared → Prop := fun e s'' => ∃ (pins : List (Addr × Obj)) (σ : St) (H' : Hp) (ea : Addr) (cls a0 : Value) (B : Heap), Inv X pins σ H' s'' ∧ e = .ref ea ∧ X.s₀.heap.get? ea = none ∧ Heap.HeldW B X.stack ea cls a0 X.env.locals s''.heap ∧
  (∀ b u o, H' b = some u → s''.heap.get? b = some o → B.get? b = some o) ∧ (∀ b o o', X.s₀.heap.get? b = some o → s''.heap.get? b = some o' → b ∉ frs X.stack → B.get? b = some o') ∧ E cls none H'
section
variable {P : Program} {w : World} {K : PySem.W.Frag} {mg : Str → Option Value} {base : Heap} {N : List Str} {qual : Str} {scope : Scope} {f : Addr} {cd : Value} {A : Around} {outer : List Env} {s : Shared} {H : Hp} {E : XK}
theorem passH : ∀ e s', HXR (cxR P w K mg base N qual scope f cd A outer s H E) E e s' → (cxR P w K mg base N qual scope f cd A outer s H E).xe e s' := by
  rintro e s' ⟨pins, σ, H', ea, cls, a0, B, I, rfl, new, hh, tr, kp, hE⟩
  have hfs : frs (envOfC qual scope s.heap.objs.size f cd :: outer) = s.heap.objs.size :: frs outer := frs_cons rfl
  have hL : s.heap.get? s.heap.objs.size = none := Heap.get?_none_of_le (Nat.le_refl _)
  have sub : ∀ x ∈ frs (envOfC qual scope s.heap.objs.size f cd :: outer), x = s.heap.objs.size ∨ x ∈ frs outer := fun x hx => by rw [hfs] at hx; exact List.mem_cons.mp hx
  show wpAny _ _ (leaving _ _) _ _ s'
  unfold leaving
  refine wpAny_bind (wpAny_noteFrame_againW (L := s.heap.objs.size) rfl hh.2.2.2 ?_)
  refine wpAny_landsW hh fun h2 hfl2 sm => ?_
  have fr : s'.heap.FunFrames B outer := hh.2.2.1.2.2
  have kp' : ∀ b o o', s.heap.get? b = some o → s'.heap.get? b = some o' → b ∉ frs outer → B.get? b = some o' := fun b o o' q q' hb => kp b o o' q q' fun z => (sub b z).elim (fun e => by rw [e, hL] at q; cases q) hb
  obtain ⟨un2, hok2⟩ := fly_un (l := outer) I.base I.hok fr tr kp' hfl2.1 sm
  obtain ⟨k1, k2, ⟨_, _, k3⟩, k4⟩ := hfl2
  refine ⟨H', ea, cls, rfl, I.os, I.bare, ⟨un2, hok2, new, B, a0, ⟨k1, k2, k3, k4⟩, fun b u o e q => ?_, fun b o o2 q q2 hb => ?_⟩, hE⟩
  · obtain ⟨o', e'⟩ := (I.hok b u e).there
    have h1 := tr b u o' e e'
    have h2' := k1 b o' h1
    rw [q] at h2'; cases h2'; exact h1
  · obtain ⟨o1, e1⟩ := I.base.there b o q (by intro z; cases z)
    have h1 := kp' b o o1 q e1 hb
    have h2' := k1 b o1 h1
    rw [q2] at h2'; cases h2'; exact h1
end
theorem funFrames_same {C : Addr} {h h' base : Heap} (hs : Heap.SameBut C h h') : ∀ {l : List Env}, (∀ b ∈ frs l, b ≠ C) → h.FunFrames base l → h'.FunFrames base l
  | [], _, _ => trivial
  | env :: l, hc, ⟨hk, ⟨L, o, hf, hn, ho, hd⟩, hr⟩ => ⟨hk, ⟨L, o, hf, hn, (hs.2 L (hc L (by rw [frs_cons hf]; exact List.mem_cons_self))).trans ho, hd⟩, funFrames_same hs (fun b hb => hc b (by rw [frs_cons hf]; exact List.mem_cons_of_mem _ hb)) hr⟩
theorem setFlight_held {M : Model} {A : Around} {E : Value → Shared → Prop} {s : Shared} {base : Heap} {l : List Env} {e L : Addr} {cls a0 : Value} {Q : Unit → Shared → Prop} (R : Heap.HeldW base l e cls a0 L s.heap)
    (h : ∀ h', Heap.HeldW base l e cls a0 L h' → s.heap.UpToSlots h' → Q () { s with heap := h' }) : wpAny M A (setFlight (.ref e) (some L)) Q E s := by
  obtain ⟨hkb, hen, hl, oe, vs, T, oT, ts, he, hcls, hd, h1, hnT, hTe, hT, hdT, h3⟩ := R
  have hsz3 : 3 < ts.size := (Array.getElem?_eq_some_iff.mp h3).1
  have other : ∀ b, b ≠ T → (s.heap.update T (Obj.mapFields (·.setIfInBounds 3 ((some L).elim Value.none fun f => rawInt f)))).get? b = s.heap.get? b :=
    fun b hb => Heap.get?_update_other _ _ (Ne.symm hb)
  have noRecord : ∀ b o, s.heap.get? b = some o → (∀ vs, o.data ≠ .fields vs) → b ≠ T := fun b o hb hnf q => by
    rw [q, hT] at hb; injection hb with hb; subst hb; exact hnf ts hdT
  unfold setFlight
  refine wpAny_bind (wpAny_field he hd h1 ?_)
  rw [if_pos (show (Value.ref T != Value.none) = true from by simp)]
  refine wpAny_setField hT hdT hsz3 (h _ ⟨fun b o hbo => (other b fun q => by rw [q, hnT] at hbo; cases hbo).trans (hkb b o hbo), hen,
    hl.of_keeps fun b o hb hnf => ⟨o, (other b (noRecord b o hb hnf)).trans hb, rfl⟩, ?_⟩ fun b o hb hnf => ⟨o.slots, (other b (noRecord b o hb hnf)).trans hb⟩)
  exact ⟨oe, vs, T, _, _, (other e (Ne.symm hTe)).trans he, hcls, hd, h1, hnT, hTe, Heap.get?_update_self _ hT (Obj.isFreed_of_fields (Obj.data_mapFields hdT _)), Obj.data_mapFields hdT _, by simp [hsz3]⟩
theorem passOn_held {α : Type} {M : Model} {A : Around} {E : Value → Shared → Prop} {s : Shared} {base : Heap} {l : List Env} {e L : Addr} {cls a0 : Value} {what : String} {env : Env} {Q : α → Shared → Prop} (hf : env.frame = some L) (R : Heap.HeldW base l e cls a0 L s.heap)
    (h : ∀ h', Heap.HeldW base l e cls a0 L h' → s.heap.UpToSlots h' → E (.ref e) { s with heap := h' }) : wpAny M A (PySem.passOn what (.ref e) env : Sem α) Q E s := by
  obtain ⟨_, _, _, oe, vs, T, oT, ts, he, hcls, hd, h1, _⟩ := id R
  unfold PySem.passOn
  refine wpAny_bind (wpAny_field he hd h1 ?_)
  rw [if_neg (show ¬ ((Value.ref T == Value.none) = true) from by simp), hf]
  first
    | exact wpAny_bind (wpAny_pure (wpAny_bind (setFlight_held R fun h' hh hs => wpAny_throw (h h' hh hs))))
    | exact wpAny_bind (setFlight_held R fun h' hh hs => wpAny_throw (h h' hh hs))
/-- the record where the block keeps its names turns: what is held stays so, over a base without it -/
theorem held_same {C L e : Addr} {h h' B : Heap} {l : List Env} {cls a0 : Value} {m : Str → Option Value} (R : Heap.HeldW B l e cls a0 L h) (hn : h.Ns C m) (hc : ∀ b ∈ frs l, b ≠ C) (hs : Heap.SameBut C h h') : Heap.HeldW (PySem.W.hideAll B [C]) l e cls a0 L h' := by
  have hB : (PySem.W.hideAll B [C]).StaysIn B := fun b o q => PySem.W.of_hideAll _ q
  obtain ⟨f1, f2, f3, oe, vs, T, oT, ts, a1, a2, a3, a4, a5, a6, a7, a8, a9⟩ := PySem.W.heldW_base hB R
  obtain ⟨oC, es, ep, hoC, hdC, _⟩ := hn
  have ne : e ≠ C := fun z => by rw [z, hoC] at a1; cases a1; rw [hdC] at a3; cases a3
  have nT : T ≠ C := fun z => by rw [z, hoC] at a7; cases a7; rw [hdC] at a8; cases a8
  refine ⟨fun b o q => ?_, f2, funFrames_same hs hc f3, oe, vs, T, oT, ts, (hs.2 e ne).trans a1, a2, a3, a4, a5, a6, (hs.2 T nT).trans a7, a8, a9⟩
  have nb : b ≠ C := fun z => by rw [z, PySem.W.hideAll_none _ (by simp)] at q; cases q
  exact (hs.2 b nb).trans (f1 b o q)
section
variable {X : Cx} {pins : List (Addr × Obj)} {σ : St} {H3 : Hp} {s3 : Shared} {scope : Scope} {x : Str} {fp : List Addr}
/-- the block's own wish of exceptions -/
abbrev XC (Xb : Cx) (E : XK) : Value → Shared → Prop := fun e s' => ∃ (pins' : List (Addr × Obj)) (σ' : St) (H1 : Hp) (s1 : Shared), Inv Xb pins' σ' H1 s1 ∧ CXR Xb.prog Xb.w Xb.stack H1 s1 E e s'
theorem noteFrame_eq {e : Value} {env env' : Env} (h : env.frame = env'.frame) : noteFrame e env = noteFrame e env' := by
  unfold noteFrame PySem.frameOf
  rw [h]
/-- what leaves the block leaves the def -/
theorem comp_raised {E : XK} {Q : Value → Shared → Prop} {use : Option (Value → Sem Unit)} {acc : Value} {cenv : Env} {e : Value} {s' : Shared} (hst : X.stack = X.env :: X.outer) (hf : X.env.frame = some X.env.locals) (hex : X.ex = []) (I : Inv X pins σ H3 s3)
    (hfp : ∀ b ∈ fp, FpOk X pins H3 b) (hxh : ∀ e s, HXR X E e s → X.xe e s) (hcf : cenv.frame = X.env.frame) (hcl : cenv.locals = s3.heap.objs.size) (h : XC (X.comp scope x pins fp s3 H3 fun _ _ => False) E e s') :
    notedBy (model X.prog X.w) X.A cenv (fun x s'' => compPostX (model X.prog X.w) X.A X.xe use Q acc cenv (.error x) s'') e s' := by
  obtain ⟨pins', σ', H1, s1, Ib, H', ea, cls, rfl, os, bare, fl, hE⟩ := h
  have fl : FlyAt X.prog X.w X.stack H1 s1.heap H' s'.heap ea cls := fl
  have osb : s1.os = s3.os := Ib.os
  have unb : Un (frs X.stack) fp H3 H1 s3.heap s1.heap := Ib.base
  obtain ⟨B, a0, hfl, tr, kp⟩ := fl.fly
  have fr := hfl.2.2.1
  have hfl' : Heap.FlyingW B (X.env :: X.outer) ea cls a0 s'.heap := by rw [← hst]; exact hfl
  have nfr : ∀ b ∈ frs X.stack, b ≠ s3.heap.objs.size := fun b hb z => by
    obtain ⟨_, o, ho, _⟩ := I.stack.mem hb
    exact absurd (Heap.lt_size ho) (by rw [z]; exact Nat.lt_irrefl _)
  show wpAny _ _ (noteFrame _ cenv) _ _ _
  rw [noteFrame_eq hcf]
  refine wpAny_looks_onW (by rw [I.ok.frames, hst]) hf hfl' fun h4 hh4 sm4 => ?_
  obtain ⟨m1, hn1, _⟩ := Ib.loc
  have hn1 : s1.heap.Ns s3.heap.objs.size m1 := hn1
  obtain ⟨un4, hok4⟩ := fly_un fl.un fl.hok fr tr kp hh4.1 sm4
  have hC1 : H1 s3.heap.objs.size = none := Ib.free
  have hC' : H' s3.heap.objs.size = none := by
    obtain ⟨o, _, _, ho, _⟩ := hn1
    exact fl.un.free _ o ho hC1 (by intro z; cases z)
  have hn4 : h4.Ns s3.heap.objs.size m1 := hn1.at' fun o ho => un4.keep _ o ho hC1 (fun z => nfr _ z rfl) (by intro z; cases z)
  refine ⟨m1, by rw [hcl]; exact hn4, fun h' hs' => ?_⟩
  rw [hcl] at hs'
  have hh' : Heap.HeldW (PySem.W.hideAll B [s3.heap.objs.size]) X.stack ea cls a0 X.env.locals h' := held_same (by rw [hst]; exact hh4) hn4 nfr hs'
  refine passOn_held (s := { s' with heap := h' }) (hcf.trans hf) hh' fun h2 hh2 sm2 => ?_
  have hB : ∀ b o, B.get? b = some o → b ≠ s3.heap.objs.size → (PySem.W.hideAll B [s3.heap.objs.size]).get? b = some o := fun b o q n => PySem.W.hideAll_get _ q (by simpa using n)
  have tr' : ∀ b u o, H' b = some u → s'.heap.get? b = some o → (PySem.W.hideAll B [s3.heap.objs.size]).get? b = some o := fun b u o q qo => hB b o (tr b u o q qo) fun z => by rw [z, hC'] at q; cases q
  have kp' : ∀ b o o', s3.heap.get? b = some o → s'.heap.get? b = some o' → b ∉ frs X.stack → b ∉ fp → (PySem.W.hideAll B [s3.heap.objs.size]).get? b = some o' := fun b o o' q q' hb hx => by
    obtain ⟨o1, e1⟩ := unb.there b o q hx
    exact hB b o' (kp b o1 o' e1 q' hb) (Nat.ne_of_lt (Heap.lt_size q))
  have fr' : s'.heap.FunFrames (PySem.W.hideAll B [s3.heap.objs.size]) X.stack := PySem.W.funFrames_base (fun b o q => PySem.W.of_hideAll _ q) fr
  have sm' : ∀ b ∈ frs X.stack, ∀ o, s'.heap.get? b = some o → (∀ vs, o.data ≠ .fields vs) → ∃ sl, h2.get? b = some { o with slots := sl } := fun b hb o q hd => by
    obtain ⟨sl, e⟩ := sm4 b o q hd
    have e' : h'.get? b = some { o with slots := sl } := (hs'.2 b (nfr b hb)).trans e
    obtain ⟨sl2, e2⟩ := sm2 b _ e' hd
    exact ⟨sl2, e2⟩
  have unA : Un (frs X.stack) fp H3 H' s3.heap s'.heap := unb.trans (fl.un.mono (fun _ z => z) (fun _ z => nomatch z))
  obtain ⟨un2, hok2⟩ := fly_unX unA fl.hok fr' tr' kp' hh2.1 sm'
  have I2 : Inv X pins σ H' { s' with heap := h2 } := I.call' (s' := { s' with heap := h2 }) (ch := fp) (os.trans osb) un2 hok2 bare fun b hb => ⟨(hfp b hb).2.2.2.1, (hfp b hb).2.1, (hfp b hb).2.2.2.2.1, (hfp b hb).2.2.2.2.2⟩
  have nx : ∀ b o, X.s₀.heap.get? b = some o → b ∉ fp := fun b o q z => by
    rcases (hfp b z).2.2.2.1 with y | y
    · rw [hex] at y; cases y
    · exact absurd (Nat.lt_of_lt_of_le (Heap.lt_size q) y) (Nat.lt_irrefl _)
  have in3 : ∀ b o, X.s₀.heap.get? b = some o → ∃ o', s3.heap.get? b = some o' := fun b o q => I.base.there b o q (by rw [hex]; intro z; cases z)
  refine hxh _ _ ⟨pins, σ, H', ea, cls, a0, _, I2, rfl, ?_, hh2, fun b u o q qo => ?_, fun b o o2 q q2 hb => ?_, hE⟩
  · cases q : X.s₀.heap.get? ea with
    | none => rfl
    | some o =>
      obtain ⟨o3, e3⟩ := in3 ea o q
      obtain ⟨o1, e1⟩ := unb.there ea o3 e3 (nx ea o q)
      rw [fl.new] at e1; cases e1
  · obtain ⟨o', e'⟩ := (fl.hok b u q).there
    have h1 := tr' b u o' q e'
    have h2' := hh2.1 b o' h1
    rw [qo] at h2'; cases h2'; exact h1
  · obtain ⟨o3, e3⟩ := in3 b o q
    obtain ⟨o1, e1⟩ := unA.there b o3 e3 (nx b o q)
    have h1 := kp' b o3 o1 e3 e1 hb (nx b o q)
    have h2' := hh2.1 b o1 h1
    rw [q2] at h2'; cases h2'; exact h1
end
end L2
namespace L2
open PySem PySem.Spec PyProof.Rows
/-- [elt for x in .. if ..]: p the new list, W the invariant by the turn, a measure, what is gathered -/
def tComp (wi : TI) (tt : TT) (te : TE) : TE := fun σ H Q => wi σ H fun J H1 => ∀ p, H1 p = none → ∃ W : Nat → Nat → List V → Hp → Prop, (∃ m, W 0 m [] (upd H1 p (.lst []))) ∧ ∀ i m acc H2, W i m acc H2 →
  H2 p = some (.lst acc) ∧ ((J.stop i H2 ∧ Q (.ref p) H2) ∨ (J.go i H2 ∧ ∃ N : List V → Hp → Prop, (∀ acc' H', N acc' H' → ∃ m', m' < m ∧ W (i + 1) m' acc' H') ∧ ∀ x H3, J.yld i H2 x H3 → tt (some x :: σ) H3 fun b H4 =>
    if b = true then te (some x :: σ) H4 fun v H5 => H5 p = some (.lst acc) ∧ acc.length < sizeLine ∧ N (acc ++ [v]) (upd H5 p (.lst (acc ++ [v]))) else N acc H4))
def tYes : TT := fun _ H Q => Q true H
/-- the tests of a comprehension -/
def PTs (X : Cx) (ifs : List Expr) (t : TT) : Prop :=
  ∀ (pins : List (Addr × Obj)) (s : Shared) (σ : St) (H : Hp) (Q : Bool → Hp → Prop), Inv X pins σ H s → t σ H Q → wpAny (model X.prog X.w) X.A (forIn ifs true fun c r => if r = true then do let ok ← isTrue c X.env (eval c X.env); pure (ForInStep.yield ok) else pure (ForInStep.yield r)) (TP X pins σ Q) X.xe s
theorem pts_nil {X : Cx} : PTs X [] tYes := fun pins s σ H Q I h => wpAny_tests_nil ⟨H, I, h⟩
section
variable {X : Cx} {pins : List (Addr × Obj)} {σ : St} {H3 : Hp} {s3 : Shared} {scope : Scope} {x : Str} {fp : List Addr}
theorem comp_fp {E : Value → Shared → Prop} {H' : Hp} (I : Inv X pins σ H3 s3) (S : CompSc scope X.env.scope x X.N) (hfp : ∀ b ∈ fp, FpOk X pins H3 b) (hfo : ∀ b ∈ fp, ∃ o, s3.heap.get? b = some o) (hn : ∀ b ∈ fp, H' b = none) : ∀ b ∈ fp, FpOk (X.comp scope x pins fp s3 H3 E) [] H' b := fun b hb => by
  obtain ⟨o, e⟩ := hfo b hb
  refine ⟨hn b hb, Nat.ne_of_lt (Heap.lt_size e), fun z => ?_, .inl hb, fun y c h => (hfp b hb).2.2.2.2.1 y c (clos_cell I.ok S h).2, fun p hp => (hfp b hb).2.2.2.2.2 p (by simpa [Cx.comp] using hp)⟩
  rcases List.mem_cons.mp (I.stkSub b z) with q | q
  · exact (hfp b hb).2.1 q
  · exact (hfp b hb).2.2.1 q
/-- the block is left: the def's own state -/
theorem comp_left {E : Value → Shared → Prop} {pins' : List (Addr × Obj)} {σ' : St} {H' : Hp} {s' : Shared} (I : Inv X pins σ H3 s3) (hfp : ∀ b ∈ fp, FpOk X pins H3 b) (J : Inv (X.comp scope x pins fp s3 H3 E) pins' σ' H' s') : Inv X pins σ H' s' :=
  I.call' (ch := fp) J.os J.base J.hok J.bare fun b hb => ⟨(hfp b hb).2.2.2.1, (hfp b hb).2.1, (hfp b hb).2.2.2.2.1, (hfp b hb).2.2.2.2.2⟩
theorem comp_turned {E : Value → Shared → Prop} {H' : Hp} {σ'' : St} {s' s'' : Shared} {h' : Heap} (I : Inv X pins σ H3 s3) (J : Inv X pins σ'' H' s'') (hC : H' s3.heap.objs.size = none) (hs : Heap.SameBut s3.heap.objs.size s''.heap h') : Inv X pins σ'' H' { s'' with heap := h' } := by
  refine J.turned (t' := s''.toks) (fun b o hb e => (hs.2 b hb).trans e) hC (Nat.ne_of_gt I.lt) (.inr I.sz) (fun y c e z => ?_) fun p hp z => ?_
  · obtain ⟨v, q⟩ := I.cell y c e
    exact absurd q.lt (by rw [z]; exact Nat.lt_irrefl _)
  · exact absurd (Heap.lt_size (I.pin p hp).1) (by rw [z]; exact Nat.lt_irrefl _)
theorem compLoop_any {prog : Program} {w : World} {A : Around} {R : Result → Shared → Prop} {s : Shared} {elt target iter : Expr} {ifs : List Expr} {scope : Scope} {pos : Pos} {it acc : Value} {env : Env} (I : Nat → Shared → Prop)
    (turn : ∀ n s, I n s → wpAny (model prog w) A (pyNext it) (fun r s₁ => match r with
      | none => R (.ok .next) s₁
      | some v => wpAny (model prog w) A (letOwnedTupleGo target it v) (fun _ s₁' => wpAny (model prog w) A (assign target env v) (fun _ s₂ =>
          wpAny (model prog w) A (forIn ifs true fun c r => if r = true then do let ok ← isTrue c env (eval c env); pure (ForInStep.yield ok) else pure (ForInStep.yield r)) (fun ok s₃ =>
            if ok = true then wpAny (model prog w) A (eval elt env) (fun x s₄ =>
              wpAny (model prog w) A (call (.builtin "list.append") [acc, x]) (fun _ s₅ => ∃ m, m < n ∧ I m s₅) (notedBy (model prog w) A env fun e s' => R (.error e) s') s₄) (notedBy (model prog w) A env fun e s' => R (.error e) s') s₃
            else ∃ m, m < n ∧ I m s₃) (notedBy (model prog w) A env fun e s' => R (.error e) s') s₂) (notedBy (model prog w) A env fun e s' => R (.error e) s') s₁') (notedBy (model prog w) A env fun e s' => R (.error e) s') s₁) (notedBy (model prog w) A env fun e s' => R (.error e) s') s)
    (n : Nat) (h : I n s) :
    codeAny (model prog w) A (.compLoop (.ListComp elt [⟨target, iter, ifs, 0⟩] scope pos) 0 it acc env) R s := by
  refine codeAny_loop rfl I (fun n s hI => ?_) n h
  show wpAny _ A ((compTurn (.ListComp elt [⟨target, iter, ifs, 0⟩] scope pos) 0 it acc env).onRaise (fun x => do noteFrame x env; theTreesLotGoes x)) _ _ s
  refine wpAny_noted ?_
  rw [compTurn_list]
  refine wpAny_bind (wpAny_standAt (wpAny_bind (wpAny_mono (turn n s hI) (fun r s₁ h₁ => ?_) fun _ _ h' => h')))
  cases r with
  | none => exact wpAny_pure h₁
  | some v =>
    refine wpAny_bind (wpAny_mono h₁ (fun _ s₁' h₁' => ?_) fun _ _ h' => h')
    refine wpAny_bind (wpAny_mono h₁' (fun _ s₂ h₂ => wpAny_bind (wpAny_mono h₂ (fun ok s₃ h₃ => ?_) fun _ _ h' => h')) fun _ _ h' => h')
    cases ok with
    | false => exact wpAny_pure ⟨rfl, h₃⟩
    | true =>
      exact wpAny_bind (wpAny_bind (wpAny_mono h₃ (fun x s₄ h₄ => wpAny_bind (wpAny_mono h₄ (fun _ s₅ h₅ => wpAny_pure (wpAny_pure ⟨rfl, h₅⟩)) fun _ _ h' => h')) fun _ _ h' => h'))
/-- the whole block, over any end -/
theorem comp_block {E : XK} {use : Option (Value → Sem Unit)} {QQ : Value → Shared → Prop} {elt iter : Expr} {px : Pos} {ifs : List Expr} {pos : Pos} {tt : TT} {te : TE} {it : Addr} {tn : Nat → Heap → Prop} {J : It} {Q : VK} {H2 : Hp} {s2 : Shared}
    (hc : X.calm = true) (hst : X.stack = X.env :: X.outer) (hf : X.env.frame = some X.env.locals) (hex : X.ex = []) (hxh : ∀ e s, HXR X E e s → X.xe e s) (S : CompSc scope X.env.scope x X.N)
    (ht : ∀ (pins : List (Addr × Obj)) (fp : List Addr) (s3 : Shared) (H3 : Hp), PTs ((X.comp scope x pins fp s3 H3 fun _ _ => False).wish (XC (X.comp scope x pins fp s3 H3 fun _ _ => False) E)) ifs tt)
    (he : ∀ (pins : List (Addr × Obj)) (fp : List Addr) (s3 : Shared) (H3 : Hp), PE ((X.comp scope x pins fp s3 H3 fun _ _ => False).wish (XC (X.comp scope x pins fp s3 H3 fun _ _ => False) E)) elt te)
    (I2 : Inv X pins σ H2 s2) (T : Turn X.prog X.w X.K (.Name x px) J fp it tn) (st2 : tn 0 s2.heap) (f2 : ∀ b ∈ fp, FpOk X pins H2 b)
    (h : ∀ p, H2 p = none → ∃ W : Nat → Nat → List V → Hp → Prop, (∃ m, W 0 m [] (upd H2 p (.lst []))) ∧ ∀ i m acc H2, W i m acc H2 →
      H2 p = some (.lst acc) ∧ ((J.stop i H2 ∧ Q (.ref p) H2) ∨ (J.go i H2 ∧ ∃ N : List V → Hp → Prop, (∀ acc' H', N acc' H' → ∃ m', m' < m ∧ W (i + 1) m' acc' H') ∧ ∀ x H3, J.yld i H2 x H3 → tt (some x :: σ) H3 fun b H4 =>
        if b = true then te (some x :: σ) H4 fun v H5 => H5 p = some (.lst acc) ∧ acc.length < sizeLine ∧ N (acc ++ [v]) (upd H5 p (.lst (acc ++ [v]))) else N acc H4)))
    (fin : ∀ (s3 : Shared) (H3 : Hp) (p : Addr) (s' : Shared) (H' : Hp) (m : Str → Option Value), Inv X pins σ H3 s3 → Inv X pins σ H' s' → H' s3.heap.objs.size = none → s'.heap.Ns s3.heap.objs.size m → Q (.ref p) H' → ∀ cenv : Env, cenv.locals = s3.heap.objs.size → compPostX (model X.prog X.w) X.A X.xe use QQ (.ref p) cenv (.ok .next) s') :
    wpAny (model X.prog X.w) X.A (newList []) (fun acc s₃ => wpAny (model X.prog X.w) X.A (newFunctionEnv scope X.env.globals (closOf X.env.cells scope.names []) [] X.env.qual none .none (some X.env)) (fun cenv s₄ =>
      codeAny (model X.prog X.w) X.A (.compStart (.ListComp elt [⟨.Name x px, iter, ifs, 0⟩] scope pos) 0 (.ref it) acc { cenv with scope := relabel scope X.env }) (compPostX (model X.prog X.w) X.A X.xe use QQ acc { cenv with scope := relabel scope X.env }) s₄) X.xe s₃) X.xe s2 := by
  have hp : H2 s2.heap.objs.size = none := I2.hok.fresh (Nat.le_refl _)
  obtain ⟨W, ⟨m0, w0⟩, turn⟩ := h _ hp
  refine wpAny_newObj_type (wpAny_newFunctionEnv S.cell (by intro y hy; simp at hy) (fun h₁ hns₁ hsb₁ => ?_) S.kind)
  generalize hs3 : ({ s2 with heap := s2.heap.push { cls := .type "list", dict := none, data := .seq ([] : List Value).toArray } } : Shared) = s3
  have eh3 : s3.heap = s2.heap.push { cls := .type "list", dict := none, data := .seq ([] : List Value).toArray } := by rw [← hs3]
  have I3 : Inv X pins σ (upd H2 s2.heap.objs.size (.lst [])) s3 := by
    rw [← hs3]
    exact I2.laid (t' := s2.toks) (fun b o e => Heap.get?_push_of_some _ e) (Nat.le_refl _) ⟨by show 0 ≤ sizeLine; exact Nat.zero_le _, [], 0, .nil, Heap.get?_push_size _ rfl⟩
  have f3 : ∀ b ∈ fp, FpOk X pins (upd H2 s2.heap.objs.size (.lst [])) b := fun b hb => ⟨by
    obtain ⟨o, e, _⟩ := T.obj _ _ st2 b hb
    rw [upd_ne (Nat.ne_of_lt (Heap.lt_size e))]; exact (f2 b hb).1, (f2 b hb).2⟩
  have o3 : ∀ b ∈ fp, ∃ o, s3.heap.get? b = some o := fun b hb => by
    obtain ⟨o, e, _⟩ := T.obj _ _ st2 b hb
    exact ⟨o, by rw [eh3]; exact Heap.get?_push_of_some _ e⟩
  have hns₁ : h₁.Ns s3.heap.objs.size (fun x => ([] : List (Str × Value)).reverse.lookup x) := by rw [eh3]; exact hns₁
  have kk : ∀ b o, s3.heap.get? b = some o → h₁.get? b = some o := fun b o e => hsb₁.extBut b o (by
    have := Heap.lt_size e
    rw [eh3] at this
    exact Nat.ne_of_lt this) (Heap.get?_push_of_some _ (by rw [← eh3]; exact e))
  generalize hs4 : ({ s3 with heap := h₁, toks := s3.toks + ([] : List (Str × Value)).length } : Shared) = s4
  have eh4 : s4.heap = h₁ := by rw [← hs4]
  have I4 : Inv (X.comp scope x pins fp s3 (upd H2 s2.heap.objs.size (.lst [])) fun _ _ => False) [] (none :: σ) (upd H2 s2.heap.objs.size (.lst [])) s4 := comp_start I3 S f3 o3 (by rw [eh4]; exact hns₁) (by rw [eh4]; exact kk) (by rw [← hs4]) (by rw [← hs4]; exact I3.bare)
  have st4 : tn 0 s4.heap := T.keep _ _ _ st2 fun b hb o e => by rw [eh4]; exact kk b o (by rw [eh3]; exact Heap.get?_push_of_some _ e)
  have loop : codeAny (model X.prog X.w) X.A (.compLoop (.ListComp elt [⟨.Name x px, iter, ifs, 0⟩] scope pos) 0 (.ref it) (.ref s2.heap.objs.size) (compEnvC scope (closOf X.env.cells scope.names []) s3.heap.objs.size X.env))
      (compPostX (model X.prog X.w) X.A X.xe use QQ (.ref s2.heap.objs.size) (compEnvC scope (closOf X.env.cells scope.names []) s3.heap.objs.size X.env)) s4 := by
    have raised : ∀ e s', XC (X.comp scope x pins fp s3 (upd H2 s2.heap.objs.size (.lst [])) fun _ _ => False) E e s' → notedBy (model X.prog X.w) X.A (compEnvC scope (closOf X.env.cells scope.names []) s3.heap.objs.size X.env) (fun x s'' => compPostX (model X.prog X.w) X.A X.xe use QQ (.ref s2.heap.objs.size) (compEnvC scope (closOf X.env.cells scope.names []) s3.heap.objs.size X.env) (.error x) s'') e s' :=
      fun e s' h => comp_raised hst hf hex I3 f3 hxh rfl rfl h
    refine compLoop_any (fun n s' => ∃ i acc H' v0, Inv (X.comp scope x pins fp s3 (upd H2 s2.heap.objs.size (.lst [])) fun _ _ => False) [] (v0 :: σ) H' s' ∧ tn i s'.heap ∧ (∀ b ∈ fp, H' b = none) ∧ W i n acc H') ?_ m0 ⟨0, [], _, none, I4, st4, fun b hb => (f3 b hb).1, w0⟩
    rintro n s5 ⟨i, acc, H5, v0, I5, st5, fr5, w5⟩
    obtain ⟨hacc, hh⟩ := turn i n acc H5 w5
    rcases hh with ⟨stop, q⟩ | ⟨go, N, hN, step⟩
    · refine thn (T.done (X.comp scope x pins fp s3 (upd H2 s2.heap.objs.size (.lst [])) fun _ _ => False) rfl rfl rfl hc i [] s5 _ H5 _ I5 (comp_fp I3 S f3 o3 fr5) st5 stop) fun r s6 ⟨hr, I6⟩ => ?_
      subst hr
      obtain ⟨m6, hn6, _⟩ := id I6.loc
      exact fin s3 _ _ s6 H5 m6 I3 (comp_left I3 f3 I6) I6.free hn6 q _ rfl
    · refine thn (T.item (X.comp scope x pins fp s3 (upd H2 s2.heap.objs.size (.lst [])) fun _ _ => False) rfl rfl rfl hc i [] s5 _ H5 _ I5 (comp_fp I3 S f3 o3 fr5) st5 go) fun r s6 ⟨u, hr, h6⟩ => ?_
      subst hr
      refine thn h6 fun _ s7 ⟨y, H7, I7, r7, y7, st7, fr7⟩ => ?_
      have I7' := I7.pinned (comp_fp I3 S f3 o3 fr7) (T.obj _ _ st7)
      have again : ∀ {n' : List V} {v1 : Option V} {H9 : Hp} {s9 : Shared}, Inv (X.comp scope x pins fp s3 (upd H2 s2.heap.objs.size (.lst [])) fun _ _ => False) ([] ++ pinsAt fp s7.heap) (v1 :: σ) H9 s9 → N n' H9 → ∃ m, m < n ∧ ∃ i acc H' v0, Inv (X.comp scope x pins fp s3 (upd H2 s2.heap.objs.size (.lst [])) fun _ _ => False) [] (v0 :: σ) H' s9 ∧ tn i s9.heap ∧ (∀ b ∈ fp, H' b = none) ∧ W i m acc H' := fun {n' v1 H9 s9} I9 n9 => by
        obtain ⟨m', hm, w9⟩ := hN n' H9 n9
        refine ⟨m', hm, i + 1, n', H9, v1, I9.unpinned, T.keep _ _ _ st7 fun b hb o e => (I9.pin (b, o) (List.mem_append_right _ (List.mem_append_right _ (mem_pinsAt hb e)))).1, fun b hb => ?_, w9⟩
        obtain ⟨o, e, d⟩ := T.obj _ _ st7 b hb
        exact (I9.pin (b, o) (List.mem_append_right _ (List.mem_append_right _ (mem_pinsAt hb e)))).2.1
      refine wpAny_assign_Name (store_ok (X := X.comp scope x pins fp s3 (upd H2 s2.heap.objs.size (.lst [])) fun _ _ => False) (i := 0) I7' S.nd rfl (Or.inl (lookup_relabel_local S.loc)) r7 (fun s8 I8 => ?_) (Or.inr (lookup_relabel_local S.loc)))
      refine wpAny_mono (ht pins fp s3 _ _ s8 _ H7 _ (I8.wish _) (step y H7 y7)) (fun ok s9 ⟨H9, I9, q9⟩ => ?_) raised
      cases ok with
      | false =>
        rw [if_neg Bool.false_ne_true]
        have q9' : N acc H9 := by simpa using q9
        exact again I9.unwish q9'
      | true =>
        rw [if_pos rfl]
        have q9' : te (some y :: σ) H9 (fun v H5 => H5 s2.heap.objs.size = some (.lst acc) ∧ acc.length < sizeLine ∧ N (acc ++ [v]) (upd H5 s2.heap.objs.size (.lst (acc ++ [v])))) := q9
        refine wpAny_mono (he pins fp s3 _ _ s9 _ H9 _ I9 q9') (fun u10 s10 ⟨v, H10, I10, r10, ha, hl, n10⟩ => ?_) raised
        refine wpAny_mono (mt_append (X := (X.comp scope x pins fp s3 (upd H2 s2.heap.objs.size (.lst [])) fun _ _ => False).wish (XC (X.comp scope x pins fp s3 (upd H2 s2.heap.objs.size (.lst [])) fun _ _ => False) E)) _ s10 _ H10 (.ref s2.heap.objs.size) [v] (.ref s2.heap.objs.size) [u10] (fun w H' => w = .non ∧ H' = upd H10 s2.heap.objs.size (.lst (acc ++ [v]))) I10 rfl (.cons r10 .nil) ⟨_, acc, v, rfl, rfl, ha, hl, rfl, rfl⟩) (fun u11 s11 ⟨v11, H11, I11, r11, q11, e11⟩ => ?_) raised
        rw [e11] at I11
        exact again I11.unwish n10
  exact codeAny_compStart_list loop (T.self _ 0 _ _ _ st4 loop)
end
section
variable {X : Cx} {scope : Scope} {x : Str} {E : XK} {elt iter : Expr} {px pos : Pos} {ifs : List Expr} {wi : TI} {tt : TT} {te : TE}
abbrev Cx.blk (X : Cx) (scope : Scope) (x : Str) (pins : List (Addr × Obj)) (fp : List Addr) (s3 : Shared) (H3 : Hp) (E : XK) : Cx := (X.comp scope x pins fp s3 H3 fun _ _ => False).wish (XC (X.comp scope x pins fp s3 H3 fun _ _ => False) E)
/-- [elt for x in iter if ..], a value -/
theorem pe_comp (hc : X.calm = true) (hst : X.stack = X.env :: X.outer) (hf : X.env.frame = some X.env.locals) (hex : X.ex = []) (hxh : ∀ e s, HXR X E e s → X.xe e s) (S : CompSc scope X.env.scope x X.N) (hi : PI X (.Name x px) iter wi)
    (ht : ∀ pins fp s3 H3, PTs (X.blk scope x pins fp s3 H3 E) ifs tt) (he : ∀ pins fp s3 H3, PE (X.blk scope x pins fp s3 H3 E) elt te) (hs : ∀ x, foldedSetIterable iter X.env x = pure x := by intro _; rfl) :
    PE X (.ListComp elt [⟨.Name x px, iter, ifs, 0⟩] scope pos) (tComp wi tt te) := by
  intro pins s σ H Q I h
  rw [eval_ListComp]
  refine wpAny_comprehensionX (use := none) rfl hs (closureFor_eq fun y hy e => I.ok.has y.1 (S.fre y hy e)) S.kind S.nms (thn (hi pins s σ H _ I h) fun v s1 h1 => thn h1 fun itv s2 h2 => ?_)
  obtain ⟨it, fp, tn, J, H2, e, I2, T, st2, f2, hW⟩ := h2
  subst e
  refine comp_block hc hst hf hex hxh S ht he I2 T st2 f2 hW fun s3 H3 p s' H' m I3 I' hC hn q cenv hcl => ?_
  refine ⟨m, by rw [hcl]; exact hn, fun h' hs' => ⟨.ref p, H', comp_turned (E := X.xe) (s' := s') I3 I' hC (by rw [← hcl]; exact hs'), rfl, q⟩⟩
/-- y = [elt for x in iter if ..] -/
theorem ps_setComp {y : Str} {i : Nat} {py spos : Pos} (hc : X.calm = true) (hst : X.stack = X.env :: X.outer) (hf : X.env.frame = some X.env.locals) (hex : X.ex = []) (hxh : ∀ e s, HXR X E e s → X.xe e s) (S : CompSc scope X.env.scope x X.N) (hi : PI X (.Name x px) iter wi)
    (ht : ∀ pins fp s3 H3, PTs (X.blk scope x pins fp s3 H3 E) ifs tt) (he : ∀ pins fp s3 H3, PE (X.blk scope x pins fp s3 H3 E) elt te) (hN : X.N.Nodup) (hy : X.N[i]? = some y) (hl : Loc X.env.scope y)
    (hs : ∀ x, foldedSetIterable iter X.env x = pure x := by intro _; rfl) (hsw : swapsWith (.ListComp elt [⟨.Name x px, iter, ifs, 0⟩] scope pos) (some (.Name y py)) spos.line X.env = pure true := by rfl)
    (hfn : X.fn y = true ∨ X.env.scope.names.lookup y = some .local := by first | exact .inl rfl | exact .inr rfl | assumption) :
    PS X (.Assign [.Name y py] (.ListComp elt [⟨.Name x px, iter, ifs, 0⟩] scope pos) spos) (tAsg (tComp wi tt te) (gName i)) := by
  intro pins s σ H D I h
  rw [exec_Assign_Name_used _ _ _ _ hsw]
  refine wpAny_bind (wpAny_standAt (wpAny_bind ?_))
  show wpAny _ X.A (do let _ ← comprehension (.ListComp elt [⟨.Name x px, iter, ifs, 0⟩] scope pos) scope X.env _ (newList []) false (eval iter X.env) (some (assign (.Name y py) X.env))) _ _ s
  refine wpAny_bind (wpAny_mono (wpAny_comprehensionX (use := some (assign (.Name y py) X.env)) (Q := fun _ s' => SP X pins D .next s') rfl hs (closureFor_eq fun y hy e => I.ok.has y.1 (S.fre y hy e)) S.kind S.nms
    (thn (hi pins s σ H _ I h) fun v s1 h1 => thn h1 fun itv s2 h2 => ?_)) (fun _ s' hq => wpAny_pure (wpAny_pure hq)) fun _ _ e => e)
  obtain ⟨it, fp, tn, J, H2, e, I2, T, st2, f2, hW⟩ := h2
  subst e
  refine comp_block (Q := fun v H1 => gName i v σ H1 D.nx) hc hst hf hex hxh S ht he I2 T st2 f2 hW fun s3 H3 p s' H' m I3 I' hC hn q cenv hcl => ?_
  show wpAny _ X.A (assign (.Name y py) X.env (.ref p)) _ _ s'
  refine wpAny_assign_Name (store_ok2 I' hN hy hl (v := .ref p) rfl (fun s'' I'' hch => ?_) hfn)
  obtain ⟨a, hsb, ha⟩ := hch
  have neC : s3.heap.objs.size ≠ a := by
    rcases ha with rfl | ha
    · exact Nat.ne_of_gt I3.lt
    · obtain ⟨w, z⟩ := I3.cell y a ha
      exact Nat.ne_of_gt z.lt
  refine ⟨m, by rw [hcl]; exact hn.sameBut hsb neC, fun h' hs' => ⟨_, H', comp_turned (E := X.xe) (s' := s') I3 I'' hC (by rw [← hcl]; exact hs'), q⟩⟩
end
end L2
set_option Elab.async false
set_option linter.all false
set_option maxRecDepth 100000
namespace L2
open PySem PySem.Spec PyProof.Rows
/-! ### plain data in the heap, deep equality -/
mutual
inductive DatV (H : Hp) : V → PyData → Prop
  | non : DatV H .non .none
  | bl (b : Bool) : DatV H (.bl b) (.bool b)
  | int (i : Int) : DatV H (.int i) (.int i)
  | str (x : Str) : DatV H (.str x) (.str x)
  | lst {a : Addr} {xs : List V} {ds : List PyData} (e : H a = some (.lst xs)) (h : DatVs H xs ds) : DatV H (.ref a) (.list ds)
  | tup {a : Addr} {xs : List V} {ds : List PyData} (e : H a = some (.tup xs)) (h : DatVs H xs ds) : DatV H (.ref a) (.tuple ds)
inductive DatVs (H : Hp) : List V → List PyData → Prop
  | nil : DatVs H [] []
  | cons {x : V} {xs : List V} {d : PyData} {ds : List PyData} : DatV H x d → DatVs H xs ds → DatVs H (x :: xs) (d :: ds)
end
mutual
theorem DatV.reads {P : Program} {w : World} {H : Hp} {h : Heap} (ok : HOk P w H h) : ∀ {x : V} {d : PyData} {u : Value}, DatV H x d → RelV x u → ∃ as, Reads h u d as
  | _, _, _, .non, r => by cases r; exact ⟨_, .none⟩
  | _, _, _, .bl b, r => by cases r; exact ⟨_, .bool b⟩
  | _, _, _, .int i, r => by obtain ⟨t, rfl⟩ := r; exact ⟨_, .int i t⟩
  | _, _, _, .str x, r => by obtain ⟨t, rfl⟩ := r; exact ⟨_, .str x t⟩
  | _, _, _, .lst e hs, r => by
    cases r
    obtain ⟨_, its, n, rv, ho⟩ := (show ObjOk P w H h _ (.lst _) from ok _ _ e)
    obtain ⟨as, ra⟩ := DatVs.reads ok hs rv
    exact ⟨_, .list ho rfl rfl ra⟩
  | _, _, _, .tup e hs, r => by
    cases r
    obtain ⟨_, its, rv, o, ho, hc, n, hd⟩ := (show ObjOk P w H h _ (.tup _) from ok _ _ e)
    obtain ⟨as, ra⟩ := DatVs.reads ok hs rv
    exact ⟨_, .tuple ho hc hd ra⟩
theorem DatVs.reads {P : Program} {w : World} {H : Hp} {h : Heap} (ok : HOk P w H h) : ∀ {xs : List V} {ds : List PyData} {us : List Value}, DatVs H xs ds → Vals xs us → ∃ as, ReadsAll h us ds as
  | _, _, _, .nil, .nil => ⟨_, .nil⟩
  | _, _, _, .cons a b, .cons r t => by
    obtain ⟨_, ra⟩ := DatV.reads ok a r
    obtain ⟨_, rb⟩ := DatVs.reads ok b t
    exact ⟨_, .cons ra rb⟩
end
mutual
theorem DatV.mono {H H' : Hp} (k : ∀ a xs, H a = some (.lst xs) → H' a = some (.lst xs)) (k2 : ∀ a xs, H a = some (.tup xs) → H' a = some (.tup xs)) : ∀ {x : V} {d : PyData}, DatV H x d → DatV H' x d
  | _, _, .non => .non
  | _, _, .bl b => .bl b
  | _, _, .int i => .int i
  | _, _, .str x => .str x
  | _, _, .lst e hs => .lst (k _ _ e) (DatVs.mono k k2 hs)
  | _, _, .tup e hs => .tup (k2 _ _ e) (DatVs.mono k k2 hs)
theorem DatVs.mono {H H' : Hp} (k : ∀ a xs, H a = some (.lst xs) → H' a = some (.lst xs)) (k2 : ∀ a xs, H a = some (.tup xs) → H' a = some (.tup xs)) : ∀ {xs : List V} {ds : List PyData}, DatVs H xs ds → DatVs H' xs ds
  | _, _, .nil => .nil
  | _, _, .cons a b => .cons (DatV.mono k k2 a) (DatVs.mono k k2 b)
end
theorem DatV.same {H H' : Hp} (s : Same H H') {x : V} {d : PyData} (h : DatV H x d) : DatV H' x d := h.mono (fun _ _ e => s _ _ e) fun _ _ e => s _ _ e
theorem DatVs.same {H H' : Hp} (s : Same H H') {xs : List V} {ds : List PyData} (h : DatVs H xs ds) : DatVs H' xs ds := h.mono (fun _ _ e => s _ _ e) fun _ _ e => s _ _ e
theorem DatVs.length {H : Hp} : ∀ {xs : List V} {ds : List PyData}, DatVs H xs ds → xs.length = ds.length
  | _, _, .nil => rfl
  | _, _, .cons _ b => by rw [List.length_cons, List.length_cons, DatVs.length b]
abbrev shaped := PySem.SeqAt.shaped
section
variable {X : Cx}
def rNeD : R2 := fun x y H Q => ∃ d e, DatV H x d ∧ DatV H y e ∧ shaped d = true ∧ shaped e = true ∧ Q (.bl (!PyData.eqv d e)) H
theorem op_neD (hu : X.A.units + 64 < cLine) : OpR X (compareOp .NotEq) rNeD := by
  intro pins s σ H x y u v Q I rx ry h
  obtain ⟨d, e, hd, he, sd, se, q⟩ := h
  obtain ⟨_, ra⟩ := hd.reads I.hok rx
  obtain ⟨_, rb⟩ := he.reads I.hok ry
  exact ne_dataH ra rb sd se hu ⟨.bl _, H, I, rfl, q⟩
end
end L2
set_option Elab.async false
set_option linter.all false
set_option maxRecDepth 100000
namespace L2
open PySem PySem.Spec PyProof.Rows
/-! ### the law's head, with the script's bound -/
theorem bits_of_weight : ∀ (ns : List Int), ∀ n ∈ ns, Builtin.Int.intBits n ≤ PySem.W.WData.weightAll (ns.map PySem.W.WData.int)
  | m :: r, n, h => by
    simp only [List.map_cons, PySem.W.WData.weightAll]
    rcases List.mem_cons.mp h with rfl | h
    · have : PySem.W.WData.weight (.int n) = Builtin.Int.intBits n := by simp only [PySem.W.WData.weight, Builtin.Int.intBits]
      omega
    · have := bits_of_weight r n h
      omega
theorem bits_of_lay {ns : List Int} (h : PySem.W.WData.layableAll [.list (ns.map PySem.W.WData.int)] = true) : ∀ n ∈ ns, Builtin.Int.intBits n ≤ 1048576 := fun n hn => by
  have h1 : PySem.W.WData.layable (.list (ns.map PySem.W.WData.int)) = true := by simpa [PySem.W.WData.layableAll] using h
  unfold PySem.W.WData.layable at h1
  have h2 := of_decide_eq_true (Bool.and_eq_true_iff.mp h1).2
  have e : (2 : Nat) ^ 20 = 1048576 := by decide
  simp only [PySem.W.WData.weight, e] at h2
  exact Nat.le_trans (bits_of_weight ns n hn) h2
end L2
namespace Att
open PySem PySem.W PySem.Calls PyProof.Rows
theorem attach_callB {l : OpenLaw} {n : Nat} {q : Program} {loose : List Str} {XP : (Str → Option Value) → Heap → Prop} {YP : World → Heap → Prop} {d : DefRec}
    (hn : l.most = some n) (hdf : d.params.defaults = [])
    (call : ∀ (w : World) (s₀ s₁ : Shared) (mg mb : Str → Option Value) (fa : Addr) (o : Obj) (pm cd doc : Value) (a : Addr) (vs : List Value) (ns : List Int),
      Ground q loose [] XP w s₀ mg mb s₁.heap → YP w s₁.heap →
      s₁.heap.get? fa = some o → o.data = .func (docDef d.name d.params d.body d.scope pm cd doc) → s₁.heap.CodeRec cd d.name → mg d.name = some (.ref fa) →
      s₁.heap.get? a = some { cls := .type "list", data := .seq vs.toArray } → IntsAre vs ns → ns.length ≤ n → (∀ n ∈ ns, Builtin.Int.intBits n ≤ 1048576) → s₁.gens = #[] →
      codeAny (model l.prog w) callerA (.call (.ref fa) ⟨[.ref a], []⟩) (fun r s' => r = .ok (.ret (.bool true)) ∧ OldK s₁.heap s'.heap ∧ s'.os = s₁.os ∧ AllBare s'.gens) s₁) :
    WalkO q loose XP YP l.row.toRowW d [] (fun f vs => PySem.call f vs) := by
  intro w s₀ s₁ mg mb G Y fa o pm cd doc dV kV ho hd hcd hD hmg hg args vals as hpre hlay hrd hwl hlo
  obtain rfl : dV = .none := Dflts.none hD hdf
  obtain rfl : kV = .none := Dflts.noKw hD
  obtain ⟨a, vs, ns, rfl, rfl, hobj, hints, hlen⟩ := script_of hn hpre hwl
  refine enter_call (codeAny_mono (call w s₀ s₁ mg mb fa o pm cd doc a vs ns G Y ho (fd_plain hd) hcd hmg hobj hints hlen (L2.bits_of_lay hlay) hg) fun r s' hq => ?_)
  obtain ⟨rfl, h2, h3, h4⟩ := hq
  exact ⟨.inl ⟨.bool true, .bool true, [], rfl, fun _ => rfl, .bool true, post_true l _, fun _ => ⟨List.Pairwise.nil, fun _ hm => (nomatch hm)⟩⟩, h2, h3, h4⟩
end Att
namespace L2
open PySem PySem.Spec PyProof.Rows
/-- the law's promise: a list of at most 63 ints (of at most 2^20 bits) is handed in, True comes out -/
def spLawB (K : PySem.W.Frag) : Sp := fun vs H Q _ => ∃ (a : Addr) (ns : List Int), vs = [.ref a] ∧ SqL K H a (ns.map V.int) ∧ ns.length ≤ 63 ∧ (∀ n ∈ ns, Builtin.Int.intBits n ≤ 1048576) ∧ Only H ∧ ∀ H', Q (.bl true) H'
theorem law_walkB {l : PySem.W.OpenLaw} {q : Program} {loose : List Str} {XP : (Str → Option Value) → Heap → Prop} {YP : World → Heap → Prop} {d : DefRec} {K : Params → PySem.W.Frag} {k : Nat} {x : Str} (hn : l.most = some 63) (hdf : d.params.defaults = [])
    (hr : Room k callerA) (hY : ∀ (w : World) (h : Heap), YP w h → (K w.params).In h)
    (F : ∀ (w : World) (mg : Str → Option Value) (fa : Addr) (h : Heap), (K w.params).In h → h.Ns mainGlobals mg → mg d.name = some (.ref fa) →
      ∃ fd : FuncData, (∀ (s : Shared) (u : Value), BindsTo s fd ⟨[u], []⟩ [(x, u)]) ∧ ∀ base : Heap, (K w.params).In base → base.Ns mainGlobals mg → FnOk l.prog w (K w.params) mg base (CXR l.prog w) k fa fd [x] (spLawB (K w.params))) :
    PySem.W.WalkO q loose XP YP l.row.toRowW d [] (fun f vs => PySem.call f vs) := by
  refine Att.attach_callB hn hdf fun w s₀ s₁ mg mb fa o pm cd doc a vs ns G Y ho hd hcd hmg hobj hints hlen hbits hg => ?_
  have KX := hY w _ Y
  obtain ⟨fd, hb, hF⟩ := F w mg fa _ KX G.T.g hmg
  exact law_call KX G.T.g G.T.b G.T.builtins G.T.nolimit hg hobj hints (Nat.le_trans hlen (by decide)) hr hF hb (fun H hO hS => ⟨a, ns, rfl, hS, hlen, hbits, hO, fun _ => rfl⟩) fun H e s' ⟨_, _, _, _, _, _, _, z⟩ => z
/-- i * j, sizes in bits -/
theorem op_mulB {X : Cx} : OpR X (binaryOp .Mult) (rI (fun i j => IntMulOk i j) fun i j => .int (i * j)) := opI fun _ _ _ _ _ _ _ hc q => mul_int q hc
end L2
set_option Elab.async false
set_option linter.all false
set_option maxRecDepth 100000
namespace L2
open PySem PySem.Spec PyProof.Rows
/-! ### short words: names, comprehensions -/
def compChk (scope es : Scope) (x : Str) (N : List Str) : Bool :=
  decide (scope.kind = .function) && (scope.names.all fun y => decide (y.2 ≠ .cell)) && (scope.names.all fun y => decide (y.2 ≠ .local) || decide (scope.names.lookup y.1 = some .local)) && decide (scope.names.lookup x = some .local) &&
  decide (scope.names.lookup ("" : Str) = none) && (scope.names.all fun y => decide (y.2 ≠ .free) || (decide (es.names.lookup y.1 = some .cell) || decide (es.names.lookup y.1 = some .free))) &&
  (scope.names.all fun y => decide (y.2 ≠ .local) || (decide (y.1 = x) || !N.contains y.1)) && decide (x :: N.map fun y => if y = x then ("" : Str) else y).Nodup
theorem compSc_of {scope es : Scope} {x : Str} {N : List Str} (h : compChk scope es x N = true) : CompSc scope es x N := by
  unfold compChk at h
  simp only [Bool.and_eq_true, decide_eq_true_eq, List.all_eq_true, Bool.or_eq_true, Bool.not_eq_true'] at h
  obtain ⟨⟨⟨⟨⟨⟨⟨h1, h2⟩, h3⟩, h4⟩, h5⟩, h6⟩, h7⟩, h8⟩ := h
  refine ⟨h1, h2, fun y hy e => (h3 y hy).resolve_left fun z => z e, h4, h5, fun y hy e => (h6 y hy).resolve_left fun z => z e, fun y hy e => ?_, h8⟩
  rcases (h7 y hy).resolve_left fun z => z e with q | q
  · exact .inl q
  · exact .inr fun m => by
      have : N.contains y.1 = true := List.contains_iff_mem.mpr m
      rw [q] at this; cases this
def visB (sc : Scope) (x : Str) : Bool := match sc.names.lookup x with
  | some .local => true
  | some .cell => true
  | some .free => true
  | _ => false
theorem vis_of {sc : Scope} {x : Str} (h : visB sc x = true) : Vis sc x := by
  unfold visB at h
  unfold Vis
  split at h <;> simp_all
section
variable {X : Cx}
/-- the name in the i-th slot, looked at by the kernel -/
theorem pk (i : Nat) {x : Str} {pos : Pos} (hN : X.N[i]? = some x := by kernel_rfl) (hv : visB X.env.scope x = true := by kernel_rfl) (hd : (x == ("__debug__" : Str)) = false := by decide)
    (hcd : (x == ("__classdict__" : Str)) = false := by decide) : PE X (.Name x pos) (tVar i) := pe_var hN (vis_of hv) hd hcd
theorem noH {X : Cx} : ∀ e s, HXR X E0 e s → X.xe e s := fun _ _ ⟨_, _, _, _, _, _, _, _, _, _, _, _, _, z⟩ => z.elim
end
section
variable {P : Program} {w : World} {K : PySem.W.Frag} {mg : Str → Option Value} {base : Heap}
/-! ### classes of the module -/
/-- the class x at C -/
structure ClsD (K : PySem.W.Frag) (mg : Str → Option Value) (x : Str) (C : Addr) : Prop where
  cl : Cls K C
  mgC : mg x = some (.ref C)
/-- the def st is the method m of the class at C -/
def MDef (K : PySem.W.Frag) (C : Addr) (m qual : Str) (st : Stmt) : Prop := ∃ f fd, Meth K C m f ∧ Fun K m qual st f fd
structure MethD (P : Program) (w : World) (K : PySem.W.Frag) (mg : Str → Option Value) (base : Heap) (k : Nat) (C : Addr) (m : Str) (ps : List Str) (sp : Sp) : Prop where
  ex : ∃ f fd, Meth K C m f ∧ Binds K fd ps [] ∧ FnOk P w K mg base (CXR P w) k f fd ps sp
/-- the def st is the class's __init__ -/
def IDef (K : PySem.W.Frag) (C : Addr) (qual : Str) (st : Stmt) : Prop := ∃ f fd, Mk K C f ∧ Fun K "__init__" qual st f fd
structure InitD (P : Program) (w : World) (K : PySem.W.Frag) (mg : Str → Option Value) (base : Heap) (k : Nat) (C : Addr) (ps : List Str) (sp : Sp) : Prop where
  ex : ∃ f fd, Mk K C f ∧ Binds K fd ps [] ∧ FnOk P w K mg base (CXR P w) k f fd ps sp
theorem MethD.mono {C : Addr} {m : Str} {ps : List Str} {sp : Sp} {j k : Nat} (F : MethD P w K mg base j C m ps sp) (h : j ≤ k) : MethD P w K mg base k C m ps sp := by
  obtain ⟨f, fd, h1, h3, h4⟩ := F.ex
  exact ⟨f, fd, h1, h3, h4.mono h⟩
theorem MDef.okR {C : Addr} {m qual : Str} {st : Stmt} {N ps : List Str} {k : Nat} {sp : Sp} (D : MDef K C m qual st) (S : FnScope N ps (defScope st)) (len : ∀ vs H Q E, sp vs H Q E → vs.length = ps.length)
    (hb : ∀ (kV doc pm : Value) (an : Option Addr) (cdv ct : Value) (us : List Value), us.length = ps.length → bindArgs (PySem.W.fnOf m qual (defArgs st) (defBody st) (defScope st) .none kV doc pm an cdv ct) ⟨us, []⟩ = pure (ps.zip us))
    (hbody : ∀ (f : Addr) (cdv : Value) (A : Around) (outer : List Env) (s : Shared) (H : Hp) (vs : List V) (Q : VK) (E : XK), Room k (A.deeper (envOfC qual (defScope st) s.heap.objs.size f cdv)) → sp vs H Q E →
      ∃ t, PSs (cxR P w K mg base N qual (defScope st) f cdv A outer s H E) (defBody st) t ∧ t { nx := fun _ H' => Q .non H', rt := Q } (start N vs) H) : MethD P w K mg base (k + 1) C m ps sp := by
  obtain ⟨f, fd, hm, F⟩ := D
  refine ⟨f, fd, hm, F.binds hb, ?_⟩
  obtain ⟨oc, od, kV, doc, pm, an, cdv, ct, osl, rfl, lk, hcd⟩ := F.ex
  exact fn_of lk hcd S len fun A outer s H vs Q E hr hsp => hbody _ cdv A outer s H vs Q E hr hsp
theorem MDef.ok {C : Addr} {m qual : Str} {st : Stmt} {N ps : List Str} {k : Nat} {sp : Sp} (D : MDef K C m qual st) (S : FnScope N ps (defScope st)) (len : ∀ vs H Q E, sp vs H Q E → vs.length = ps.length)
    (hb : ∀ (kV doc pm : Value) (an : Option Addr) (cdv ct : Value) (us : List Value), us.length = ps.length → bindArgs (PySem.W.fnOf m qual (defArgs st) (defBody st) (defScope st) .none kV doc pm an cdv ct) ⟨us, []⟩ = pure (ps.zip us))
    (hbody : ∀ (f : Addr) (cdv : Value) (A : Around) (outer : List Env) (s : Shared) (H : Hp) (vs : List V) (Q : VK) (E : XK), Room k (A.deeper (envOfC qual (defScope st) s.heap.objs.size f cdv)) → sp vs H Q E →
      ∃ t, PSs (cxOf (CXR P w) P w K mg base N qual (defScope st) f cdv A outer s H E).nox (defBody st) t ∧ t { nx := fun _ H' => Q .non H', rt := Q } (start N vs) H) : MethD P w K mg base (k + 1) C m ps sp := by
  refine D.okR S len hb fun f cdv A outer s H vs Q E hr h => ?_
  obtain ⟨t, h, q⟩ := hbody f cdv A outer s H vs Q E hr h
  exact ⟨t, h.nox, q⟩
theorem IDef.okR {C : Addr} {qual : Str} {st : Stmt} {N ps : List Str} {k : Nat} {sp : Sp} (D : IDef K C qual st) (S : FnScope N ps (defScope st)) (len : ∀ vs H Q E, sp vs H Q E → vs.length = ps.length)
    (hb : ∀ (kV doc pm : Value) (an : Option Addr) (cdv ct : Value) (us : List Value), us.length = ps.length → bindArgs (PySem.W.fnOf "__init__" qual (defArgs st) (defBody st) (defScope st) .none kV doc pm an cdv ct) ⟨us, []⟩ = pure (ps.zip us))
    (hbody : ∀ (f : Addr) (cdv : Value) (A : Around) (outer : List Env) (s : Shared) (H : Hp) (vs : List V) (Q : VK) (E : XK), Room k (A.deeper (envOfC qual (defScope st) s.heap.objs.size f cdv)) → sp vs H Q E →
      ∃ t, PSs (cxR P w K mg base N qual (defScope st) f cdv A outer s H E) (defBody st) t ∧ t { nx := fun _ H' => Q .non H', rt := Q } (start N vs) H) : InitD P w K mg base (k + 1) C ps sp := by
  obtain ⟨f, fd, hm, F⟩ := D
  refine ⟨f, fd, hm, F.binds hb, ?_⟩
  obtain ⟨oc, od, kV, doc, pm, an, cdv, ct, osl, rfl, lk, hcd⟩ := F.ex
  exact fn_of lk hcd S len fun A outer s H vs Q E hr hsp => hbody _ cdv A outer s H vs Q E hr hsp
theorem IDef.ok {C : Addr} {qual : Str} {st : Stmt} {N ps : List Str} {k : Nat} {sp : Sp} (D : IDef K C qual st) (S : FnScope N ps (defScope st)) (len : ∀ vs H Q E, sp vs H Q E → vs.length = ps.length)
    (hb : ∀ (kV doc pm : Value) (an : Option Addr) (cdv ct : Value) (us : List Value), us.length = ps.length → bindArgs (PySem.W.fnOf "__init__" qual (defArgs st) (defBody st) (defScope st) .none kV doc pm an cdv ct) ⟨us, []⟩ = pure (ps.zip us))
    (hbody : ∀ (f : Addr) (cdv : Value) (A : Around) (outer : List Env) (s : Shared) (H : Hp) (vs : List V) (Q : VK) (E : XK), Room k (A.deeper (envOfC qual (defScope st) s.heap.objs.size f cdv)) → sp vs H Q E →
      ∃ t, PSs (cxOf (CXR P w) P w K mg base N qual (defScope st) f cdv A outer s H E).nox (defBody st) t ∧ t { nx := fun _ H' => Q .non H', rt := Q } (start N vs) H) : InitD P w K mg base (k + 1) C ps sp := by
  refine D.okR S len hb fun f cdv A outer s H vs Q E hr h => ?_
  obtain ⟨t, h, q⟩ := hbody f cdv A outer s H vs Q E hr h
  exact ⟨t, h.nox, q⟩
theorem cls_mk {h : Heap} {x : Str} {C : Addr} (X : K.In h) (G : h.Ns mainGlobals mg) (a : PySem.W.nsIn K mainGlobals x = some (some (.ref C))) (h1 : PySem.W.plainGet K C Str.empty = true) (h2 : PySem.W.hasDictIn K C = true) (h3 : PySem.W.plainOver K C = true)
    (h4 : PySem.W.findIn K (.ref C) "__setattr__" = some (some (.builtin "object.__setattr__"))) : ClsD K mg x C := ⟨⟨h1, h2, h3, h4⟩, PySem.W.mg_of X G a⟩
theorem mdef_mk {C f : Addr} {m qual : Str} {st : Stmt} {oc : Value} {od an : Option Addr} {osl : Array (Option Value)} {kV doc pm cdv ct : Value} (a : PySem.W.findIn K (.ref C) m = some (some (.ref f))) (fn : PySem.W.isFn K (.ref f) = true)
    (l : K.lookup f = some ⟨oc, od, .func (PySem.W.fnOf m qual (defArgs st) (defBody st) (defScope st) .none kV doc pm an cdv ct), osl⟩) (c : PySem.W.codeIn K cdv qual = true) (k : PySem.W.keepIn K (.ref f) = true) : MDef K C m qual st := ⟨f, _, ⟨a, fn, k⟩, fun_mk l c k⟩
theorem idef_mk {C f : Addr} {qual : Str} {st : Stmt} {oc : Value} {od an : Option Addr} {osl : Array (Option Value)} {kV doc pm cdv ct : Value} (m : PySem.W.makesIn K C = true) (a : PySem.W.findIn K (.ref C) "__init__" = some (some (.ref f))) (fn : PySem.W.isFn K (.ref f) = true) (kC : PySem.W.keepIn K (.ref C) = true)
    (l : K.lookup f = some ⟨oc, od, .func (PySem.W.fnOf "__init__" qual (defArgs st) (defBody st) (defScope st) .none kV doc pm an cdv ct), osl⟩) (c : PySem.W.codeIn K cdv qual = true) (k : PySem.W.keepIn K (.ref f) = true) : IDef K C qual st := ⟨f, _, ⟨m, a, fn, kC⟩, fun_mk l c k⟩
end
section
variable {X : Cx} {k : Nat} {C : Addr} {ps : List Str} {sp : Sp} {E : XK} {x m : Str} {p pos apos : Pos} {e o : Expr} {es : List Expr} {ta : TE} {t : TA}
/-- o.m(e, ..), o.m() -/
theorem pe_methD {pl : Sem Bool} (T : ClsD X.K X.mg x C) (F : MethD X.prog X.w X.K X.mg X.base k C m ps sp) (hr : Room k X.A) (hx : Passes (CXR X.prog X.w) X E) (he : PE X o ta) (ha : PA X (e :: es) t)
    (hst : starEach (e :: es) X.env = (false, eval e X.env) :: starEach es X.env := by rfl) (hpl : (backTo pos (starEach es X.env)).any (·.1) = false := by rfl)
    (ht : eval (.Call (.Attribute o m apos) (e :: es) [] pos) X.env = (do
      let ov ← eval o X.env
      standAt apos.atName
      let (f, first) ← holding [ov] (getMethod ov m pl)
      callWith pos f first (backTo pos (starEach (e :: es) X.env)) (backToKw pos (keywordEach [] X.env))) := by rfl) :
    PE X (.Call (.Attribute o m apos) (e :: es) [] pos) (tMeth C m sp [] E ta t) := by
  obtain ⟨f, fd, h1, h3, h4⟩ := F.ex
  exact pe_meth he T.cl h1 h4 hr h3 .nil hx ha hst hpl ht
theorem pe_methD0 {pl : Sem Bool} (T : ClsD X.K X.mg x C) (F : MethD X.prog X.w X.K X.mg X.base k C m ps sp) (hr : Room k X.A) (hx : Passes (CXR X.prog X.w) X E) (he : PE X o ta)
    (ht : eval (.Call (.Attribute o m apos) [] [] pos) X.env = (do
      let ov ← eval o X.env
      standAt apos.atName
      let (f, first) ← holding [ov] (getMethod ov m pl)
      callWith pos f first (backTo pos (starEach [] X.env)) (backToKw pos (keywordEach [] X.env))) := by rfl) :
    PE X (.Call (.Attribute o m apos) [] [] pos) (tMeth C m sp [] E ta tNil) := by
  obtain ⟨f, fd, h1, h3, h4⟩ := F.ex
  exact pe_meth0 he T.cl h1 h4 hr h3 .nil hx ht
theorem pe_makeD0 (T : ClsD X.K X.mg x C) (F : InitD X.prog X.w X.K X.mg X.base k C ps sp) (hr : Room (k + 1) X.A) (hg : Gl X x) (hx : Passes (CXR X.prog X.w) X E)
    (hdb : (x == ("__debug__" : Str)) = false := by decide) : PE X (.Call (.Name x p) [] [] pos) (tMake C sp [] E tNil) := by
  obtain ⟨f, fd, h1, h3, h4⟩ := F.ex
  exact pe_make0 h1 h4 hr hg T.mgC h3 .nil hx hdb
/-- o.f, o of the class at C -/
def tFldC (C : Addr) (ta : TE) (f : Str) : TE := fun σ H Q => ta σ H fun x H1 => ∃ a dx fs v, x = .ref a ∧ H1 a = some (.ins C dx fs) ∧ fs.lookup f = some v ∧ Q v H1
theorem pe_fldC {f : Str} (T : ClsD X.K X.mg x C) (na : NoAttr X.K C f) (he : PE X o ta) (hb : attributeBase o f X.env (eval o X.env) = eval o X.env := by rfl) : PE X (.Attribute o f pos) (tFldC C ta f) := by
  intro pins s σ H Q I h
  refine attr_of hb (thn (he pins s σ H _ I h) fun u s1 ⟨x, H1, I1, rx, a, dx, fs, v, ex, ea, l, q⟩ => ?_)
  subst ex
  obtain rfl : u = Value.ref a := rx
  exact getattr_ok I1 ea T.cl na l fun u' s2 I2 ru => ⟨v, H1, I2, ru, q⟩
def sFldC (C : Addr) (ta tv : TE) (f : Str) : TS := fun D σ H => tv σ H fun y H1 => ta σ H1 fun x H2 => ∃ a dx fs, x = .ref a ∧ H2 a = some (.ins C dx fs) ∧ fs.length < 1000 ∧ D.nx σ (upd H2 a (.ins C dx (putF f y fs)))
theorem ps_fldC {f : Str} {value : Expr} {tv : TE} {pos' : Pos} (T : ClsD X.K X.mg x C) (na : NoAttr X.K C f) (ha : PE X o ta) (hv : PE X value tv) (hs : swapsWith value (some (.Attribute o f pos')) pos.line X.env = pure false := by rfl) : PS X (.Assign [.Attribute o f pos'] value pos) (sFldC C ta tv f) := by
  intro pins s σ H D I h
  refine plainObj_wpAny_Assign_Attribute (thn (hv pins s σ H _ I h) fun u s1 ⟨y, H1, I1, ry, q⟩ => thn (ha pins s1 σ H1 _ I1 q) fun ov s2 ⟨x, H2, I2, rx, a, dx, fs, ex, ea, l, q2⟩ => ?_) hs
  subst ex
  obtain rfl : ov = Value.ref a := rx
  exact setattr_ok I2 ea T.cl na l ry fun s3 I3 => ⟨σ, _, I3, q2⟩
end
end L2
set_option Elab.async false
set_option linter.all false
set_option maxRecDepth 100000
namespace L2
open PySem PySem.Spec PyProof.Rows
/-- what stands under a global name -/
structure GlC (mg : Str → Option Value) (x : Str) (C : Addr) : Prop where
  mgC : mg x = some (.ref C)
theorem glc_mk {K : PySem.W.Frag} {h : Heap} {mg : Str → Option Value} {x : Str} {C : Addr} (X : K.In h) (G : h.Ns mainGlobals mg) (a : PySem.W.nsIn K mainGlobals x = some (some (.ref C))) : GlC mg x C := ⟨PySem.W.mg_of X G a⟩
theorem exci_mk {K : PySem.W.Frag} {C : Addr} (c0 : PySem.W.hasDictIn K C = true) (c1 : PySem.W.findIn K (.ref C) "__getattribute__" = some (some (.builtin "BaseException.__getattribute__"))) (c2 : PySem.W.findIn K (.ref C) "__getattr__" = some none)
    (c3 : PySem.W.findIn K (.ref C) "__class__" = some (some (.builtin "object.__class__"))) (c4 : PySem.W.specialIn K (.builtin "object.__class__") "__get__" = some (some (.builtin "getset_descriptor.__get__"))) (c5 : PySem.W.takesIn K (.builtin "object.__class__") = some true)
    (c6 : PySem.W.mroIn K C (.type "object") = some true) (c7 : PySem.W.subIn K (.ref C) (.type "BaseException") = some true) : PySem.W.ExcI K C := ⟨c0, c1, c2, c3, c4, c5, c6, c7⟩
theorem isi_dict_int : isiT "dict" "int" = some false := rfl
theorem isi_dict_bool : isiT "dict" "bool" = some false := rfl
theorem isi_dict_list : isiT "dict" "list" = some false := rfl
theorem isi_str_tuple : isiT "str" "tuple" = some false := rfl
theorem isi_int_str : isiT "int" "str" = some false := rfl
theorem isi_bool_str : isiT "bool" "str" = some false := rfl
theorem isi_none_str : isiT "NoneType" "str" = some false := rfl
theorem isi_list_str : isiT "list" "str" = some false := rfl
theorem isi_tuple_str : isiT "tuple" "str" = some false := rfl
theorem isi_dict_dict : isiT "dict" "dict" = some true := rfl
/-- is it a whole number that is no truth -/
def wholeB : V → Bool
  | .int _ => true
  | _ => false
theorem cpow_60 : CPow 10 60 = True := eq_true ⟨by decide, by decide, by decide⟩
theorem cpow_59 : CPow 10 59 = True := eq_true ⟨by decide, by decide, by decide⟩
theorem cpow_20 : CPow 10 20 = True := eq_true ⟨by decide, by decide, by decide⟩
theorem cpow_9 : CPow 10 9 = True := eq_true ⟨by decide, by decide, by decide⟩
theorem cpow_6 : CPow 10 6 = True := eq_true ⟨by decide, by decide, by decide⟩
/-! rules whose reading names the written part: given by name, for a context under a binder -/
section
variable {X : Cx} {K : PySem.W.Frag}
theorem call_isiXK (h : X.K = K) : CallR X (.builtin "isinstance") (rIsiX K) := by subst h; exact call_isiX
theorem ix_listK (h : X.K = K) : IxR X (rIxL K) := by subst h; exact ix_list
theorem sl_listK (h : X.K = K) : SlR X (rSlL K) := by subst h; exact sl_list
theorem call_len_seqK (h : X.K = K) : CallR X (.builtin "len") (fun xs H Q => ∃ p ys, xs = [.ref p] ∧ (SqL K H p ys ∨ SqT K H p ys) ∧ Q (.int ys.length) H) := by subst h; exact call_len_seq
theorem call_list_ofK (h : X.K = K) : CallR X (.type "list") (fun xs H Q => ∃ p ys, xs = [.ref p] ∧ (SqL K H p ys ∨ SqT K H p ys) ∧ ∀ l, H l = none → Q (.ref l) (upd H l (.lst ys))) := by subst h; exact call_list_of
end
theorem whole_int (n : Int) : wholeB (.int n) = true := rfl
theorem whole_non : wholeB .non = false := rfl
theorem whole_bl (b : Bool) : wholeB (.bl b) = false := rfl
theorem whole_str (s : Str) : wholeB (.str s) = false := rfl
theorem whole_ref (a : Addr) : wholeB (.ref a) = false := rfl
end L2
set_option Elab.async false
set_option linter.all false
set_option maxRecDepth 100000
namespace L2
open PySem PySem.Spec PyProof.Rows
/-! ### comprehensions, read: over a list, over a range -/
def CompJ (J : It) (tt : TT) (te : TE) (σ : St) (Q : VK) (H1 : Hp) : Prop := ∀ p, H1 p = none → ∃ W : Nat → Nat → List V → Hp → Prop, (∃ m, W 0 m [] (upd H1 p (.lst []))) ∧ ∀ i m acc H2, W i m acc H2 →
  H2 p = some (.lst acc) ∧ ((J.stop i H2 ∧ Q (.ref p) H2) ∨ (J.go i H2 ∧ ∃ N : List V → Hp → Prop, (∀ acc' H', N acc' H' → ∃ m', m' < m ∧ W (i + 1) m' acc' H') ∧ ∀ x H3, J.yld i H2 x H3 → tt (some x :: σ) H3 fun b H4 =>
    if b = true then te (some x :: σ) H4 fun v H5 => H5 p = some (.lst acc) ∧ acc.length < sizeLine ∧ N (acc ++ [v]) (upd H5 p (.lst (acc ++ [v]))) else N acc H4))
theorem compL {K : PySem.W.Frag} {tl : TE} {tt : TT} {te : TE} {σ : St} {H : Hp} {Q : VK}
    (h : ∀ L, Is L (fun a H1 => CompJ (Itl K a) tt te σ Q H1) → tl σ H fun x H1 => ∃ a, x = .ref a ∧ (∃ xs, SqL K H1 a xs) ∧ L a H1) : tComp (iList K tl) tt te σ H Q := h _ Is.rfl
theorem compR1 {ta : TA} {tt : TT} {te : TE} {σ : St} {H : Hp} {Q : VK}
    (h : ∀ L, Is L (fun n H1 => CompJ (Itr 0 n) tt te σ Q H1) → ta σ H fun vs H1 => ∃ j : Int, vs = [.int j] ∧ -(2 ^ 62) ≤ j ∧ j < 2 ^ 62 ∧ L j.toNat H1) : tComp (iRng1 ta) tt te σ H Q := h _ Is.rfl
/-- over a list, by what holds between two turns -/
theorem compList {K : PySem.W.Frag} {a : Addr} {tt : TT} {te : TE} {σ : St} {Q : VK} {H1 : Hp} (xs : List V) (Pv : Addr → Nat → List V → Hp → Prop) (h0 : ∀ p, H1 p = none → Pv p 0 [] (upd H1 p (.lst [])))
    (hl : ∀ p i acc H, H1 p = none → Pv p i acc H → H p = some (.lst acc) ∧ SqL K H a xs)
    (hs : ∀ p i x acc H, H1 p = none → xs[i]? = some x → Pv p i acc H → tt (some x :: σ) H fun b H4 => if b = true then te (some x :: σ) H4 fun v H5 => H5 p = some (.lst acc) ∧ acc.length < sizeLine ∧ Pv p (i + 1) (acc ++ [v]) (upd H5 p (.lst (acc ++ [v]))) else Pv p (i + 1) acc H4)
    (hd : ∀ p acc H, H1 p = none → Pv p xs.length acc H → Q (.ref p) H) : CompJ (Itl K a) tt te σ Q H1 := by
  intro p hp
  refine ⟨fun i m acc H => Pv p i acc H ∧ i ≤ xs.length ∧ m = xs.length - i, ⟨_, h0 p hp, Nat.zero_le _, rfl⟩, ?_⟩
  rintro i m acc H2 ⟨hP, hi, rfl⟩
  obtain ⟨ha, hq⟩ := hl p i acc H2 hp hP
  refine ⟨ha, ?_⟩
  by_cases e : i = xs.length
  · subst e
    exact .inl ⟨⟨xs, hq, Nat.le_refl _⟩, hd p acc H2 hp hP⟩
  · have hlt : i < xs.length := by omega
    refine .inr ⟨⟨xs, xs[i], hq, by simp [hlt]⟩, fun acc' H' => Pv p (i + 1) acc' H', fun acc' H' h' => ⟨_, ?_, h', hlt, rfl⟩, ?_⟩
    · omega
    · rintro x H3 ⟨rfl, hx⟩
      exact hs p i x acc H3 hp (hx xs hq) hP
theorem compRange {lo : Int} {n : Nat} {tt : TT} {te : TE} {σ : St} {Q : VK} {H1 : Hp} (Pv : Addr → Nat → List V → Hp → Prop) (h0 : ∀ p, H1 p = none → Pv p 0 [] (upd H1 p (.lst [])))
    (hl : ∀ p i acc H, H1 p = none → Pv p i acc H → H p = some (.lst acc))
    (hs : ∀ p i acc H, H1 p = none → i < n → Pv p i acc H → tt (some (.int (lo + i)) :: σ) H fun b H4 => if b = true then te (some (.int (lo + i)) :: σ) H4 fun v H5 => H5 p = some (.lst acc) ∧ acc.length < sizeLine ∧ Pv p (i + 1) (acc ++ [v]) (upd H5 p (.lst (acc ++ [v]))) else Pv p (i + 1) acc H4)
    (hd : ∀ p acc H, H1 p = none → Pv p n acc H → Q (.ref p) H) : CompJ (Itr lo n) tt te σ Q H1 := by
  intro p hp
  refine ⟨fun i m acc H => Pv p i acc H ∧ i ≤ n ∧ m = n - i, ⟨_, h0 p hp, Nat.zero_le _, rfl⟩, ?_⟩
  rintro i m acc H2 ⟨hP, hi, rfl⟩
  refine ⟨hl p i acc H2 hp hP, ?_⟩
  by_cases e : i = n
  · subst e
    exact .inl ⟨Nat.le_refl _, hd p acc H2 hp hP⟩
  · have hlt : i < n := by omega
    refine .inr ⟨hlt, fun acc' H' => Pv p (i + 1) acc' H', fun acc' H' h' => ⟨_, ?_, h', hlt, rfl⟩, ?_⟩
    · omega
    · rintro x H3 ⟨rfl, rfl⟩
      exact hs p i acc H3 hp hlt hP
theorem atI_5 {α : Type} {x0 x1 x2 x3 x4 x5 : α} {xs : List α} : atI (x0 :: x1 :: x2 :: x3 :: x4 :: x5 :: xs) 5 = some x5 := atI_nat (j := 5) rfl
theorem atI_6 {α : Type} {x0 x1 x2 x3 x4 x5 x6 : α} {xs : List α} : atI (x0 :: x1 :: x2 :: x3 :: x4 :: x5 :: x6 :: xs) 6 = some x6 := atI_nat (j := 6) rfl
theorem atI_7 {α : Type} {x0 x1 x2 x3 x4 x5 x6 x7 : α} {xs : List α} : atI (x0 :: x1 :: x2 :: x3 :: x4 :: x5 :: x6 :: x7 :: xs) 7 = some x7 := atI_nat (j := 7) rfl
/-! ### slices by plain places -/
/-- a new thing at p, all else as it was -/
structure New (H : Hp) (p : Addr) (H' : Hp) : Prop where
  free : H p = none
  same : Same H H'
theorem New.upd {H : Hp} {p : Addr} {o : HO} (h : H p = none) : New H p (L2.upd H p o) := ⟨h, same_upd h⟩
end L2
set_option Elab.async false
set_option linter.all false
set_option maxRecDepth 100000
namespace L2
open PySem PySem.Spec PyProof.Rows
/-! ### reading step by step: what comes behind stands behind a letter -/
theorem Is.use {α β : Type} {R S : α → β → Prop} (h : Is R S) {x : α} {y : β} (k : S x y) : R x y := by cases h; exact k
def Hid {α β : Type} (S : α → β → Prop) (g : (α → β → Prop) → Prop) : Prop := ∀ R, (∀ x y, S x y → R x y) → g R
theorem hidI {α β : Type} {S : α → β → Prop} {g : (α → β → Prop) → Prop} (h : ∀ R, (∀ x y, S x y → R x y) → g R) : Hid S g := h
section
variable {σ : St} {H : Hp} {Q : VK} {D : Ends} {ta tb tc te : TE} {t u : TA} {r : R2} {b : TS} {QB : Bool → Hp → Prop} {c d : TT} {QA : List V → Hp → Prop}
theorem asgH {g : TG} (h : ∀ R, Is R (fun x H1 => g x σ H1 D.nx) → te σ H R) : tAsg te g D σ H := h _ Is.rfl
theorem dropH (h : ∀ R, Is R (fun _ H1 => D.nx σ H1) → te σ H R) : tDrop te D σ H := h _ Is.rfl
theorem retH (h : ∀ R, Is R (fun x H1 => D.rt x H1) → te σ H R) : tRet te D σ H := h _ Is.rfl
theorem ifH {a b : TS} (h : ∀ R, Is R (fun k H1 => if k = true then a D σ H1 else b D σ H1) → c σ H R) : tIfS c a b D σ H := h _ Is.rfl
theorem testH (h : ∀ R, Is R (fun x H1 => ∃ k, x = .bl k ∧ QB k H1) → te σ H R) : tTest te σ H QB := h _ Is.rfl
theorem tBH (h : ∀ R, Is R (fun x H1 => ∃ k, x = .bl k ∧ QB k H1) → te σ H R) : tB te σ H QB := h _ Is.rfl
theorem notH (h : ∀ R, Is R (fun k H1 => QB (!k) H1) → c σ H R) : tNot c σ H QB := h _ Is.rfl
theorem andH (h : ∀ R, Is R (fun k H1 => if k = true then d σ H1 QB else QB false H1) → c σ H R) : tAnd c d σ H QB := h _ Is.rfl
theorem orH (h : ∀ R, Is R (fun k H1 => if k = true then QB true H1 else d σ H1 QB) → c σ H R) : tOr c d σ H QB := h _ Is.rfl
theorem use2 {α β : Type} {R S : α → β → Prop} (h : ∀ x y, S x y → R x y) {x : α} {y : β} (k : S x y) : R x y := h x y k
theorem andVH (h : ∀ R, Is R (fun x H1 => ∃ c, x = .bl c ∧ if c = true then tb σ H1 Q else Q (.bl false) H1) → ta σ H R) : tAndV ta tb σ H Q := h _ Is.rfl
theorem notVH (h : ∀ R, Is R (fun x H1 => ∃ c, x = .bl c ∧ Q (.bl (!c)) H1) → ta σ H R) : tNotV ta σ H Q := h _ Is.rfl
theorem opH (h : ∀ R, (∀ x H1, Hid (fun y H2 => r x y H2 Q) (fun R2 => tb σ H1 R2) → R x H1) → ta σ H R) : tOp r ta tb σ H Q := h (fun x H1 => tb σ H1 fun y H2 => r x y H2 Q) fun _ _ z => z _ fun _ _ z2 => z2
theorem unH {q : V → Hp → VK → Prop} (h : ∀ R, Is R (fun x H1 => q x H1 Q) → ta σ H R) : tUn q ta σ H Q := h _ Is.rfl
theorem slH {q : V → Option Int → Option Int → Hp → VK → Prop} {tl th : TO} (h : ∀ R, Is R (fun x H1 => tl σ H1 fun l H2 => th σ H2 fun u H3 => q x l u H3 Q) → te σ H R) : tSl q te tl th σ H Q := h _ Is.rfl
theorem partH {QO : Option Int → Hp → Prop} (h : ∀ R, Is R (fun x H1 => ∃ i, x = .int i ∧ QO (some i) H1) → te σ H R) : tPart te σ H QO := h _ Is.rfl
theorem consH (h : ∀ R, Is R (fun x H1 => t σ H1 fun xs H2 => QA (x :: xs) H2) → te σ H R) : tCons te t σ H QA := h _ Is.rfl
theorem tupH (h : ∀ R, Is R (fun xs H1 => xs.length ≤ sizeLine ∧ ∀ p, H1 p = none → Q (.ref p) (upd H1 p (.tup xs))) → t σ H R) : tTup t σ H Q := h _ Is.rfl
theorem lstH (h : ∀ R, Is R (fun xs H1 => xs.length ≤ sizeLine ∧ ∀ p, H1 p = none → Q (.ref p) (upd H1 p (.lst xs))) → t σ H R) : tLst t σ H Q := h _ Is.rfl
theorem callH {sp : Sp} {dvs : List V} {E : XK} (h : ∀ R, Is R (fun vs H1 => sp (vs ++ dvs) H1 Q E) → t σ H R) : tCall sp dvs E t σ H Q := h _ Is.rfl
theorem cbH {q : List V → Hp → VK → Prop} (h : ∀ R, Is R (fun vs H1 => q vs H1 Q) → t σ H R) : tCB q t σ H Q := h _ Is.rfl
theorem methH {C : Addr} {m : Str} {sp : Sp} {dvs : List V} {E : XK} (h : ∀ R, Is R (fun x H1 => ∃ a dx fs, x = .ref a ∧ H1 a = some (.ins C dx fs) ∧ fs.lookup m = none ∧ t σ H1 fun vs H2 => sp (x :: (vs ++ dvs)) H2 Q E) → ta σ H R) : tMeth C m sp dvs E ta t σ H Q := h _ Is.rfl
theorem makeH {C : Addr} {sp : Sp} {dvs : List V} {E : XK} (h : ∀ R, Is R (fun vs H1 => ∀ x dx, H1 x = none → H1 dx = none → dx ≠ x → sp (.ref x :: (vs ++ dvs)) (upd (upd H1 dx (.own x)) x (.ins C dx [])) (fun v H2 => v = .non ∧ Q (.ref x) H2) E) → t σ H R) : tMake C sp dvs E t σ H Q := h _ Is.rfl
theorem fldH {C : Addr} {f : Str} (h : ∀ R, Is R (fun x H1 => ∃ a dx fs v, x = .ref a ∧ H1 a = some (.ins C dx fs) ∧ fs.lookup f = some v ∧ Q v H1) → ta σ H R) : tFldC C ta f σ H Q := h _ Is.rfl
theorem sfldH {C : Addr} {f : Str} (h : ∀ R, Is R (fun y H1 => ta σ H1 fun x H2 => ∃ a dx fs, x = .ref a ∧ H2 a = some (.ins C dx fs) ∧ fs.length < 1000 ∧ D.nx σ (upd H2 a (.ins C dx (putF f y fs)))) → te σ H R) : sFldC C ta te f D σ H := h _ Is.rfl
theorem bmH {K : PySem.W.Frag} {T : String} {q : V → List V → Hp → VK → Prop} (h : ∀ R, Is R (fun x H1 => tyV K T x H1 ∧ t σ H1 fun xs H2 => q x xs H2 Q) → ta σ H R) : tBM K T q ta t σ H Q := h _ Is.rfl
theorem dputH (h : ∀ R, (∀ v H1, Hid (fun x H2 => Hid (fun y H3 => ∃ a H4, x = .ref a ∧ DPut H3 a y v H4 ∧ D.nx σ H4) (fun R3 => tb σ H2 R3)) (fun R2 => ta σ H1 R2) → R v H1) → te σ H R) : sDPut ta tb te D σ H := h (fun v H1 => ta σ H1 fun x H2 => tb σ H2 fun y H3 => ∃ a H4, x = .ref a ∧ DPut H3 a y v H4 ∧ D.nx σ H4) fun v H1 z => z _ fun x H2 z2 => z2 _ fun _ _ z3 => z3
theorem gsubH {to ti : TE} {tt : TSet} {v : V} {QS : St → Hp → Prop} (h : ∀ R, (∀ o H1, Hid (fun i H2 => tt o i v H2 fun H3 => QS σ H3) (fun R2 => ti σ H1 R2) → R o H1) → to σ H R) : gSub to ti tt v σ H QS := h (fun o H1 => ti σ H1 fun i H2 => tt o i v H2 fun H3 => QS σ H3) fun _ _ z => z _ fun _ _ z2 => z2
theorem dgetH (h : ∀ R, Is R (fun x H1 => tb σ H1 fun y H2 => ∃ a v, x = .ref a ∧ DGet H2 a y (some v) ∧ Q v H2) → ta σ H R) : tDGet ta tb σ H Q := h _ Is.rfl
theorem dinH (h : ∀ R, Is R (fun y H1 => tb σ H1 fun x H2 => ∃ a o, x = .ref a ∧ DGet H2 a y o ∧ Q (.bl o.isSome) H2) → ta σ H R) : tDIn ta tb σ H Q := h _ Is.rfl
theorem dninH (h : ∀ R, Is R (fun y H1 => tb σ H1 fun x H2 => ∃ a o, x = .ref a ∧ DGet H2 a y o ∧ Q (.bl (!o.isSome)) H2) → ta σ H R) : tDNotIn ta tb σ H Q := h _ Is.rfl
theorem varH {i : Nat} {v : V} (e : σ[i]? = some (some v)) (h : Q v H) : tVar i σ H Q := ⟨v, e, h⟩
theorem conH {v : V} (h : Q v H) : tC v σ H Q := h
theorem nilH (h : QA [] H) : tNil σ H QA := h
theorem noPartH {QO : Option Int → Hp → Prop} (h : QO none H) : tNoPart σ H QO := h
theorem nextH (h : D.nx σ H) : tNext D σ H := h
theorem nameH {i : Nat} {v : V} {QS : St → Hp → Prop} (h : QS (σ.set i (some v)) H) : gName i v σ H QS := h
theorem i0H {g : Int → Int → V} {i j : Int} (h : Q (g i j) H) : rI0 g (.int i) (.int j) H Q := ⟨i, j, rfl, rfl, h⟩
theorem iH {C : Int → Int → Prop} {g : Int → Int → V} {i j : Int} (c : C i j) (h : Q (g i j) H) : rI C g (.int i) (.int j) H Q := ⟨i, j, rfl, rfl, c, h⟩
theorem uH {g : Int → V} {i : Int} (h : Q (g i) H) : rU g (.int i) H Q := ⟨i, rfl, h⟩
theorem blH {b : Bool} {S : Bool → Prop} (h : S b) : ∃ k, V.bl b = .bl k ∧ S k := ⟨b, rfl, h⟩
theorem intH {n : Int} {S : Int → Prop} (h : S n) : ∃ k, V.int n = .int k ∧ S k := ⟨n, rfl, h⟩
end
/-! ### the ledger: what is known of the heap, each cell once (tuples and what never changes as often as wanted) -/
def lasts : HO → Bool
  | .tup _ => true
  | .frz _ _ => true
  | _ => false
abbrev Cells := List (Addr × HO)
structure Led (H : Hp) (L : Cells) : Prop where
  at_ : ∀ p ∈ L, H p.1 = some p.2
  nd : ((L.filter fun p => !lasts p.2).map (·.1)).Nodup
theorem Led.get {H : Hp} {L : Cells} (h : Led H L) {a : Addr} {o : HO} (m : (a, o) ∈ L) : H a = some o := h.at_ _ m
theorem Led.nil {H : Hp} : Led H [] := ⟨fun _ h => (nomatch h), List.nodup_nil⟩
theorem Led.new {H : Hp} {L : Cells} (h : Led H L) {p : Addr} {o : HO} (hp : H p = none) : Led (upd H p o) ((p, o) :: L) := by
  have ne : ∀ q ∈ L, q.1 ≠ p := fun q hq e => by have := h.at_ q hq; rw [e, hp] at this; cases this
  refine ⟨fun q hq => ?_, ?_⟩
  · rcases List.mem_cons.mp hq with rfl | hq
    · exact upd_same
    · rw [upd_ne (ne q hq)]; exact h.at_ q hq
  · rw [List.filter_cons]
    split
    · rw [List.map_cons]
      refine List.nodup_cons.mpr ⟨fun m => ?_, h.nd⟩
      obtain ⟨q, hq, e⟩ := List.mem_map.mp m
      exact ne q (List.mem_filter.mp hq).1 e
    · exact h.nd
theorem Led.perm {H : Hp} {L L' : Cells} (h : Led H L) (e : L.Perm L') : Led H L' := by
  refine ⟨fun p hp => h.at_ p (e.mem_iff.mpr hp), ?_⟩
  exact ((e.filter _).map _).nodup_iff.mp h.nd
/-- the cell at a is written -/
theorem Led.put {H : Hp} {L : Cells} {a : Addr} {o o' : HO} (h : Led H ((a, o) :: L)) (hl : lasts o = false) (hl' : lasts o' = false) : Led (upd H a o') ((a, o') :: L) := by
  have ha := h.at_ _ List.mem_cons_self
  have nd := h.nd
  rw [List.filter_cons, if_pos (by simp [hl]), List.map_cons] at nd
  obtain ⟨n1, n2⟩ := List.nodup_cons.mp nd
  have ne : ∀ q ∈ L, q.1 ≠ a := fun q hq e => by
    have hq' := h.at_ q (List.mem_cons_of_mem _ hq)
    rw [e, ha] at hq'
    have e2 : o = q.2 := Option.some.inj hq'
    refine n1 (List.mem_map.mpr ⟨q, List.mem_filter.mpr ⟨hq, by rw [← e2, hl]; rfl⟩, e⟩)
  refine ⟨fun q hq => ?_, ?_⟩
  · rcases List.mem_cons.mp hq with rfl | hq
    · exact upd_same
    · rw [upd_ne (ne q hq)]; exact h.at_ q (List.mem_cons_of_mem _ hq)
  · rw [List.filter_cons, if_pos (by simp [hl']), List.map_cons]
    exact List.nodup_cons.mpr ⟨n1, n2⟩
theorem Led.sub {H : Hp} {L L' : Cells} (h : Led H L) (s : L'.Sublist L) : Led H L' := ⟨fun p hp => h.at_ p (s.subset hp), List.Nodup.sublist ((s.filter _).map _) h.nd⟩
theorem Led.tail {H : Hp} {L : Cells} {p : Addr × HO} (h : Led H (p :: L)) : Led H L := h.sub (List.sublist_cons_self p L)
/-- what lasts may be told once more -/
theorem Led.again {H : Hp} {L : Cells} {a : Addr} {o : HO} (h : Led H L) (ha : H a = some o) (hl : lasts o = true) : Led H ((a, o) :: L) := by
  refine ⟨fun q hq => ?_, ?_⟩
  · rcases List.mem_cons.mp hq with rfl | hq
    · exact ha
    · exact h.at_ q hq
  · rw [List.filter_cons, if_neg (by simp [hl])]; exact h.nd
theorem Led.swap {H : Hp} {L : Cells} {p q : Addr × HO} (h : Led H (p :: q :: L)) : Led H (q :: p :: L) := h.perm (List.Perm.swap q p L)
/-- the i-th cell to the front -/
theorem Led.pull {H : Hp} {L M : Cells} {p : Addr × HO} (h : Led H (L ++ p :: M)) : Led H (p :: (L ++ M)) := h.perm List.perm_middle
/-- a new thing, the heap behind a letter -/
theorem Led.alloc {H : Hp} {L : Cells} {o : HO} {Q : VK} (h : Led H L) (k : ∀ p H', H p = none → Led H' ((p, o) :: L) → Same H H' → Q (.ref p) H') : ∀ p, H p = none → Q (.ref p) (upd H p o) := fun p hp => k p _ hp (h.new hp) (same_upd hp)
theorem Led.same {H H' : Hp} {L : Cells} (h : Led H L) (s : Same H H') : Led H' L := ⟨fun p hp => s _ _ (h.at_ p hp), h.nd⟩
theorem FnD.imp {P : Program} {w : World} {K : PySem.W.Frag} {mg : Str → Option Value} {base : Heap} {k : Nat} {x : Str} {ps : List Str} {sp sp' : Sp} (F : FnD P w K mg base k x ps sp) (h : ∀ vs H Q E, sp' vs H Q E → sp vs H Q E) : FnD P w K mg base k x ps sp' := by
  obtain ⟨f, fd, h1, h2, h3, h4⟩ := F.ex
  exact ⟨f, fd, h1, h2, h3, h4.imp h⟩
/-- the script, known through it all -/
def Scr (K : PySem.W.Frag) (L : Cells) (a : Addr) (xs : List V) : Prop := (∃ o, (a, HO.frz o (.lst xs)) ∈ L) ∨ ∀ H, SqL K H a xs
theorem Scr.seq {K : PySem.W.Frag} {L : Cells} {a : Addr} {xs : List V} {H : Hp} (s : Scr K L a xs) (h : Led H L) : SqL K H a xs := by
  rcases s with ⟨o, m⟩ | s
  · exact .inl (.inr ⟨o, h.get m⟩)
  · exact s H
theorem Scr.mono {K : PySem.W.Frag} {L L' : Cells} {a : Addr} {xs : List V} (s : Scr K L a xs) (h : ∀ p ∈ L, p ∈ L') : Scr K L' a xs := by
  rcases s with ⟨o, m⟩ | s
  · exact .inl ⟨o, h _ m⟩
  · exact .inr s
/-- at the law's entry -/
theorem scr_start {K : PySem.W.Frag} {H : Hp} {a : Addr} {xs : List V} (hS : SqL K H a xs) (hO : Only H) : ∃ L, Led H L ∧ Scr K L a xs := by
  rcases hS with (h | ⟨o, h⟩) | h
  · rcases hO a with z | ⟨o, ys, z⟩
    · rw [h] at z; cases z
    · rw [h] at z; cases z
  · exact ⟨[(a, .frz o (.lst xs))], Led.nil.again h rfl, .inl ⟨o, List.mem_cons_self⟩⟩
  · exact ⟨[], Led.nil, .inr fun H' => .inr h⟩
section
variable {H : Hp} {Q : VK} {x y v : V} {a : Addr} {xs : List V} {i : Int}
theorem eqIH {m n : Int} (h : Q (.bl (decide (m = n))) H) : rEq (.int m) (.int n) H Q := ⟨rfl, by rw [show decide (V.int m = V.int n) = decide (m = n) by simp]; exact h⟩
theorem neIH {m n : Int} (h : Q (.bl (!decide (m = n))) H) : rNe (.int m) (.int n) H Q := ⟨rfl, by rw [show decide (V.int m = V.int n) = decide (m = n) by simp]; exact h⟩
theorem eqSH {m n : Str} (h : Q (.bl (decide (m = n))) H) : rEq (.str m) (.str n) H Q := ⟨rfl, by rw [show decide (V.str m = V.str n) = decide (m = n) by simp]; exact h⟩
theorem neSH {m n : Str} (h : Q (.bl (!decide (m = n))) H) : rNe (.str m) (.str n) H Q := ⟨rfl, by rw [show decide (V.str m = V.str n) = decide (m = n) by simp]; exact h⟩
theorem eqBH {m n : Bool} (h : Q (.bl (decide (m = n))) H) : rEq (.bl m) (.bl n) H Q := ⟨rfl, by rw [show decide (V.bl m = V.bl n) = decide (m = n) by simp]; exact h⟩
theorem isiH {n t : String} {b : Bool} (h1 : tyN H x = some t) (h2 : isiT t n = some b) (h : Q (.bl b) H) : rIsiN [x, .ty n] H Q := ⟨x, n, t, b, rfl, h1, h2, h⟩
theorem ixLH (h1 : H a = some (.lst xs)) (h2 : atI xs i = some v) (h : Q v H) : rIxA (.ref a) (.int i) H Q := ⟨a, i, rfl, rfl, .inl ⟨xs, h1, v, h2, h⟩⟩
theorem ixTH (h1 : H a = some (.tup xs)) (h2 : atI xs i = some v) (h : Q v H) : rIxA (.ref a) (.int i) H Q := ⟨a, i, rfl, rfl, .inr ⟨xs, h1, v, h2, h⟩⟩
theorem lenLH (h1 : H a = some (.lst xs)) (h : Q (.int xs.length) H) : rLenA [.ref a] H Q := ⟨a, rfl, .inl ⟨xs, h1, h⟩⟩
theorem lenTH (h1 : H a = some (.tup xs)) (h : Q (.int xs.length) H) : rLenA [.ref a] H Q := ⟨a, rfl, .inr (.inl ⟨xs, h1, h⟩)⟩
theorem tyL (h : H a = some (.lst xs)) : tyN H (.ref a) = some "list" := by unfold tyN; simp only [h]
theorem tyT (h : H a = some (.tup xs)) : tyN H (.ref a) = some "tuple" := by unfold tyN; simp only [h]
theorem catH {b : Addr} {zs : List V} (h1 : H a = some (.lst xs)) (h2 : H b = some (.lst zs)) (hl : xs.length + zs.length ≤ sizeLine) (h : ∀ p, H p = none → Q (.ref p) (upd H p (.lst (xs ++ zs)))) : rCat (.ref a) (.ref b) H Q := ⟨a, b, xs, zs, rfl, rfl, h1, h2, hl, h⟩
theorem slLH {K : PySem.W.Frag} {lo hi : Option Int} (h1 : SqL K H a xs) (h : ∀ p, H p = none → Q (.ref p) (upd H p (.lst (cutV xs lo hi)))) : rSlL K (.ref a) lo hi H Q := ⟨a, xs, rfl, h1, h⟩
theorem appH {l : Addr} (h1 : H l = some (.lst xs)) (hl : xs.length < sizeLine) (h : Q .non (upd H l (.lst (xs ++ [y])))) : rAppend (.ref l) [y] H Q := ⟨l, xs, y, rfl, rfl, h1, hl, h⟩
theorem setLH {QH : Hp → Prop} {p : Addr} {k : Int} {j : Nat} (h1 : H p = some (.lst xs)) (h2 : ixN xs.length k = some j) (h : QH (upd H p (.lst (xs.set j v)))) : rSetL (.ref p) (.int k) v H QH := ⟨p, xs, k, j, rfl, rfl, h1, h2, h⟩
theorem rtH {n b' c' : St → Hp → Prop} {q : VK} (h : q x H) : (Ends.mk n q b' c').rt x H := h
theorem nxH {n b' c' : St → Hp → Prop} {q : VK} {σ : St} (h : n σ H) : (Ends.mk n q b' c').nx σ H := h
theorem iteNT {A B : Prop} (h : B) : if (!true) = true then A else B := by simpa using h
theorem iteNF {A B : Prop} (h : A) : if (!false) = true then A else B := by simpa using h
theorem iteND {c : Prop} [Decidable c] {A B : Prop} (h1 : ¬ c → A) (h2 : c → B) : if (!decide c) = true then A else B := by
  by_cases h : c
  · rw [decide_eq_true h]; exact iteNT (h2 h)
  · rw [decide_eq_false h]; exact iteNF (h1 h)
theorem powH {m : Int} (e : (10 : Int) ^ i.toNat = m) (c : CPow 10 i) (h : Q (.int m) H) : rI CPow (fun i j => .int (i ^ j.toNat)) (.int 10) (.int i) H Q := ⟨10, i, rfl, rfl, c, by dsimp only; rw [e]; exact h⟩
theorem pow60H (h : Q (.int 1000000000000000000000000000000000000000000000000000000000000) H) : rI CPow (fun i j => .int (i ^ j.toNat)) (.int 10) (.int 60) H Q := powH (by decide) (of_eq_true cpow_60) h
theorem pow59H (h : Q (.int 100000000000000000000000000000000000000000000000000000000000) H) : rI CPow (fun i j => .int (i ^ j.toNat)) (.int 10) (.int 59) H Q := powH (by decide) (of_eq_true cpow_59) h
theorem pow20H (h : Q (.int 100000000000000000000) H) : rI CPow (fun i j => .int (i ^ j.toNat)) (.int 10) (.int 20) H Q := powH (by decide) (of_eq_true cpow_20) h
theorem tyI {n : Int} : tyN H (.int n) = some "int" := rfl
theorem tyB {n : Bool} : tyN H (.bl n) = some "bool" := rfl
theorem tyS {n : Str} : tyN H (.str n) = some "str" := rfl
theorem tyO : tyN H .non = some "NoneType" := rfl
theorem tyVL {K : PySem.W.Frag} (h : H a = some (.lst xs)) : tyV K "list" (.ref a) H := .inl ⟨rfl, xs, SqL.of h⟩
end
def Keep (p : Prop) : Prop := p ∧ True
theorem seqK {t u : TS} {D : Ends} {σ : St} {H : Hp} (h : ∀ M, Keep (Is M (u D)) → t { D with nx := M } σ H) : tSeq t u D σ H := h _ ⟨Is.rfl, trivial⟩
theorem Keep.use {M N : St → Hp → Prop} (h : Keep (Is M N)) {σ : St} {H : Hp} (k : N σ H) : M σ H := by cases h.1; exact k
theorem listH {K : PySem.W.Frag} {H : Hp} {Q : VK} {a : Addr} {ys : List V} (h1 : SqL K H a ys) (h : ∀ l, H l = none → Q (.ref l) (upd H l (.lst ys))) : ∃ p ys, [V.ref a] = [.ref p] ∧ (SqL K H p ys ∨ SqT K H p ys) ∧ ∀ l, H l = none → Q (.ref l) (upd H l (.lst ys)) := ⟨a, ys, rfl, .inl h1, h⟩
theorem ixN_of {n : Nat} {i : Int} (h0 : 0 ≤ i) (h1 : i < n) : ixN n i = some i.toNat := by unfold ixN; rw [if_pos h0, if_pos h1]
theorem atI_of {xs : List V} {i : Int} {v : V} (h0 : 0 ≤ i) (h : xs[i.toNat]? = some v) : atI xs i = some v := by
  have hj : i.toNat < xs.length := (List.getElem?_eq_some_iff.mp h).1
  unfold atI
  rw [ixN_of h0 (by omega)]
  exact h
/-- a comprehension over a range, each of whose elements leaves the ledger as it is and has what f says of it -/
theorem compRangeL {lo : Int} {n : Nat} {te : TE} {σ : St} {Q : VK} {H1 : Hp} {L : Cells} (F : Nat → V → Prop) (hL : Led H1 L) (hn : n ≤ sizeLine)
    (hs : ∀ (i : Nat) (H : Hp) (R : VK) (q : Addr × HO), i < n → Led H (q :: L) → (∀ v H', F i v → Led H' (q :: L) → R v H') → te (some (.int (lo + i)) :: σ) H R)
    (hd : ∀ p acc H', acc.length = n → (∀ i v, acc[i]? = some v → F i v) → Led H' ((p, .lst acc) :: L) → Q (.ref p) H') : CompJ (Itr lo n) tYes te σ Q H1 := by
  refine compRange (fun p i acc H => i ≤ n ∧ acc.length = i ∧ (∀ j v, acc[j]? = some v → F j v) ∧ Led H ((p, .lst acc) :: L)) (fun p hp => ⟨Nat.zero_le _, rfl, fun j v h => by simp at h, hL.new hp⟩) (fun p i acc H hp h => h.2.2.2.get List.mem_cons_self) ?_ ?_
  · rintro p i acc H hp hi ⟨_, rfl, hF, hl⟩
    unfold tYes
    dsimp only
    rw [if_pos rfl]
    refine hs _ _ _ (p, .lst acc) hi hl fun v H' fv hl' => ⟨hl'.get List.mem_cons_self, by omega, hi, by simp, fun j u hj => ?_, hl'.put rfl rfl⟩
    rw [List.getElem?_append] at hj
    split at hj
    · exact hF j u hj
    · rename_i hge
      have : j - acc.length = 0 := by
        rcases Nat.lt_or_ge (j - acc.length) 1 with h | h
        · omega
        · rw [List.getElem?_eq_none (by simpa using h)] at hj; cases hj
      rw [this] at hj
      have e : j = acc.length := by omega
      subst e
      cases hj
      exact fv
  · rintro p acc H hp ⟨_, e, hF, hl⟩
    exact hd p acc H e hF hl
end L2
set_option Elab.async false
set_option linter.all false
set_option maxRecDepth 100000
namespace L2
open PySem PySem.Spec PyProof.Rows PySem.W
/-! ### sorted: of a list of ints, of a dict with ints for keys -/
section
variable {X : Cx}
theorem sz64 {n : Nat} (h : n < 64) : n ≤ sizeLine := Nat.le_trans (Nat.le_of_lt h) (by decide)
/-! ### all, any of a list of truths -/
end
end L2
set_option Elab.async false
set_option linter.all false
set_option maxRecDepth 100000
namespace L2
open PySem PySem.Spec PyProof.Rows
/-! ### enumerate of a list, unpacked -/
section
variable {X : Cx} {pins : List (Addr × Obj)} {σ : St} {H : Hp} {s : Shared} {h' : Heap}
end
section
variable {X : Cx}
end
end L2
set_option Elab.async false
set_option linter.all false
set_option maxRecDepth 100000
namespace L2
open PySem PySem.Spec PyProof.Rows
/-! ### fields and dicts, step by step -/
section
variable {H : Hp} {Q : VK} {a : Addr} {σ : St} {D : Ends}
theorem fldR {C dx : Addr} {fs : List (Str × V)} {f : Str} {v : V} {S : V → Prop} (h1 : H a = some (.ins C dx fs)) (h2 : fs.lookup f = some v) (h : S v) : ∃ b dx fs v, V.ref a = .ref b ∧ H b = some (.ins C dx fs) ∧ fs.lookup f = some v ∧ S v := ⟨a, dx, fs, v, rfl, h1, h2, h⟩
theorem methR {C dx : Addr} {fs : List (Str × V)} {m : Str} {S : Prop} (h1 : H a = some (.ins C dx fs)) (h2 : fs.lookup m = none) (h : S) : ∃ b dx fs, V.ref a = .ref b ∧ H b = some (.ins C dx fs) ∧ fs.lookup m = none ∧ S := ⟨a, dx, fs, rfl, h1, h2, h⟩
theorem sfldR {C dx : Addr} {fs : List (Str × V)} {f : Str} {y : V} (h1 : H a = some (.ins C dx fs)) (h2 : fs.length < 1000) (h : D.nx σ (upd H a (.ins C dx (putF f y fs)))) : ∃ b dx fs, V.ref a = .ref b ∧ H b = some (.ins C dx fs) ∧ fs.length < 1000 ∧ D.nx σ (upd H b (.ins C dx (putF f y fs))) := ⟨a, dx, fs, rfl, h1, h2, h⟩
theorem newDH {L : Cells} (hL : Led H L) (h : ∀ p H', H p = none → Led H' ((p, .dK []) :: L) → Same H H' → Q (.ref p) H') : tDNewK σ H Q := fun p hp => h p _ hp (hL.new hp) (same_upd hp)
theorem isH {x : V} (h : Q (.bl (decide (x = .non))) H) : V.non = .non ∧ Q (.bl (decide (x = .non))) H := ⟨rfl, h⟩
theorem isnH {x : V} (h : Q (.bl (!decide (x = .non))) H) : V.non = .non ∧ Q (.bl (!decide (x = .non))) H := ⟨rfl, h⟩
theorem dpop1H {td ty : TE} (h : ∀ R, (∀ x H1, Hid (fun y H2 => ∃ a kvs k v, x = .ref a ∧ H2 a = some (.dK kvs) ∧ y = kV k ∧ valV kvs k = some v ∧ Q v (upd H2 a (.dK (dropK kvs k)))) (fun R2 => (∃ a, x = .ref a ∧ IsD H1 a) ∧ ty σ H1 R2) → R x H1) → td σ H R) : tDPop1 td ty σ H Q := by
  unfold tDPop1
  refine h (fun x H1 => ∃ a, x = .ref a ∧ IsD H1 a ∧ ty σ H1 fun y H2 => ∃ kvs k v, H2 a = some (.dK kvs) ∧ y = kV k ∧ valV kvs k = some v ∧ Q v (upd H2 a (.dK (dropK kvs k)))) fun x H1 z => ?_
  obtain ⟨a, e, hd⟩ := (z (fun _ _ => True) fun _ _ _ => True.intro).1
  subst e
  refine ⟨a, rfl, hd, (z _ fun y H2 q => ?_).2⟩
  obtain ⟨b, kvs, k, v, e, q⟩ := q
  cases e
  exact ⟨kvs, k, v, q⟩
theorem isD_of {kvs : List (Key × V)} (h : H a = some (.dK kvs)) : ∃ b, V.ref a = .ref b ∧ IsD H b := ⟨a, rfl, .inl ⟨kvs, .inl h⟩⟩
end
end L2
set_option Elab.async false
set_option linter.all false
set_option maxRecDepth 100000
namespace L2
open PySem PySem.Spec PyProof.Rows
/-- a comprehension over a list, each of whose elements lays cells of its own -/
theorem compListL {K : PySem.W.Frag} {a : Addr} {te : TE} {σ : St} {Q : VK} {H1 : Hp} {L : Cells} (xs : List V) (G : Nat → V → Cells → Prop) (hL : Led H1 L) (ha : (a, HO.lst xs) ∈ L) (hn : xs.length ≤ sizeLine)
    (hs : ∀ (i : Nat) (x : V) (H : Hp) (R : VK) (M : Cells), xs[i]? = some x → Led H (M ++ L) → (∀ v H' C, G i v C → Led H' (C ++ (M ++ L)) → R v H') → te (some x :: σ) H R)
    (hd : ∀ (p : Addr) (vs : List V) (Cs : List Cells) (H' : Hp), vs.length = xs.length → Cs.length = xs.length → (∀ (i : Nat) v C, vs[i]? = some v → Cs[i]? = some C → G i v C) → Led H' ((p, .lst vs) :: (Cs.flatten ++ L)) → Q (.ref p) H') : CompJ (Itl K a) tYes te σ Q H1 := by
  refine compList xs (fun p i acc H => i ≤ xs.length ∧ acc.length = i ∧ ∃ Cs : List Cells, Cs.length = i ∧ (∀ (j : Nat) v C, acc[j]? = some v → Cs[j]? = some C → G j v C) ∧ Led H ((p, .lst acc) :: (Cs.flatten ++ L))) (fun p hp => ⟨Nat.zero_le _, rfl, [], rfl, fun j v C h => by simp at h, hL.new hp⟩) (fun p i acc H hp h => ?_) ?_ ?_
  · obtain ⟨_, _, Cs, _, _, hl⟩ := h
    exact ⟨hl.get List.mem_cons_self, SqL.of (hl.get (List.mem_cons_of_mem _ (List.mem_append_right _ ha)))⟩
  · rintro p i x acc H hp hx ⟨_, rfl, Cs, hc, hG, hl⟩
    have hi : acc.length < xs.length := (List.getElem?_eq_some_iff.mp hx).1
    unfold tYes
    dsimp only
    rw [if_pos rfl]
    refine hs _ x H _ ((p, .lst acc) :: Cs.flatten) hx hl fun v H' C g hl' => ?_
    have h1 : Led H' ((p, .lst acc) :: (C ++ (Cs.flatten ++ L))) := Led.pull hl'
    refine ⟨h1.get List.mem_cons_self, by omega, hi, by simp, Cs ++ [C], by simp [hc], fun j u D hu hD => ?_, ?_⟩
    · rw [List.getElem?_append] at hu hD
      rw [hc] at hD
      by_cases hj : j < acc.length
      · rw [if_pos hj] at hu hD
        exact hG j u D hu hD
      · rw [if_neg hj] at hu hD
        have h0 : j - acc.length = 0 := by
          rcases Nat.lt_or_ge (j - acc.length) 1 with h | h
          · omega
          · rw [List.getElem?_eq_none (by simpa using h)] at hu; cases hu
        rw [h0] at hu hD
        have e : j = acc.length := by omega
        subst e
        cases hu
        cases hD
        exact g
    · refine (h1.put (o' := .lst (acc ++ [v])) rfl rfl).perm (List.Perm.cons _ ?_)
      rw [List.flatten_append, List.flatten_cons, List.flatten_nil, List.append_nil, List.append_assoc, ← List.append_assoc, ← List.append_assoc]
      exact List.Perm.append_right _ List.perm_append_comm
  · rintro p acc H hp ⟨_, e, Cs, hc, hG, hl⟩
    exact hd p acc Cs H e hc hG hl
end L2
set_option Elab.async false
set_option linter.all false
set_option maxRecDepth 100000
namespace L2
open PySem PySem.Spec PyProof.Rows
/-! ### get and pop with a default -/
section
variable {H : Hp} {Q : VK} {a : Addr} {σ : St} {D : Ends}
end
/-! ### ledgers turned about and thinned -/
section
variable {α : Type} {A B B' X Y : List α} {a b : α}
theorem pcC (h : (a :: B').Perm B) : (a :: b :: B').Perm (b :: B) := (List.Perm.swap _ _ _).trans (h.cons b)
theorem pcA (h : (a :: B').Perm B) : (a :: (Y ++ B')).Perm (Y ++ B) := (List.perm_middle.symm).trans (List.Perm.append_left Y h)
theorem paC (h : (X ++ B').Perm B) : (X ++ (b :: B')).Perm (b :: B) := List.perm_middle.trans (h.cons b)
theorem paA (h : (X ++ B').Perm B) : (X ++ (Y ++ B')).Perm (Y ++ B) := by
  refine List.Perm.trans ?_ (List.Perm.append_left Y h)
  rw [← List.append_assoc, ← List.append_assoc]
  exact List.Perm.append_right _ List.perm_append_comm
def SubP (B A : List α) : Prop := ∃ A', B.Perm A' ∧ A'.Sublist A
theorem spR : SubP A A := ⟨A, .refl _, .refl _⟩
theorem spC (h1 : (a :: A).Perm B) (h2 : SubP Y A) : SubP (a :: Y) B := by
  obtain ⟨A', p, s⟩ := h2
  obtain ⟨C, p2, s2⟩ := List.exists_perm_sublist (s.cons₂ a) h1
  exact ⟨C, (p.cons a).trans p2.symm, s2⟩
theorem spA (h1 : (X ++ A).Perm B) (h2 : SubP Y A) : SubP (X ++ Y) B := by
  obtain ⟨A', p, s⟩ := h2
  obtain ⟨C, p2, s2⟩ := List.exists_perm_sublist (List.Sublist.append_left s X) h1
  exact ⟨C, (List.Perm.append_left X p).trans p2.symm, s2⟩
theorem spD (h : SubP B A) : SubP B (a :: A) := by
  obtain ⟨A', p, s⟩ := h
  exact ⟨A', p, s.cons a⟩
theorem spDA (h : SubP B A) : SubP B (X ++ A) := by
  obtain ⟨A', p, s⟩ := h
  exact ⟨A', p, s.trans (List.sublist_append_right X A)⟩
end
theorem Led.wk {H : Hp} {L L' : Cells} (h : Led H L) (s : SubP L' L) : Led H L' := by
  obtain ⟨A', p, q⟩ := s
  exact (h.sub q).perm p.symm
theorem Led.make {H : Hp} {L : Cells} {C x dx : Addr} (hL : Led H L) (h1 : H x = none) (h2 : H dx = none) (hn : dx ≠ x) : Led (upd (upd H dx (.own x)) x (.ins C dx [])) ((x, .ins C dx []) :: L) := by
  have := (hL.new (o := .own x) h2).new (p := x) (o := .ins C dx []) (by rw [upd_ne (Ne.symm hn)]; exact h1)
  exact this.sub (.cons₂ _ (.cons _ (.refl _)))
end L2
set_option Elab.async false
set_option linter.all false
set_option maxRecDepth 100000
namespace L2
open PySem PySem.Spec PyProof.Rows PySem.W
/-! ### equality of plain data, at any depth -/
theorem shaped_kqd {d : Dat} (h : kqdOk 8 d = true) : shaped (kqdP d) = true := by
  have l := kqd_lay 8 d h
  show ((kqdP d).canLay0 && decide ((kqdP d).depth ≤ 64)) = true
  rw [l.1, Bool.true_and]
  exact decide_eq_true (Nat.le_trans l.2 (by decide))
theorem eqv_kqd {d e : Dat} {b : Bool} (h1 : kqdOk 8 d = true) (h2 : kqdOk 8 e = true) (hb : b = true ↔ d = e) : PyData.eqv (kqdP d) (kqdP e) = b := by
  have q := kqd_eqv 8 d e 8 h1 h2
  cases b with
  | true => exact q.mpr (hb.mp rfl)
  | false => exact Bool.eq_false_iff.mpr fun x => absurd (hb.mpr (q.mp x)) Bool.false_ne_true
theorem neDH {H : Hp} {Q : VK} {x y : V} {d e : Dat} {b : Bool} (hx : DatV H x (kqdP d)) (hy : DatV H y (kqdP e)) (h1 : kqdOk 8 d = true) (h2 : kqdOk 8 e = true) (hb : b = true ↔ d = e) (h : Q (.bl (!b)) H) : rNeD x y H Q := ⟨_, _, hx, hy, shaped_kqd h1, shaped_kqd h2, by rw [eqv_kqd h1 h2 hb]; exact h⟩
/-! ### a comprehension that leaves out -/
theorem slTH {H : Hp} {Q : VK} {K : PySem.W.Frag} {a : Addr} {xs : List V} {lo hi : Option Int} (h1 : H a = some (.tup xs)) (h2 : ¬ (HT.sIx xs.length 0 lo = 0 ∧ HT.sIx xs.length xs.length hi = xs.length)) (h : ∀ p, H p = none → Q (.ref p) (upd H p (.tup (cutV xs lo hi)))) : rSlT K (.ref a) lo hi H Q := ⟨a, xs, rfl, SqT.of h1, h2, h⟩
end L2
set_option Elab.async false
set_option linter.all false
set_option maxRecDepth 100000
namespace L2
open PySem PySem.Spec PyProof.Rows
/-! ### plain lists; a law's own dict from ints to values -/
/-! the law's dict -/
theorem valV_drop (k j : Key) : ∀ kvs : List (Key × V), valV (dropK kvs k) j = if j = k then none else valV kvs j
  | [] => by simp [dropK, valV]
  | p :: r => by
    by_cases e : p.1 = k
    · rw [dropK_pos e, valV_drop k j r]
      by_cases hj : j = k
      · rw [if_pos hj, if_pos hj]
      · rw [if_neg hj, if_neg hj, valV_neg (fun z => hj (by rw [← z, e]))]
    · rw [dropK_neg e]
      by_cases hp : p.1 = j
      · rw [valV_pos hp, valV_pos hp, if_neg (fun z => e (by rw [hp, z]))]
      · rw [valV_neg hp, valV_neg hp, valV_drop k j r]
structure WD (kvs : List (Key × V)) (f : Int → V) (n : Nat) : Prop where
  nd : (kvs.map (·.1)).Nodup
  ik : ∀ k ∈ kvs.map (·.1), ∃ m : Int, k = Sum.inl m
  le : kvs.length ≤ n
  vl : ∀ m, valV kvs (.inl m) = if f m = .non then none else some (f m)
theorem WD.keys {kvs : List (Key × V)} (h : ∀ k ∈ kvs.map (·.1), ∃ m : Int, k = Sum.inl m) : ∃ ns : List Int, kvs.map (·.1) = ns.map Sum.inl := by
  induction kvs with
  | nil => exact ⟨[], rfl⟩
  | cons p r ih =>
    obtain ⟨ns, e⟩ := ih fun k hk => h k (List.mem_cons_of_mem _ hk)
    obtain ⟨m, hm⟩ := h p.1 List.mem_cons_self
    exact ⟨m :: ns, by rw [List.map_cons, List.map_cons, e, hm]⟩
theorem WD.ns {kvs : List (Key × V)} {f : Int → V} {n : Nat} (h : WD kvs f n) : ∃ ns : List Int, kvs.map (·.1) = ns.map Sum.inl ∧ ns.length ≤ n ∧ ns.Nodup ∧ ∀ m, m ∈ ns ↔ f m ≠ .non := by
  obtain ⟨ns, e⟩ := WD.keys h.ik
  refine ⟨ns, e, ?_, ?_, fun m => ?_⟩
  · have := congrArg List.length e
    rw [List.length_map, List.length_map] at this
    have := h.le
    omega
  · have := h.nd
    rw [e] at this
    exact (List.pairwise_map.mp this).imp fun {a b} hab z => hab (by rw [z])
  · have h1 : m ∈ ns ↔ (Sum.inl m : Key) ∈ kvs.map (·.1) := by
      rw [e, List.mem_map]
      constructor
      · intro hm; exact ⟨m, hm, rfl⟩
      · rintro ⟨m', hm, z⟩; cases z; exact hm
    rw [h1]
    have hv := h.vl m
    constructor
    · intro hk z
      rw [if_pos z] at hv
      exact valV_not hv hk
    · intro z
      rw [if_neg z] at hv
      exact valV_in hv
theorem WD.start : WD [] (fun _ => .non) 0 := ⟨List.nodup_nil, (fun _ h => nomatch h), Nat.le_refl _, fun m => by rw [if_pos rfl]; rfl⟩
theorem WD.drop {kvs : List (Key × V)} {f : Int → V} {n : Nat} (h : WD kvs f n) (p : Int) : WD (dropK kvs (.inl p)) (fun m => if m = p then .non else f m) n := by
  refine ⟨nd_dropK h.nd, fun k hk => ?_, Nat.le_trans (dropK_le kvs _) h.le, fun m => ?_⟩
  · obtain ⟨q, hq, rfl⟩ := List.mem_map.mp hk
    exact h.ik _ (List.mem_map.mpr ⟨q, dropK_mem hq, rfl⟩)
  · rw [valV_drop, h.vl m]
    by_cases hm : m = p
    · rw [if_pos (by rw [hm]), if_pos hm, if_pos rfl]
    · rw [if_neg (fun z => hm (Sum.inl.inj z)), if_neg hm]
theorem WD.mono {kvs : List (Key × V)} {f : Int → V} {n n' : Nat} (h : WD kvs f n) (hn : n ≤ n') : WD kvs f n' := ⟨h.nd, h.ik, Nat.le_trans h.le hn, h.vl⟩
theorem WD.get {kvs : List (Key × V)} {f : Int → V} {n : Nat} (h : WD kvs f n) (m : Int) : (valV kvs (.inl m)).getD .non = f m := by
  rw [h.vl]
  split
  · rename_i e; rw [e]; rfl
  · rfl
/-! ### parts of a tuple of four -/
theorem sl4b {H : Hp} {Q : VK} {K : PySem.W.Frag} {p : Addr} {a b c d : V} (h1 : H p = some (.tup [a, b, c, d])) (h : ∀ q, H q = none → Q (.ref q) (upd H q (.tup [c, d]))) : rSlT K (.ref p) (some 2) none H Q := slTH h1 (show ¬ (HT.sIx 4 0 (some 2) = 0 ∧ HT.sIx 4 4 none = 4) by decide) h
/-! ### a loop over a tuple -/
end L2
set_option Elab.async false
set_option linter.all false
set_option maxRecDepth 100000
namespace L2
open PySem PySem.Spec PyProof.Rows
/-! ### dict(d): a copy -/
/-! ### a row of blocks: one taken out, one put back -/
end L2
set_option Elab.async false
set_option linter.all false
set_option maxRecDepth 100000
namespace L2
open PySem PySem.Spec PyProof.Rows PySem.W
/-! ### reversed(list) in a loop -/
section
variable {X : Cx}
end
/-! ### in, not in of plain data, at any depth -/
section
variable {X : Cx}
end
/-! ### a comprehension whose items are new tuples of ints -/
theorem at2i {x y i : Int} (h0 : 0 ≤ i) (h1 : i ≤ 1) : atI [V.int x, .int y] i = some (.int (if i = 0 then x else y)) := by
  have h : i = 0 ∨ i = 1 := by omega
  rcases h with rfl | rfl
  · rw [if_pos rfl]; exact atI_0
  · rw [if_neg (by decide)]; exact atI_1
end L2
set_option Elab.async false
set_option linter.all false
set_option maxRecDepth 100000
namespace L2
open PySem PySem.Spec PyProof.Rows PySem.W
/-! ### lists of truths -/
theorem datBls {H : Hp} : ∀ (bs : List Bool), DatVs H (bs.map V.bl) (bs.map PyData.bool)
  | [] => .nil
  | b :: bs => .cons (.bl b) (datBls bs)
theorem canLayAll_bls : ∀ bs : List Bool, PyData.canLayAll0 (bs.map PyData.bool) = true
  | [] => by simp [PyData.canLayAll0]
  | b :: r => by simp [PyData.canLayAll0, PyData.canLay0, canLayAll_bls r]
theorem depthAll_bls : ∀ (bs : List Bool), PyData.depthAll (bs.map PyData.bool) ≤ 1
  | [] => by simp [PyData.depthAll]
  | b :: r => by have := depthAll_bls r; simp only [List.map_cons, PyData.depthAll, PyData.depth]; omega
theorem shaped_bls (bs : List Bool) : shaped (.list (bs.map PyData.bool)) = true := by
  have := depthAll_bls bs
  have e : PyData.depth (.list (bs.map PyData.bool)) ≤ 64 := by simp only [PyData.depth]; omega
  show (PyData.canLay0 (.list (bs.map PyData.bool)) && decide (PyData.depth (.list (bs.map PyData.bool)) ≤ 64)) = true
  rw [decide_eq_true e]
  simp only [PyData.canLay0, canLayAll_bls, Bool.true_and]
theorem eqvAll_bls : ∀ bs cs : List Bool, PyData.eqvAll (bs.map PyData.bool) (cs.map PyData.bool) = decide (bs = cs)
  | [], [] => by simp [PyData.eqvAll]
  | [], _ :: _ => by simp [PyData.eqvAll]
  | _ :: _, [] => by simp [PyData.eqvAll]
  | a :: r, b :: t => by
    simp only [List.map_cons, PyData.eqvAll, PyData.eqv, eqvAll_bls r t]
    cases a <;> cases b <;> by_cases h' : r = t <;> simp [h']
theorem neBlsH {H : Hp} {Q : VK} {a b : Addr} {bs cs : List Bool} (h1 : H a = some (.lst (bs.map V.bl))) (h2 : H b = some (.lst (cs.map V.bl))) (h : Q (.bl (!decide (bs = cs))) H) : rNeD (.ref a) (.ref b) H Q :=
  ⟨_, _, .lst h1 (datBls _), .lst h2 (datBls _), shaped_bls _, shaped_bls _, by simp only [PyData.eqv, eqvAll_bls]; exact h⟩
/-! ### the clear of a list -/
/-! ### while, try, behind letters -/
theorem tryI {K : PySem.W.Frag} {C : Addr} {i : Nat} {tb : XK → TS} {ts : TS} {D : Ends} {σ : St} {H : Hp} (h : ∀ E : XK, Is E (fun cls _ H' => PySem.W.exmOne K cls (.ref C) = some true ∧ ∀ ea, H' ea = none →
    ts { nx := fun σ2 H2 => D.nx (σ2.set i none) H2, rt := D.rt, bk := fun σ2 H2 => D.bk (σ2.set i none) H2, ct := fun σ2 H2 => D.ct (σ2.set i none) H2 } (σ.set i (some (.ref ea))) (upd H' ea (.ext (IsExc ea cls)))) → tb E D σ H) : tTry K C i tb ts D σ H := h _ Is.rfl
theorem raiseI {E : XK} {C : Addr} {ta : TA} {D : Ends} {σ : St} {H : Hp} (h : ∀ R, Is R (fun vs H1 => vs.length ≤ sizeLine ∧ E (.ref C) none H1) → ta σ H R) : tRaise E C ta D σ H := h _ Is.rfl
/-! ### a method's call within a try -/
section
variable {X : Cx} {k : Nat} {C : Addr} {ps : List Str} {sp : Sp} {x m : Str} {pos apos : Pos} {e o : Expr} {es : List Expr} {ta : TE} {t : TA}
theorem pex_methD {pl : Sem Bool} (T : ClsD X.K X.mg x C) (F : MethD X.prog X.w X.K X.mg X.base k C m ps sp) (hr : Room k X.A) (he : PE X.nox o ta) (ha : PA X.nox (e :: es) t)
    (hst : starEach (e :: es) X.env = (false, eval e X.env) :: starEach es X.env := by rfl) (hpl : (backTo pos (starEach es X.env)).any (·.1) = false := by rfl)
    (ht : eval (.Call (.Attribute o m apos) (e :: es) [] pos) X.env = (do
      let ov ← eval o X.env
      standAt apos.atName
      let (f, first) ← holding [ov] (getMethod ov m pl)
      callWith pos f first (backTo pos (starEach (e :: es) X.env)) (backToKw pos (keywordEach [] X.env))) := by rfl) :
    PEX X (.Call (.Attribute o m apos) (e :: es) [] pos) fun E => tMeth C m sp [] E ta t := by
  obtain ⟨f, fd, h1, h3, h4⟩ := F.ex
  intro E pins s σ H Q I h
  refine PySem.W.methodCall_KW (pl := pl) (wpAny_mono (he pins s σ H _ (I.wish _) h) (fun u s1 ⟨x, H1, I1, rx, a, dx, fs, ex, ea, l, q⟩ => ?_) fun _ _ z => z.elim) ht
  subst ex
  obtain rfl : u = Value.ref a := rx
  refine getmeth_ok I1.unwish ea T.cl h1 l ?_
  refine PySem.W.callWith_K (first := [.ref a]) (h₀ := X.base) I.ok.mod.kin h1.kp (wpAny_mono (ha pos pins s1 σ H1 _ (I1.unwish.wish _) q) (fun us s2 ⟨vs, H2, I2, r, q2⟩ => ⟨I2.kIn, ?_⟩) fun _ _ z => z.elim) hst hpl
  have q' : sp (.ref a :: (vs ++ [])) H2 Q E := q2
  rw [List.append_nil] at q'
  exact run_fnX (us := .ref a :: us) (vs := .ref a :: vs) h4 hr h3 I2.unwish (.cons rfl r) q'
end
theorem tupN2 {K : PySem.W.Frag} {H : Hp} {p : Addr} {x y : V} {σ : L2.St} {i j : Nat} {Q : L2.St → Hp → Prop} (h : H p = some (.tup [x, y])) (hq : Q ((σ.set i (some x)).set j (some y)) H) : gTup K 2 (gCons (gName i) (gCons (gName j) gNil)) (.ref p) σ H Q := ⟨p, [x, y], rfl, SqT.of h, rfl, x, [y], rfl, y, [], rfl, rfl, hq⟩
end L2
set_option Elab.async false
set_option linter.all false
set_option maxRecDepth 100000
namespace L2
open PySem PySem.Spec PyProof.Rows PySem.W
/-! ### slices of a text -/
section
variable {X : Cx}
def rSlS : V → Option Int → Option Int → Hp → VK → Prop := fun x lo hi H Q => ∃ z, x = .str z ∧ z.length ≤ sizeLine ∧ Q (.str (Txt.slice z lo hi)) H
theorem part_of {v : Value} {o : Option Int} (h : IsPart v o) : ∃ l : Option (Int × Tok), v = partValue l ∧ o = l.map (·.1) := by
  cases h with
  | none => exact ⟨none, rfl, rfl⟩
  | int i t => exact ⟨some (i, t), rfl, rfl⟩
theorem sl_str : SlR X rSlS := by
  intro pins s σ H x v vl vu lo hi sl Q I rx hs pl pu h
  obtain ⟨z, rfl, hz, q⟩ := h
  obtain ⟨t, rfl⟩ := rx
  obtain ⟨l, rfl, rfl⟩ := part_of pl
  obtain ⟨u, rfl, rfl⟩ := part_of pu
  refine ⟨"str", _, F.slot_str_getitem.lookup, typeIs_str _ z t, wpAny_getItem_str_slice (l := l) (u := u) (st := none) hs rfl ?_⟩
  have hle := Txt.slice_le z (l.map (·.1)) (u.map (·.1))
  unfold sliceMade
  unfold Txt.slice at q hle
  by_cases c : (((none : Option (Int × Tok)).map (·.1)).getD 1 == 1 && (slicePicked z l u none).length == z.length) = true
  · rw [if_pos c]
    have c' : ((1 : Int) == 1 && (Builtin.Str.strSliceIndices (l.map (·.1)) (u.map (·.1)) 1 z.length).length == z.length) = true := c
    rw [if_pos c'] at q
    exact ⟨.str z, H, I, ⟨t, rfl⟩, q⟩
  · rw [if_neg c]
    have c' : ¬ ((1 : Int) == 1 && (Builtin.Str.strSliceIndices (l.map (·.1)) (u.map (·.1)) 1 z.length).length == z.length) = true := c
    rw [if_neg c'] at q hle
    exact ⟨Nat.le_trans hle hz, .str _, H, I.tok _, ⟨_, rfl⟩, q⟩
theorem slSH {H : Hp} {Q : VK} {z : Str} {lo hi : Option Int} (hz : z.length ≤ sizeLine) (h : Q (.str (Txt.slice z lo hi)) H) : rSlS (.str z) lo hi H Q := ⟨z, rfl, hz, h⟩
/-! ### the signs of a text, one by one -/
abbrev sg (c : Nat) : V := .str ⟨#[c]⟩
end
/-! ### sep.join(list of texts) -/
/-! ### list(text), a text of the module -/
theorem ixSH {H : Hp} {Q : VK} {z : Str} {i : Int} {c : Nat} (hz : z.length ≤ sizeLine) (h1 : atI z.cps.toList i = some c) (h : Q (sg c) H) : rIxS (.str z) (.int i) H Q := ⟨z, i, c, rfl, rfl, hz, h1, h⟩
theorem addSH {H : Hp} {Q : VK} {i j : Str} (hz : i.length + j.length ≤ sizeLine) (h : Q (.str (i ++ j)) H) : ∃ a b, V.str i = .str a ∧ V.str j = .str b ∧ a.length + b.length ≤ sizeLine ∧ Q (.str (a ++ b)) H := ⟨i, j, rfl, rfl, hz, h⟩
end L2
set_option Elab.async false
set_option linter.all false
set_option maxRecDepth 100000
namespace L2
open PySem PySem.Spec PyProof.Rows PySem.W
section
variable {X : Cx}
/-! ### l.index(x), flat items -/
/-! ### list(d) -/
theorem kv_keys : ∀ {a : List (Key × V)} {b : List (Key × Value)}, KV a b → b.map (·.1) = a.map (·.1) := by
  intro a
  induction a with
  | nil => intro b h; cases b with
    | nil => rfl
    | cons _ _ => cases h
  | cons x a ih => intro b h; cases h with
    | cons h1 h2 => rw [List.map_cons, List.map_cons, ih h2, h1.1]
end
/-! ### a row of entries: number, where its list lies, the list's numbers -/
theorem cpow_40 : CPow 10 40 = True := eq_true ⟨by decide, by decide, by decide⟩
theorem cpow_30 : CPow 10 30 = True := eq_true ⟨by decide, by decide, by decide⟩
section
variable {H : Hp} {Q : VK}
theorem pow40H (h : Q (.int 10000000000000000000000000000000000000000) H) : rI CPow (fun i j => .int (i ^ j.toNat)) (.int 10) (.int 40) H Q := powH (by decide) (of_eq_true cpow_40) h
theorem pow30H (h : Q (.int 1000000000000000000000000000000) H) : rI CPow (fun i j => .int (i ^ j.toNat)) (.int 10) (.int 30) H Q := powH (by decide) (of_eq_true cpow_30) h
end
theorem bits_div {c m : Int} {n : Nat} (hm : 0 ≤ m) (h : Builtin.Int.intBits c ≤ n) : Builtin.Int.intBits (c / m) ≤ n := by rw [← Int.fdiv_eq_ediv_of_nonneg c hm]; exact intBits_fdiv_le h
theorem bits_add {x y : Int} {n : Nat} (hx : Builtin.Int.intBits x ≤ n) (h0 : 0 ≤ y) (h1 : y ≤ 1000000) (hn : 20 ≤ n) : Builtin.Int.intBits (x + y) ≤ n + 1 := by
  have hy : Builtin.Int.intBits y ≤ 20 := intBits_le_iff.mpr (by omega)
  exact Nat.le_trans (intBits_add_le hx hy) (by omega)
theorem mul_ok {c m : Int} (hb : Builtin.Int.intBits c ≤ 2000000) (hm : Builtin.Int.intBits m ≤ 1000) : IntMulOk c m := IntMulOk.of_le hb hm (by decide)
theorem at6i {a0 a1 a2 a3 a4 a5 t : Int} (h0 : 0 ≤ t) (h5 : t ≤ 5) : ∃ z : Int, atI [V.int a0, .int a1, .int a2, .int a3, .int a4, .int a5] t = some (.int z) := by
  have h : t = 0 ∨ t = 1 ∨ t = 2 ∨ t = 3 ∨ t = 4 ∨ t = 5 := by omega
  rcases h with rfl | rfl | rfl | rfl | rfl | rfl
  · exact ⟨_, atI_0⟩
  · exact ⟨_, atI_1⟩
  · exact ⟨_, atI_2⟩
  · exact ⟨_, atI_3⟩
  · exact ⟨_, atI_4⟩
  · exact ⟨_, atI_5⟩
theorem intsOf : ∀ {vs : List V}, (∀ (i : Nat) v, vs[i]? = some v → ∃ z : Int, v = V.int z) → ∃ zs : List Int, vs = zs.map V.int
  | [], _ => ⟨[], rfl⟩
  | v :: vs, h => by
    obtain ⟨z, rfl⟩ := h 0 v rfl
    obtain ⟨zs, rfl⟩ := intsOf (vs := vs) fun i u hu => h (i + 1) u hu
    exact ⟨z :: zs, rfl⟩
end L2
set_option Elab.async false
set_option linter.all false
set_option maxRecDepth 100000
namespace L2
open PySem PySem.Spec PyProof.Rows PySem.W
/-! ### zip of two lists, unpacked -/
section
variable {X : Cx} {pins : List (Addr × Obj)} {σ : St} {H : Hp} {s : Shared} {h' : Heap}
end
section
variable {X : Cx}
end
/-! ### x.find(y) -/
end L2
set_option Elab.async false
set_option linter.all false
set_option maxRecDepth 100000
namespace L2
open PySem PySem.Spec PyProof.Rows PySem.W
/-! ### x.startswith(y), x.index(y), int(text), x.split(y) -/
theorem str_ext {x y : Str} (h : x.cps.toList = y.cps.toList) : x = y := by
  cases x with
  | mk a => cases y with
    | mk b => exact congrArg Str.mk (Array.toList_inj.mp h)
end L2
set_option Elab.async false
set_option linter.all false
set_option maxRecDepth 100000
namespace L2
open PySem PySem.Spec PyProof.Rows PySem.W
/-! ### x.split(y) -/
open Builtin Builtin.Str in
/-! ### rows of signs with a blank between -/
/-! ### a number's signs -/
theorem cut_intsM (ns : List Int) (lo hi : Option Int) : ∃ ms : List Int, cutV (ns.map V.int) lo hi = ms.map V.int ∧ ms.length ≤ ns.length ∧ ∀ m ∈ ms, m ∈ ns := by
  refine ⟨(ns.drop (HT.sIx (ns.map V.int).length 0 lo)).take (HT.sIx (ns.map V.int).length (ns.map V.int).length hi - HT.sIx (ns.map V.int).length 0 lo), ?_, ?_, fun m hm => List.mem_of_mem_drop (List.mem_of_mem_take hm)⟩
  · unfold cutV
    rw [List.map_take, List.map_drop]
  · rw [List.length_take, List.length_drop]
    omega
end L2
set_option Elab.async false
set_option linter.all false
set_option maxRecDepth 100000
namespace L2
open PySem PySem.Spec PyProof.Rows PySem.W
section
variable {X : Cx}
/-! ### l.index(x), plain data at any depth -/
end
end L2
set_option Elab.async false
set_option linter.all false
set_option maxRecDepth 100000
namespace L2
open PySem PySem.Spec PyProof.Rows PySem.W
section
variable {X : Cx}
/-! ### sorted of a dict with texts for keys -/
def rSortDS : List V → Hp → VK → Prop := fun xs H Q => ∃ (p : Addr) (kvs : List (Key × V)) (zs : List Str), xs = [.ref p] ∧ H p = some (.dK kvs) ∧ kvs.map (·.1) = zs.map Sum.inr ∧ zs.length < 64 ∧ ∀ (l : Addr) (ms : List Str), H l = none → ms.Perm zs → sortedS ms = true → Q (.ref l) (upd H l (.lst (ms.map V.str)))
theorem strs_keys {P : Program} {w : World} : ∀ {zs : List Str} {vs : List (Key × Value)} {us : List Value}, vs.map (·.1) = zs.map Sum.inr → us.length = vs.length → (∀ (j : Nat) (v : Value), us[j]? = some v → ∃ k x, vs[j]? = some (k, x) ∧ (mixKind P w).is k v = true) → StrsAre us zs
  | [], [], [], _, _, _ => .nil
  | [], [], _ :: _, _, h, _ => nomatch h
  | [], _ :: _, _, h, _, _ => nomatch h
  | _ :: _, [], _, h, _, _ => nomatch h
  | _ :: _, _ :: _, [], _, h, _ => nomatch h
  | z :: zs, (k, x) :: vs, u :: us, h, hl, hv => by
    obtain ⟨k', x', e, hk⟩ := hv 0 u rfl
    cases e
    have h1 : k = Sum.inr z := (List.cons.inj h).1
    subst h1
    have e : ∃ t, u = Value.str z t := Value.isStrOf_shape hk
    obtain ⟨t, rfl⟩ := e
    exact .cons z t (strs_keys (List.cons.inj h).2 (Nat.succ.inj hl) fun j v e => hv (j + 1) v e)
theorem vals_strsA : ∀ {us : List Value} {zs : List Str}, StrsAre us zs → Vals (zs.map V.str) us
  | _, _, .nil => .nil
  | _, _, .cons x t r => .cons ⟨t, rfl⟩ (vals_strsA r)
theorem call_sortDS (hc : X.calm = true) : CallR X (.builtin "sorted") rSortDS := by
  intro pins s σ H xs us Q I r h
  obtain ⟨p, kvs, ns, rfl, hp, hk, h64, q⟩ := h
  obtain ⟨u, rfl, rx⟩ := vals1 r
  cases rx
  obtain ⟨hz, hS, vs, rr, m⟩ := dk_of I.hok hp
  obtain ⟨ep, hat⟩ := m.dictAt
  have hl : kvs.length = vs.length := Paired.length rr
  have hkn : kvs.length = ns.length := by have := congrArg List.length hk; simpa using this
  have hkv : vs.map (·.1) = ns.map Sum.inr := by
    rw [← hk]
    have : ∀ {a : List (Key × V)} {b : List (Key × Value)}, KV a b → b.map (·.1) = a.map (·.1) := by
      intro a
      induction a with
      | nil => intro b h; cases b with
        | nil => rfl
        | cons _ _ => cases h
      | cons x a ih => intro b h; cases h with
        | cons h1 h2 => rw [List.map_cons, List.map_cons, ih h2, h1.1]
    exact this rr
  refine Calls.call_function_entry kind_sorted plain_sorted entry_sorted (args_sorted1 _) ?_
  unfold Builtin.«sorted»
  refine wpAny_bind (m := checkCount "sorted" 1 1 _) (wpAny_pure ?_)
  refine wpAny_bind (kdu_collect (A := X.A.in1) (kdl_dict (knd := mixKind X.prog X.w) (kvs := vs) (ep := ep) hS) (I.ok.hd hc) hat (by omega) fun h' tk acc hk' hacc => ?_)
  have hstr : StrsAre acc.toList ns := strs_keys hkv (by rw [Array.length_toList]; exact hacc.1) fun j v e => hacc.2 j v (by rw [← Array.getElem?_toList]; exact e)
  have hlen : acc.toList.length = ns.length := by rw [Array.length_toList, hacc.1]; omega
  refine wpAny_bind (wpAny_newList ?_ (by rw [hlen]; exact sz64 h64))
  have hoL : (h'.push (seqObj "list" acc.toList.toArray 0)).get? h'.objs.size = some (seqObj "list" acc.toList.toArray 0) := Heap.get?_push_size _ rfl
  refine wpAny_bind (wpAny_holding (wpAny_call_entry slot_list_sort ⟨_, hoL, rfl⟩ entry_list_sort (list_sort_treeK strKind_oneLt hoL hstr.keysOf (fun v₁ v₂ rest e => keyKind_strs (by rw [← e]; exact hstr)) (by omega) fun st' hp' hs' => ⟨_, rfl, ?_⟩) (args_list_sort _)))
  obtain ⟨ms, a1, a2, a3⟩ := sorted_out_str hstr hp' hs'
  obtain ⟨e, he⟩ := sortedHeap_at (out := (arrOf st').map (·.2)) hoL
  have hm : ms.length < 64 := by rw [a2.length_eq]; exact h64
  have I1 : Inv X pins σ H { s with heap := h', toks := tk } := I.kept hk'
  refine wpAny_pure ⟨_, rfl, .ref h'.objs.size, _, I1.laid (t' := tk) (fun b o hb => ?_) (Nat.le_refl _) (show ObjOk X.prog X.w _ _ _ (.lst (ms.map V.str)) from ⟨by rw [List.length_map]; exact sz64 hm, ((arrOf st').map (·.2)).toList, e, vals_strsA a1, he⟩), rfl, q _ ms (I1.hok.fresh (Nat.le_refl _)) a2 a3⟩
  have hlt := Heap.lt_size hb
  rw [sortedHeap_old (Nat.ne_of_lt hlt) (by rw [size_push']; exact Nat.lt_succ_of_lt hlt)]
  exact Heap.get?_push_of_some _ hb
end
/-! ### one order only -/
theorem rising_le : ∀ {l : List Str} {p : Str}, risingS p l = true → ∀ x ∈ l, ¬ x.cps.toList < p.cps.toList
  | [], _, _, _, h => nomatch h
  | y :: l, p, h, x, hx => by
    have h' : (!PySem.Spec.ltCps y.cps.toList p.cps.toList && risingS y l) = true := h
    rw [Bool.and_eq_true, ltCps_eq, Bool.not_eq_true', decide_eq_false_iff_not] at h'
    rcases List.mem_cons.mp hx with rfl | hx
    · exact h'.1
    · have h2 := rising_le h'.2 x hx
      rw [List.not_lt] at *
      exact List.le_trans h'.1 h2
theorem sortedS_uniq : ∀ {a b : List Str}, a.Perm b → sortedS a = true → sortedS b = true → a = b
  | [], b, hp, _, _ => (List.nil_perm.mp hp).symm
  | x :: a, [], hp, _, _ => absurd hp.length_eq (by simp)
  | x :: a, y :: b, hp, ha, hb => by
    have ta : sortedS a = true := by cases a with
      | nil => rfl
      | cons z a => have h : (!PySem.Spec.ltCps z.cps.toList x.cps.toList && risingS z a) = true := ha
                    rw [Bool.and_eq_true] at h; exact h.2
    have tb : sortedS b = true := by cases b with
      | nil => rfl
      | cons z b => have h : (!PySem.Spec.ltCps z.cps.toList y.cps.toList && risingS z b) = true := hb
                    rw [Bool.and_eq_true] at h; exact h.2
    have e : x = y := by
      have m1 : y ∈ x :: a := hp.symm.subset List.mem_cons_self
      have m2 : x ∈ y :: b := hp.subset List.mem_cons_self
      rcases List.mem_cons.mp m1 with h | h
      · exact h.symm
      · rcases List.mem_cons.mp m2 with h2 | h2
        · exact h2
        · have l1 := rising_le (show risingS x a = true from ha) y h
          have l2 := rising_le (show risingS y b = true from hb) x h2
          rw [List.not_lt] at l1 l2
          exact str_ext (List.le_antisymm l1 l2)
    subst e
    rw [sortedS_uniq (List.perm_cons x |>.mp hp) ta tb]
end L2
set_option Elab.async false
set_option linter.all false
set_option maxRecDepth 100000
namespace L2
open PySem PySem.Spec PyProof.Rows PySem.W
/-- a comprehension over a range, each of whose elements lays cells of its own -/
theorem compRangeG {lo : Int} {n : Nat} {te : TE} {σ : St} {Q : VK} {H1 : Hp} {L : Cells} (G : Nat → V → Cells → Prop) (hL : Led H1 L) (hn : n ≤ sizeLine)
    (hs : ∀ (i : Nat) (H : Hp) (R : VK) (M : Cells), i < n → Led H (M ++ L) → (∀ v H' C, G i v C → Led H' (C ++ (M ++ L)) → R v H') → te (some (.int (lo + i)) :: σ) H R)
    (hd : ∀ (p : Addr) (vs : List V) (Cs : List Cells) (H' : Hp), vs.length = n → Cs.length = n → (∀ (i : Nat) v C, vs[i]? = some v → Cs[i]? = some C → G i v C) → Led H' ((p, .lst vs) :: (Cs.flatten ++ L)) → Q (.ref p) H') : CompJ (Itr lo n) tYes te σ Q H1 := by
  refine compRange (fun p i acc H => i ≤ n ∧ acc.length = i ∧ ∃ Cs : List Cells, Cs.length = i ∧ (∀ (j : Nat) v C, acc[j]? = some v → Cs[j]? = some C → G j v C) ∧ Led H ((p, .lst acc) :: (Cs.flatten ++ L))) (fun p hp => ⟨Nat.zero_le _, rfl, [], rfl, fun j v C h => by simp at h, hL.new hp⟩) (fun p i acc H hp h => ?_) ?_ ?_
  · obtain ⟨_, _, Cs, _, _, hl⟩ := h
    exact hl.get List.mem_cons_self
  · rintro p i acc H hp hi ⟨_, rfl, Cs, hc, hG, hl⟩
    unfold tYes
    dsimp only
    rw [if_pos rfl]
    refine hs _ H _ ((p, .lst acc) :: Cs.flatten) hi hl fun v H' C g hl' => ?_
    have h1 : Led H' ((p, .lst acc) :: (C ++ (Cs.flatten ++ L))) := Led.pull hl'
    refine ⟨h1.get List.mem_cons_self, by omega, hi, by simp, Cs ++ [C], by simp [hc], fun j u D hu hD => ?_, ?_⟩
    · rw [List.getElem?_append] at hu hD
      rw [hc] at hD
      by_cases hj : j < acc.length
      · rw [if_pos hj] at hu hD
        exact hG j u D hu hD
      · rw [if_neg hj] at hu hD
        have h0 : j - acc.length = 0 := by
          rcases Nat.lt_or_ge (j - acc.length) 1 with h | h
          · omega
          · rw [List.getElem?_eq_none (by simpa using h)] at hu; cases hu
        rw [h0] at hu hD
        have e : j = acc.length := by omega
        subst e
        cases hu
        cases hD
        exact g
    · refine (h1.put (o' := .lst (acc ++ [v])) rfl rfl).perm (List.Perm.cons _ ?_)
      rw [List.flatten_append, List.flatten_cons, List.flatten_nil, List.append_nil, List.append_assoc, ← List.append_assoc, ← List.append_assoc]
      exact List.Perm.append_right _ List.perm_append_comm
  · rintro p acc H hp ⟨_, e, Cs, hc, hG, hl⟩
    exact hd p acc Cs H e hc hG hl
/-! ### rows where they lie -/
abbrev Rws := List (Addr × List Int)
def rfs (rs : Rws) : List V := rs.map fun r => V.ref r.1
def rwC (rs : Rws) : Cells := rs.map fun r => (r.1, HO.lst (r.2.map V.int))
theorem rfs_len (rs : Rws) : (rfs rs).length = rs.length := List.length_map _
theorem rwC_mem {rs : Rws} {r : Addr × List Int} (h : r ∈ rs) : (r.1, HO.lst (r.2.map V.int)) ∈ rwC rs := List.mem_map.mpr ⟨r, h, rfl⟩
/-- one row each, laid by a comprehension -/
theorem rowsOf {p : Nat → List Int → Prop} : ∀ {vs : List V} {Cs : List Cells}, vs.length = Cs.length → (∀ (i : Nat) v C, vs[i]? = some v → Cs[i]? = some C → ∃ (r : Addr) (row : List Int), v = V.ref r ∧ C = [(r, HO.lst (row.map V.int))] ∧ p i row) → ∃ rs : Rws, vs = rfs rs ∧ Cs.flatten = rwC rs ∧ rs.length = vs.length ∧ ∀ (i : Nat) r, rs[i]? = some r → p i r.2 := by
  intro vs
  induction vs generalizing p with
  | nil => intro Cs h _; cases Cs with
    | nil => exact ⟨[], rfl, rfl, rfl, fun i r h => by simp at h⟩
    | cons _ _ => cases h
  | cons v vs ih => intro Cs hl h; cases Cs with
    | nil => cases hl
    | cons C Cs =>
      obtain ⟨r, row, rfl, rfl, hp⟩ := h 0 v C rfl rfl
      obtain ⟨rs, rfl, e2, e3, e4⟩ := ih (p := fun i row => p (i + 1) row) (Cs := Cs) (Nat.succ.inj hl) fun i u D hu hD => h (i + 1) u D hu hD
      refine ⟨(r, row) :: rs, rfl, by rw [List.flatten_cons, e2]; rfl, by rw [List.length_cons, List.length_cons, e3], fun i q hq => ?_⟩
      cases i with
      | zero => cases hq; exact hp
      | succ i => exact e4 i q hq
/-! ### files by name -/
abbrev FEnt := Str × Addr × Rws
abbrev FEnts := List FEnt
def kvF (es : FEnts) : List (Key × V) := es.map fun e => (Sum.inr e.1, V.ref e.2.1)
def filC (es : FEnts) : Cells := es.map fun e => (e.2.1, HO.lst (rfs e.2.2))
def entF (es : FEnts) : List (Str × List (List Int)) := es.map fun e => (e.1, e.2.2.map (·.2))
theorem kvF_keys (es : FEnts) : (kvF es).map (·.1) = (es.map (·.1)).map Sum.inr := by unfold kvF; rw [List.map_map, List.map_map]; rfl
theorem kvF_val (es : FEnts) (z : Str) : valV (kvF es) (.inr z) = (es.find? fun e => decide (e.1 = z)).map fun e => .ref e.2.1 := by
  induction es with
  | nil => rfl
  | cons e es ih =>
    unfold kvF at ih ⊢
    rw [List.map_cons, List.find?_cons]
    by_cases h : e.1 = z
    · rw [valV_pos (by rw [h]), decide_eq_true h]; rfl
    · rw [valV_neg (fun q => h (Sum.inr.inj q)), decide_eq_false h]; exact ih
theorem kvF_none {es : FEnts} {z : Str} (h : z ∉ es.map (·.1)) : valV (kvF es) (.inr z) = none := by
  rw [kvF_val, List.find?_eq_none.mpr]
  · rfl
  · intro e he q
    exact h (List.mem_map.mpr ⟨e, he, of_decide_eq_true q⟩)
theorem findF {es : FEnts} {e : FEnt} (nd : (es.map (·.1)).Nodup) (h : e ∈ es) : es.find? (fun x => decide (x.1 = e.1)) = some e := by
  induction es with
  | nil => cases h
  | cons x es ih =>
    rw [List.map_cons, List.nodup_cons] at nd
    rw [List.find?_cons]
    rcases List.mem_cons.mp h with rfl | h
    · rw [decide_eq_true rfl]
    · have : x.1 ≠ e.1 := fun q => nd.1 (q ▸ List.mem_map.mpr ⟨e, h, rfl⟩)
      rw [decide_eq_false this]
      exact ih nd.2 h
theorem kvF_some {es : FEnts} {e : FEnt} (nd : (es.map (·.1)).Nodup) (h : e ∈ es) : valV (kvF es) (.inr e.1) = some (.ref e.2.1) := by rw [kvF_val, findF nd h]; rfl
theorem kvF_put {es : FEnts} {z : Str} (h : z ∉ es.map (·.1)) (a : Addr) (rs : Rws) : putK (kvF es) (.inr z) (.ref a) = kvF (es ++ [(z, a, rs)]) := by
  unfold putK
  rw [if_neg]
  · unfold kvF; rw [List.map_append]; rfl
  · rw [valV_any, kvF_none h]; exact Bool.false_ne_true
theorem kvF_drop (es : FEnts) (z : Str) : dropK (kvF es) (.inr z) = kvF (es.filter fun e => decide (e.1 ≠ z)) := by
  unfold dropK kvF
  rw [List.filter_map]
  congr 1
  refine List.filter_congr fun e _ => ?_
  show decide ((Sum.inr e.1 : Key) ≠ Sum.inr z) = decide (e.1 ≠ z)
  exact decide_eq_decide.mpr ⟨fun q y => q (by rw [y]), fun q y => q (Sum.inr.inj y)⟩
theorem splitF {es : FEnts} {e : FEnt} (nd : (es.map (·.1)).Nodup) (h : e ∈ es) : ∃ as bs, es = as ++ e :: bs ∧ es.filter (fun x => decide (x.1 ≠ e.1)) = as ++ bs := by
  obtain ⟨as, bs, rfl⟩ := List.append_of_mem h
  refine ⟨as, bs, rfl, ?_⟩
  rw [List.map_append, List.map_cons] at nd
  have h1 : ∀ x ∈ as ++ bs, x.1 ≠ e.1 := fun x hx q => by
    have nd2 := (List.perm_middle (l₁ := as.map (·.1)) (a := e.1) (l₂ := bs.map (·.1))).nodup_iff.mp nd
    rw [List.nodup_cons] at nd2
    refine nd2.1 ?_
    rw [← List.map_append, ← q]
    exact List.mem_map.mpr ⟨x, hx, rfl⟩
  rw [List.filter_append, List.filter_cons, if_neg (by simp)]
  rw [List.filter_eq_self.mpr, List.filter_eq_self.mpr]
  · intro x hx; exact decide_eq_true (h1 x (List.mem_append_right _ hx))
  · intro x hx; exact decide_eq_true (h1 x (List.mem_append_left _ hx))
theorem filC_mid (as bs : FEnts) (e : FEnt) : filC (as ++ e :: bs) = filC as ++ (e.2.1, HO.lst (rfs e.2.2)) :: filC bs := by unfold filC; rw [List.map_append]; rfl
theorem filC_app (as bs : FEnts) : filC (as ++ bs) = filC as ++ filC bs := by unfold filC; rw [List.map_append]
theorem filC_mem {es : FEnts} {e : FEnt} (h : e ∈ es) : (e.2.1, HO.lst (rfs e.2.2)) ∈ filC es := List.mem_map.mpr ⟨e, h, rfl⟩
theorem kvF_mid (as bs : FEnts) (e e' : FEnt) (h1 : e.1 = e'.1) (h2 : e.2.1 = e'.2.1) : kvF (as ++ e :: bs) = kvF (as ++ e' :: bs) := by unfold kvF; rw [List.map_append, List.map_append, List.map_cons, List.map_cons, h1, h2]
section
variable {H : Hp} {a : Addr} {Q : VK} {D : Ends} {σ : St}
theorem dinS {kvs : List (Key × V)} {z : Str} {S : Option V → Prop} (h1 : H a = some (.dK kvs)) (h : S (valV kvs (.inr z))) : ∃ b o, V.ref a = .ref b ∧ DGet H b (.str z) o ∧ S o := ⟨a, _, rfl, DGet.k (k := .inr z) h1, h⟩
theorem dgetS {kvs : List (Key × V)} {z : Str} {v : V} {S : V → Prop} (h1 : H a = some (.dK kvs)) (h2 : valV kvs (.inr z) = some v) (h : S v) : ∃ b v, V.ref a = .ref b ∧ DGet H b (.str z) (some v) ∧ S v := ⟨a, v, rfl, h2 ▸ DGet.k (k := .inr z) h1, h⟩
theorem dputS {kvs : List (Key × V)} {z : Str} {v : V} (h1 : H a = some (.dK kvs)) (hl : kvs.length < sizeLine) (h : D.nx σ (upd H a (.dK (putK kvs (.inr z) v)))) : ∃ b H4, V.ref a = .ref b ∧ DPut H b (.str z) v H4 ∧ D.nx σ H4 := ⟨a, _, rfl, DPut.k (k := .inr z) h1 hl, h⟩
theorem dpopS {kvs : List (Key × V)} {z : Str} {v : V} (h1 : H a = some (.dK kvs)) (h2 : valV kvs (.inr z) = some v) (h : Q v (upd H a (.dK (dropK kvs (.inr z))))) : ∃ b kvs k v, V.ref a = .ref b ∧ H b = some (.dK kvs) ∧ V.str z = kV k ∧ valV kvs k = some v ∧ Q v (upd H b (.dK (dropK kvs k))) := ⟨a, kvs, .inr z, v, rfl, h1, rfl, h2, h⟩
end
theorem sortDSR {H : Hp} {Q : VK} {a : Addr} {kvs : List (Key × V)} {zs : List Str} (h1 : H a = some (.dK kvs)) (h2 : kvs.map (·.1) = zs.map Sum.inr) (h3 : zs.length < 64) (h : ∀ ms : List Str, ms.Perm zs → sortedS ms = true → ∀ l, H l = none → Q (.ref l) (upd H l (.lst (ms.map V.str)))) : rSortDS [.ref a] H Q := ⟨a, kvs, zs, rfl, h1, h2, h3, fun l ms hl p s => h ms p s l hl⟩
end L2
set_option Elab.async false
set_option linter.all false
set_option maxRecDepth 100000
namespace L2
open PySem PySem.Spec PyProof.Rows PySem.W
section
variable {X : Cx}
/-! ### list(d), texts for keys -/
def rListDS : List V → Hp → VK → Prop := fun xs H Q => ∃ (p : Addr) (kvs : List (Key × V)) (zs : List Str), xs = [.ref p] ∧ H p = some (.dK kvs) ∧ kvs.map (·.1) = zs.map Sum.inr ∧ ∀ l, H l = none → Q (.ref l) (upd H l (.lst (zs.map V.str)))
theorem call_listDS (hc : X.calm = true) : CallR X (.type "list") rListDS := by
  intro pins s σ H xs us Q I r h
  obtain ⟨p, kvs, zs, rfl, hp, hk, q⟩ := h
  obtain ⟨u, rfl, rx⟩ := vals1 r
  cases rx
  obtain ⟨hz, hS, vs, rr, m⟩ := dk_of I.hok hp
  obtain ⟨ep, hat⟩ := m.dictAt
  have hl : kvs.length = vs.length := Paired.length rr
  have hkn : kvs.length = zs.length := by have := congrArg List.length hk; simpa using this
  have hkv : vs.map (·.1) = zs.map Sum.inr := by rw [← hk]; exact kv_keys rr
  refine kdl_call (kdl_dict (knd := mixKind X.prog X.w) (kvs := vs) (ep := ep) hS) (I.ok.hd hc) hat (by omega) fun h' tk acc' c' hk' hS' hacc => ?_
  have hstr : StrsAre acc'.toList zs := strs_keys hkv (by rw [Array.length_toList]; exact hacc.1) fun j v e => hacc.2 j v (by rw [← Array.getElem?_toList]; exact e)
  exact ⟨.ref s.heap.objs.size, _, I.laid (t' := tk) hk' (Nat.le_refl _) (show ObjOk X.prog X.w _ h' _ (.lst (zs.map V.str)) from ⟨by rw [List.length_map]; omega, acc'.toList, c', vals_strsA hstr, by simpa using hS'⟩), rfl, q _ (I.hok.fresh (Nat.le_refl _))⟩
theorem listDSH {H : Hp} {Q : VK} {p : Addr} {kvs : List (Key × V)} {zs : List Str} (h1 : H p = some (.dK kvs)) (hk : kvs.map (·.1) = zs.map Sum.inr) (h : ∀ l, H l = none → Q (.ref l) (upd H l (.lst (zs.map V.str)))) : rListDS [.ref p] H Q := ⟨p, kvs, zs, rfl, h1, hk, h⟩
end
/-! ### a thing made within a try -/
section
variable {X : Cx} {k : Nat} {f C : Addr} {fd : FuncData} {ps : List Str} {sp : Sp} {x : Str} {p pos : Pos} {e : Expr} {es : List Expr} {t : TA}
end
end L2
set_option Elab.async false
set_option linter.all false
set_option maxRecDepth 100000
set_option maxHeartbeats 4000000
namespace My
open PySem PySem.Spec PyProof.Rows L2
def top (i : Nat) : Stmt := PySem.Challenge.pw_paneworks_k37_files_through_deeds.main.body.getD i (.Pass ⟨0, 0, 0, 0⟩)
/-! Files.__init__ -/
abbrev s_Files_init : Stmt := inClass (top 12) 0
theorem sc_Files_init : FnScope ["self"] ["self"] (defScope s_Files_init) := ⟨rfl, rfl, rfl, by decide +kernel, rfl, by decide +kernel, by decide +kernel⟩
/-! Files.make -/
abbrev s_Files_make : Stmt := inClass (top 12) 1
theorem sc_Files_make : FnScope ["self", "name", "rows"] ["self", "name", "rows"] (defScope s_Files_make) := ⟨rfl, rfl, rfl, by decide +kernel, rfl, by decide +kernel, by decide +kernel⟩
/-! Files.size_of -/
abbrev s_Files_size_of : Stmt := inClass (top 12) 2
theorem sc_Files_size_of : FnScope ["self", "name"] ["self", "name"] (defScope s_Files_size_of) := ⟨rfl, rfl, rfl, by decide +kernel, rfl, by decide +kernel, by decide +kernel⟩
/-! Files.row_at -/
abbrev s_Files_row_at : Stmt := inClass (top 12) 3
theorem sc_Files_row_at : FnScope ["self", "name", "page"] ["self", "name", "page"] (defScope s_Files_row_at) := ⟨rfl, rfl, rfl, by decide +kernel, rfl, by decide +kernel, by decide +kernel⟩
/-! Files.store_row -/
abbrev s_Files_store_row : Stmt := inClass (top 12) 4
theorem sc_Files_store_row : FnScope ["self", "name", "page", "row"] ["self", "name", "page", "row"] (defScope s_Files_store_row) := ⟨rfl, rfl, rfl, by decide +kernel, rfl, by decide +kernel, by decide +kernel⟩
/-! Files.drop -/
abbrev s_Files_drop : Stmt := inClass (top 12) 5
theorem sc_Files_drop : FnScope ["self", "name"] ["self", "name"] (defScope s_Files_drop) := ⟨rfl, rfl, rfl, by decide +kernel, rfl, by decide +kernel, by decide +kernel⟩
/-! Files.names -/
abbrev s_Files_names : Stmt := inClass (top 12) 6
theorem sc_Files_names : FnScope ["self"] ["self"] (defScope s_Files_names) := ⟨rfl, rfl, rfl, by decide +kernel, rfl, by decide +kernel, by decide +kernel⟩
/-! Files.ask_name -/
abbrev s_Files_ask_name : Stmt := inClass (top 12) 7
theorem sc_Files_ask_name : FnScope ["self", "name"] ["self", "name"] (defScope s_Files_ask_name) := ⟨rfl, rfl, rfl, by decide +kernel, rfl, by decide +kernel, by decide +kernel⟩
/-! Files.ask_page -/
abbrev s_Files_ask_page : Stmt := inClass (top 12) 8
theorem sc_Files_ask_page : FnScope ["self", "name", "page", "size"] ["self", "name", "page"] (defScope s_Files_ask_page) := ⟨rfl, rfl, rfl, by decide +kernel, rfl, by decide +kernel, by decide +kernel⟩
/-! _law_cell_at -/
abbrev s_l_cell_at : Stmt := top 14
theorem sc_l_cell_at : FnScope ["_law_script", "_law_k"] ["_law_script", "_law_k"] (defScope s_l_cell_at) := ⟨rfl, rfl, rfl, by decide +kernel, rfl, by decide +kernel, by decide +kernel⟩
/-! _law_whole -/
abbrev s_l_whole : Stmt := top 15
theorem sc_l_whole : FnScope ["_law_found"] ["_law_found"] (defScope s_l_whole) := ⟨rfl, rfl, rfl, by decide +kernel, rfl, by decide +kernel, by decide +kernel⟩
/-! _law_alike -/
abbrev s_l_alike : Stmt := top 16
theorem sc_l_alike : FnScope ["_law_found", "_law_due_here", "_law_k"] ["_law_found", "_law_due_here"] (defScope s_l_alike) := ⟨rfl, rfl, rfl, by decide +kernel, rfl, by decide +kernel, by decide +kernel⟩
/-! _law_num -/
abbrev s_l_num : Stmt := top 17
theorem sc_l_num : FnScope ["_law_cell", "_law_k", "_law_most", "_law_big", "_law_way"] ["_law_cell", "_law_k"] (defScope s_l_num) := ⟨rfl, rfl, rfl, by decide +kernel, rfl, by decide +kernel, by decide +kernel⟩
/-! _law_row -/
abbrev s_l_row : Stmt := top 18
theorem sc_l_row : FnScope ["_law_cell"] ["_law_cell"] (defScope s_l_row) := ⟨rfl, rfl, rfl, by decide +kernel, rfl, by decide +kernel, by decide +kernel⟩
/-! _law_name -/
abbrev s_l_name : Stmt := top 19
theorem sc_l_name : FnScope ["_law_cell", "_law_turn", "_law_letters", "_law_size", "_law_spot", "_law_name_here", "_law_k", "_law_sign"] ["_law_cell", "_law_turn"] (defScope s_l_name) := ⟨rfl, rfl, rfl, by decide +kernel, rfl, by decide +kernel, by decide +kernel⟩
/-! _law_rows -/
abbrev s_l_rows : Stmt := top 20
theorem sc_l_rows : FnScope ["_law_cell", "_law_many"] ["_law_cell"] (defScope s_l_rows) := ⟨rfl, rfl, rfl, by decide +kernel, rfl, by decide +kernel, by decide +kernel⟩
/-! _law_asked -/
abbrev s_l_asked : Stmt := top 21
theorem sc_l_asked : FnScope ["_law_files", "_law_way", "_law_name_here", "_law_page", "_law_rows_here", "_law_found", "_law_refused", "e", "_law_others", "_law_known"] ["_law_files", "_law_way", "_law_name_here", "_law_page", "_law_rows_here"] (defScope s_l_asked) := ⟨rfl, rfl, rfl, by decide +kernel, rfl, by decide +kernel, by decide +kernel⟩
/-! _law_due -/
abbrev s_l_due : Stmt := top 22
theorem sc_l_due : FnScope ["_law_plain", "_law_way", "_law_name_here", "_law_page"] ["_law_plain", "_law_way", "_law_name_here", "_law_page"] (defScope s_l_due) := ⟨rfl, rfl, rfl, by decide +kernel, rfl, by decide +kernel, by decide +kernel⟩
/-! _law_done -/
abbrev s_l_done : Stmt := top 23
theorem sc_l_done : FnScope ["_law_plain", "_law_way", "_law_name_here", "_law_page", "_law_rows_here"] ["_law_plain", "_law_way", "_law_name_here", "_law_page", "_law_rows_here"] (defScope s_l_done) := ⟨rfl, rfl, rfl, by decide +kernel, rfl, by decide +kernel, by decide +kernel⟩
/-! _law_deed -/
abbrev s_l_deed : Stmt := top 24
theorem sc_l_deed : FnScope ["_law_files", "_law_plain", "_law_name_here", "_law_cell", "_law_way", "_law_page", "_law_rows_here", "_law_handed", "_law_due_here", "_law_answer", "_law_told"] ["_law_files", "_law_plain", "_law_name_here", "_law_cell"] (defScope s_l_deed) := ⟨rfl, rfl, rfl, by decide +kernel, rfl, by decide +kernel, by decide +kernel⟩
/-! _law_is_files -/
abbrev s_l_is_files : Stmt := top 25
theorem sc_l_is_files : FnScope ["_law_files", "_law_plain", "_law_name_here", "_law_cell", "_law_held", "_law_told", "_law_page"] ["_law_files", "_law_plain", "_law_name_here", "_law_cell", "_law_held"] (defScope s_l_is_files) := ⟨rfl, rfl, rfl, by decide +kernel, rfl, by decide +kernel, by decide +kernel⟩
/-! law -/
abbrev s_law : Stmt := top 26
theorem sc_law : FnScope ["_law_script", "_law_names", "_law_both", "_law_plains", "_law_held", "_law_cell", "_law_at", "_law_name_here", "_law_k", "_law_which", "_law_page", "_law_told", "_law_copied"] ["_law_script"] (defScope s_law) := ⟨rfl, rfl, rfl, by decide +kernel, rfl, by decide +kernel, by decide +kernel⟩
structure Txt (K : PySem.W.Frag) (mg : Str → Option Value) (cP cA cB cC c1 c2 c3 c4 c5 c6 cI : Addr) : Prop where
  PaneError : GlC mg "PaneError" cP
  NoFile : Exc K mg "NoFile" cA
  NoPage : Exc K mg "NoPage" cB
  Taken : Exc K mg "Taken" cC
  NoNumber : GlC mg "NoNumber" c1
  NoSpace : GlC mg "NoSpace" c2
  NoRight : GlC mg "NoRight" c3
  Held : GlC mg "Held" c4
  Full : GlC mg "Full" c5
  NoRow : GlC mg "NoRow" c6
  xi_cA : PySem.W.ExcI K cA
  xm_cA_cP : PySem.W.exmOne K (.ref cA) (.ref cP) = some true
  xo_cA_cA : PySem.W.kitOne K (.ref cA) (.ref cA) = some true
  xo_cA_cB : PySem.W.kitOne K (.ref cA) (.ref cB) = some false
  xo_cA_cC : PySem.W.kitOne K (.ref cA) (.ref cC) = some false
  xo_cA_ValueError : PySem.W.kitOne K (.ref cA) (.type "ValueError") = some true
  xocA : PySem.W.kitAny K (.ref cA) [.ref c1, .ref c2, .ref c3, .ref c4, .ref c5, .ref c6] = some false
  xi_cB : PySem.W.ExcI K cB
  xm_cB_cP : PySem.W.exmOne K (.ref cB) (.ref cP) = some true
  xo_cB_cA : PySem.W.kitOne K (.ref cB) (.ref cA) = some false
  xo_cB_cB : PySem.W.kitOne K (.ref cB) (.ref cB) = some true
  xo_cB_cC : PySem.W.kitOne K (.ref cB) (.ref cC) = some false
  xo_cB_ValueError : PySem.W.kitOne K (.ref cB) (.type "ValueError") = some true
  xocB : PySem.W.kitAny K (.ref cB) [.ref c1, .ref c2, .ref c3, .ref c4, .ref c5, .ref c6] = some false
  xi_cC : PySem.W.ExcI K cC
  xm_cC_cP : PySem.W.exmOne K (.ref cC) (.ref cP) = some true
  xo_cC_cA : PySem.W.kitOne K (.ref cC) (.ref cA) = some false
  xo_cC_cB : PySem.W.kitOne K (.ref cC) (.ref cB) = some false
  xo_cC_cC : PySem.W.kitOne K (.ref cC) (.ref cC) = some true
  xo_cC_ValueError : PySem.W.kitOne K (.ref cC) (.type "ValueError") = some true
  xocC : PySem.W.kitAny K (.ref cC) [.ref c1, .ref c2, .ref c3, .ref c4, .ref c5, .ref c6] = some false
  Files : ClsD K mg "Files" cI
  n_rows_by_name : NoAttr K cI "rows_by_name"
  i_Files : IDef K cI "Files.__init__" s_Files_init
  m_Files_make : MDef K cI "make" "Files.make" s_Files_make
  m_Files_size_of : MDef K cI "size_of" "Files.size_of" s_Files_size_of
  m_Files_row_at : MDef K cI "row_at" "Files.row_at" s_Files_row_at
  m_Files_store_row : MDef K cI "store_row" "Files.store_row" s_Files_store_row
  m_Files_drop : MDef K cI "drop" "Files.drop" s_Files_drop
  m_Files_names : MDef K cI "names" "Files.names" s_Files_names
  m_Files_ask_name : MDef K cI "ask_name" "Files.ask_name" s_Files_ask_name
  m_Files_ask_page : MDef K cI "ask_page" "Files.ask_page" s_Files_ask_page
  d_l_cell_at : Def K mg "_law_cell_at" s_l_cell_at
  d_l_whole : Def K mg "_law_whole" s_l_whole
  d_l_alike : Def K mg "_law_alike" s_l_alike
  d_l_num : Def K mg "_law_num" s_l_num
  d_l_row : Def K mg "_law_row" s_l_row
  d_l_name : Def K mg "_law_name" s_l_name
  d_l_rows : Def K mg "_law_rows" s_l_rows
  d_l_asked : Def K mg "_law_asked" s_l_asked
  d_l_due : Def K mg "_law_due" s_l_due
  d_l_done : Def K mg "_law_done" s_l_done
  d_l_deed : Def K mg "_law_deed" s_l_deed
  d_l_is_files : Def K mg "_law_is_files" s_l_is_files
  d_law : Def K mg "law" s_law
theorem txt_mk {K : PySem.W.Frag} {h : Heap} {mg : Str → Option Value} {cP cA cB cC c1 c2 c3 c4 c5 c6 cI : Addr} {fFiles_init : Addr} {fFiles_initoc : Value} {fFiles_initod fFiles_initan : Option Addr} {fFiles_initosl : Array (Option Value)} {fFiles_initkV fFiles_initdoc fFiles_initpm fFiles_initcdv fFiles_initct : Value} {fFiles_make : Addr} {fFiles_makeoc : Value} {fFiles_makeod fFiles_makean : Option Addr} {fFiles_makeosl : Array (Option Value)} {fFiles_makekV fFiles_makedoc fFiles_makepm fFiles_makecdv fFiles_makect : Value} {fFiles_size_of : Addr} {fFiles_size_ofoc : Value} {fFiles_size_ofod fFiles_size_ofan : Option Addr} {fFiles_size_ofosl : Array (Option Value)} {fFiles_size_ofkV fFiles_size_ofdoc fFiles_size_ofpm fFiles_size_ofcdv fFiles_size_ofct : Value} {fFiles_row_at : Addr} {fFiles_row_atoc : Value} {fFiles_row_atod fFiles_row_atan : Option Addr} {fFiles_row_atosl : Array (Option Value)} {fFiles_row_atkV fFiles_row_atdoc fFiles_row_atpm fFiles_row_atcdv fFiles_row_atct : Value} {fFiles_store_row : Addr} {fFiles_store_rowoc : Value} {fFiles_store_rowod fFiles_store_rowan : Option Addr} {fFiles_store_rowosl : Array (Option Value)} {fFiles_store_rowkV fFiles_store_rowdoc fFiles_store_rowpm fFiles_store_rowcdv fFiles_store_rowct : Value} {fFiles_drop : Addr} {fFiles_dropoc : Value} {fFiles_dropod fFiles_dropan : Option Addr} {fFiles_droposl : Array (Option Value)} {fFiles_dropkV fFiles_dropdoc fFiles_droppm fFiles_dropcdv fFiles_dropct : Value} {fFiles_names : Addr} {fFiles_namesoc : Value} {fFiles_namesod fFiles_namesan : Option Addr} {fFiles_namesosl : Array (Option Value)} {fFiles_nameskV fFiles_namesdoc fFiles_namespm fFiles_namescdv fFiles_namesct : Value} {fFiles_ask_name : Addr} {fFiles_ask_nameoc : Value} {fFiles_ask_nameod fFiles_ask_namean : Option Addr} {fFiles_ask_nameosl : Array (Option Value)} {fFiles_ask_namekV fFiles_ask_namedoc fFiles_ask_namepm fFiles_ask_namecdv fFiles_ask_namect : Value} {fFiles_ask_page : Addr} {fFiles_ask_pageoc : Value} {fFiles_ask_pageod fFiles_ask_pagean : Option Addr} {fFiles_ask_pageosl : Array (Option Value)} {fFiles_ask_pagekV fFiles_ask_pagedoc fFiles_ask_pagepm fFiles_ask_pagecdv fFiles_ask_pagect : Value} {fl_cell_at : Addr} {fl_cell_atoc : Value} {fl_cell_atod fl_cell_atan : Option Addr} {fl_cell_atosl : Array (Option Value)} {fl_cell_atkV fl_cell_atdoc fl_cell_atpm fl_cell_atcdv fl_cell_atct : Value} {fl_whole : Addr} {fl_wholeoc : Value} {fl_wholeod fl_wholean : Option Addr} {fl_wholeosl : Array (Option Value)} {fl_wholekV fl_wholedoc fl_wholepm fl_wholecdv fl_wholect : Value} {fl_alike : Addr} {fl_alikeoc : Value} {fl_alikeod fl_alikean : Option Addr} {fl_alikeosl : Array (Option Value)} {fl_alikekV fl_alikedoc fl_alikepm fl_alikecdv fl_alikect : Value} {fl_num : Addr} {fl_numoc : Value} {fl_numod fl_numan : Option Addr} {fl_numosl : Array (Option Value)} {fl_numkV fl_numdoc fl_numpm fl_numcdv fl_numct : Value} {fl_row : Addr} {fl_rowoc : Value} {fl_rowod fl_rowan : Option Addr} {fl_rowosl : Array (Option Value)} {fl_rowkV fl_rowdoc fl_rowpm fl_rowcdv fl_rowct : Value} {fl_name : Addr} {fl_nameoc : Value} {fl_nameod fl_namean : Option Addr} {fl_nameosl : Array (Option Value)} {fl_namekV fl_namedoc fl_namepm fl_namecdv fl_namect : Value} {fl_rows : Addr} {fl_rowsoc : Value} {fl_rowsod fl_rowsan : Option Addr} {fl_rowsosl : Array (Option Value)} {fl_rowskV fl_rowsdoc fl_rowspm fl_rowscdv fl_rowsct : Value} {fl_asked : Addr} {fl_askedoc : Value} {fl_askedod fl_askedan : Option Addr} {fl_askedosl : Array (Option Value)} {fl_askedkV fl_askeddoc fl_askedpm fl_askedcdv fl_askedct : Value} {fl_due : Addr} {fl_dueoc : Value} {fl_dueod fl_duean : Option Addr} {fl_dueosl : Array (Option Value)} {fl_duekV fl_duedoc fl_duepm fl_duecdv fl_duect : Value} {fl_done : Addr} {fl_doneoc : Value} {fl_doneod fl_donean : Option Addr} {fl_doneosl : Array (Option Value)} {fl_donekV fl_donedoc fl_donepm fl_donecdv fl_donect : Value} {fl_deed : Addr} {fl_deedoc : Value} {fl_deedod fl_deedan : Option Addr} {fl_deedosl : Array (Option Value)} {fl_deedkV fl_deeddoc fl_deedpm fl_deedcdv fl_deedct : Value} {fl_is_files : Addr} {fl_is_filesoc : Value} {fl_is_filesod fl_is_filesan : Option Addr} {fl_is_filesosl : Array (Option Value)} {fl_is_fileskV fl_is_filesdoc fl_is_filespm fl_is_filescdv fl_is_filesct : Value} {flaw : Addr} {flawoc : Value} {flawod flawan : Option Addr} {flawosl : Array (Option Value)} {flawkV flawdoc flawpm flawcdv flawct : Value} (X : K.In h) (G : h.Ns mainGlobals mg)
    (z1 : PySem.W.nsIn K mainGlobals "PaneError" = some (some (.ref cP)))
    (z2 : PySem.W.nsIn K mainGlobals "NoFile" = some (some (.ref cA)))
    (z3 : PySem.W.excIn K cA [.type "ValueError", .type "Exception", .type "BaseException", .type "object"] "ValueError.__new__" = true)
    (z4 : PySem.W.nsIn K mainGlobals "NoPage" = some (some (.ref cB)))
    (z5 : PySem.W.excIn K cB [.type "ValueError", .type "Exception", .type "BaseException", .type "object"] "ValueError.__new__" = true)
    (z6 : PySem.W.nsIn K mainGlobals "Taken" = some (some (.ref cC)))
    (z7 : PySem.W.excIn K cC [.type "ValueError", .type "Exception", .type "BaseException", .type "object"] "ValueError.__new__" = true)
    (z8 : PySem.W.nsIn K mainGlobals "NoNumber" = some (some (.ref c1)))
    (z9 : PySem.W.nsIn K mainGlobals "NoSpace" = some (some (.ref c2)))
    (z10 : PySem.W.nsIn K mainGlobals "NoRight" = some (some (.ref c3)))
    (z11 : PySem.W.nsIn K mainGlobals "Held" = some (some (.ref c4)))
    (z12 : PySem.W.nsIn K mainGlobals "Full" = some (some (.ref c5)))
    (z13 : PySem.W.nsIn K mainGlobals "NoRow" = some (some (.ref c6)))
    (z14 : PySem.W.hasDictIn K cA = true)
    (z15 : PySem.W.findIn K (.ref cA) "__getattribute__" = some (some (.builtin "BaseException.__getattribute__")))
    (z16 : PySem.W.findIn K (.ref cA) "__getattr__" = some none)
    (z17 : PySem.W.findIn K (.ref cA) "__class__" = some (some (.builtin "object.__class__")))
    (z18 : PySem.W.specialIn K (.builtin "object.__class__") "__get__" = some (some (.builtin "getset_descriptor.__get__")))
    (z19 : PySem.W.takesIn K (.builtin "object.__class__") = some true)
    (z20 : PySem.W.mroIn K cA (.type "object") = some true)
    (z21 : PySem.W.subIn K (.ref cA) (.type "BaseException") = some true)
    (z22 : PySem.W.exmOne K (.ref cA) (.ref cP) = some true)
    (z23 : PySem.W.kitOne K (.ref cA) (.ref cA) = some true)
    (z24 : PySem.W.kitOne K (.ref cA) (.ref cB) = some false)
    (z25 : PySem.W.kitOne K (.ref cA) (.ref cC) = some false)
    (z26 : PySem.W.kitOne K (.ref cA) (.type "ValueError") = some true)
    (z27 : PySem.W.kitAny K (.ref cA) [.ref c1, .ref c2, .ref c3, .ref c4, .ref c5, .ref c6] = some false)
    (z28 : PySem.W.hasDictIn K cB = true)
    (z29 : PySem.W.findIn K (.ref cB) "__getattribute__" = some (some (.builtin "BaseException.__getattribute__")))
    (z30 : PySem.W.findIn K (.ref cB) "__getattr__" = some none)
    (z31 : PySem.W.findIn K (.ref cB) "__class__" = some (some (.builtin "object.__class__")))
    (z32 : PySem.W.specialIn K (.builtin "object.__class__") "__get__" = some (some (.builtin "getset_descriptor.__get__")))
    (z33 : PySem.W.takesIn K (.builtin "object.__class__") = some true)
    (z34 : PySem.W.mroIn K cB (.type "object") = some true)
    (z35 : PySem.W.subIn K (.ref cB) (.type "BaseException") = some true)
    (z36 : PySem.W.exmOne K (.ref cB) (.ref cP) = some true)
    (z37 : PySem.W.kitOne K (.ref cB) (.ref cA) = some false)
    (z38 : PySem.W.kitOne K (.ref cB) (.ref cB) = some true)
    (z39 : PySem.W.kitOne K (.ref cB) (.ref cC) = some false)
    (z40 : PySem.W.kitOne K (.ref cB) (.type "ValueError") = some true)
    (z41 : PySem.W.kitAny K (.ref cB) [.ref c1, .ref c2, .ref c3, .ref c4, .ref c5, .ref c6] = some false)
    (z42 : PySem.W.hasDictIn K cC = true)
    (z43 : PySem.W.findIn K (.ref cC) "__getattribute__" = some (some (.builtin "BaseException.__getattribute__")))
    (z44 : PySem.W.findIn K (.ref cC) "__getattr__" = some none)
    (z45 : PySem.W.findIn K (.ref cC) "__class__" = some (some (.builtin "object.__class__")))
    (z46 : PySem.W.specialIn K (.builtin "object.__class__") "__get__" = some (some (.builtin "getset_descriptor.__get__")))
    (z47 : PySem.W.takesIn K (.builtin "object.__class__") = some true)
    (z48 : PySem.W.mroIn K cC (.type "object") = some true)
    (z49 : PySem.W.subIn K (.ref cC) (.type "BaseException") = some true)
    (z50 : PySem.W.exmOne K (.ref cC) (.ref cP) = some true)
    (z51 : PySem.W.kitOne K (.ref cC) (.ref cA) = some false)
    (z52 : PySem.W.kitOne K (.ref cC) (.ref cB) = some false)
    (z53 : PySem.W.kitOne K (.ref cC) (.ref cC) = some true)
    (z54 : PySem.W.kitOne K (.ref cC) (.type "ValueError") = some true)
    (z55 : PySem.W.kitAny K (.ref cC) [.ref c1, .ref c2, .ref c3, .ref c4, .ref c5, .ref c6] = some false)
    (z56 : PySem.W.nsIn K mainGlobals "Files" = some (some (.ref cI)))
    (z57 : PySem.W.plainGet K cI Str.empty = true)
    (z58 : PySem.W.hasDictIn K cI = true)
    (z59 : PySem.W.plainOver K cI = true)
    (z60 : PySem.W.findIn K (.ref cI) "__setattr__" = some (some (.builtin "object.__setattr__")))
    (z61 : PySem.W.findIn K (.ref cI) "rows_by_name" = some none)
    (z62 : PySem.W.makesIn K cI = true)
    (z63 : PySem.W.findIn K (.ref cI) "__init__" = some (some (.ref fFiles_init)))
    (z64 : PySem.W.isFn K (.ref fFiles_init) = true)
    (z65 : PySem.W.keepIn K (.ref cI) = true)
    (z66 : K.lookup fFiles_init = some ⟨fFiles_initoc, fFiles_initod, .func (PySem.W.fnOf "__init__" "Files.__init__" (defArgs s_Files_init) (defBody s_Files_init) (defScope s_Files_init) .none fFiles_initkV fFiles_initdoc fFiles_initpm fFiles_initan fFiles_initcdv fFiles_initct), fFiles_initosl⟩)
    (z67 : PySem.W.codeIn K fFiles_initcdv "Files.__init__" = true)
    (z68 : PySem.W.keepIn K (.ref fFiles_init) = true)
    (z69 : PySem.W.findIn K (.ref cI) "make" = some (some (.ref fFiles_make)))
    (z70 : PySem.W.isFn K (.ref fFiles_make) = true)
    (z71 : K.lookup fFiles_make = some ⟨fFiles_makeoc, fFiles_makeod, .func (PySem.W.fnOf "make" "Files.make" (defArgs s_Files_make) (defBody s_Files_make) (defScope s_Files_make) .none fFiles_makekV fFiles_makedoc fFiles_makepm fFiles_makean fFiles_makecdv fFiles_makect), fFiles_makeosl⟩)
    (z72 : PySem.W.codeIn K fFiles_makecdv "Files.make" = true)
    (z73 : PySem.W.keepIn K (.ref fFiles_make) = true)
    (z74 : PySem.W.findIn K (.ref cI) "size_of" = some (some (.ref fFiles_size_of)))
    (z75 : PySem.W.isFn K (.ref fFiles_size_of) = true)
    (z76 : K.lookup fFiles_size_of = some ⟨fFiles_size_ofoc, fFiles_size_ofod, .func (PySem.W.fnOf "size_of" "Files.size_of" (defArgs s_Files_size_of) (defBody s_Files_size_of) (defScope s_Files_size_of) .none fFiles_size_ofkV fFiles_size_ofdoc fFiles_size_ofpm fFiles_size_ofan fFiles_size_ofcdv fFiles_size_ofct), fFiles_size_ofosl⟩)
    (z77 : PySem.W.codeIn K fFiles_size_ofcdv "Files.size_of" = true)
    (z78 : PySem.W.keepIn K (.ref fFiles_size_of) = true)
    (z79 : PySem.W.findIn K (.ref cI) "row_at" = some (some (.ref fFiles_row_at)))
    (z80 : PySem.W.isFn K (.ref fFiles_row_at) = true)
    (z81 : K.lookup fFiles_row_at = some ⟨fFiles_row_atoc, fFiles_row_atod, .func (PySem.W.fnOf "row_at" "Files.row_at" (defArgs s_Files_row_at) (defBody s_Files_row_at) (defScope s_Files_row_at) .none fFiles_row_atkV fFiles_row_atdoc fFiles_row_atpm fFiles_row_atan fFiles_row_atcdv fFiles_row_atct), fFiles_row_atosl⟩)
    (z82 : PySem.W.codeIn K fFiles_row_atcdv "Files.row_at" = true)
    (z83 : PySem.W.keepIn K (.ref fFiles_row_at) = true)
    (z84 : PySem.W.findIn K (.ref cI) "store_row" = some (some (.ref fFiles_store_row)))
    (z85 : PySem.W.isFn K (.ref fFiles_store_row) = true)
    (z86 : K.lookup fFiles_store_row = some ⟨fFiles_store_rowoc, fFiles_store_rowod, .func (PySem.W.fnOf "store_row" "Files.store_row" (defArgs s_Files_store_row) (defBody s_Files_store_row) (defScope s_Files_store_row) .none fFiles_store_rowkV fFiles_store_rowdoc fFiles_store_rowpm fFiles_store_rowan fFiles_store_rowcdv fFiles_store_rowct), fFiles_store_rowosl⟩)
    (z87 : PySem.W.codeIn K fFiles_store_rowcdv "Files.store_row" = true)
    (z88 : PySem.W.keepIn K (.ref fFiles_store_row) = true)
    (z89 : PySem.W.findIn K (.ref cI) "drop" = some (some (.ref fFiles_drop)))
    (z90 : PySem.W.isFn K (.ref fFiles_drop) = true)
    (z91 : K.lookup fFiles_drop = some ⟨fFiles_dropoc, fFiles_dropod, .func (PySem.W.fnOf "drop" "Files.drop" (defArgs s_Files_drop) (defBody s_Files_drop) (defScope s_Files_drop) .none fFiles_dropkV fFiles_dropdoc fFiles_droppm fFiles_dropan fFiles_dropcdv fFiles_dropct), fFiles_droposl⟩)
    (z92 : PySem.W.codeIn K fFiles_dropcdv "Files.drop" = true)
    (z93 : PySem.W.keepIn K (.ref fFiles_drop) = true)
    (z94 : PySem.W.findIn K (.ref cI) "names" = some (some (.ref fFiles_names)))
    (z95 : PySem.W.isFn K (.ref fFiles_names) = true)
    (z96 : K.lookup fFiles_names = some ⟨fFiles_namesoc, fFiles_namesod, .func (PySem.W.fnOf "names" "Files.names" (defArgs s_Files_names) (defBody s_Files_names) (defScope s_Files_names) .none fFiles_nameskV fFiles_namesdoc fFiles_namespm fFiles_namesan fFiles_namescdv fFiles_namesct), fFiles_namesosl⟩)
    (z97 : PySem.W.codeIn K fFiles_namescdv "Files.names" = true)
    (z98 : PySem.W.keepIn K (.ref fFiles_names) = true)
    (z99 : PySem.W.findIn K (.ref cI) "ask_name" = some (some (.ref fFiles_ask_name)))
    (z100 : PySem.W.isFn K (.ref fFiles_ask_name) = true)
    (z101 : K.lookup fFiles_ask_name = some ⟨fFiles_ask_nameoc, fFiles_ask_nameod, .func (PySem.W.fnOf "ask_name" "Files.ask_name" (defArgs s_Files_ask_name) (defBody s_Files_ask_name) (defScope s_Files_ask_name) .none fFiles_ask_namekV fFiles_ask_namedoc fFiles_ask_namepm fFiles_ask_namean fFiles_ask_namecdv fFiles_ask_namect), fFiles_ask_nameosl⟩)
    (z102 : PySem.W.codeIn K fFiles_ask_namecdv "Files.ask_name" = true)
    (z103 : PySem.W.keepIn K (.ref fFiles_ask_name) = true)
    (z104 : PySem.W.findIn K (.ref cI) "ask_page" = some (some (.ref fFiles_ask_page)))
    (z105 : PySem.W.isFn K (.ref fFiles_ask_page) = true)
    (z106 : K.lookup fFiles_ask_page = some ⟨fFiles_ask_pageoc, fFiles_ask_pageod, .func (PySem.W.fnOf "ask_page" "Files.ask_page" (defArgs s_Files_ask_page) (defBody s_Files_ask_page) (defScope s_Files_ask_page) .none fFiles_ask_pagekV fFiles_ask_pagedoc fFiles_ask_pagepm fFiles_ask_pagean fFiles_ask_pagecdv fFiles_ask_pagect), fFiles_ask_pageosl⟩)
    (z107 : PySem.W.codeIn K fFiles_ask_pagecdv "Files.ask_page" = true)
    (z108 : PySem.W.keepIn K (.ref fFiles_ask_page) = true)
    (z109 : PySem.W.nsIn K mainGlobals "_law_cell_at" = some (some (.ref fl_cell_at)))
    (z110 : K.lookup fl_cell_at = some ⟨fl_cell_atoc, fl_cell_atod, .func (PySem.W.fnOf "_law_cell_at" "_law_cell_at" (defArgs s_l_cell_at) (defBody s_l_cell_at) (defScope s_l_cell_at) .none fl_cell_atkV fl_cell_atdoc fl_cell_atpm fl_cell_atan fl_cell_atcdv fl_cell_atct), fl_cell_atosl⟩)
    (z111 : PySem.W.codeIn K fl_cell_atcdv "_law_cell_at" = true)
    (z112 : PySem.W.keepIn K (.ref fl_cell_at) = true)
    (z113 : PySem.W.nsIn K mainGlobals "_law_whole" = some (some (.ref fl_whole)))
    (z114 : K.lookup fl_whole = some ⟨fl_wholeoc, fl_wholeod, .func (PySem.W.fnOf "_law_whole" "_law_whole" (defArgs s_l_whole) (defBody s_l_whole) (defScope s_l_whole) .none fl_wholekV fl_wholedoc fl_wholepm fl_wholean fl_wholecdv fl_wholect), fl_wholeosl⟩)
    (z115 : PySem.W.codeIn K fl_wholecdv "_law_whole" = true)
    (z116 : PySem.W.keepIn K (.ref fl_whole) = true)
    (z117 : PySem.W.nsIn K mainGlobals "_law_alike" = some (some (.ref fl_alike)))
    (z118 : K.lookup fl_alike = some ⟨fl_alikeoc, fl_alikeod, .func (PySem.W.fnOf "_law_alike" "_law_alike" (defArgs s_l_alike) (defBody s_l_alike) (defScope s_l_alike) .none fl_alikekV fl_alikedoc fl_alikepm fl_alikean fl_alikecdv fl_alikect), fl_alikeosl⟩)
    (z119 : PySem.W.codeIn K fl_alikecdv "_law_alike" = true)
    (z120 : PySem.W.keepIn K (.ref fl_alike) = true)
    (z121 : PySem.W.nsIn K mainGlobals "_law_num" = some (some (.ref fl_num)))
    (z122 : K.lookup fl_num = some ⟨fl_numoc, fl_numod, .func (PySem.W.fnOf "_law_num" "_law_num" (defArgs s_l_num) (defBody s_l_num) (defScope s_l_num) .none fl_numkV fl_numdoc fl_numpm fl_numan fl_numcdv fl_numct), fl_numosl⟩)
    (z123 : PySem.W.codeIn K fl_numcdv "_law_num" = true)
    (z124 : PySem.W.keepIn K (.ref fl_num) = true)
    (z125 : PySem.W.nsIn K mainGlobals "_law_row" = some (some (.ref fl_row)))
    (z126 : K.lookup fl_row = some ⟨fl_rowoc, fl_rowod, .func (PySem.W.fnOf "_law_row" "_law_row" (defArgs s_l_row) (defBody s_l_row) (defScope s_l_row) .none fl_rowkV fl_rowdoc fl_rowpm fl_rowan fl_rowcdv fl_rowct), fl_rowosl⟩)
    (z127 : PySem.W.codeIn K fl_rowcdv "_law_row" = true)
    (z128 : PySem.W.keepIn K (.ref fl_row) = true)
    (z129 : PySem.W.nsIn K mainGlobals "_law_name" = some (some (.ref fl_name)))
    (z130 : K.lookup fl_name = some ⟨fl_nameoc, fl_nameod, .func (PySem.W.fnOf "_law_name" "_law_name" (defArgs s_l_name) (defBody s_l_name) (defScope s_l_name) .none fl_namekV fl_namedoc fl_namepm fl_namean fl_namecdv fl_namect), fl_nameosl⟩)
    (z131 : PySem.W.codeIn K fl_namecdv "_law_name" = true)
    (z132 : PySem.W.keepIn K (.ref fl_name) = true)
    (z133 : PySem.W.nsIn K mainGlobals "_law_rows" = some (some (.ref fl_rows)))
    (z134 : K.lookup fl_rows = some ⟨fl_rowsoc, fl_rowsod, .func (PySem.W.fnOf "_law_rows" "_law_rows" (defArgs s_l_rows) (defBody s_l_rows) (defScope s_l_rows) .none fl_rowskV fl_rowsdoc fl_rowspm fl_rowsan fl_rowscdv fl_rowsct), fl_rowsosl⟩)
    (z135 : PySem.W.codeIn K fl_rowscdv "_law_rows" = true)
    (z136 : PySem.W.keepIn K (.ref fl_rows) = true)
    (z137 : PySem.W.nsIn K mainGlobals "_law_asked" = some (some (.ref fl_asked)))
    (z138 : K.lookup fl_asked = some ⟨fl_askedoc, fl_askedod, .func (PySem.W.fnOf "_law_asked" "_law_asked" (defArgs s_l_asked) (defBody s_l_asked) (defScope s_l_asked) .none fl_askedkV fl_askeddoc fl_askedpm fl_askedan fl_askedcdv fl_askedct), fl_askedosl⟩)
    (z139 : PySem.W.codeIn K fl_askedcdv "_law_asked" = true)
    (z140 : PySem.W.keepIn K (.ref fl_asked) = true)
    (z141 : PySem.W.nsIn K mainGlobals "_law_due" = some (some (.ref fl_due)))
    (z142 : K.lookup fl_due = some ⟨fl_dueoc, fl_dueod, .func (PySem.W.fnOf "_law_due" "_law_due" (defArgs s_l_due) (defBody s_l_due) (defScope s_l_due) .none fl_duekV fl_duedoc fl_duepm fl_duean fl_duecdv fl_duect), fl_dueosl⟩)
    (z143 : PySem.W.codeIn K fl_duecdv "_law_due" = true)
    (z144 : PySem.W.keepIn K (.ref fl_due) = true)
    (z145 : PySem.W.nsIn K mainGlobals "_law_done" = some (some (.ref fl_done)))
    (z146 : K.lookup fl_done = some ⟨fl_doneoc, fl_doneod, .func (PySem.W.fnOf "_law_done" "_law_done" (defArgs s_l_done) (defBody s_l_done) (defScope s_l_done) .none fl_donekV fl_donedoc fl_donepm fl_donean fl_donecdv fl_donect), fl_doneosl⟩)
    (z147 : PySem.W.codeIn K fl_donecdv "_law_done" = true)
    (z148 : PySem.W.keepIn K (.ref fl_done) = true)
    (z149 : PySem.W.nsIn K mainGlobals "_law_deed" = some (some (.ref fl_deed)))
    (z150 : K.lookup fl_deed = some ⟨fl_deedoc, fl_deedod, .func (PySem.W.fnOf "_law_deed" "_law_deed" (defArgs s_l_deed) (defBody s_l_deed) (defScope s_l_deed) .none fl_deedkV fl_deeddoc fl_deedpm fl_deedan fl_deedcdv fl_deedct), fl_deedosl⟩)
    (z151 : PySem.W.codeIn K fl_deedcdv "_law_deed" = true)
    (z152 : PySem.W.keepIn K (.ref fl_deed) = true)
    (z153 : PySem.W.nsIn K mainGlobals "_law_is_files" = some (some (.ref fl_is_files)))
    (z154 : K.lookup fl_is_files = some ⟨fl_is_filesoc, fl_is_filesod, .func (PySem.W.fnOf "_law_is_files" "_law_is_files" (defArgs s_l_is_files) (defBody s_l_is_files) (defScope s_l_is_files) .none fl_is_fileskV fl_is_filesdoc fl_is_filespm fl_is_filesan fl_is_filescdv fl_is_filesct), fl_is_filesosl⟩)
    (z155 : PySem.W.codeIn K fl_is_filescdv "_law_is_files" = true)
    (z156 : PySem.W.keepIn K (.ref fl_is_files) = true)
    (z157 : PySem.W.nsIn K mainGlobals "law" = some (some (.ref flaw)))
    (z158 : K.lookup flaw = some ⟨flawoc, flawod, .func (PySem.W.fnOf "law" "law" (defArgs s_law) (defBody s_law) (defScope s_law) .none flawkV flawdoc flawpm flawan flawcdv flawct), flawosl⟩)
    (z159 : PySem.W.codeIn K flawcdv "law" = true)
    (z160 : PySem.W.keepIn K (.ref flaw) = true) : ∃ cP cA cB cC c1 c2 c3 c4 c5 c6 cI, Txt K mg cP cA cB cC c1 c2 c3 c4 c5 c6 cI :=
  ⟨cP, cA, cB, cC, c1, c2, c3, c4, c5, c6, cI, glc_mk X G z1, exc_mk X G z2 z3, exc_mk X G z4 z5, exc_mk X G z6 z7, glc_mk X G z8, glc_mk X G z9, glc_mk X G z10, glc_mk X G z11, glc_mk X G z12, glc_mk X G z13, exci_mk z14 z15 z16 z17 z18 z19 z20 z21, z22, z23, z24, z25, z26, z27, exci_mk z28 z29 z30 z31 z32 z33 z34 z35, z36, z37, z38, z39, z40, z41, exci_mk z42 z43 z44 z45 z46 z47 z48 z49, z50, z51, z52, z53, z54, z55, cls_mk X G z56 z57 z58 z59 z60, z61, idef_mk z62 z63 z64 z65 z66 z67 z68, mdef_mk z69 z70 z71 z72 z73, mdef_mk z74 z75 z76 z77 z78, mdef_mk z79 z80 z81 z82 z83, mdef_mk z84 z85 z86 z87 z88, mdef_mk z89 z90 z91 z92 z93, mdef_mk z94 z95 z96 z97 z98, mdef_mk z99 z100 z101 z102 z103, mdef_mk z104 z105 z106 z107 z108, def_mk X G z109 z110 z111 z112, def_mk X G z113 z114 z115 z116, def_mk X G z117 z118 z119 z120, def_mk X G z121 z122 z123 z124, def_mk X G z125 z126 z127 z128, def_mk X G z129 z130 z131 z132, def_mk X G z133 z134 z135 z136, def_mk X G z137 z138 z139 z140, def_mk X G z141 z142 z143 z144, def_mk X G z145 z146 z147 z148, def_mk X G z149 z150 z151 z152, def_mk X G z153 z154 z155 z156, def_mk X G z157 z158 z159 z160⟩

local macro_rules | `(tactic| walk_at "rd") => `(tactic| simp only [L2.tSeq, L2.tAsg, L2.gName, L2.tVar, L2.tC, L2.tOp, L2.tUn, L2.rU, L2.rI, L2.rI0, L2.tRet, L2.tRetN, L2.tIfS, L2.tNot, L2.tAnd, L2.tOr, L2.tAndV, L2.tOrV, L2.tNotV, L2.tTest, L2.tB, L2.tIf, L2.tCall, L2.tCB, L2.tCons, L2.tNil, L2.tLst, L2.tTup, L2.tSl, L2.rSlL, L2.rCat, L2.rRep, L2.tNoPart, L2.tPart, L2.iList, L2.tDrop, L2.tNext, L2.start, L2.CDiv, L2.CMul, L2.rEq, L2.rNe, L2.scal, L2.rIxA, L2.rIxL, L2.rIxT, L2.rLenA, L2.rIsiN, L2.tBM, L2.tBM0, L2.rAppend, L2.tyN, L2.tTry, L2.tTry0, L2.tRaise, L2.tYes, L2.tFldC, L2.sFldC, L2.tMeth, L2.tMake, L2.gSub, L2.rSetL, L2.gTup, L2.gCons, L2.gNil, L2.tDNewK, L2.sDPut, L2.tDIn, L2.tDNotIn, L2.tDGet, 
  List.map_cons, List.map_nil, List.length_cons, List.length_nil, List.append_nil, List.nil_append, List.cons_append, List.replicate, List.getElem?_cons_zero, List.getElem?_cons_succ, List.set_cons_zero, List.set_cons_succ, Option.some.injEq, L2.V.int.injEq, L2.V.ref.injEq, L2.V.bl.injEq, L2.V.str.injEq, L2.V.ty.injEq, L2.HO.lst.injEq, L2.HO.tup.injEq, L2.HO.dK.injEq, List.cons.injEq, and_assoc,
  exists_eq_left, exists_eq_left', exists_and_left, exists_eq_right, exists_eq_right', and_true, true_and, exists_const, exists_eq, exists_eq', Nat.reduceSub, Nat.reduceAdd, Nat.zero_add, Nat.add_zero, reduceCtorEq, false_and, and_false, or_false, false_or, exists_false, true_or, or_true, Bool.not_true, Bool.not_false, Bool.false_eq_true, if_true, if_false, decide_true, decide_false, decide_eq_true_eq, Bool.not_eq_true', decide_eq_false_iff_not, Int.cast_ofNat_Int, ite_not, not_true_eq_false, not_false_eq_true, L2.cxOf_K,
  L2.atI_0, L2.atI_1, L2.atI_2, L2.atI_3, L2.atI_4, L2.isi_int_int, L2.isi_int_bool, L2.isi_bool_int, L2.isi_bool_bool, L2.isi_none_int, L2.isi_none_bool, L2.isi_str_int, L2.isi_str_bool, L2.isi_list_int, L2.isi_list_bool, L2.isi_tuple_int, L2.isi_tuple_bool, L2.isi_list_list, L2.isi_tuple_tuple, L2.isi_tuple_list, L2.isi_list_tuple, L2.isi_none_list, L2.isi_none_tuple, L2.isi_str_list, L2.isi_int_list, L2.isi_bool_list, L2.isi_int_tuple, L2.isi_bool_tuple, L2.isi_str_str, L2.isi_dict_int, L2.isi_dict_bool, L2.isi_dict_list, L2.isi_str_tuple, L2.isi_int_str, L2.isi_bool_str, L2.isi_none_str, L2.isi_list_str, L2.isi_tuple_str, L2.isi_dict_dict, L2.whole_int, L2.whole_non, L2.whole_bl, L2.whole_str, L2.whole_ref, L2.cpow_60, L2.cpow_59, L2.cpow_20, L2.cpow_9, L2.cpow_6, Int.reduceToNat, Int.reducePow, Int.reduceSub, Int.reduceMul, Int.reduceAdd, Int.reduceNeg, Int.reduceLT, Int.reduceLE, L2.upd_same, List.any_nil])
local macro_rules | `(tactic| walk_at "mem") => `(tactic| repeat (first | with_reducible exact List.mem_cons_self | with_reducible assumption | with_reducible refine List.mem_cons_of_mem _ ?_))
local macro_rules | `(tactic| walk_at "sub") => `(tactic| repeat (first | with_reducible exact List.Sublist.refl _ | with_reducible apply List.Sublist.cons₂ | with_reducible apply List.Sublist.cons))
local macro_rules | `(tactic| walk_at "led") => `(tactic| first | with_reducible assumption | exact L2.Led.sub (by assumption) (by walk_at "sub"))
local macro_rules | `(tactic| walk_at "cell") => `(tactic| first | with_reducible assumption | with_reducible exact L2.Led.get (by assumption) (by walk_at "mem"))
local macro_rules | `(tactic| walk_at "atc") => `(tactic| first | with_reducible assumption | with_reducible exact L2.atI_0 | with_reducible exact L2.atI_1 | with_reducible exact L2.atI_2 | with_reducible exact L2.atI_3 | with_reducible exact L2.atI_4 | with_reducible exact L2.atI_5 | with_reducible exact L2.atI_6 | with_reducible exact L2.atI_7)
local macro_rules | `(tactic| walk_at "szs") => `(tactic| first | decide | (simp only [List.length_cons, List.length_nil, List.length_append, List.length_map]; have hsz := PySem.sizeLine_eq; omega) | (have hsz := PySem.sizeLine_eq; omega))
local macro_rules | `(tactic| walk_at "tyc") => `(tactic| first | with_reducible exact L2.tyI | with_reducible exact L2.tyB | with_reducible exact L2.tyS | with_reducible exact L2.tyO | exact L2.tyL (by walk_at "cell") | exact L2.tyT (by walk_at "cell") | exact L2.tyD (by walk_at "cell") | with_reducible assumption)
local macro_rules | `(tactic| walk_at "cnd") => `(tactic| first | omega | (unfold L2.CDiv; omega) | (unfold L2.CMul; omega) | (unfold L2.CDivN; omega) | (dsimp only; omega) | exact PySem.IntMulOk.of_right (by decide +kernel) | exact PySem.IntMulOk.of_left (by decide +kernel))
local macro_rules | `(tactic| walk_at "seq") => `(tactic| first | assumption | exact L2.SqL.of (by walk_at "cell") | exact L2.Same.seq (by assumption) (by assumption) | exact L2.Scr.seq (by assumption) (by walk_at "led"))
local macro_rules | `(tactic| walk_at "isi") => `(tactic| first | with_reducible exact L2.isi_int_int | with_reducible exact L2.isi_int_bool | with_reducible exact L2.isi_bool_int | with_reducible exact L2.isi_bool_bool | with_reducible exact L2.isi_none_int | with_reducible exact L2.isi_none_bool | with_reducible exact L2.isi_str_int | with_reducible exact L2.isi_str_bool | with_reducible exact L2.isi_list_int | with_reducible exact L2.isi_list_bool | with_reducible exact L2.isi_tuple_int | with_reducible exact L2.isi_tuple_bool | with_reducible exact L2.isi_list_list | with_reducible exact L2.isi_tuple_tuple | with_reducible exact L2.isi_tuple_list | with_reducible exact L2.isi_list_tuple | with_reducible exact L2.isi_none_list | with_reducible exact L2.isi_none_tuple | with_reducible exact L2.isi_str_list | with_reducible exact L2.isi_int_list | with_reducible exact L2.isi_bool_list | with_reducible exact L2.isi_int_tuple | with_reducible exact L2.isi_bool_tuple | with_reducible exact L2.isi_str_str | with_reducible exact L2.isi_str_tuple | with_reducible exact L2.isi_int_str | with_reducible exact L2.isi_bool_str | with_reducible exact L2.isi_none_str | with_reducible exact L2.isi_list_str | with_reducible exact L2.isi_tuple_str | rfl)
local macro_rules | `(tactic| walk_at "cl") => `(tactic| ((repeat (with_reducible rename L2.Is _ _ => zz; clear zz)); (repeat (with_reducible rename L2.Same _ _ => zz; clear zz)); (repeat (with_reducible rename L2.VK => zz; clear zz))))
local macro_rules | `(tactic| walk_at "g1") => `(tactic| first
  | with_reducible refine L2.hidI fun _ _ => ?_
  | with_reducible refine L2.varH rfl ?_
  | with_reducible refine L2.conH ?_
  | with_reducible refine L2.nilH ?_
  | with_reducible refine L2.i0H ?_
  | with_reducible refine L2.consH fun _ _ => ?_
  | with_reducible refine L2.opH fun _ _ => ?_
  | with_reducible refine L2.nameH ?_
  | with_reducible refine L2.nextH ?_
  | with_reducible refine L2.seqI fun _ _ => ?_
  | with_reducible refine L2.asgH fun _ _ => ?_
  | with_reducible refine L2.retH fun _ _ => ?_
  | with_reducible refine L2.dropH fun _ _ => ?_
  | with_reducible refine L2.ifH fun _ _ => ?_
  | with_reducible refine L2.testH fun _ _ => ?_
  | with_reducible refine L2.tBH fun _ _ => ?_
  | with_reducible refine L2.notH fun _ _ => ?_
  | with_reducible refine L2.andH fun _ _ => ?_
  | with_reducible refine L2.orH fun _ _ => ?_
  | with_reducible refine L2.andVH fun _ _ => ?_
  | with_reducible refine L2.orVH fun _ _ => ?_
  | with_reducible refine L2.notVH fun _ _ => ?_
  | with_reducible refine L2.ifXH fun _ _ => ?_
  | with_reducible refine L2.unH fun _ _ => ?_
  | with_reducible refine L2.uH ?_
  | with_reducible refine L2.slH fun _ _ => ?_
  | with_reducible refine L2.partH fun _ _ => ?_
  | with_reducible refine L2.noPartH ?_
  | with_reducible refine L2.tupH fun _ _ => ?_
  | with_reducible refine L2.lstH fun _ _ => ?_
  | with_reducible refine L2.callH fun _ _ => ?_
  | with_reducible refine L2.cbH fun _ _ => ?_
  | with_reducible refine L2.methH fun _ _ => ?_
  | with_reducible refine L2.makeH fun _ _ => ?_
  | with_reducible refine L2.fldH fun _ _ => ?_
  | with_reducible refine L2.sfldH fun _ _ => ?_
  | with_reducible refine L2.bmH fun _ _ => ?_
  | with_reducible refine L2.bm0H fun _ _ => ?_
  | with_reducible refine L2.dputH fun _ _ => ?_
  | with_reducible refine L2.gsubH fun _ _ => ?_
  | with_reducible refine L2.dgetH fun _ _ => ?_
  | with_reducible refine L2.dinH fun _ _ => ?_
  | with_reducible refine L2.dninH fun _ _ => ?_
  | with_reducible refine L2.Is.use (by assumption) ?_
  | with_reducible refine L2.use2 (by assumption) ?_
  | with_reducible refine L2.blH ?_
  | with_reducible refine L2.intH ?_
  | with_reducible refine L2.eqIH ?_
  | with_reducible refine L2.neIH ?_
  | with_reducible refine L2.eqSH ?_
  | with_reducible refine L2.neSH ?_
  | with_reducible refine L2.eqBH ?_
  | with_reducible refine L2.neBH ?_
  | with_reducible refine L2.iteT ?_
  | with_reducible refine L2.iteF ?_
  | with_reducible refine L2.iteD (fun _ => ?_) (fun _ => ?_)
  | with_reducible refine L2.iteND (fun _ => ?_) (fun _ => ?_)
  | with_reducible refine L2.iteNT ?_
  | with_reducible refine L2.iteNF ?_
  | ((with_reducible show L2.Ends.rt _ _ _); with_reducible refine L2.rtH ?_)
  | ((with_reducible show L2.Ends.nx _ _ _); with_reducible refine L2.nxH ?_)
  | with_reducible refine L2.pow60H ?_
  | with_reducible refine L2.pow59H ?_
  | with_reducible refine L2.pow20H ?_
  | with_reducible refine L2.pow40H ?_
  | with_reducible refine L2.pow30H ?_
  | with_reducible refine L2.pow9H ?_
  | with_reducible refine L2.pow6H ?_
  | ((with_reducible show L2.rI _ _ _ _ _ _); with_reducible refine L2.iH (by walk_at "cnd") ?_)
  | ((with_reducible show (_ ≤ PySem.sizeLine) ∧ _); with_reducible refine And.intro (by walk_at "szs") (L2.Led.alloc (by assumption) fun _ _ _ _ _ => ?_))
  | ((with_reducible show L2.rIxA _ _ _ _); with_reducible refine L2.ixLH (by walk_at "cell") (by walk_at "atc") ?_)
  | ((with_reducible show L2.rIxA _ _ _ _); with_reducible refine L2.ixTH (by walk_at "cell") (by walk_at "atc") ?_)
  | ((with_reducible show L2.rLenA _ _ _); with_reducible refine L2.lenLH (by walk_at "cell") ?_)
  | ((with_reducible show L2.rLenA _ _ _); with_reducible refine L2.lenTH (by walk_at "cell") ?_)
  | ((with_reducible show L2.rLenA _ _ _); with_reducible refine L2.lenDH (by walk_at "cell") ?_)
  | ((with_reducible show L2.rIsiN _ _ _); with_reducible refine L2.isiH (by walk_at "tyc") (by walk_at "isi") ?_)
  | ((with_reducible show L2.rCat _ _ _ _); with_reducible refine L2.catH (by walk_at "cell") (by walk_at "cell") (by walk_at "szs") (L2.Led.alloc (by assumption) fun _ _ _ _ _ => ?_))
  | ((with_reducible show ∃ (p : Addr) (ys : List L2.V), _ = [L2.V.ref p] ∧ _); with_reducible refine L2.listH (by walk_at "seq") (L2.Led.alloc (by assumption) fun _ _ _ _ _ => ?_))
  | ((with_reducible show ∃ (p : Addr) (ys : List L2.V), _ = [L2.V.ref p] ∧ _); with_reducible refine L2.tupOfH (by walk_at "seq") (L2.Led.alloc (by assumption) fun _ _ _ _ _ => ?_))
  | ((with_reducible show L2.rSlL _ _ _ _ _ _); with_reducible refine L2.slLH (by first | assumption | exact L2.SqL.of (by walk_at "cell") | exact L2.Same.seq (by assumption) (by assumption) | exact L2.Scr.seq (by assumption) (by walk_at "led")) (L2.Led.alloc (by assumption) fun _ _ _ _ _ => ?_)))
local macro_rules | `(tactic| walk_at "g2") => `(tactic| first
  | walk_at "g1"
  | ((with_reducible show ∃ (b : Addr) (dx : Addr) (fs : List (Str × L2.V)) (v : L2.V), _ ∧ _); with_reducible refine L2.fldR (by walk_at "cell") (by first | assumption | with_unfolding_all rfl) ?_)
  | ((with_reducible show ∃ (b : Addr) (dx : Addr) (fs : List (Str × L2.V)), _ ∧ _); with_reducible refine L2.methR (by walk_at "cell") (by first | assumption | with_unfolding_all rfl) ?_)
  | ((with_reducible show ∃ (b : Addr) (dx : Addr) (fs : List (Str × L2.V)), _ ∧ _); with_reducible refine L2.sfldR (by walk_at "cell") (by first | decide | with_unfolding_all exact Nat.le_of_ble_eq_true rfl) ?_)
  | ((with_reducible show ∃ (b : Addr) (o : Option L2.V), _ ∧ _); with_reducible refine L2.dinR (by walk_at "cell") ?_)
  | ((with_reducible show L2.tDNewK _ _ _); with_reducible refine L2.newDH (by assumption) fun _ _ _ _ _ => ?_)
  | with_reducible refine L2.isH ?_
  | with_reducible refine L2.isnH ?_)
local macro_rules | `(tactic| walk_at "gd") => `(tactic| repeat' walk_at "g2")
local macro_rules | `(tactic| walk_at "pf") => `(tactic| repeat (first | with_reducible exact List.Perm.refl _ | with_reducible apply L2.pcC | with_reducible apply L2.pcA | with_reducible apply L2.paC | with_reducible apply L2.paA))
local macro_rules | `(tactic| walk_at "sp") => `(tactic| repeat (first | (with_reducible apply L2.spC; · walk_at "pf") | (with_reducible apply L2.spA; · walk_at "pf") | with_reducible exact L2.spR | with_reducible exact L2.spN | with_reducible apply L2.spD | with_reducible apply L2.spDA))
local macro_rules | `(tactic| walk_at "g3") => `(tactic| first
  | walk_at "g2"
  | with_reducible refine L2.dget1H fun _ _ => ?_
  | with_reducible refine L2.dpop2H (fun _ _ => ?_) L2.tcMono
  | ((with_reducible show (∃ (a : Addr), _ ∧ L2.IsD _ _) ∧ _); with_reducible refine And.intro (L2.isD_of (by walk_at "cell")) ?_)
  | ((with_reducible show ∃ (b : Addr) (o : Option L2.V), _ ∧ _); with_reducible refine L2.dget1R (by walk_at "cell") ?_)
  | ((with_reducible show L2.rSlT _ _ none (some 2) _ _); with_reducible refine L2.sl4a (by walk_at "cell") (L2.Led.alloc (by assumption) fun _ _ _ _ _ => ?_))
  | ((with_reducible show L2.rSlT _ _ (some 2) none _ _); with_reducible refine L2.sl4b (by walk_at "cell") (L2.Led.alloc (by assumption) fun _ _ _ _ _ => ?_)))
local macro_rules | `(tactic| walk_at "ge") => `(tactic| repeat' walk_at "g3")

section
variable {P : Program} {w : World} {K : PySem.W.Frag} {mg : Str → Option Value} {base : Heap} {cP cA cB cC c1 c2 c3 c4 c5 c6 cI : Addr}
theorem unit1 {A : Around} {k : Nat} (hr : Room k A) : A.units + 1 < cLine := Nat.lt_of_le_of_lt (Nat.add_le_add_left (by decide) _) hr.units
def fiFld (d : Addr) : List (Str × V) := [("rows_by_name", .ref d)]
abbrev FiC (cI b dx d : Addr) (es : FEnts) (R : Cells) : Cells := (b, .ins cI dx (fiFld d)) :: (d, .dK (kvF es)) :: (filC es ++ R)
structure FH (cI : Addr) (H : Hp) (b dx d : Addr) (es : FEnts) : Prop where
  cb : H b = some (.ins cI dx (fiFld d))
  cd : H d = some (.dK (kvF es))
  cf : ∀ e ∈ es, H e.2.1 = some (.lst (rfs e.2.2))
  nd : (es.map (·.1)).Nodup
theorem FH.of {cI : Addr} {H : Hp} {b dx d : Addr} {es : FEnts} {R : Cells} (hL : Led H (FiC cI b dx d es R)) (nd : (es.map (·.1)).Nodup) : FH cI H b dx d es :=
  ⟨hL.get List.mem_cons_self, hL.get (List.mem_cons_of_mem _ List.mem_cons_self), fun e he => hL.get (List.mem_cons_of_mem _ (List.mem_cons_of_mem _ (List.mem_append_left _ (filC_mem he)))), nd⟩
theorem val_in (es : FEnts) (z : Str) : (valV (kvF es) (.inr z)).isSome = decide (z ∈ es.map (·.1)) := by
  by_cases h : z ∈ es.map (·.1)
  · rw [decide_eq_true h, kvF_val, Option.isSome_map]
    obtain ⟨e, he, rfl⟩ := List.mem_map.mp h
    rw [List.find?_isSome]
    exact ⟨e, he, decide_eq_true rfl⟩
  · rw [decide_eq_false h, kvF_none h]; rfl
def spIInit (cI : Addr) : Sp := fun vs H Q _ => ∃ (b dx : Addr) (L : Cells), vs = [.ref b] ∧ Led H ((b, .ins cI dx []) :: L) ∧ ∀ d H', Led H' (FiC cI b dx d [] L) → Q .non H'
theorem ok_iinit (D : IDef K cI "Files.__init__" s_Files_init) (T : Txt K mg cP cA cB cC c1 c2 c3 c4 c5 c6 cI) : InitD P w K mg base 1 cI ["self"] (spIInit cI) := by
  have sc := sc_Files_init
  refine D.ok sc_Files_init (fun vs H Q E h => ?_) (fun _ _ _ _ _ _ us hl => match us, hl with | [_], _ => rfl) (fun f cdv A outer s H vs Q E hr h => ?_)
  · obtain ⟨_, _, _, rfl, _⟩ := h; rfl
  · obtain ⟨b, dx, L, rfl, hL, k⟩ := h
    refine ⟨_, (@pss_one _ _ _ (@ps_fldC _ _ _ _ _ _ _ _ _ _ T.Files T.n_rows_by_name (@pv _ 0 _ _ (by rfl) (by first | exact Or.inl rfl | exact Or.inr (Or.inl rfl) | exact Or.inr (Or.inr rfl)) (by decide) (by decide)) (@pe_dnewK _ _) (by rfl))), ?_⟩
    walk_at "gd"
    rename_i d H5 _ hl6 _
    have hl7 := (hl6.swap).put (o' := .ins cI dx (fiFld d)) rfl rfl
    exact k d _ hl7
def spAskN (cI cA : Addr) : Sp := fun vs H Q E => ∃ (b dx d : Addr) (es : FEnts) (z : Str), vs = [.ref b, .str z] ∧ FH cI H b dx d es ∧ (z ∈ es.map (·.1) → Q .non H) ∧ (z ∉ es.map (·.1) → E (.ref cA) none H)
theorem ok_ask_name (D : MDef K cI "ask_name" "Files.ask_name" s_Files_ask_name) (B : Blt mg) (T : Txt K mg cP cA cB cC c1 c2 c3 c4 c5 c6 cI) : MethD P w K mg base 1 cI "ask_name" ["self", "name"] (spAskN cI cA) := by
  have sc := sc_Files_ask_name
  refine D.okR sc_Files_ask_name (fun vs H Q E h => ?_) (fun _ _ _ _ _ _ us hl => match us, hl with | [_, _], _ => rfl) (fun f cdv A outer s H vs Q E hr h => ?_)
  · obtain ⟨_, _, _, _, _, rfl, _⟩ := h; rfl
  · obtain ⟨b, dx, d, es, z, rfl, fh, k1, k2⟩ := h
    have hu := unit1 hr
    have hf : (fiFld d).lookup (Str.ofString "rows_by_name") = some (.ref d) := rfl
    have c1 := fh.cb
    have c2 := fh.cd
    refine ⟨_, (@pss_one _ _ _ (@ps_if _ _ _ _ _ _ _ _ (@pt_cmp _ _ _ _ _ _ (@pc_dnotin _ _ _ _ _ hu (@pv _ 1 _ _ (by rfl) (by first | exact Or.inl rfl | exact Or.inr (Or.inl rfl) | exact Or.inr (Or.inr rfl)) (by decide) (by decide)) (@pe_fldC _ _ _ _ _ _ _ T.Files T.n_rows_by_name (@pv _ 0 _ _ (by rfl) (by first | exact Or.inl rfl | exact Or.inr (Or.inl rfl) | exact Or.inr (Or.inr rfl)) (by decide) (by decide)) (by rfl))) (by first | exact nobehind _ (by decide) (by decide) | rfl)) (@pss_one _ _ _ (@ps_raise _ _ _ _ _ _ _ _ _ _ _ _ _ _ _ _ _ _ _ _ _ _ T.NoFile (by rfl) (@pa_cons _ _ _ _ _ (@pe_str _ _ _ _) (@pa_nil _) (by rfl)) (by decide) (by rfl))) (@pss_nil _))), ?_⟩
    walk_at "ge"
    refine dinS c2 ?_
    rw [val_in]
    by_cases hz : z ∈ es.map (·.1)
    · rw [decide_eq_true hz]
      walk_at "ge"
      exact k1 hz
    · rw [decide_eq_false hz]
      walk_at "ge"
      refine raiseI fun R hR => ?_
      walk_at "ge"
      exact ⟨by decide, k2 hz⟩
def spSize (cI cA : Addr) : Sp := fun vs H Q E => ∃ (b dx d : Addr) (es : FEnts) (z : Str), vs = [.ref b, .str z] ∧ FH cI H b dx d es ∧ (∀ e ∈ es, e.1 = z → Q (.int (e.2.2.length : Nat)) H) ∧ (z ∉ es.map (·.1) → E (.ref cA) none H)
theorem ok_size (D : MDef K cI "size_of" "Files.size_of" s_Files_size_of) (B : Blt mg) (T : Txt K mg cP cA cB cC c1 c2 c3 c4 c5 c6 cI) (M_Files_ask_name : MethD P w K mg base 1 cI "ask_name" ["self", "name"] (spAskN cI cA)) : MethD P w K mg base 2 cI "size_of" ["self", "name"] (spSize cI cA) := by
  have sc := sc_Files_size_of
  refine D.okR sc_Files_size_of (fun vs H Q E h => ?_) (fun _ _ _ _ _ _ us hl => match us, hl with | [_, _], _ => rfl) (fun f cdv A outer s H vs Q E hr h => ?_)
  · obtain ⟨_, _, _, _, _, rfl, _⟩ := h; rfl
  · obtain ⟨b, dx, d, es, z, rfl, fh, k1, k2⟩ := h
    have hu := unit1 hr
    have hf : (fiFld d).lookup (Str.ofString "rows_by_name") = some (.ref d) := rfl
    have c1 := fh.cb
    have c2 := fh.cd
    refine ⟨_, (@pss_cons _ _ _ _ _ (@ps_expr _ _ _ _ (@pe_methD _ _ _ _ _ _ _ _ _ _ _ _ _ _ _ _ T.Files M_Files_ask_name (hr.mono (by omega)) passR (@pv _ 0 _ _ (by rfl) (by first | exact Or.inl rfl | exact Or.inr (Or.inl rfl) | exact Or.inr (Or.inr rfl)) (by decide) (by decide)) (@pa_cons _ _ _ _ _ (@pv _ 1 _ _ (by rfl) (by first | exact Or.inl rfl | exact Or.inr (Or.inl rfl) | exact Or.inr (Or.inr rfl)) (by decide) (by decide)) (@pa_nil _) (by rfl)) (by rfl) (by rfl) (by rfl)) (by rfl)) (@pss_one _ _ _ (@ps_ret _ _ _ _ (@pe_callB _ _ _ _ _ _ _ _ _ call_lenA (by rfl) B.len bt_len (@pa_cons _ _ _ _ _ (@pe_dget _ _ _ _ _ _ hu (@pe_fldC _ _ _ _ _ _ _ T.Files T.n_rows_by_name (@pv _ 0 _ _ (by rfl) (by first | exact Or.inl rfl | exact Or.inr (Or.inl rfl) | exact Or.inr (Or.inr rfl)) (by decide) (by decide)) (by rfl)) (@pv _ 1 _ _ (by rfl) (by first | exact Or.inl rfl | exact Or.inr (Or.inl rfl) | exact Or.inr (Or.inr rfl)) (by decide) (by decide)) (fun _ _ => rfl)) (@pa_nil _) (by rfl)) (by decide) (by decide) (by rfl) (by rfl))))), ?_⟩
    refine seqK fun M1 K1 => ?_
    walk_at "ge"
    refine ⟨b, dx, d, es, z, rfl, fh, fun hz => ?_, fun hz => ?_⟩
    · obtain ⟨e, he, rfl⟩ := List.mem_map.mp hz
      have c3 := fh.cf e he
      walk_at "ge"
      refine K1.use ?_
      walk_at "cl"
      clear K1
      walk_at "ge"
      refine dgetS c2 (kvF_some fh.nd he) ?_
      walk_at "ge"
      rw [rfs_len]
      exact k1 e he rfl
    · exact k2 hz
def spAskP (cI cA cB : Addr) : Sp := fun vs H Q E => ∃ (b dx d : Addr) (es : FEnts) (z : Str) (p : Int), vs = [.ref b, .str z, .int p] ∧ FH cI H b dx d es ∧ (∀ e ∈ es, e.1 = z → 0 ≤ p → p < e.2.2.length → Q .non H) ∧ (∀ e ∈ es, e.1 = z → ¬ (0 ≤ p ∧ p < e.2.2.length) → E (.ref cB) none H) ∧ (z ∉ es.map (·.1) → E (.ref cA) none H)
theorem ok_ask_page (D : MDef K cI "ask_page" "Files.ask_page" s_Files_ask_page) (B : Blt mg) (T : Txt K mg cP cA cB cC c1 c2 c3 c4 c5 c6 cI) (M_Files_size_of : MethD P w K mg base 2 cI "size_of" ["self", "name"] (spSize cI cA)) : MethD P w K mg base 3 cI "ask_page" ["self", "name", "page"] (spAskP cI cA cB) := by
  have sc := sc_Files_ask_page
  refine D.okR sc_Files_ask_page (fun vs H Q E h => ?_) (fun _ _ _ _ _ _ us hl => match us, hl with | [_, _, _], _ => rfl) (fun f cdv A outer s H vs Q E hr h => ?_)
  · obtain ⟨_, _, _, _, _, _, rfl, _⟩ := h; rfl
  · obtain ⟨b, dx, d, es, z, p, rfl, fh, k1, k2, k3⟩ := h
    have c1 := fh.cb
    refine ⟨_, (@pss_cons _ _ _ _ _ (@ps_set _ _ 3 _ _ _ _ sc.nd rfl (by first | exact Or.inl rfl | exact Or.inr rfl) (@pe_methD _ _ _ _ _ _ _ _ _ _ _ _ _ _ _ _ T.Files M_Files_size_of (hr.mono (by omega)) passR (@pv _ 0 _ _ (by rfl) (by first | exact Or.inl rfl | exact Or.inr (Or.inl rfl) | exact Or.inr (Or.inr rfl)) (by decide) (by decide)) (@pa_cons _ _ _ _ _ (@pv _ 1 _ _ (by rfl) (by first | exact Or.inl rfl | exact Or.inr (Or.inl rfl) | exact Or.inr (Or.inr rfl)) (by decide) (by decide)) (@pa_nil _) (by rfl)) (by rfl) (by rfl) (by rfl)) (by rfl) (by first | exact .inl rfl | exact .inr rfl | assumption)) (@pss_one _ _ _ (@ps_if _ _ _ _ _ _ _ _ (@PW.pt _ _ _ (@pw_or _ _ _ _ _ _ _ (@pt_cmpR _ _ _ _ _ _ _ _ op_lt (@pv _ 2 _ _ (by rfl) (by first | exact Or.inl rfl | exact Or.inr (Or.inl rfl) | exact Or.inr (Or.inr rfl)) (by decide) (by decide)) (@pe_int _ _ _ _) (nomark _)) (@pw_or1 _ _ _ _ (@pt_cmpR _ _ _ _ _ _ _ _ op_ge (@pv _ 2 _ _ (by rfl) (by first | exact Or.inl rfl | exact Or.inr (Or.inl rfl) | exact Or.inr (Or.inr rfl)) (by decide) (by decide)) (@pv _ 3 _ _ (by rfl) (by first | exact Or.inl rfl | exact Or.inr (Or.inl rfl) | exact Or.inr (Or.inr rfl)) (by decide) (by decide)) (nomark _))))) (@pss_one _ _ _ (@ps_raise _ _ _ _ _ _ _ _ _ _ _ _ _ _ _ _ _ _ _ _ _ _ T.NoPage (by rfl) (@pa_cons _ _ _ _ _ (@pe_str _ _ _ _) (@pa_nil _) (by rfl)) (by decide) (by rfl))) (@pss_nil _)))), ?_⟩
    refine seqK fun M1 K1 => ?_
    walk_at "ge"
    refine ⟨b, dx, d, es, z, rfl, fh, fun e he hz => ?_, fun hz => ?_⟩
    · walk_at "ge"
      refine K1.use ?_
      walk_at "cl"
      clear K1
      walk_at "ge"
      · refine raiseI fun R hR => ?_
        walk_at "ge"
        exact ⟨by decide, k2 e he hz (by omega)⟩
      · refine raiseI fun R hR => ?_
        walk_at "ge"
        exact ⟨by decide, k2 e he hz (by omega)⟩
      · exact k1 e he hz (by omega) (by omega)
    · exact k3 hz
def spRowAt (cI cA cB : Addr) : Sp := fun vs H Q E => ∃ (b dx d : Addr) (es : FEnts) (z : Str) (p : Int) (L : Cells), vs = [.ref b, .str z, .int p] ∧ Led H L ∧ FH cI H b dx d es ∧ (∀ e ∈ es, ∀ r ∈ e.2.2, H r.1 = some (.lst (r.2.map V.int)) ∧ r.2.length ≤ 600) ∧ (∀ e ∈ es, e.1 = z → ∀ (j : Nat) r, p = ((j : Nat) : Int) → e.2.2[j]? = some r → ∀ q H', Led H' ((q, .lst (r.2.map V.int)) :: L) → Q (.ref q) H') ∧ (∀ e ∈ es, e.1 = z → ¬ (0 ≤ p ∧ p < e.2.2.length) → E (.ref cB) none H) ∧ (z ∉ es.map (·.1) → E (.ref cA) none H)
theorem ok_row_at (D : MDef K cI "row_at" "Files.row_at" s_Files_row_at) (B : Blt mg) (T : Txt K mg cP cA cB cC c1 c2 c3 c4 c5 c6 cI) (M_Files_ask_page : MethD P w K mg base 3 cI "ask_page" ["self", "name", "page"] (spAskP cI cA cB)) : MethD P w K mg base 4 cI "row_at" ["self", "name", "page"] (spRowAt cI cA cB) := by
  have sc := sc_Files_row_at
  refine D.okR sc_Files_row_at (fun vs H Q E h => ?_) (fun _ _ _ _ _ _ us hl => match us, hl with | [_, _, _], _ => rfl) (fun f cdv A outer s H vs Q E hr h => ?_)
  · obtain ⟨_, _, _, _, _, _, _, rfl, _⟩ := h; rfl
  · obtain ⟨b, dx, d, es, z, p, L, rfl, hL, fh, hr4, k1, k2, k3⟩ := h
    have hu := unit1 hr
    have hf : (fiFld d).lookup (Str.ofString "rows_by_name") = some (.ref d) := rfl
    have c1 := fh.cb
    have c2 := fh.cd
    refine ⟨_, (@pss_cons _ _ _ _ _ (@ps_expr _ _ _ _ (@pe_methD _ _ _ _ _ _ _ _ _ _ _ _ _ _ _ _ T.Files M_Files_ask_page (hr.mono (by omega)) passR (@pv _ 0 _ _ (by rfl) (by first | exact Or.inl rfl | exact Or.inr (Or.inl rfl) | exact Or.inr (Or.inr rfl)) (by decide) (by decide)) (@pa_cons _ _ _ _ _ (@pv _ 1 _ _ (by rfl) (by first | exact Or.inl rfl | exact Or.inr (Or.inl rfl) | exact Or.inr (Or.inr rfl)) (by decide) (by decide)) (@pa_cons _ _ _ _ _ (@pv _ 2 _ _ (by rfl) (by first | exact Or.inl rfl | exact Or.inr (Or.inl rfl) | exact Or.inr (Or.inr rfl)) (by decide) (by decide)) (@pa_nil _) (by rfl)) (by rfl)) (by rfl) (by rfl) (by rfl)) (by rfl)) (@pss_one _ _ _ (@ps_ret _ _ _ _ (@pe_callTy _ _ _ _ _ _ _ _ _ (call_list_ofK (K := K) rfl) (by rfl) B.list bt_list (@pa_cons _ _ _ _ _ (@pe_ix _ _ _ _ _ _ _ ix_any (@pe_dget _ _ _ _ _ _ hu (@pe_fldC _ _ _ _ _ _ _ T.Files T.n_rows_by_name (@pv _ 0 _ _ (by rfl) (by first | exact Or.inl rfl | exact Or.inr (Or.inl rfl) | exact Or.inr (Or.inr rfl)) (by decide) (by decide)) (by rfl)) (@pv _ 1 _ _ (by rfl) (by first | exact Or.inl rfl | exact Or.inr (Or.inl rfl) | exact Or.inr (Or.inr rfl)) (by decide) (by decide)) (fun _ _ => rfl)) (@pv _ 2 _ _ (by rfl) (by first | exact Or.inl rfl | exact Or.inr (Or.inl rfl) | exact Or.inr (Or.inr rfl)) (by decide) (by decide)) (fun _ _ => rfl)) (@pa_nil _) (by rfl)) (by decide) (by decide) (by rfl) (by rfl))))), ?_⟩
    refine seqK fun M1 K1 => ?_
    walk_at "ge"
    refine ⟨b, dx, d, es, z, p, rfl, fh, fun e he hz p0 p1 => ?_, fun e he hz hp => ?_, fun hz => ?_⟩
    · subst hz
      obtain ⟨j, rfl⟩ := Int.eq_ofNat_of_zero_le p0
      have hj : j < e.2.2.length := by omega
      have hjr := List.getElem?_eq_getElem hj
      have c3 := fh.cf e he
      have c4 := hr4 e he _ (List.getElem_mem hj)
      generalize e.2.2[j] = r at hjr c4
      have ha : atI (rfs e.2.2) ((j : Nat) : Int) = some (.ref r.1) := atI_of (by omega) (by unfold rfs; rw [Int.toNat_natCast, List.getElem?_map, hjr]; rfl)
      have mr : (r.2.map V.int).length = r.2.length := List.length_map _
      have c5 := c4.1
      have h6 := c4.2
      walk_at "ge"
      refine K1.use ?_
      walk_at "cl"
      clear K1
      walk_at "ge"
      refine dgetS c2 (kvF_some fh.nd he) ?_
      walk_at "ge"
      rename Led _ _ => hl2
      exact k1 e he rfl j r rfl hjr _ _ hl2
    · exact k2 e he hz hp
    · exact k3 hz
def spNames (cI : Addr) : Sp := fun vs H Q _ => ∃ (b dx d : Addr) (es : FEnts) (L : Cells), vs = [.ref b] ∧ Led H L ∧ FH cI H b dx d es ∧ es.length < 64 ∧ ∀ (q : Addr) (ms : List Str) (H' : Hp), ms.Perm (es.map (·.1)) → sortedS ms = true → Led H' ((q, .lst (ms.map V.str)) :: L) → Q (.ref q) H'
theorem ok_names (D : MDef K cI "names" "Files.names" s_Files_names) (B : Blt mg) (T : Txt K mg cP cA cB cC c1 c2 c3 c4 c5 c6 cI) : MethD P w K mg base 1 cI "names" ["self"] (spNames cI) := by
  have sc := sc_Files_names
  refine D.ok sc_Files_names (fun vs H Q E h => ?_) (fun _ _ _ _ _ _ us hl => match us, hl with | [_], _ => rfl) (fun f cdv A outer s H vs Q E hr h => ?_)
  · obtain ⟨_, _, _, _, _, rfl, _⟩ := h; rfl
  · obtain ⟨b, dx, d, es, L, rfl, hL, fh, hl, k⟩ := h
    have hf : (fiFld d).lookup (Str.ofString "rows_by_name") = some (.ref d) := rfl
    have c1 := fh.cb
    have c2 := fh.cd
    refine ⟨_, (@pss_one _ _ _ (@ps_ret _ _ _ _ (@pe_callB _ _ _ _ _ _ _ _ _ (call_sortDS rfl) (by rfl) B.sorted bt_sorted (@pa_cons _ _ _ _ _ (@pe_fldC _ _ _ _ _ _ _ T.Files T.n_rows_by_name (@pv _ 0 _ _ (by rfl) (by first | exact Or.inl rfl | exact Or.inr (Or.inl rfl) | exact Or.inr (Or.inr rfl)) (by decide) (by decide)) (by rfl)) (@pa_nil _) (by rfl)) (by decide) (by decide) (by rfl) (by rfl)))), ?_⟩
    walk_at "ge"
    refine sortDSR c2 (kvF_keys es) (by rw [List.length_map]; exact hl) fun ms hp hs => Led.alloc hL fun q H2 _ hl2 _ => ?_
    walk_at "ge"
    exact k q ms _ hp hs hl2
end

section
variable {P : Program} {w : World} {K : PySem.W.Frag} {mg : Str → Option Value} {base : Heap} {cP cA cB cC c1 c2 c3 c4 c5 c6 cI : Addr}
def spMake (cI cC : Addr) : Sp := fun vs H Q E => ∃ (b dx d l : Addr) (es : FEnts) (z : Str) (rows : Rws) (R : Cells), vs = [.ref b, .str z, .ref l] ∧ Led H (FiC cI b dx d es R) ∧ (es.map (·.1)).Nodup ∧ (l, HO.lst (rfs rows)) ∈ R ∧ (∀ r ∈ rows, (r.1, HO.lst (r.2.map V.int)) ∈ R ∧ r.2.length ≤ 600) ∧ rows.length ≤ 100 ∧ es.length ≤ 600 ∧
  (z ∉ es.map (·.1) → ∀ (fa : Addr) (rows' : Rws) (H' : Hp), rows'.map (·.2) = rows.map (·.2) → Led H' (FiC cI b dx d (es ++ [(z, fa, rows')]) (rwC rows' ++ R)) → Q .non H') ∧ (z ∈ es.map (·.1) → E (.ref cC) none H)
theorem rows_same {rows rows' : Rws} (h : ∀ (i : Nat) r, rows'[i]? = some r → rows[i]?.map (·.2) = some r.2) (hl : rows'.length = rows.length) : rows'.map (·.2) = rows.map (·.2) := by
  apply List.ext_getElem?
  intro i
  rw [List.getElem?_map, List.getElem?_map]
  cases hi : rows'[i]? with
  | some r => rw [h i r hi]; rfl
  | none =>
    have : rows'.length ≤ i := List.getElem?_eq_none_iff.mp hi
    rw [List.getElem?_eq_none (by omega)]
theorem ok_make (D : MDef K cI "make" "Files.make" s_Files_make) (B : Blt mg) (T : Txt K mg cP cA cB cC c1 c2 c3 c4 c5 c6 cI) : MethD P w K mg base 1 cI "make" ["self", "name", "rows"] (spMake cI cC) := by
  have sc := sc_Files_make
  refine D.okR sc_Files_make (fun vs H Q E h => ?_) (fun _ _ _ _ _ _ us hl => match us, hl with | [_, _, _], _ => rfl) (fun f cdv A outer s H vs Q E hr h => ?_)
  · obtain ⟨_, _, _, _, _, _, _, _, rfl, _⟩ := h; rfl
  · obtain ⟨b, dx, d, l, es, z, rows, R, rfl, hL, nd, i_l, i_r, hrl, h6, k1, k2⟩ := h
    have hu := unit1 hr
    have hf : (fiFld d).lookup (Str.ofString "rows_by_name") = some (.ref d) := rfl
    have fh := FH.of hL nd
    have c1 := fh.cb
    have c2 := fh.cd
    have up : ∀ {c : Addr × HO}, c ∈ R → c ∈ FiC cI b dx d es R := fun h => List.mem_cons_of_mem _ (List.mem_cons_of_mem _ (List.mem_append_right _ h))
    refine ⟨_, (@pss_cons _ _ _ _ _ (@ps_if _ _ _ _ _ _ _ _ (@pt_cmp _ _ _ _ _ _ (@pc_din _ _ _ _ _ hu (@pv _ 1 _ _ (by rfl) (by first | exact Or.inl rfl | exact Or.inr (Or.inl rfl) | exact Or.inr (Or.inr rfl)) (by decide) (by decide)) (@pe_fldC _ _ _ _ _ _ _ T.Files T.n_rows_by_name (@pv _ 0 _ _ (by rfl) (by first | exact Or.inl rfl | exact Or.inr (Or.inl rfl) | exact Or.inr (Or.inr rfl)) (by decide) (by decide)) (by rfl))) (by first | exact nobehind _ (by decide) (by decide) | rfl)) (@pss_one _ _ _ (@ps_raise _ _ _ _ _ _ _ _ _ _ _ _ _ _ _ _ _ _ _ _ _ _ T.Taken (by rfl) (@pa_cons _ _ _ _ _ (@pe_str _ _ _ _) (@pa_nil _) (by rfl)) (by decide) (by rfl))) (@pss_nil _)) (@pss_one _ _ _ (@ps_dput _ _ _ _ _ _ _ _ _ hu (@pe_fldC _ _ _ _ _ _ _ T.Files T.n_rows_by_name (@pv _ 0 _ _ (by rfl) (by first | exact Or.inl rfl | exact Or.inr (Or.inl rfl) | exact Or.inr (Or.inr rfl)) (by decide) (by decide)) (by rfl)) (@pv _ 1 _ _ (by rfl) (by first | exact Or.inl rfl | exact Or.inr (Or.inl rfl) | exact Or.inr (Or.inr rfl)) (by decide) (by decide)) (@pe_comp _ _ "row" _ _ _ _ _ _ _ _ _ rfl rfl rfl rfl passH (compSc_of (by kernel_rfl)) (@pi_list _ _ _ _ (@pv _ 2 _ _ (by rfl) (by first | exact Or.inl rfl | exact Or.inr (Or.inl rfl) | exact Or.inr (Or.inr rfl)) (by decide) (by decide))) (fun _ _ _ _ => (@pts_nil _)) (fun _ _ _ _ => (@pe_callTy _ _ _ _ _ _ _ _ _ (call_list_ofK (K := K) rfl) (by rfl) B.list bt_list (@pa_cons _ _ _ _ _ (@pk _ 0 _ _ (by kernel_rfl) (by kernel_rfl) (by decide) (by decide)) (@pa_nil _) (by rfl)) (by decide) (by decide) (by rfl) (by rfl))) (by intro _; rfl)) rfl))), ?_⟩
    refine seqK fun M1 K1 => ?_
    walk_at "ge"
    refine dinS c2 ?_
    rw [val_in]
    by_cases hz : z ∈ es.map (·.1)
    · rw [decide_eq_true hz]
      walk_at "ge"
      refine raiseI fun R hR => ?_
      walk_at "ge"
      exact ⟨by decide, k2 hz⟩
    · rw [decide_eq_false hz]
      walk_at "ge"
      refine K1.use ?_
      walk_at "cl"
      clear K1
      have c_l := hL.get (up i_l)
      walk_at "ge"
      refine compL fun Lc hLc => ?_
      walk_at "ge"
      refine ⟨_, rfl, ⟨_, SqL.of c_l⟩, hLc.use ?_⟩
      clear hLc c1 c2 c_l fh
      refine compListL (rfs rows) (fun i v C => ∃ (r : Addr) (row : List Int), v = V.ref r ∧ C = [(r, HO.lst (row.map V.int))] ∧ rows[i]?.map (·.2) = some row) hL (up i_l) (by rw [rfs_len]; have := sizeLine_eq; omega) (fun i x H2 R2 M2 hx hl2 hR => ?_) (fun fa vs Cs H2 hvl hcl hG hl2 => ?_)
      · unfold rfs at hx
        rw [List.getElem?_map] at hx
        obtain ⟨r, hr, rfl⟩ := Option.map_eq_some_iff.mp hx
        have hm := List.mem_of_getElem? hr
        have c3 := hl2.get (List.mem_append_right M2 (up (i_r r hm).1))
        have h7 := (i_r r hm).2
        have mr : (r.2.map V.int).length = r.2.length := List.length_map _
        walk_at "ge"
        rename Led _ _ => hl3
        exact hR _ _ [_] ⟨_, r.2, rfl, rfl, by rw [hr]; rfl⟩ hl3
      · obtain ⟨rows', rfl, e2, e3, e4⟩ := rowsOf (by rw [hvl, hcl]) hG
        rw [e2] at hl2
        rw [rfs_len, rfs_len] at hvl
        have hsame := rows_same e4 (by rw [← hvl])
        have c1 : H2 b = some (.ins cI dx (fiFld d)) := hl2.get (List.mem_cons_of_mem _ (List.mem_append_right _ List.mem_cons_self))
        have c2 : H2 d = some (.dK (kvF es)) := hl2.get (List.mem_cons_of_mem _ (List.mem_append_right _ (List.mem_cons_of_mem _ List.mem_cons_self)))
        walk_at "ge"
        refine dputS c2 (by unfold kvF; rw [List.length_map]; have := sizeLine_eq; omega) ?_
        rw [kvF_put hz fa rows']
        have hl3 : Led H2 ((d, .dK (kvF es)) :: (b, .ins cI dx (fiFld d)) :: (filC es ++ ((fa, .lst (rfs rows')) :: (rwC rows' ++ R)))) := hl2.wk (by simp only [FiC]; walk_at "sp")
        have hl4 := hl3.put (o' := .dK (kvF (es ++ [(z, fa, rows')]))) rfl rfl
        walk_at "ge"
        refine k1 hz fa rows' _ hsame (hl4.wk ?_)
        unfold FiC
        rw [show filC (es ++ [(z, fa, rows')]) = filC es ++ [(fa, HO.lst (rfs rows'))] by unfold filC; rw [List.map_append]; rfl]
        simp only [List.append_assoc, List.cons_append, List.nil_append]
        walk_at "sp"
def spStore (cI cA cB : Addr) : Sp := fun vs H Q E => ∃ (b dx d r0 : Addr) (es : FEnts) (z : Str) (p : Int) (row : List Int) (R : Cells), vs = [.ref b, .str z, .int p, .ref r0] ∧ Led H (FiC cI b dx d es R) ∧ (es.map (·.1)).Nodup ∧ (r0, HO.lst (row.map V.int)) ∈ R ∧ row.length ≤ 600 ∧ (∀ (as bs : FEnts) (e : FEnt), es = as ++ e :: bs → e.1 = z → ∀ j : Nat, p = ((j : Nat) : Int) → j < e.2.2.length → ∀ (nr : Addr) (H' : Hp), Led H' (FiC cI b dx d (as ++ (e.1, e.2.1, e.2.2.set j (nr, row)) :: bs) ((nr, .lst (row.map V.int)) :: R)) → Q .non H') ∧ (∀ e ∈ es, e.1 = z → ¬ (0 ≤ p ∧ p < e.2.2.length) → E (.ref cB) none H) ∧ (z ∉ es.map (·.1) → E (.ref cA) none H)
theorem ok_store (D : MDef K cI "store_row" "Files.store_row" s_Files_store_row) (B : Blt mg) (T : Txt K mg cP cA cB cC c1 c2 c3 c4 c5 c6 cI) (M_Files_ask_page : MethD P w K mg base 3 cI "ask_page" ["self", "name", "page"] (spAskP cI cA cB)) : MethD P w K mg base 4 cI "store_row" ["self", "name", "page", "row"] (spStore cI cA cB) := by
  have sc := sc_Files_store_row
  refine D.okR sc_Files_store_row (fun vs H Q E h => ?_) (fun _ _ _ _ _ _ us hl => match us, hl with | [_, _, _, _], _ => rfl) (fun f cdv A outer s H vs Q E hr h => ?_)
  · obtain ⟨_, _, _, _, _, _, _, _, _, rfl, _⟩ := h; rfl
  · obtain ⟨b, dx, d, r0, es, z, p, row, R, rfl, hL, nd, i_r, hrl, k1, k2, k3⟩ := h
    have hu := unit1 hr
    have hf : (fiFld d).lookup (Str.ofString "rows_by_name") = some (.ref d) := rfl
    have fh := FH.of hL nd
    have c1 := fh.cb
    have c2 := fh.cd
    have mr : (row.map V.int).length = row.length := List.length_map _
    refine ⟨_, (@pss_cons _ _ _ _ _ (@ps_expr _ _ _ _ (@pe_methD _ _ _ _ _ _ _ _ _ _ _ _ _ _ _ _ T.Files M_Files_ask_page (hr.mono (by omega)) passR (@pv _ 0 _ _ (by rfl) (by first | exact Or.inl rfl | exact Or.inr (Or.inl rfl) | exact Or.inr (Or.inr rfl)) (by decide) (by decide)) (@pa_cons _ _ _ _ _ (@pv _ 1 _ _ (by rfl) (by first | exact Or.inl rfl | exact Or.inr (Or.inl rfl) | exact Or.inr (Or.inr rfl)) (by decide) (by decide)) (@pa_cons _ _ _ _ _ (@pv _ 2 _ _ (by rfl) (by first | exact Or.inl rfl | exact Or.inr (Or.inl rfl) | exact Or.inr (Or.inr rfl)) (by decide) (by decide)) (@pa_nil _) (by rfl)) (by rfl)) (by rfl) (by rfl) (by rfl)) (by rfl)) (@pss_one _ _ _ (@ps_asg _ _ _ _ _ _ (@pe_callTy _ _ _ _ _ _ _ _ _ (call_list_ofK (K := K) rfl) (by rfl) B.list bt_list (@pa_cons _ _ _ _ _ (@pv _ 3 _ _ (by rfl) (by first | exact Or.inl rfl | exact Or.inr (Or.inl rfl) | exact Or.inr (Or.inr rfl)) (by decide) (by decide)) (@pa_nil _) (by rfl)) (by decide) (by decide) (by rfl) (by rfl)) (@pg_sub _ _ _ _ _ _ _ (@pe_dget _ _ _ _ _ _ hu (@pe_fldC _ _ _ _ _ _ _ T.Files T.n_rows_by_name (@pv _ 0 _ _ (by rfl) (by first | exact Or.inl rfl | exact Or.inr (Or.inl rfl) | exact Or.inr (Or.inr rfl)) (by decide) (by decide)) (by rfl)) (@pv _ 1 _ _ (by rfl) (by first | exact Or.inl rfl | exact Or.inr (Or.inl rfl) | exact Or.inr (Or.inr rfl)) (by decide) (by decide)) (fun _ _ => rfl)) (@pv _ 2 _ _ (by rfl) (by first | exact Or.inl rfl | exact Or.inr (Or.inl rfl) | exact Or.inr (Or.inr rfl)) (by decide) (by decide)) set_list (by intro _; rfl)) (by rfl) (by rfl) (by rfl)))), ?_⟩
    refine seqK fun M1 K1 => ?_
    walk_at "ge"
    refine ⟨b, dx, d, es, z, p, rfl, fh, fun e he hz p0 p1 => ?_, fun e he hz hp => ?_, fun hz => ?_⟩
    · subst hz
      obtain ⟨j, rfl⟩ := Int.eq_ofNat_of_zero_le p0
      have hj : j < e.2.2.length := by omega
      have hjl : j < (rfs e.2.2).length := by rw [rfs_len]; exact hj
      have hkv := kvF_some nd he
      obtain ⟨as, bs, rfl, _⟩ := splitF nd he
      have c_r := hL.get (List.mem_cons_of_mem _ (List.mem_cons_of_mem _ (List.mem_append_right _ i_r)))
      walk_at "ge"
      refine K1.use ?_
      walk_at "cl"
      clear K1
      walk_at "ge"
      rename_i nr H2 _ hl2 _ _ _ _ _ _ _
      have c3 : H2 d = some (.dK (kvF (as ++ e :: bs))) := hl2.get (List.mem_cons_of_mem _ (List.mem_cons_of_mem _ List.mem_cons_self))
      refine dgetS c3 hkv ?_
      walk_at "ge"
      have hl3 : Led H2 ((e.2.1, .lst (rfs e.2.2)) :: (b, .ins cI dx (fiFld d)) :: (d, .dK (kvF (as ++ e :: bs))) :: (filC as ++ (filC bs ++ ((nr, .lst (row.map V.int)) :: R)))) := hl2.wk (by unfold FiC; rw [filC_mid]; simp only [List.append_assoc, List.cons_append]; walk_at "sp")
      refine setLH (hl3.get List.mem_cons_self) (ixN_of (by omega) (by omega)) ?_
      rw [Int.toNat_natCast, show (rfs e.2.2).set j (V.ref nr) = rfs (e.2.2.set j (nr, row)) by unfold rfs; rw [List.map_set]]
      have hl4 := hl3.put (o' := .lst (rfs (e.2.2.set j (nr, row)))) rfl rfl
      walk_at "ge"
      refine k1 as bs e rfl rfl j rfl hj nr _ (hl4.wk ?_)
      unfold FiC
      rw [filC_mid, ← kvF_mid as bs e (e.1, e.2.1, e.2.2.set j (nr, row)) rfl rfl]
      simp only [List.append_assoc, List.cons_append]
      walk_at "sp"
    · exact k2 e he hz hp
    · exact k3 hz
def spDrop (cI cA : Addr) : Sp := fun vs H Q E => ∃ (b dx d : Addr) (es : FEnts) (z : Str) (R : Cells), vs = [.ref b, .str z] ∧ Led H (FiC cI b dx d es R) ∧ (es.map (·.1)).Nodup ∧ (∀ (as bs : FEnts) (e : FEnt), es = as ++ e :: bs → e.1 = z → ∀ H' : Hp, Led H' (FiC cI b dx d (as ++ bs) R) → Q .non H') ∧ (z ∉ es.map (·.1) → E (.ref cA) none H)
theorem ok_drop (D : MDef K cI "drop" "Files.drop" s_Files_drop) (B : Blt mg) (T : Txt K mg cP cA cB cC c1 c2 c3 c4 c5 c6 cI) (M_Files_ask_name : MethD P w K mg base 1 cI "ask_name" ["self", "name"] (spAskN cI cA)) : MethD P w K mg base 2 cI "drop" ["self", "name"] (spDrop cI cA) := by
  have sc := sc_Files_drop
  refine D.okR sc_Files_drop (fun vs H Q E h => ?_) (fun _ _ _ _ _ _ us hl => match us, hl with | [_, _], _ => rfl) (fun f cdv A outer s H vs Q E hr h => ?_)
  · obtain ⟨_, _, _, _, _, _, rfl, _⟩ := h; rfl
  · obtain ⟨b, dx, d, es, z, R, rfl, hL, nd, k1, k2⟩ := h
    have hu := unit1 hr
    have hf : (fiFld d).lookup (Str.ofString "rows_by_name") = some (.ref d) := rfl
    have fh := FH.of hL nd
    have c1 := fh.cb
    have c2 := fh.cd
    refine ⟨_, (@pss_cons _ _ _ _ _ (@ps_expr _ _ _ _ (@pe_methD _ _ _ _ _ _ _ _ _ _ _ _ _ _ _ _ T.Files M_Files_ask_name (hr.mono (by omega)) passR (@pv _ 0 _ _ (by rfl) (by first | exact Or.inl rfl | exact Or.inr (Or.inl rfl) | exact Or.inr (Or.inr rfl)) (by decide) (by decide)) (@pa_cons _ _ _ _ _ (@pv _ 1 _ _ (by rfl) (by first | exact Or.inl rfl | exact Or.inr (Or.inl rfl) | exact Or.inr (Or.inr rfl)) (by decide) (by decide)) (@pa_nil _) (by rfl)) (by rfl) (by rfl) (by rfl)) (by rfl)) (@pss_one _ _ _ (@ps_expr _ _ _ _ (@pe_dpop1 _ _ _ _ _ _ _ (@pe_fldC _ _ _ _ _ _ _ T.Files T.n_rows_by_name (@pv _ 0 _ _ (by rfl) (by first | exact Or.inl rfl | exact Or.inr (Or.inl rfl) | exact Or.inr (Or.inr rfl)) (by decide) (by decide)) (by rfl)) (@pv _ 1 _ _ (by rfl) (by first | exact Or.inl rfl | exact Or.inr (Or.inl rfl) | exact Or.inr (Or.inr rfl)) (by decide) (by decide)) ⟨rfl, rfl, rfl, rfl⟩) (by rfl)))), ?_⟩
    refine seqK fun M1 K1 => ?_
    walk_at "ge"
    refine ⟨b, dx, d, es, z, rfl, fh, fun hz => ?_, fun hz => ?_⟩
    · obtain ⟨e, he, rfl⟩ := List.mem_map.mp hz
      have hkv := kvF_some nd he
      walk_at "ge"
      refine K1.use ?_
      walk_at "cl"
      clear K1
      walk_at "ge"
      refine dpop1H fun R5 hR5 => ?_
      walk_at "ge"
      refine dpopS c2 hkv ?_
      rw [kvF_drop]
      obtain ⟨as, bs, hab, hfil⟩ := splitF nd he
      rw [hfil]
      have hl3 : Led H ((d, .dK (kvF es)) :: (b, .ins cI dx (fiFld d)) :: (filC as ++ (filC bs ++ R))) := by
        have h2 := hL
        unfold FiC at h2
        rw [hab, filC_mid, ← hab] at h2
        exact h2.wk (by simp only [List.append_assoc, List.cons_append]; walk_at "sp")
      have hl4 := hl3.put (o' := .dK (kvF (as ++ bs))) rfl rfl
      walk_at "ge"
      refine k1 as bs e hab rfl _ (hl4.wk ?_)
      unfold FiC
      rw [filC_app]
      simp only [List.append_assoc, List.cons_append]
      walk_at "sp"
    · exact k2 hz
end

section
variable {P : Program} {w : World} {K : PySem.W.Frag} {mg : Str → Option Value} {base : Heap} {cP cA cB cC c1 c2 c3 c4 c5 c6 cI : Addr}
/-- the script's k-th number, 0 behind its end -/
def spCellAt (K : PySem.W.Frag) : Sp := fun vs H Q _ => ∃ (a : Addr) (ns : List Int) (j : Int), vs = [.ref a, .int j] ∧ 0 ≤ j ∧ SqL K H a (ns.map V.int) ∧ Q (.int (ns.getD j.toNat 0)) H
theorem ok_cell_at (D : Def K mg "_law_cell_at" s_l_cell_at) (B : Blt mg) : FnD P w K mg base 1 "_law_cell_at" ["_law_script", "_law_k"] (spCellAt K) := by
  refine D.ok sc_l_cell_at (fun vs H Q E h => ?_) (fun _ _ _ _ _ _ us hl => match us, hl with | [_, _], _ => rfl) (fun f cdv A outer s H vs Q E hr h => ?_)
  · obtain ⟨_, _, _, rfl, _⟩ := h; rfl
  · obtain ⟨a, ns, j, rfl, hj0, hS, k⟩ := h
    obtain ⟨j, rfl⟩ := Int.eq_ofNat_of_zero_le hj0
    refine ⟨_, (@pss_cons _ _ _ _ _ (@ps_if _ _ _ _ _ _ _ _ (@pt_cmpR _ _ _ _ _ _ _ _ op_lt (@pv _ 1 _ _ (by rfl) (by first | exact Or.inl rfl | exact Or.inr (Or.inl rfl) | exact Or.inr (Or.inr rfl)) (by decide) (by decide)) (@pe_callB _ _ _ _ _ _ _ _ _ (call_len_seqK (K := K) rfl) (by rfl) B.len bt_len (@pa_cons _ _ _ _ _ (@pv _ 0 _ _ (by rfl) (by first | exact Or.inl rfl | exact Or.inr (Or.inl rfl) | exact Or.inr (Or.inr rfl)) (by decide) (by decide)) (@pa_nil _) (by rfl)) (by decide) (by decide) (by rfl) (by rfl)) (nomark _)) (@pss_one _ _ _ (@ps_ret _ _ _ _ (@pe_ix _ _ _ _ _ _ _ (ix_listK (K := K) rfl) (@pv _ 0 _ _ (by rfl) (by first | exact Or.inl rfl | exact Or.inr (Or.inl rfl) | exact Or.inr (Or.inr rfl)) (by decide) (by decide)) (@pv _ 1 _ _ (by rfl) (by first | exact Or.inl rfl | exact Or.inr (Or.inl rfl) | exact Or.inr (Or.inr rfl)) (by decide) (by decide)) (fun _ _ => rfl)))) (@pss_nil _)) (@pss_one _ _ _ (@ps_ret _ _ _ _ (@pe_int _ _ _ _)))), ?_⟩
    walk_at "rd"
    refine ⟨_, .inl hS, ?_⟩
    rw [List.length_map]
    rw [Int.toNat_natCast] at k
    refine ite2 (fun hlt => ?_) (fun hge => ?_)
    · refine ⟨_, hS, _, atI_nat (j := j) (v := V.int (ns.getD j 0)) ?_, k⟩
      have hj : j < ns.length := by omega
      simp [hj]
    · rw [List.getD_eq_getElem?_getD, List.getElem?_eq_none (by omega)] at k
      exact k
def spWhole : Sp := fun vs H Q _ => ∃ n : Int, vs = [.int n] ∧ Q (.bl true) H
theorem ok_whole (D : Def K mg "_law_whole" s_l_whole) (B : Blt mg) (T : Txt K mg cP cA cB cC c1 c2 c3 c4 c5 c6 cI) : FnD P w K mg base 1 "_law_whole" ["_law_found"] spWhole := by
  refine D.ok sc_l_whole (fun vs H Q E h => ?_) (fun _ _ _ _ _ _ us hl => match us, hl with | [_], _ => rfl) (fun f cdv A outer s H vs Q E hr h => ?_)
  · obtain ⟨_, rfl, _⟩ := h; rfl
  · obtain ⟨n, rfl, k⟩ := h
    have sc := sc_l_whole
    refine ⟨_, (@pss_one _ _ _ (@ps_ret _ _ _ _ (@pe_and _ _ _ _ _ _ _ (@pe_callB _ _ _ _ _ _ _ _ _ call_isiN (by rfl) B.isinstance bt_isinstance (@pa_cons _ _ _ _ _ (@pv _ 0 _ _ (by rfl) (by first | exact Or.inl rfl | exact Or.inr (Or.inl rfl) | exact Or.inr (Or.inr rfl)) (by decide) (by decide)) (@pa_cons _ _ _ _ _ (@pe_bltn _ _ (.ty "int") _ _ (by rfl) B.int bt_int rfl (by decide) (by decide)) (@pa_nil _) (by rfl)) (by rfl)) (by decide) (by decide) (by rfl) (by rfl)) (@pe_one _ _ _ _ _ (@pe_not _ _ _ _ (@pe_callB _ _ _ _ _ _ _ _ _ call_isiN (by rfl) B.isinstance bt_isinstance (@pa_cons _ _ _ _ _ (@pv _ 0 _ _ (by rfl) (by first | exact Or.inl rfl | exact Or.inr (Or.inl rfl) | exact Or.inr (Or.inr rfl)) (by decide) (by decide)) (@pa_cons _ _ _ _ _ (@pe_bltn _ _ (.ty "bool") _ _ (by rfl) B.bool bt_bool rfl (by decide) (by decide)) (@pa_nil _) (by rfl)) (by rfl)) (by decide) (by decide) (by rfl) (by rfl))))))), ?_⟩
    walk_at "ge"
    exact k
/-- the same plain thing, told twice -/
def Flat2 (x y : V) : Prop := (x = .non ∧ y = .non) ∨ (∃ b, x = .bl b ∧ y = .bl b) ∨ (∃ n, x = .int n ∧ y = .int n) ∨ (∃ z, x = .str z ∧ y = .str z)
def Alike (H : Hp) : Nat → V → V → Prop
  | 0, x, y => Flat2 x y
  | k + 1, x, y => Flat2 x y ∨ ∃ a b xs ys, x = .ref a ∧ y = .ref b ∧ ((H a = some (.lst xs) ∧ H b = some (.lst ys)) ∨ (H a = some (.tup xs) ∧ H b = some (.tup ys))) ∧ xs.length = ys.length ∧ ys.length ≤ 100000 ∧ ∀ (i : Nat) x' y', xs[i]? = some x' → ys[i]? = some y' → Alike H k x' y'
def spAlike (k : Nat) : Sp := fun vs H Q _ => ∃ x y, vs = [x, y] ∧ Alike H k x y ∧ Q (.bl true) H
theorem alike_step (D : Def K mg "_law_alike" s_l_alike) (B : Blt mg) (T : Txt K mg cP cA cB cC c1 c2 c3 c4 c5 c6 cI) {n : Nat} {sp0 : Sp} (G__law_whole : FnD P w K mg base 1 "_law_whole" ["_law_found"] spWhole) (G__law_alike : FnD P w K mg base (n + 1) "_law_alike" ["_law_found", "_law_due_here"] sp0) (k : Nat) (hrec : ∀ (H : Hp) (x y : V) (Q : VK) (j : Nat), k = j + 1 → Alike H j x y → Q (.bl true) H → sp0 [x, y] H Q E0) : FnD P w K mg base (n + 2) "_law_alike" ["_law_found", "_law_due_here"] (spAlike k) := by
  refine D.ok sc_l_alike (fun vs H Q E h => ?_) (fun _ _ _ _ _ _ us hl => match us, hl with | [_, _], _ => rfl) (fun f cdv A outer s H vs Q E hr h => ?_)
  · obtain ⟨_, _, rfl, _⟩ := h; rfl
  · obtain ⟨x, y, rfl, ha, kq⟩ := h
    have sc := sc_l_alike
    refine ⟨_, (@pss_cons _ _ _ _ _ (@ps_if _ _ _ _ _ _ _ _ (@pt_cmpR _ _ _ _ _ _ _ _ op_isN (@pv _ 1 _ _ (by rfl) (by first | exact Or.inl rfl | exact Or.inr (Or.inl rfl) | exact Or.inr (Or.inr rfl)) (by decide) (by decide)) (@pe_non _ _ _) (nomark _)) (@pss_one _ _ _ (@ps_ret _ _ _ _ (@pe_cmpR _ _ _ _ _ _ _ _ op_isN (@pv _ 0 _ _ (by rfl) (by first | exact Or.inl rfl | exact Or.inr (Or.inl rfl) | exact Or.inr (Or.inr rfl)) (by decide) (by decide)) (@pe_non _ _ _) (nomark _)))) (@pss_nil _)) (@pss_cons _ _ _ _ _ (@ps_if _ _ _ _ _ _ _ _ (@pt_val _ _ _ (@pe_callB _ _ _ _ _ _ _ _ _ call_isiN (by rfl) B.isinstance bt_isinstance (@pa_cons _ _ _ _ _ (@pv _ 1 _ _ (by rfl) (by first | exact Or.inl rfl | exact Or.inr (Or.inl rfl) | exact Or.inr (Or.inr rfl)) (by decide) (by decide)) (@pa_cons _ _ _ _ _ (@pe_bltn _ _ (.ty "bool") _ _ (by rfl) B.bool bt_bool rfl (by decide) (by decide)) (@pa_nil _) (by rfl)) (by rfl)) (by decide) (by decide) (by rfl) (by rfl)) (by intro _; rfl)) (@pss_one _ _ _ (@ps_ret _ _ _ _ (@pe_and _ _ _ _ _ _ _ (@pe_callB _ _ _ _ _ _ _ _ _ call_isiN (by rfl) B.isinstance bt_isinstance (@pa_cons _ _ _ _ _ (@pv _ 0 _ _ (by rfl) (by first | exact Or.inl rfl | exact Or.inr (Or.inl rfl) | exact Or.inr (Or.inr rfl)) (by decide) (by decide)) (@pa_cons _ _ _ _ _ (@pe_bltn _ _ (.ty "bool") _ _ (by rfl) B.bool bt_bool rfl (by decide) (by decide)) (@pa_nil _) (by rfl)) (by rfl)) (by decide) (by decide) (by rfl) (by rfl)) (@pe_one _ _ _ _ _ (@pe_cmpR _ _ _ _ _ _ _ _ op_eq (@pv _ 0 _ _ (by rfl) (by first | exact Or.inl rfl | exact Or.inr (Or.inl rfl) | exact Or.inr (Or.inr rfl)) (by decide) (by decide)) (@pv _ 1 _ _ (by rfl) (by first | exact Or.inl rfl | exact Or.inr (Or.inl rfl) | exact Or.inr (Or.inr rfl)) (by decide) (by decide)) (nomark _)))))) (@pss_nil _)) (@pss_cons _ _ _ _ _ (@ps_if _ _ _ _ _ _ _ _ (@pt_val _ _ _ (@pe_callB _ _ _ _ _ _ _ _ _ call_isiN (by rfl) B.isinstance bt_isinstance (@pa_cons _ _ _ _ _ (@pv _ 1 _ _ (by rfl) (by first | exact Or.inl rfl | exact Or.inr (Or.inl rfl) | exact Or.inr (Or.inr rfl)) (by decide) (by decide)) (@pa_cons _ _ _ _ _ (@pe_bltn _ _ (.ty "int") _ _ (by rfl) B.int bt_int rfl (by decide) (by decide)) (@pa_nil _) (by rfl)) (by rfl)) (by decide) (by decide) (by rfl) (by rfl)) (by intro _; rfl)) (@pss_one _ _ _ (@ps_ret _ _ _ _ (@pe_and _ _ _ _ _ _ _ (@pe_callD _ _ _ _ _ _ _ _ _ _ _ G__law_whole (hr.mono (by omega)) (by rfl) passR0 (@pa_cons _ _ _ _ _ (@pv _ 0 _ _ (by rfl) (by first | exact Or.inl rfl | exact Or.inr (Or.inl rfl) | exact Or.inr (Or.inr rfl)) (by decide) (by decide)) (@pa_nil _) (by rfl)) (by decide) (by rfl) (by rfl)) (@pe_one _ _ _ _ _ (@pe_cmpR _ _ _ _ _ _ _ _ op_eq (@pv _ 0 _ _ (by rfl) (by first | exact Or.inl rfl | exact Or.inr (Or.inl rfl) | exact Or.inr (Or.inr rfl)) (by decide) (by decide)) (@pv _ 1 _ _ (by rfl) (by first | exact Or.inl rfl | exact Or.inr (Or.inl rfl) | exact Or.inr (Or.inr rfl)) (by decide) (by decide)) (nomark _)))))) (@pss_nil _)) (@pss_cons _ _ _ _ _ (@ps_if _ _ _ _ _ _ _ _ (@pt_val _ _ _ (@pe_callB _ _ _ _ _ _ _ _ _ call_isiN (by rfl) B.isinstance bt_isinstance (@pa_cons _ _ _ _ _ (@pv _ 1 _ _ (by rfl) (by first | exact Or.inl rfl | exact Or.inr (Or.inl rfl) | exact Or.inr (Or.inr rfl)) (by decide) (by decide)) (@pa_cons _ _ _ _ _ (@pe_bltn _ _ (.ty "str") _ _ (by rfl) B.str bt_str rfl (by decide) (by decide)) (@pa_nil _) (by rfl)) (by rfl)) (by decide) (by decide) (by rfl) (by rfl)) (by intro _; rfl)) (@pss_one _ _ _ (@ps_ret _ _ _ _ (@pe_and _ _ _ _ _ _ _ (@pe_callB _ _ _ _ _ _ _ _ _ call_isiN (by rfl) B.isinstance bt_isinstance (@pa_cons _ _ _ _ _ (@pv _ 0 _ _ (by rfl) (by first | exact Or.inl rfl | exact Or.inr (Or.inl rfl) | exact Or.inr (Or.inr rfl)) (by decide) (by decide)) (@pa_cons _ _ _ _ _ (@pe_bltn _ _ (.ty "str") _ _ (by rfl) B.str bt_str rfl (by decide) (by decide)) (@pa_nil _) (by rfl)) (by rfl)) (by decide) (by decide) (by rfl) (by rfl)) (@pe_one _ _ _ _ _ (@pe_cmpR _ _ _ _ _ _ _ _ op_eq (@pv _ 0 _ _ (by rfl) (by first | exact Or.inl rfl | exact Or.inr (Or.inl rfl) | exact Or.inr (Or.inr rfl)) (by decide) (by decide)) (@pv _ 1 _ _ (by rfl) (by first | exact Or.inl rfl | exact Or.inr (Or.inl rfl) | exact Or.inr (Or.inr rfl)) (by decide) (by decide)) (nomark _)))))) (@pss_nil _)) (@pss_cons _ _ _ _ _ (@ps_if _ _ _ _ _ _ _ _ (@pt_val _ _ _ (@pe_callB _ _ _ _ _ _ _ _ _ call_isiN (by rfl) B.isinstance bt_isinstance (@pa_cons _ _ _ _ _ (@pv _ 1 _ _ (by rfl) (by first | exact Or.inl rfl | exact Or.inr (Or.inl rfl) | exact Or.inr (Or.inr rfl)) (by decide) (by decide)) (@pa_cons _ _ _ _ _ (@pe_bltn _ _ (.ty "tuple") _ _ (by rfl) B.tuple bt_tuple rfl (by decide) (by decide)) (@pa_nil _) (by rfl)) (by rfl)) (by decide) (by decide) (by rfl) (by rfl)) (by intro _; rfl)) (@pss_one _ _ _ (@ps_if _ _ _ _ _ _ _ _ (@pt_not _ _ _ _ (@pt_val _ _ _ (@pe_callB _ _ _ _ _ _ _ _ _ call_isiN (by rfl) B.isinstance bt_isinstance (@pa_cons _ _ _ _ _ (@pv _ 0 _ _ (by rfl) (by first | exact Or.inl rfl | exact Or.inr (Or.inl rfl) | exact Or.inr (Or.inr rfl)) (by decide) (by decide)) (@pa_cons _ _ _ _ _ (@pe_bltn _ _ (.ty "tuple") _ _ (by rfl) B.tuple bt_tuple rfl (by decide) (by decide)) (@pa_nil _) (by rfl)) (by rfl)) (by decide) (by decide) (by rfl) (by rfl)) (by intro _; rfl))) (@pss_one _ _ _ (@ps_ret _ _ _ _ (@pe_bl _ _ _ _))) (@pss_nil _))) (@pss_one _ _ _ (@ps_if _ _ _ _ _ _ _ _ (@pt_not _ _ _ _ (@pt_val _ _ _ (@pe_callB _ _ _ _ _ _ _ _ _ call_isiN (by rfl) B.isinstance bt_isinstance (@pa_cons _ _ _ _ _ (@pv _ 0 _ _ (by rfl) (by first | exact Or.inl rfl | exact Or.inr (Or.inl rfl) | exact Or.inr (Or.inr rfl)) (by decide) (by decide)) (@pa_cons _ _ _ _ _ (@pe_bltn _ _ (.ty "list") _ _ (by rfl) B.list bt_list rfl (by decide) (by decide)) (@pa_nil _) (by rfl)) (by rfl)) (by decide) (by decide) (by rfl) (by rfl)) (by intro _; rfl))) (@pss_one _ _ _ (@ps_ret _ _ _ _ (@pe_bl _ _ _ _))) (@pss_nil _)))) (@pss_cons _ _ _ _ _ (@ps_if _ _ _ _ _ _ _ _ (@pt_cmpR _ _ _ _ _ _ _ _ op_ne (@pe_callB _ _ _ _ _ _ _ _ _ call_lenA (by rfl) B.len bt_len (@pa_cons _ _ _ _ _ (@pv _ 0 _ _ (by rfl) (by first | exact Or.inl rfl | exact Or.inr (Or.inl rfl) | exact Or.inr (Or.inr rfl)) (by decide) (by decide)) (@pa_nil _) (by rfl)) (by decide) (by decide) (by rfl) (by rfl)) (@pe_callB _ _ _ _ _ _ _ _ _ call_lenA (by rfl) B.len bt_len (@pa_cons _ _ _ _ _ (@pv _ 1 _ _ (by rfl) (by first | exact Or.inl rfl | exact Or.inr (Or.inl rfl) | exact Or.inr (Or.inr rfl)) (by decide) (by decide)) (@pa_nil _) (by rfl)) (by decide) (by decide) (by rfl) (by rfl)) (nomark _)) (@pss_one _ _ _ (@ps_ret _ _ _ _ (@pe_bl _ _ _ _))) (@pss_nil _)) (@pss_cons _ _ _ _ _ (@ps_for _ _ _ _ _ _ _ _ PassesOwn.never rfl (@pi_range1 _ _ _ _ _ _ (by rfl) B.range (@pa_cons _ _ _ _ _ (@pe_callB _ _ _ _ _ _ _ _ _ call_lenA (by rfl) B.len bt_len (@pa_cons _ _ _ _ _ (@pv _ 1 _ _ (by rfl) (by first | exact Or.inl rfl | exact Or.inr (Or.inl rfl) | exact Or.inr (Or.inr rfl)) (by decide) (by decide)) (@pa_nil _) (by rfl)) (by decide) (by decide) (by rfl) (by rfl)) (@pa_nil _) (by rfl)) (by rfl)) (@pg_name _ _ 2 _ sc.nd rfl (by first | exact Or.inl rfl | exact Or.inr rfl) (by first | exact .inl rfl | exact .inr rfl | assumption)) (@pss_one _ _ _ (@ps_if _ _ _ _ _ _ _ _ (@pt_not _ _ _ _ (@pt_val _ _ _ (@pe_callD _ _ _ _ _ _ _ _ _ _ _ G__law_alike (hr.mono (by omega)) (by rfl) passR0 (@pa_cons _ _ _ _ _ (@pe_ix _ _ _ _ _ _ _ ix_any (@pv _ 0 _ _ (by rfl) (by first | exact Or.inl rfl | exact Or.inr (Or.inl rfl) | exact Or.inr (Or.inr rfl)) (by decide) (by decide)) (@pv _ 2 _ _ (by rfl) (by first | exact Or.inl rfl | exact Or.inr (Or.inl rfl) | exact Or.inr (Or.inr rfl)) (by decide) (by decide)) (fun _ _ => rfl)) (@pa_cons _ _ _ _ _ (@pe_ix _ _ _ _ _ _ _ ix_any (@pv _ 1 _ _ (by rfl) (by first | exact Or.inl rfl | exact Or.inr (Or.inl rfl) | exact Or.inr (Or.inr rfl)) (by decide) (by decide)) (@pv _ 2 _ _ (by rfl) (by first | exact Or.inl rfl | exact Or.inr (Or.inl rfl) | exact Or.inr (Or.inr rfl)) (by decide) (by decide)) (fun _ _ => rfl)) (@pa_nil _) (by rfl)) (by rfl)) (by decide) (by rfl) (by rfl)) (by intro _; rfl))) (@pss_one _ _ _ (@ps_ret _ _ _ _ (@pe_bl _ _ _ _))) (@pss_nil _))) (by intro _; rfl)) (@pss_one _ _ _ (@ps_ret _ _ _ _ (@pe_bl _ _ _ _)))))))))), ?_⟩
    have ha2 : Flat2 x y ∨ ∃ a b xs ys j, k = j + 1 ∧ x = .ref a ∧ y = .ref b ∧ ((H a = some (.lst xs) ∧ H b = some (.lst ys)) ∨ (H a = some (.tup xs) ∧ H b = some (.tup ys))) ∧ xs.length = ys.length ∧ ys.length ≤ 100000 ∧ ∀ (i : Nat) x' y', xs[i]? = some x' → ys[i]? = some y' → Alike H j x' y' := by
      cases k with
      | zero => exact .inl ha
      | succ j =>
        rcases ha with h | ⟨a, b, xs, ys, h1, h2, h3, h4, h5, h6⟩
        · exact .inl h
        · exact .inr ⟨a, b, xs, ys, j, rfl, h1, h2, h3, h4, h5, h6⟩
    clear ha
    rcases ha2 with (⟨rfl, rfl⟩ | ⟨c, rfl, rfl⟩ | ⟨m, rfl, rfl⟩ | ⟨z, rfl, rfl⟩) | ⟨a, b, xs, ys, j, hk, rfl, rfl, hh, hxy, hyl, hin⟩
    · walk_at "ge"
      all_goals first | exact kq | (exfalso; simp_all; done)
    · walk_at "ge"
      all_goals first | (exfalso; simp_all; done) | skip
      rw [decide_eq_true rfl]
      exact kq
    · walk_at "ge"
      all_goals first | (exfalso; simp_all; done) | skip
      refine ⟨m, rfl, ?_⟩
      walk_at "ge"
      rw [decide_eq_true rfl]
      exact kq
    · walk_at "ge"
      all_goals first | (exfalso; simp_all; done) | skip
      rw [decide_eq_true rfl]
      exact kq
    · have fin : ∀ (Lx : Hp → Prop), True := fun _ => True.intro
      rcases hh with ⟨c1, c2⟩ | ⟨c1, c2⟩
      · refine seqK fun M1 K1 => ?_
        walk_at "ge"
        all_goals first | (exfalso; simp_all; done) | skip
        refine K1.use ?_
        walk_at "cl"
        clear K1
        refine seqK fun M1 K1 => ?_
        walk_at "ge"
        refine K1.use ?_
        walk_at "cl"
        clear K1
        refine seqK fun M1 K1 => ?_
        walk_at "ge"
        refine K1.use ?_
        walk_at "cl"
        clear K1
        refine seqK fun M1 K1 => ?_
        walk_at "ge"
        refine K1.use ?_
        walk_at "cl"
        clear K1
        refine seqK fun M1 K1 => ?_
        walk_at "ge"
        refine K1.use ?_
        walk_at "cl"
        clear K1
        refine seqK fun M1 K1 => ?_
        walk_at "ge"
        all_goals first | (exfalso; omega) | skip
        refine K1.use ?_
        walk_at "cl"
        clear K1
        refine seqK fun M1 K1 => ?_
        refine forR1 fun Lr hLr => ?_
        walk_at "ge"
        refine ⟨_, rfl, by omega, by omega, hLr.use ?_⟩
        clear hLr
        rw [show ((ys.length : Int)).toNat = ys.length by omega]
        refine loopR (fun i σ H' => H' = H ∧ ∃ v1, σ = [some (.ref a), some (.ref b), v1]) ⟨rfl, _, rfl⟩ ?_ ?_
        · rintro i σ H' hi ⟨rfl, v1, rfl⟩
          have a1 : atI xs (0 + (i : Int)) = some xs[i] := atI_of (by omega) (by rw [show (0 + (i : Int)).toNat = i by omega]; exact List.getElem?_eq_getElem (by omega))
          have a2 : atI ys (0 + (i : Int)) = some ys[i] := atI_of (by omega) (by rw [show (0 + (i : Int)).toNat = i by omega]; exact List.getElem?_eq_getElem (by omega))
          walk_at "ge"
          refine hrec _ _ _ _ j hk (hin i _ _ (List.getElem?_eq_getElem (by omega)) (List.getElem?_eq_getElem (by omega))) ?_
          walk_at "ge"
          exact ⟨rfl, _, rfl⟩
        · rintro σ H' ⟨rfl, v1, rfl⟩
          walk_at "ge"
          refine K1.use ?_
          walk_at "ge"
          exact kq
      · refine seqK fun M1 K1 => ?_
        walk_at "ge"
        all_goals first | (exfalso; simp_all; done) | skip
        refine K1.use ?_
        walk_at "cl"
        clear K1
        refine seqK fun M1 K1 => ?_
        walk_at "ge"
        refine K1.use ?_
        walk_at "cl"
        clear K1
        refine seqK fun M1 K1 => ?_
        walk_at "ge"
        refine K1.use ?_
        walk_at "cl"
        clear K1
        refine seqK fun M1 K1 => ?_
        walk_at "ge"
        refine K1.use ?_
        walk_at "cl"
        clear K1
        refine seqK fun M1 K1 => ?_
        walk_at "ge"
        refine K1.use ?_
        walk_at "cl"
        clear K1
        refine seqK fun M1 K1 => ?_
        walk_at "ge"
        all_goals first | (exfalso; omega) | skip
        refine K1.use ?_
        walk_at "cl"
        clear K1
        refine seqK fun M1 K1 => ?_
        refine forR1 fun Lr hLr => ?_
        walk_at "ge"
        refine ⟨_, rfl, by omega, by omega, hLr.use ?_⟩
        clear hLr
        rw [show ((ys.length : Int)).toNat = ys.length by omega]
        refine loopR (fun i σ H' => H' = H ∧ ∃ v1, σ = [some (.ref a), some (.ref b), v1]) ⟨rfl, _, rfl⟩ ?_ ?_
        · rintro i σ H' hi ⟨rfl, v1, rfl⟩
          have a1 : atI xs (0 + (i : Int)) = some xs[i] := atI_of (by omega) (by rw [show (0 + (i : Int)).toNat = i by omega]; exact List.getElem?_eq_getElem (by omega))
          have a2 : atI ys (0 + (i : Int)) = some ys[i] := atI_of (by omega) (by rw [show (0 + (i : Int)).toNat = i by omega]; exact List.getElem?_eq_getElem (by omega))
          walk_at "ge"
          refine hrec _ _ _ _ j hk (hin i _ _ (List.getElem?_eq_getElem (by omega)) (List.getElem?_eq_getElem (by omega))) ?_
          walk_at "ge"
          exact ⟨rfl, _, rfl⟩
        · rintro σ H' ⟨rfl, v1, rfl⟩
          walk_at "ge"
          refine K1.use ?_
          walk_at "ge"
          exact kq
theorem alike_never (D : Def K mg "_law_alike" s_l_alike) : FnD P w K mg base 1 "_law_alike" ["_law_found", "_law_due_here"] (fun _ _ _ _ => False) :=
  D.ok sc_l_alike (fun vs H Q E h => h.elim) (fun _ _ _ _ _ _ us hl => match us, hl with | [_, _], _ => rfl) (fun f cdv A outer s H vs Q E hr h => h.elim)
theorem ok_alike (D : Def K mg "_law_alike" s_l_alike) (B : Blt mg) (T : Txt K mg cP cA cB cC c1 c2 c3 c4 c5 c6 cI) (G__law_whole : FnD P w K mg base 1 "_law_whole" ["_law_found"] spWhole) : ∀ k : Nat, FnD P w K mg base (k + 2) "_law_alike" ["_law_found", "_law_due_here"] (spAlike k)
  | 0 => alike_step D B T G__law_whole (alike_never D) 0 fun _ _ _ _ j h => nomatch h
  | k + 1 => alike_step D B T G__law_whole (ok_alike D B T G__law_whole k) (k + 1) fun H x y Q j h ha hq => by
      cases h
      exact ⟨x, y, rfl, ha, hq⟩
def spNum : Sp := fun vs H Q _ => ∃ (c k : Int) (L : Cells), vs = [.int c, .int k] ∧ Builtin.Int.intBits c ≤ 1500000 ∧ 0 ≤ k ∧ k ≤ 1000 ∧ Led H L ∧ ∀ (n : Int) (H' : Hp), Led H' L → Q (.int n) H'
theorem ok_num (D : Def K mg "_law_num" s_l_num) (T : Txt K mg cP cA cB cC c1 c2 c3 c4 c5 c6 cI) : FnD P w K mg base 1 "_law_num" ["_law_cell", "_law_k"] spNum := by
  have sc := sc_l_num
  refine D.ok sc_l_num (fun vs H Q E h => ?_) (fun _ _ _ _ _ _ us hl => match us, hl with | [_, _], _ => rfl) (fun f cdv A outer s H vs Q E hr h => ?_)
  · obtain ⟨_, _, _, rfl, _⟩ := h; rfl
  · obtain ⟨c, j, L, rfl, hb, j0, j1, hL, k⟩ := h
    refine ⟨_, (@pss_cons _ _ _ _ _ (@ps_set _ _ 2 _ _ _ _ sc.nd rfl (by first | exact Or.inl rfl | exact Or.inr rfl) (@pe_op _ _ _ _ _ _ _ _ op_sub (@pe_op _ _ _ _ _ _ _ _ op_pow (@pe_int _ _ _ _) (@pe_int _ _ _ _)) (@pe_int _ _ _ _)) (by rfl) (by first | exact .inl rfl | exact .inr rfl | assumption)) (@pss_cons _ _ _ _ _ (@ps_set _ _ 3 _ _ _ _ sc.nd rfl (by first | exact Or.inl rfl | exact Or.inr rfl) (@pe_op _ _ _ _ _ _ _ _ op_add (@pe_op _ _ _ _ _ _ _ _ op_mulB (@pv _ 0 _ _ (by rfl) (by first | exact Or.inl rfl | exact Or.inr (Or.inl rfl) | exact Or.inr (Or.inr rfl)) (by decide) (by decide)) (@pe_ix _ _ _ _ _ _ _ ix_any (@pe_lst _ _ _ _ (@pa_cons _ _ _ _ _ (@pe_int _ _ _ _) (@pa_cons _ _ _ _ _ (@pe_op _ _ _ _ _ _ _ _ op_add (@pe_op _ _ _ _ _ _ _ _ op_pow (@pe_int _ _ _ _) (@pe_int _ _ _ _)) (@pe_int _ _ _ _)) (@pa_cons _ _ _ _ _ (@pe_op _ _ _ _ _ _ _ _ op_add (@pe_op _ _ _ _ _ _ _ _ op_pow (@pe_int _ _ _ _) (@pe_int _ _ _ _)) (@pe_int _ _ _ _)) (@pa_cons _ _ _ _ _ (@pe_op _ _ _ _ _ _ _ _ op_add (@pe_op _ _ _ _ _ _ _ _ op_pow (@pe_int _ _ _ _) (@pe_int _ _ _ _)) (@pe_int _ _ _ _)) (@pa_nil _) (by rfl)) (by rfl)) (by rfl)) (by rfl))) (@pe_op _ _ _ _ _ _ _ _ op_mod (@pv _ 1 _ _ (by rfl) (by first | exact Or.inl rfl | exact Or.inr (Or.inl rfl) | exact Or.inr (Or.inr rfl)) (by decide) (by decide)) (@pe_int _ _ _ _)) (fun _ _ => rfl))) (@pe_op _ _ _ _ _ _ _ _ op_mul (@pe_op _ _ _ _ _ _ _ _ op_mul (@pe_int _ _ _ _) (@pv _ 1 _ _ (by rfl) (by first | exact Or.inl rfl | exact Or.inr (Or.inl rfl) | exact Or.inr (Or.inr rfl)) (by decide) (by decide))) (@pv _ 1 _ _ (by rfl) (by first | exact Or.inl rfl | exact Or.inr (Or.inl rfl) | exact Or.inr (Or.inr rfl)) (by decide) (by decide)))) (by rfl) (by first | exact .inl rfl | exact .inr rfl | assumption)) (@pss_cons _ _ _ _ _ (@ps_set _ _ 4 _ _ _ _ sc.nd rfl (by first | exact Or.inl rfl | exact Or.inr rfl) (@pe_op _ _ _ _ _ _ _ _ op_mod (@pe_op _ _ _ _ _ _ _ _ op_mod (@pe_op _ _ _ _ _ _ _ _ op_mulB (@pe_op _ _ _ _ _ _ _ _ op_add (@pv _ 0 _ _ (by rfl) (by first | exact Or.inl rfl | exact Or.inr (Or.inl rfl) | exact Or.inr (Or.inr rfl)) (by decide) (by decide)) (@pe_op _ _ _ _ _ _ _ _ op_mul (@pe_int _ _ _ _) (@pv _ 1 _ _ (by rfl) (by first | exact Or.inl rfl | exact Or.inr (Or.inl rfl) | exact Or.inr (Or.inr rfl)) (by decide) (by decide)))) (@pe_int _ _ _ _)) (@pe_int _ _ _ _)) (@pe_int _ _ _ _)) (by rfl) (by first | exact .inl rfl | exact .inr rfl | assumption)) (@pss_one _ _ _ (@ps_ret _ _ _ _ (@pe_ix _ _ _ _ _ _ _ ix_any (@pe_lst _ _ _ _ (@pa_cons _ _ _ _ _ (@pe_op _ _ _ _ _ _ _ _ op_mod (@pv _ 3 _ _ (by rfl) (by first | exact Or.inl rfl | exact Or.inr (Or.inl rfl) | exact Or.inr (Or.inr rfl)) (by decide) (by decide)) (@pe_int _ _ _ _)) (@pa_cons _ _ _ _ _ (@pe_op _ _ _ _ _ _ _ _ op_mod (@pv _ 3 _ _ (by rfl) (by first | exact Or.inl rfl | exact Or.inr (Or.inl rfl) | exact Or.inr (Or.inr rfl)) (by decide) (by decide)) (@pe_op _ _ _ _ _ _ _ _ op_add (@pv _ 2 _ _ (by rfl) (by first | exact Or.inl rfl | exact Or.inr (Or.inl rfl) | exact Or.inr (Or.inr rfl)) (by decide) (by decide)) (@pe_int _ _ _ _))) (@pa_cons _ _ _ _ _ (@pe_un _ _ _ _ _ _ un_neg (@pe_op _ _ _ _ _ _ _ _ op_mod (@pv _ 3 _ _ (by rfl) (by first | exact Or.inl rfl | exact Or.inr (Or.inl rfl) | exact Or.inr (Or.inr rfl)) (by decide) (by decide)) (@pe_op _ _ _ _ _ _ _ _ op_add (@pv _ 2 _ _ (by rfl) (by first | exact Or.inl rfl | exact Or.inr (Or.inl rfl) | exact Or.inr (Or.inr rfl)) (by decide) (by decide)) (@pe_int _ _ _ _)))) (@pa_cons _ _ _ _ _ (@pe_op _ _ _ _ _ _ _ _ op_sub (@pv _ 2 _ _ (by rfl) (by first | exact Or.inl rfl | exact Or.inr (Or.inl rfl) | exact Or.inr (Or.inr rfl)) (by decide) (by decide)) (@pe_op _ _ _ _ _ _ _ _ op_mod (@pv _ 3 _ _ (by rfl) (by first | exact Or.inl rfl | exact Or.inr (Or.inl rfl) | exact Or.inr (Or.inr rfl)) (by decide) (by decide)) (@pe_int _ _ _ _))) (@pa_cons _ _ _ _ _ (@pe_op _ _ _ _ _ _ _ _ op_sub (@pe_op _ _ _ _ _ _ _ _ op_mod (@pv _ 3 _ _ (by rfl) (by first | exact Or.inl rfl | exact Or.inr (Or.inl rfl) | exact Or.inr (Or.inr rfl)) (by decide) (by decide)) (@pe_int _ _ _ _)) (@pv _ 2 _ _ (by rfl) (by first | exact Or.inl rfl | exact Or.inr (Or.inl rfl) | exact Or.inr (Or.inr rfl)) (by decide) (by decide))) (@pa_cons _ _ _ _ _ (@pe_op _ _ _ _ _ _ _ _ op_sub (@pe_un _ _ _ _ _ _ un_neg (@pe_int _ _ _ _)) (@pe_op _ _ _ _ _ _ _ _ op_mod (@pv _ 3 _ _ (by rfl) (by first | exact Or.inl rfl | exact Or.inr (Or.inl rfl) | exact Or.inr (Or.inr rfl)) (by decide) (by decide)) (@pe_int _ _ _ _))) (@pa_nil _) (by rfl)) (by rfl)) (by rfl)) (by rfl)) (by rfl)) (by rfl))) (@pv _ 4 _ _ (by rfl) (by first | exact Or.inl rfl | exact Or.inr (Or.inl rfl) | exact Or.inr (Or.inr rfl)) (by decide) (by decide)) (fun _ _ => rfl))))))), ?_⟩
    refine seqK fun M1 K1 => ?_
    walk_at "ge"
    refine K1.use ?_
    walk_at "cl"
    clear K1
    refine seqK fun M1 K1 => ?_
    have rest : ∀ (big : Int) (H' : Hp), Led H' L → M1 [some (.int c), some (.int j), some (.int 999999999999999999999999999999999999999999999999999999999999), some (.int big), none] H' := by
      intro big H' hl'
      refine K1.use ?_
      clear K1 hL
      refine seqK fun M1 K1 => ?_
      walk_at "ge"
      obtain ⟨wy, hwy⟩ : ∃ z : Int, (c + 5 * j) * 69621 % 15101 % 6 = z := ⟨_, rfl⟩
      have w0 : 0 ≤ wy := by rw [← hwy]; exact Int.emod_nonneg _ (by decide)
      have w5 : wy ≤ 5 := by have := Int.emod_lt_of_pos ((c + 5 * j) * 69621 % 15101) (show (0 : Int) < 6 by decide); omega
      rw [hwy]
      refine K1.use ?_
      walk_at "cl"
      clear K1 hwy
      walk_at "ge"
      obtain ⟨z, hz⟩ := at6i (a0 := big % 9) (a1 := big % (999999999999999999999999999999999999999999999999999999999999 + 1)) (a2 := -(big % (999999999999999999999999999999999999999999999999999999999999 + 1))) (a3 := 999999999999999999999999999999999999999999999999999999999999 - big % 2) (a4 := big % 2 - 999999999999999999999999999999999999999999999999999999999999) (a5 := -1 - big % 7) w0 w5
      refine ixLH (by walk_at "cell") hz ?_
      walk_at "ge"
      exact k _ _ (Led.tail (by assumption))
    clear K1
    have h4 : j % 4 = 0 ∨ j % 4 = 1 ∨ j % 4 = 2 ∨ j % 4 = 3 := by omega
    walk_at "ge"
    rcases h4 with h4 | h4 | h4 | h4 <;> rw [h4] <;> walk_at "ge" <;> first | exact rest _ _ (Led.tail (by assumption)) | (refine iH (mul_ok (Nat.le_trans hb (by decide)) (by decide)) ?_; walk_at "ge"; exact rest _ _ (Led.tail (by assumption)))
def spRow : Sp := fun vs H Q _ => ∃ (c : Int) (L : Cells), vs = [.int c] ∧ Builtin.Int.intBits c ≤ 1400000 ∧ Led H L ∧ ∀ (r : Addr) (row : List Int) (H' : Hp), row.length = 4 → Led H' ((r, .lst (row.map V.int)) :: L) → Q (.ref r) H'
theorem ok_row (D : Def K mg "_law_row" s_l_row) (B : Blt mg) (T : Txt K mg cP cA cB cC c1 c2 c3 c4 c5 c6 cI) (G__law_num : FnD P w K mg base 1 "_law_num" ["_law_cell", "_law_k"] spNum) : FnD P w K mg base 2 "_law_row" ["_law_cell"] spRow := by
  have sc := sc_l_row
  refine D.ok sc_l_row (fun vs H Q E h => ?_) (fun _ _ _ _ _ _ us hl => match us, hl with | [_], _ => rfl) (fun f cdv A outer s H vs Q E hr h => ?_)
  · obtain ⟨_, _, rfl, _⟩ := h; rfl
  · obtain ⟨c, L, rfl, hb, hL, k⟩ := h
    refine ⟨_, (@pss_one _ _ _ (@ps_ret _ _ _ _ (@pe_comp _ _ "_law_k" _ _ _ _ _ _ _ _ _ rfl rfl rfl rfl noH (compSc_of (by kernel_rfl)) (@pi_range1 _ _ _ _ _ _ (by rfl) B.range (@pa_cons _ _ _ _ _ (@pe_int _ _ _ _) (@pa_nil _) (by rfl)) (by rfl)) (fun _ _ _ _ => (@pts_nil _)) (fun _ _ _ _ => (@pe_callD _ _ _ _ _ _ _ _ _ _ _ G__law_num (hr.mono (by omega)) (by rfl) passR0 (@pa_cons _ _ _ _ _ (@pe_op _ _ _ _ _ _ _ _ op_add (@pk _ 1 _ _ (by kernel_rfl) (by kernel_rfl) (by decide) (by decide)) (@pe_op _ _ _ _ _ _ _ _ op_mul (@pe_int _ _ _ _) (@pk _ 0 _ _ (by kernel_rfl) (by kernel_rfl) (by decide) (by decide)))) (@pa_cons _ _ _ _ _ (@pk _ 0 _ _ (by kernel_rfl) (by kernel_rfl) (by decide) (by decide)) (@pa_nil _) (by rfl)) (by rfl)) (by decide) (by rfl) (by rfl))) (by intro _; rfl)))), ?_⟩
    walk_at "ge"
    refine compR1 fun Lc hLc => ?_
    walk_at "ge"
    refine ⟨_, rfl, by omega, by omega, hLc.use ?_⟩
    clear hLc
    refine compRangeL (fun _ v => ∃ z : Int, v = V.int z) hL (by decide) (fun i H2 R q hi hl2 hR => ?_) (fun p acc H2 hlen hacc hl2 => ?_)
    · have hi4 : i < 4 := hi
      walk_at "ge"
      refine ⟨_, _, _, rfl, Nat.le_trans (bits_add hb (by omega) (by omega) (by decide)) (by decide), by omega, by omega, hl2, fun n H3 hl3 => ?_⟩
      walk_at "ge"
      exact hR _ _ ⟨_, rfl⟩ hl3
    · obtain ⟨row, rfl⟩ := intsOf hacc
      rw [List.length_map] at hlen
      walk_at "ge"
      exact k p row _ hlen hl2
def OkZ (z : Str) : Prop := PyData.strOk z = true
abbrev letters : Str := Str.ofString "abcdefghijklmnopqrstuvwxyz"
theorem letters_at : ∀ j : Nat, j < 26 → atI letters.cps.toList ((j : Nat) : Int) = some (97 + j) := by
  intro j h
  have e : letters.cps.toList = [97, 98, 99, 100, 101, 102, 103, 104, 105, 106, 107, 108, 109, 110, 111, 112, 113, 114, 115, 116, 117, 118, 119, 120, 121, 122] := by decide +kernel
  rw [e]
  refine atI_nat (j := j) ?_
  exact (by decide +kernel : ∀ j : Nat, j < 26 → ([97, 98, 99, 100, 101, 102, 103, 104, 105, 106, 107, 108, 109, 110, 111, 112, 113, 114, 115, 116, 117, 118, 119, 120, 121, 122] : List Nat)[j]? = some (97 + j)) j h
/-- the k-th sign of a name, by its place among the letters -/
def sgN (c t k : Int) : Int := if k = c / 8 % (1 + c % 8) ∧ c / 64 % 3 ≠ 1 then ((c / 512 + 3 * k * k + k) * 48271 % 7919 % 26 + t) % 26 else (c / 512 + 3 * k * k + k) * 48271 % 7919 % 26
theorem sgN_lo (c t k : Int) : 0 ≤ sgN c t k := by unfold sgN; split <;> exact Int.emod_nonneg _ (by decide)
theorem sgN_hi (c t k : Int) : sgN c t k < 26 := by unfold sgN; split <;> exact Int.emod_lt_of_pos _ (by decide)
def codN (c t : Int) (i : Nat) : List Nat := (List.range i).map fun k : Nat => 97 + (sgN c t (0 + (k : Int))).toNat
def sizN (c t : Int) : Int := if c / 64 % 3 = 1 then 1 + (c + t) % 8 else 1 + c % 8
def nameF (c t : Int) : Str := ⟨((codN c t 8).take (sizN c t).toNat).toArray⟩
theorem codN_len (c t : Int) (i : Nat) : (codN c t i).length = i := by unfold codN; rw [List.length_map, List.length_range]
theorem sizN_r (c t : Int) : 1 ≤ sizN c t ∧ sizN c t ≤ 8 := by unfold sizN; split <;> omega
theorem okz_iff {z : Str} : OkZ z ↔ ∀ c ∈ z.cps.toList, c < 0x110000 := by
  unfold OkZ PyData.strOk
  rw [← Array.all_toList, List.all_eq_true]
  exact ⟨fun h c hc => of_decide_eq_true (h c hc), fun h c hc => decide_eq_true (h c hc)⟩
theorem nameF_ok (c t : Int) : OkZ (nameF c t) := by
  rw [okz_iff]
  intro d hd
  have hd : d ∈ (codN c t 8).take (sizN c t).toNat := by simpa [nameF] using hd
  obtain ⟨k, _, rfl⟩ := List.mem_map.mp (List.mem_of_mem_take hd)
  have := sgN_hi c t (0 + (k : Int))
  have := sgN_lo c t (0 + (k : Int))
  omega
theorem cpsCat (x y : Str) : (x ++ y).cps.toList = x.cps.toList ++ y.cps.toList := by show (x.cps ++ y.cps).toList = _; simp
theorem slice_take {z : Str} {c t : Int} (h : z.cps.toList = codN c t 8) {j : Int} (h0 : j = sizN c t) : Txt.slice z none (some j) = nameF c t := by
  have r := sizN_r c t
  have hl : z.cps.toList.length = 8 := by rw [h, codN_len]
  have e := eq_of_beq (slice_closes_to (x := z) (j := j) ⟨by omega, by rw [hl]; omega⟩)
  rw [e]
  unfold nameF
  rw [h, show (0 : Int).toNat = 0 from rfl, List.drop_zero, Int.sub_zero, h0]
def spName : Sp := fun vs H Q _ => ∃ (c t : Int), vs = [.int c, .int t] ∧ (0 ≤ t ∧ t ≤ 4) ∧ Q (.str (nameF c t)) H
theorem ok_name (D : Def K mg "_law_name" s_l_name) (B : Blt mg) (T : Txt K mg cP cA cB cC c1 c2 c3 c4 c5 c6 cI) : FnD P w K mg base 1 "_law_name" ["_law_cell", "_law_turn"] spName := by
  have sc := sc_l_name
  refine D.ok sc_l_name (fun vs H Q E h => ?_) (fun _ _ _ _ _ _ us hl => match us, hl with | [_, _], _ => rfl) (fun f cdv A outer s H vs Q E hr h => ?_)
  · obtain ⟨_, _, rfl, _⟩ := h; rfl
  · obtain ⟨c, t, rfl, ht, k⟩ := h
    have hlz : letters.length ≤ sizeLine := by decide +kernel
    refine ⟨_, (@pss_cons _ _ _ _ _ (@ps_set _ _ 2 _ _ _ _ sc.nd rfl (by first | exact Or.inl rfl | exact Or.inr rfl) (@pe_str _ _ _ _) (by rfl) (by first | exact .inl rfl | exact .inr rfl | assumption)) (@pss_cons _ _ _ _ _ (@ps_set _ _ 3 _ _ _ _ sc.nd rfl (by first | exact Or.inl rfl | exact Or.inr rfl) (@pe_op _ _ _ _ _ _ _ _ op_add (@pe_int _ _ _ _) (@pe_op _ _ _ _ _ _ _ _ op_mod (@pv _ 0 _ _ (by rfl) (by first | exact Or.inl rfl | exact Or.inr (Or.inl rfl) | exact Or.inr (Or.inr rfl)) (by decide) (by decide)) (@pe_int _ _ _ _))) (by rfl) (by first | exact .inl rfl | exact .inr rfl | assumption)) (@pss_cons _ _ _ _ _ (@ps_set _ _ 4 _ _ _ _ sc.nd rfl (by first | exact Or.inl rfl | exact Or.inr rfl) (@pe_op _ _ _ _ _ _ _ _ op_mod (@pe_op _ _ _ _ _ _ _ _ op_fdiv (@pv _ 0 _ _ (by rfl) (by first | exact Or.inl rfl | exact Or.inr (Or.inl rfl) | exact Or.inr (Or.inr rfl)) (by decide) (by decide)) (@pe_int _ _ _ _)) (@pv _ 3 _ _ (by rfl) (by first | exact Or.inl rfl | exact Or.inr (Or.inl rfl) | exact Or.inr (Or.inr rfl)) (by decide) (by decide))) (by rfl) (by first | exact .inl rfl | exact .inr rfl | assumption)) (@pss_cons _ _ _ _ _ (@ps_set _ _ 5 _ _ _ _ sc.nd rfl (by first | exact Or.inl rfl | exact Or.inr rfl) (@pe_str _ _ _ _) (by rfl) (by first | exact .inl rfl | exact .inr rfl | assumption)) (@pss_cons _ _ _ _ _ (@ps_for _ _ _ _ _ _ _ _ PassesOwn.never rfl (@pi_range1 _ _ _ _ _ _ (by rfl) B.range (@pa_cons _ _ _ _ _ (@pe_int _ _ _ _) (@pa_nil _) (by rfl)) (by rfl)) (@pg_name _ _ 6 _ sc.nd rfl (by first | exact Or.inl rfl | exact Or.inr rfl) (by first | exact .inl rfl | exact .inr rfl | assumption)) (@pss_cons _ _ _ _ _ (@ps_set _ _ 7 _ _ _ _ sc.nd rfl (by first | exact Or.inl rfl | exact Or.inr rfl) (@pe_op _ _ _ _ _ _ _ _ op_mod (@pe_op _ _ _ _ _ _ _ _ op_mod (@pe_op _ _ _ _ _ _ _ _ op_mul (@pe_op _ _ _ _ _ _ _ _ op_add (@pe_op _ _ _ _ _ _ _ _ op_add (@pe_op _ _ _ _ _ _ _ _ op_fdiv (@pv _ 0 _ _ (by rfl) (by first | exact Or.inl rfl | exact Or.inr (Or.inl rfl) | exact Or.inr (Or.inr rfl)) (by decide) (by decide)) (@pe_int _ _ _ _)) (@pe_op _ _ _ _ _ _ _ _ op_mul (@pe_op _ _ _ _ _ _ _ _ op_mul (@pe_int _ _ _ _) (@pv _ 6 _ _ (by rfl) (by first | exact Or.inl rfl | exact Or.inr (Or.inl rfl) | exact Or.inr (Or.inr rfl)) (by decide) (by decide))) (@pv _ 6 _ _ (by rfl) (by first | exact Or.inl rfl | exact Or.inr (Or.inl rfl) | exact Or.inr (Or.inr rfl)) (by decide) (by decide)))) (@pv _ 6 _ _ (by rfl) (by first | exact Or.inl rfl | exact Or.inr (Or.inl rfl) | exact Or.inr (Or.inr rfl)) (by decide) (by decide))) (@pe_int _ _ _ _)) (@pe_int _ _ _ _)) (@pe_int _ _ _ _)) (by rfl) (by first | exact .inl rfl | exact .inr rfl | assumption)) (@pss_cons _ _ _ _ _ (@ps_if _ _ _ _ _ _ _ _ (@PW.pt _ _ _ (@pw_and _ _ _ _ _ _ _ (@pt_cmpR _ _ _ _ _ _ _ _ op_eq (@pv _ 6 _ _ (by rfl) (by first | exact Or.inl rfl | exact Or.inr (Or.inl rfl) | exact Or.inr (Or.inr rfl)) (by decide) (by decide)) (@pv _ 4 _ _ (by rfl) (by first | exact Or.inl rfl | exact Or.inr (Or.inl rfl) | exact Or.inr (Or.inr rfl)) (by decide) (by decide)) (nomark _)) (@pw_and1 _ _ _ _ (@pt_cmpR _ _ _ _ _ _ _ _ op_ne (@pe_op _ _ _ _ _ _ _ _ op_mod (@pe_op _ _ _ _ _ _ _ _ op_fdiv (@pv _ 0 _ _ (by rfl) (by first | exact Or.inl rfl | exact Or.inr (Or.inl rfl) | exact Or.inr (Or.inr rfl)) (by decide) (by decide)) (@pe_int _ _ _ _)) (@pe_int _ _ _ _)) (@pe_int _ _ _ _) (nomark _))))) (@pss_one _ _ _ (@ps_set _ _ 7 _ _ _ _ sc.nd rfl (by first | exact Or.inl rfl | exact Or.inr rfl) (@pe_op _ _ _ _ _ _ _ _ op_mod (@pe_op _ _ _ _ _ _ _ _ op_add (@pv _ 7 _ _ (by rfl) (by first | exact Or.inl rfl | exact Or.inr (Or.inl rfl) | exact Or.inr (Or.inr rfl)) (by decide) (by decide)) (@pv _ 1 _ _ (by rfl) (by first | exact Or.inl rfl | exact Or.inr (Or.inl rfl) | exact Or.inr (Or.inr rfl)) (by decide) (by decide))) (@pe_int _ _ _ _)) (by rfl) (by first | exact .inl rfl | exact .inr rfl | assumption))) (@pss_nil _)) (@pss_one _ _ _ (@ps_set _ _ 5 _ _ _ _ sc.nd rfl (by first | exact Or.inl rfl | exact Or.inr rfl) (@pe_op _ _ _ _ _ _ _ _ op_add_str (@pv _ 5 _ _ (by rfl) (by first | exact Or.inl rfl | exact Or.inr (Or.inl rfl) | exact Or.inr (Or.inr rfl)) (by decide) (by decide)) (@pe_ix _ _ _ _ _ _ _ ix_str (@pv _ 2 _ _ (by rfl) (by first | exact Or.inl rfl | exact Or.inr (Or.inl rfl) | exact Or.inr (Or.inr rfl)) (by decide) (by decide)) (@pv _ 7 _ _ (by rfl) (by first | exact Or.inl rfl | exact Or.inr (Or.inl rfl) | exact Or.inr (Or.inr rfl)) (by decide) (by decide)) (fun _ _ => rfl))) (by rfl) (by first | exact .inl rfl | exact .inr rfl | assumption))))) (by intro _; rfl)) (@pss_cons _ _ _ _ _ (@ps_if _ _ _ _ _ _ _ _ (@pt_cmpR _ _ _ _ _ _ _ _ op_eq (@pe_op _ _ _ _ _ _ _ _ op_mod (@pe_op _ _ _ _ _ _ _ _ op_fdiv (@pv _ 0 _ _ (by rfl) (by first | exact Or.inl rfl | exact Or.inr (Or.inl rfl) | exact Or.inr (Or.inr rfl)) (by decide) (by decide)) (@pe_int _ _ _ _)) (@pe_int _ _ _ _)) (@pe_int _ _ _ _) (nomark _)) (@pss_one _ _ _ (@ps_ret _ _ _ _ (@pe_slice _ _ _ _ _ _ _ _ _ _ sl_str (@pv _ 5 _ _ (by rfl) (by first | exact Or.inl rfl | exact Or.inr (Or.inl rfl) | exact Or.inr (Or.inr rfl)) (by decide) (by decide)) (@po_none _) (@po_some _ _ _ (@pe_op _ _ _ _ _ _ _ _ op_add (@pe_int _ _ _ _) (@pe_op _ _ _ _ _ _ _ _ op_mod (@pe_op _ _ _ _ _ _ _ _ op_add (@pv _ 0 _ _ (by rfl) (by first | exact Or.inl rfl | exact Or.inr (Or.inl rfl) | exact Or.inr (Or.inr rfl)) (by decide) (by decide)) (@pv _ 1 _ _ (by rfl) (by first | exact Or.inl rfl | exact Or.inr (Or.inl rfl) | exact Or.inr (Or.inr rfl)) (by decide) (by decide))) (@pe_int _ _ _ _))))))) (@pss_nil _)) (@pss_one _ _ _ (@ps_ret _ _ _ _ (@pe_slice _ _ _ _ _ _ _ _ _ _ sl_str (@pv _ 5 _ _ (by rfl) (by first | exact Or.inl rfl | exact Or.inr (Or.inl rfl) | exact Or.inr (Or.inr rfl)) (by decide) (by decide)) (@po_none _) (@po_some _ _ _ (@pv _ 3 _ _ (by rfl) (by first | exact Or.inl rfl | exact Or.inr (Or.inl rfl) | exact Or.inr (Or.inr rfl)) (by decide) (by decide)))))))))))), ?_⟩
    refine seqK fun M1 K1 => ?_
    walk_at "ge"
    refine K1.use ?_
    walk_at "cl"
    clear K1
    refine seqK fun M1 K1 => ?_
    walk_at "ge"
    refine K1.use ?_
    walk_at "cl"
    clear K1
    refine seqK fun M1 K1 => ?_
    walk_at "ge"
    refine K1.use ?_
    walk_at "cl"
    clear K1
    refine seqK fun M1 K1 => ?_
    walk_at "ge"
    refine K1.use ?_
    walk_at "cl"
    clear K1
    refine seqK fun M1 K1 => ?_
    refine forR1 fun Lr hLr => ?_
    walk_at "ge"
    refine ⟨_, rfl, by omega, by omega, hLr.use ?_⟩
    clear hLr
    refine loopR (fun i σ H' => H' = H ∧ i ≤ 8 ∧ ∃ (z : Str) (v1 v2 : Option V), z.cps.toList = codN c t i ∧ σ = [some (.int c), some (.int t), some (.str letters), some (.int (1 + c % 8)), some (.int (c / 8 % (1 + c % 8))), some (.str z), v1, v2]) ⟨rfl, by decide, Str.ofString "", _, _, (by show (Str.ofString "").cps.toList = []; decide +kernel), rfl⟩ ?_ ?_
    · clear K1
      rintro i σ H' hi ⟨rfl, hi8, z, v1, v2, hz, rfl⟩
      have hi : i < 8 := hi
      have hzl : z.length = i := by
        have hl : z.cps.toList.length = z.length := Array.length_toList
        rw [hz, codN_len] at hl
        exact hl.symm
      refine seqK fun M2 K2 => ?_
      walk_at "ge"
      refine K2.use ?_
      walk_at "cl"
      clear K2
      refine seqK fun M2 K2 => ?_
      have rest : M2 [some (.int c), some (.int t), some (.str letters), some (.int (1 + c % 8)), some (.int (c / 8 % (1 + c % 8))), some (.str z), some (.int (0 + (i : Int))), some (.int (sgN c t (0 + (i : Int))))] H' := by
        refine K2.use ?_
        clear K2
        have l0 := sgN_lo c t (0 + (i : Int))
        have l1 := sgN_hi c t (0 + (i : Int))
        have hla := letters_at (sgN c t (0 + (i : Int))).toNat (by omega)
        rw [Int.toNat_of_nonneg l0] at hla
        walk_at "ge"
        refine ixSH hlz hla ?_
        walk_at "ge"
        refine addSH (by show _ + 1 ≤ _; have := sizeLine_eq; omega) ?_
        walk_at "ge"
        refine ⟨rfl, hi, _, _, _, ?_, rfl⟩
        rw [cpsCat, hz]
        unfold codN
        rw [List.range_succ, List.map_append]
        rfl
      clear K2
      walk_at "ge"
      · have hs : sgN c t (0 + (i : Int)) = ((c / 512 + 3 * (0 + (i : Int)) * (0 + (i : Int)) + (0 + (i : Int))) * 48271 % 7919 % 26 + t) % 26 := by
          unfold sgN
          rw [if_pos ⟨by assumption, by assumption⟩]
        rw [hs] at rest
        exact rest
      · have hs : sgN c t (0 + (i : Int)) = (c / 512 + 3 * (0 + (i : Int)) * (0 + (i : Int)) + (0 + (i : Int))) * 48271 % 7919 % 26 := by
          unfold sgN
          rw [if_neg fun h => by first | exact absurd h.2 (by assumption) | exact h.2 (by assumption) | exact absurd h.1 (by assumption)]
        rw [hs] at rest
        exact rest
      · have hs : sgN c t (0 + (i : Int)) = (c / 512 + 3 * (0 + (i : Int)) * (0 + (i : Int)) + (0 + (i : Int))) * 48271 % 7919 % 26 := by
          unfold sgN
          rw [if_neg fun h => by first | exact absurd h.2 (by assumption) | exact h.2 (by assumption) | exact absurd h.1 (by assumption)]
        rw [hs] at rest
        exact rest
    · rintro σ H' ⟨rfl, _, z, v1, v2, hz, rfl⟩
      have hz : z.cps.toList = codN c t 8 := hz
      have hzl : z.length = 8 := by
        have hl : z.cps.toList.length = z.length := Array.length_toList
        rw [hz, codN_len] at hl
        exact hl.symm
      walk_at "ge"
      refine K1.use ?_
      walk_at "cl"
      clear K1
      refine seqK fun M1 K1 => ?_
      walk_at "ge"
      · have h1 : c / 64 % 3 = 1 := by assumption
        refine slSH (by have := sizeLine_eq; omega) ?_
        rw [slice_take hz (show 1 + (c + t) % 8 = sizN c t by unfold sizN; rw [if_pos h1])]
        walk_at "ge"
        exact k
      · have h1 : ¬ c / 64 % 3 = 1 := by assumption
        refine K1.use ?_
        walk_at "ge"
        refine slSH (by have := sizeLine_eq; omega) ?_
        rw [slice_take hz (show 1 + c % 8 = sizN c t by unfold sizN; rw [if_neg h1])]
        walk_at "ge"
        exact k
def spRows : Sp := fun vs H Q _ => ∃ (c : Int) (L : Cells), vs = [.int c] ∧ Builtin.Int.intBits c ≤ 1048576 ∧ Led H L ∧ ∀ (l : Addr) (rows : Rws) (H' : Hp), 1 ≤ rows.length → rows.length ≤ 64 → (∀ r ∈ rows, r.2.length = 4) → Led H' ((l, .lst (rfs rows)) :: (rwC rows ++ L)) → Q (.ref l) H'
theorem ok_rows (D : Def K mg "_law_rows" s_l_rows) (B : Blt mg) (T : Txt K mg cP cA cB cC c1 c2 c3 c4 c5 c6 cI) (G__law_row : FnD P w K mg base 2 "_law_row" ["_law_cell"] spRow) : FnD P w K mg base 3 "_law_rows" ["_law_cell"] spRows := by
  have sc := sc_l_rows
  refine D.ok sc_l_rows (fun vs H Q E h => ?_) (fun _ _ _ _ _ _ us hl => match us, hl with | [_], _ => rfl) (fun f cdv A outer s H vs Q E hr h => ?_)
  · obtain ⟨_, _, rfl, _⟩ := h; rfl
  · obtain ⟨c, L, rfl, hb, hL, k⟩ := h
    refine ⟨_, (@pss_cons _ _ _ _ _ (@ps_set _ _ 1 _ _ _ _ sc.nd rfl (by first | exact Or.inl rfl | exact Or.inr rfl) (@pe_op _ _ _ _ _ _ _ _ op_add (@pe_int _ _ _ _) (@pe_op _ _ _ _ _ _ _ _ op_mod (@pv _ 0 _ _ (by rfl) (by first | exact Or.inl rfl | exact Or.inr (Or.inl rfl) | exact Or.inr (Or.inr rfl)) (by decide) (by decide)) (@pe_int _ _ _ _))) (by rfl) (by first | exact .inl rfl | exact .inr rfl | assumption)) (@pss_cons _ _ _ _ _ (@ps_if _ _ _ _ _ _ _ _ (@pt_cmpR _ _ _ _ _ _ _ _ op_eq (@pe_op _ _ _ _ _ _ _ _ op_mod (@pe_op _ _ _ _ _ _ _ _ op_fdiv (@pv _ 0 _ _ (by rfl) (by first | exact Or.inl rfl | exact Or.inr (Or.inl rfl) | exact Or.inr (Or.inr rfl)) (by decide) (by decide)) (@pe_int _ _ _ _)) (@pe_int _ _ _ _)) (@pe_int _ _ _ _) (nomark _)) (@pss_one _ _ _ (@ps_set _ _ 1 _ _ _ _ sc.nd rfl (by first | exact Or.inl rfl | exact Or.inr rfl) (@pe_op _ _ _ _ _ _ _ _ op_add (@pe_int _ _ _ _) (@pe_op _ _ _ _ _ _ _ _ op_mod (@pe_op _ _ _ _ _ _ _ _ op_fdiv (@pv _ 0 _ _ (by rfl) (by first | exact Or.inl rfl | exact Or.inr (Or.inl rfl) | exact Or.inr (Or.inr rfl)) (by decide) (by decide)) (@pe_int _ _ _ _)) (@pe_int _ _ _ _))) (by rfl) (by first | exact .inl rfl | exact .inr rfl | assumption))) (@pss_nil _)) (@pss_one _ _ _ (@ps_ret _ _ _ _ (@pe_comp _ _ "_law_k" _ _ _ _ _ _ _ _ _ rfl rfl rfl rfl noH (compSc_of (by kernel_rfl)) (@pi_range1 _ _ _ _ _ _ (by rfl) B.range (@pa_cons _ _ _ _ _ (@pv _ 1 _ _ (by rfl) (by first | exact Or.inl rfl | exact Or.inr (Or.inl rfl) | exact Or.inr (Or.inr rfl)) (by decide) (by decide)) (@pa_nil _) (by rfl)) (by rfl)) (fun _ _ _ _ => (@pts_nil _)) (fun _ _ _ _ => (@pe_callD _ _ _ _ _ _ _ _ _ _ _ G__law_row (hr.mono (by omega)) (by rfl) passR0 (@pa_cons _ _ _ _ _ (@pe_op _ _ _ _ _ _ _ _ op_add (@pk _ 1 _ _ (by kernel_rfl) (by kernel_rfl) (by decide) (by decide)) (@pe_op _ _ _ _ _ _ _ _ op_mul (@pe_int _ _ _ _) (@pk _ 0 _ _ (by kernel_rfl) (by kernel_rfl) (by decide) (by decide)))) (@pa_nil _) (by rfl)) (by decide) (by rfl) (by rfl))) (by intro _; rfl)))))), ?_⟩
    refine seqK fun M1 K1 => ?_
    walk_at "ge"
    refine K1.use ?_
    walk_at "cl"
    clear K1
    refine seqK fun M1 K1 => ?_
    have rest : ∀ m : Nat, 1 ≤ m → m ≤ 64 → M1 [some (.int c), some (.int (m : Nat))] H := by
      intro m m1 m64
      refine K1.use ?_
      clear K1
      walk_at "ge"
      refine compR1 fun Lc hLc => ?_
      walk_at "ge"
      refine ⟨_, rfl, by omega, by omega, hLc.use ?_⟩
      clear hLc
      rw [show ((m : Nat) : Int).toNat = m by omega]
      refine compRangeG (fun _ v C => ∃ (r : Addr) (row : List Int), v = V.ref r ∧ C = [(r, HO.lst (row.map V.int))] ∧ row.length = 4) hL (by have := sizeLine_eq; omega) (fun i H2 R M2 hi hl2 hR => ?_) (fun l vs Cs H2 hvl hcl hG hl2 => ?_)
      · walk_at "ge"
        refine ⟨_, _, rfl, Nat.le_trans (bits_add hb (by omega) (by omega) (by decide)) (by decide), hl2, fun r row H3 h4 hl3 => ?_⟩
        walk_at "ge"
        exact hR _ _ [_] ⟨r, row, rfl, rfl, h4⟩ hl3
      · obtain ⟨rows, rfl, e2, e3, e4⟩ := rowsOf (p := fun _ row => row.length = 4) (by rw [hvl, hcl]) hG
        rw [e2] at hl2
        rw [rfs_len] at hvl
        walk_at "ge"
        refine k l rows _ (by omega) (by omega) (fun r hr => ?_) hl2
        obtain ⟨i, hi⟩ := List.getElem?_of_mem hr
        exact e4 i r hi
    clear K1
    walk_at "ge"
    · obtain ⟨m, hm⟩ : ∃ m : Nat, 1 + c / 24 % 64 = ((m : Nat) : Int) := ⟨(1 + c / 24 % 64).toNat, by omega⟩
      rw [hm]
      exact rest m (by omega) (by omega)
    · obtain ⟨m, hm⟩ : ∃ m : Nat, 1 + c % 4 = ((m : Nat) : Int) := ⟨(1 + c % 4).toNat, by omega⟩
      rw [hm]
      exact rest m (by omega) (by omega)
inductive Wy
  | make
  | size
  | row
  | store
  | drop
def wyS : Wy → Str
  | .make => Str.ofString "make"
  | .size => Str.ofString "size"
  | .row => Str.ofString "row"
  | .store => Str.ofString "store"
  | .drop => Str.ofString "drop"
/-- what a deed is refused with: no file, no page, taken -/
inductive Rf
  | no
  | file
  | page
  | taken
def rfB : Rf → List Bool
  | .no => []
  | .file => [true, false, false, true, false]
  | .page => [false, true, false, true, false]
  | .taken => [false, false, true, true, false]
/-- which it is -/
def RfOf (es : FEnts) (z : Str) (p : Int) : Wy → Rf → Prop
  | .make, .taken => z ∈ es.map (·.1)
  | .make, .no => z ∉ es.map (·.1)
  | .make, _ => False
  | _, .file => z ∉ es.map (·.1)
  | .size, .no => ∃ as bs e, es = as ++ e :: bs ∧ e.1 = z
  | .drop, .no => ∃ as bs e, es = as ++ e :: bs ∧ e.1 = z
  | .row, .no => ∃ as bs e, ∃ j : Nat, es = as ++ e :: bs ∧ e.1 = z ∧ p = ((j : Nat) : Int) ∧ j < e.2.2.length
  | .store, .no => ∃ as bs e, ∃ j : Nat, es = as ++ e :: bs ∧ e.1 = z ∧ p = ((j : Nat) : Int) ∧ j < e.2.2.length
  | .row, .page => ∃ as bs e, es = as ++ e :: bs ∧ e.1 = z ∧ ¬ p < e.2.2.length
  | .store, .page => ∃ as bs e, es = as ++ e :: bs ∧ e.1 = z ∧ ¬ p < e.2.2.length
  | _, _ => False
def spDue : Sp := fun vs H Q _ => ∃ (d : Addr) (es : FEnts) (wy : Wy) (z : Str) (p : Int) (L : Cells), vs = [.ref d, .str (wyS wy), .str z, .int p] ∧ Led H L ∧ (d, HO.dK (kvF es)) ∈ L ∧ (es.map (·.1)).Nodup ∧ (∀ e ∈ es, (e.2.1, HO.lst (rfs e.2.2)) ∈ L) ∧ 0 ≤ p ∧ ∀ (rf : Rf) (q : Addr) (H' : Hp), RfOf es z p wy rf → Led H' ((q, .lst ((rfB rf).map V.bl)) :: L) → Q (.ref q) H'
theorem ok_due (D : Def K mg "_law_due" s_l_due) (B : Blt mg) (T : Txt K mg cP cA cB cC c1 c2 c3 c4 c5 c6 cI) : FnD P w K mg base 1 "_law_due" ["_law_plain", "_law_way", "_law_name_here", "_law_page"] spDue := by
  have sc := sc_l_due
  refine D.ok sc_l_due (fun vs H Q E h => ?_) (fun _ _ _ _ _ _ us hl => match us, hl with | [_, _, _, _], _ => rfl) (fun f cdv A outer s H vs Q E hr h => ?_)
  · obtain ⟨_, _, _, _, _, _, rfl, _⟩ := h; rfl
  · obtain ⟨d, es, w0, z, p, L, rfl, hL, i_d, nd, i_f, p0, k⟩ := h
    have c_d := hL.get i_d
    have hu := unit1 hr
    refine ⟨_, (@pss_cons _ _ _ _ _ (@ps_if _ _ _ _ _ _ _ _ (@PW.pt _ _ _ (@pw_and _ _ _ _ _ _ _ (@pt_cmpR _ _ _ _ _ _ _ _ op_eq (@pv _ 1 _ _ (by rfl) (by first | exact Or.inl rfl | exact Or.inr (Or.inl rfl) | exact Or.inr (Or.inr rfl)) (by decide) (by decide)) (@pe_str _ _ _ _) (nomark _)) (@pw_and1 _ _ _ _ (@pt_cmp _ _ _ _ _ _ (@pc_din _ _ _ _ _ hu (@pv _ 2 _ _ (by rfl) (by first | exact Or.inl rfl | exact Or.inr (Or.inl rfl) | exact Or.inr (Or.inr rfl)) (by decide) (by decide)) (@pv _ 0 _ _ (by rfl) (by first | exact Or.inl rfl | exact Or.inr (Or.inl rfl) | exact Or.inr (Or.inr rfl)) (by decide) (by decide))) (by first | exact nobehind _ (by decide) (by decide) | rfl))))) (@pss_one _ _ _ (@ps_ret _ _ _ _ (@pe_lst _ _ _ _ (@pa_cons _ _ _ _ _ (@pe_bl _ _ _ _) (@pa_cons _ _ _ _ _ (@pe_bl _ _ _ _) (@pa_cons _ _ _ _ _ (@pe_bl _ _ _ _) (@pa_cons _ _ _ _ _ (@pe_bl _ _ _ _) (@pa_cons _ _ _ _ _ (@pe_bl _ _ _ _) (@pa_nil _) (by rfl)) (by rfl)) (by rfl)) (by rfl)) (by rfl))))) (@pss_nil _)) (@pss_cons _ _ _ _ _ (@ps_if _ _ _ _ _ _ _ _ (@PW.pt _ _ _ (@pw_and _ _ _ _ _ _ _ (@pt_cmpR _ _ _ _ _ _ _ _ op_ne (@pv _ 1 _ _ (by rfl) (by first | exact Or.inl rfl | exact Or.inr (Or.inl rfl) | exact Or.inr (Or.inr rfl)) (by decide) (by decide)) (@pe_str _ _ _ _) (nomark _)) (@pw_and1 _ _ _ _ (@pt_cmp _ _ _ _ _ _ (@pc_dnotin _ _ _ _ _ hu (@pv _ 2 _ _ (by rfl) (by first | exact Or.inl rfl | exact Or.inr (Or.inl rfl) | exact Or.inr (Or.inr rfl)) (by decide) (by decide)) (@pv _ 0 _ _ (by rfl) (by first | exact Or.inl rfl | exact Or.inr (Or.inl rfl) | exact Or.inr (Or.inr rfl)) (by decide) (by decide))) (by first | exact nobehind _ (by decide) (by decide) | rfl))))) (@pss_one _ _ _ (@ps_ret _ _ _ _ (@pe_lst _ _ _ _ (@pa_cons _ _ _ _ _ (@pe_bl _ _ _ _) (@pa_cons _ _ _ _ _ (@pe_bl _ _ _ _) (@pa_cons _ _ _ _ _ (@pe_bl _ _ _ _) (@pa_cons _ _ _ _ _ (@pe_bl _ _ _ _) (@pa_cons _ _ _ _ _ (@pe_bl _ _ _ _) (@pa_nil _) (by rfl)) (by rfl)) (by rfl)) (by rfl)) (by rfl))))) (@pss_nil _)) (@pss_cons _ _ _ _ _ (@ps_if _ _ _ _ _ _ _ _ (@PW.pt _ _ _ (@pw_and _ _ _ _ _ _ _ (@pt_cmpR _ _ _ _ _ _ _ _ op_in_seq (@pv _ 1 _ _ (by rfl) (by first | exact Or.inl rfl | exact Or.inr (Or.inl rfl) | exact Or.inr (Or.inr rfl)) (by decide) (by decide)) (@pe_tup _ _ _ _ _ (@pa_cons _ _ _ _ _ (@pe_str _ _ _ _) (@pa_cons _ _ _ _ _ (@pe_str _ _ _ _) (@pa_nil _) (by rfl)) (by rfl))) (by with_unfolding_all rfl)) (@pw_and1 _ _ _ _ (@pt_cmpR _ _ _ _ _ _ _ _ op_ge (@pv _ 3 _ _ (by rfl) (by first | exact Or.inl rfl | exact Or.inr (Or.inl rfl) | exact Or.inr (Or.inr rfl)) (by decide) (by decide)) (@pe_callB _ _ _ _ _ _ _ _ _ call_lenA (by rfl) B.len bt_len (@pa_cons _ _ _ _ _ (@pe_dget _ _ _ _ _ _ hu (@pv _ 0 _ _ (by rfl) (by first | exact Or.inl rfl | exact Or.inr (Or.inl rfl) | exact Or.inr (Or.inr rfl)) (by decide) (by decide)) (@pv _ 2 _ _ (by rfl) (by first | exact Or.inl rfl | exact Or.inr (Or.inl rfl) | exact Or.inr (Or.inr rfl)) (by decide) (by decide)) (fun _ _ => rfl)) (@pa_nil _) (by rfl)) (by decide) (by decide) (by rfl) (by rfl)) (nomark _))))) (@pss_one _ _ _ (@ps_ret _ _ _ _ (@pe_lst _ _ _ _ (@pa_cons _ _ _ _ _ (@pe_bl _ _ _ _) (@pa_cons _ _ _ _ _ (@pe_bl _ _ _ _) (@pa_cons _ _ _ _ _ (@pe_bl _ _ _ _) (@pa_cons _ _ _ _ _ (@pe_bl _ _ _ _) (@pa_cons _ _ _ _ _ (@pe_bl _ _ _ _) (@pa_nil _) (by rfl)) (by rfl)) (by rfl)) (by rfl)) (by rfl))))) (@pss_nil _)) (@pss_one _ _ _ (@ps_ret _ _ _ _ (@pe_lst _ _ _ _ (@pa_nil _))))))), ?_⟩
    obtain ⟨wy, hw⟩ : ∃ y, wyS w0 = y := ⟨_, rfl⟩
    rw [hw]
    replace hw := hw.symm
    by_cases hz : z ∈ es.map (·.1)
    · obtain ⟨e, he, hez⟩ := List.mem_map.mp hz
      subst hez
      have hkv := kvF_some nd he
      have c_e := hL.get (i_f e he)
      obtain ⟨as, bs, hab, _⟩ := splitF nd he
      have hin : (valV (kvF es) (.inr e.1)).isSome = true := by rw [val_in, decide_eq_true hz]
      cases w0 with
      | make =>
        replace hw : wy = Str.ofString "make" := hw
        refine seqK fun M1 K1 => ?_
        walk_at "ge"
        all_goals first | (exfalso; first | exact absurd hw (by assumption) | exact absurd (hw.symm.trans (by assumption : wy = Str.ofString "size")) (by decide +kernel) | exact absurd (hw.symm.trans (by assumption : wy = Str.ofString "row")) (by decide +kernel) | exact absurd (hw.symm.trans (by assumption : wy = Str.ofString "store")) (by decide +kernel) | exact absurd (hw.symm.trans (by assumption : wy = Str.ofString "drop")) (by decide +kernel)) | skip
        refine dinS c_d ?_
        rw [hin]
        walk_at "ge"
        rename Led _ _ => hl1
        exact k .taken _ _ hz hl1
      | size =>
        replace hw : wy = Str.ofString "size" := hw
        refine seqK fun M1 K1 => ?_
        walk_at "ge"
        all_goals first | (exfalso; first | exact absurd hw (by assumption) | exact absurd (hw.symm.trans (by assumption : wy = Str.ofString "make")) (by decide +kernel) | exact absurd (hw.symm.trans (by assumption : wy = Str.ofString "row")) (by decide +kernel) | exact absurd (hw.symm.trans (by assumption : wy = Str.ofString "store")) (by decide +kernel) | exact absurd (hw.symm.trans (by assumption : wy = Str.ofString "drop")) (by decide +kernel)) | skip
        refine K1.use ?_
        walk_at "cl"
        clear K1
        refine seqK fun M1 K1 => ?_
        walk_at "ge"
        all_goals first | (exfalso; first | exact absurd hw (by assumption) | exact absurd (hw.symm.trans (by assumption : wy = Str.ofString "make")) (by decide +kernel) | exact absurd (hw.symm.trans (by assumption : wy = Str.ofString "row")) (by decide +kernel) | exact absurd (hw.symm.trans (by assumption : wy = Str.ofString "store")) (by decide +kernel) | exact absurd (hw.symm.trans (by assumption : wy = Str.ofString "drop")) (by decide +kernel)) | skip
        refine dinS c_d ?_
        rw [hin]
        walk_at "ge"
        refine K1.use ?_
        walk_at "cl"
        clear K1
        refine seqK fun M1 K1 => ?_
        walk_at "ge"
        rename Led _ _ => hlt
        refine ⟨_, [.str (Str.ofString "row"), .str (Str.ofString "store")], rfl, .inr (SqT.of (hlt.get List.mem_cons_self)), rfl, rfl, ?_⟩
        rw [show inV (.str wy) [.str (Str.ofString "row"), .str (Str.ofString "store")] = false by rw [hw]; decide +kernel]
        walk_at "ge"
        rw [if_neg (by decide)]
        walk_at "ge"
        refine K1.use ?_
        walk_at "cl"
        have hl2 := hlt.tail
        clear K1 hlt
        walk_at "ge"
        rename Led _ _ => hl3
        exact k .no _ _ ⟨as, bs, e, hab, rfl⟩ hl3
      | row =>
        replace hw : wy = Str.ofString "row" := hw
        refine seqK fun M1 K1 => ?_
        walk_at "ge"
        all_goals first | (exfalso; first | exact absurd hw (by assumption) | exact absurd (hw.symm.trans (by assumption : wy = Str.ofString "make")) (by decide +kernel) | exact absurd (hw.symm.trans (by assumption : wy = Str.ofString "size")) (by decide +kernel) | exact absurd (hw.symm.trans (by assumption : wy = Str.ofString "store")) (by decide +kernel) | exact absurd (hw.symm.trans (by assumption : wy = Str.ofString "drop")) (by decide +kernel)) | skip
        refine K1.use ?_
        walk_at "cl"
        clear K1
        refine seqK fun M1 K1 => ?_
        walk_at "ge"
        all_goals first | (exfalso; first | exact absurd hw (by assumption) | exact absurd (hw.symm.trans (by assumption : wy = Str.ofString "make")) (by decide +kernel) | exact absurd (hw.symm.trans (by assumption : wy = Str.ofString "size")) (by decide +kernel) | exact absurd (hw.symm.trans (by assumption : wy = Str.ofString "store")) (by decide +kernel) | exact absurd (hw.symm.trans (by assumption : wy = Str.ofString "drop")) (by decide +kernel)) | skip
        refine dinS c_d ?_
        rw [hin]
        walk_at "ge"
        refine K1.use ?_
        walk_at "cl"
        clear K1
        refine seqK fun M1 K1 => ?_
        walk_at "ge"
        rename Led _ _ => hlt
        refine ⟨_, [.str (Str.ofString "row"), .str (Str.ofString "store")], rfl, .inr (SqT.of (hlt.get List.mem_cons_self)), rfl, rfl, ?_⟩
        rw [show inV (.str wy) [.str (Str.ofString "row"), .str (Str.ofString "store")] = true by rw [hw]; decide +kernel]
        have c_d2 := hlt.get (List.mem_cons_of_mem _ i_d)
        have c_e2 := hlt.get (List.mem_cons_of_mem _ (i_f e he))
        walk_at "ge"
        rw [if_pos (by decide)]
        walk_at "ge"
        refine dgetS c_d2 hkv ?_
        walk_at "ge"
        · rename Led _ _ => hl3
          have hge := rfs_len e.2.2
          exact k .page _ _ ⟨as, bs, e, hab, rfl, by omega⟩ (show Led _ ((_, HO.lst [.bl false, .bl true, .bl false, .bl true, .bl false]) :: L) from hl3.wk (by walk_at "sp"))
        · refine K1.use ?_
          walk_at "cl"
          have hl2 := hlt.tail
          clear K1 hlt c_d2 c_e2
          walk_at "ge"
          rename Led _ _ => hl3
          have hge := rfs_len e.2.2
          exact k .no _ _ ⟨as, bs, e, p.toNat, hab, rfl, by omega, by omega⟩ hl3
      | store =>
        replace hw : wy = Str.ofString "store" := hw
        refine seqK fun M1 K1 => ?_
        walk_at "ge"
        all_goals first | (exfalso; first | exact absurd hw (by assumption) | exact absurd (hw.symm.trans (by assumption : wy = Str.ofString "make")) (by decide +kernel) | exact absurd (hw.symm.trans (by assumption : wy = Str.ofString "size")) (by decide +kernel) | exact absurd (hw.symm.trans (by assumption : wy = Str.ofString "row")) (by decide +kernel) | exact absurd (hw.symm.trans (by assumption : wy = Str.ofString "drop")) (by decide +kernel)) | skip
        refine K1.use ?_
        walk_at "cl"
        clear K1
        refine seqK fun M1 K1 => ?_
        walk_at "ge"
        all_goals first | (exfalso; first | exact absurd hw (by assumption) | exact absurd (hw.symm.trans (by assumption : wy = Str.ofString "make")) (by decide +kernel) | exact absurd (hw.symm.trans (by assumption : wy = Str.ofString "size")) (by decide +kernel) | exact absurd (hw.symm.trans (by assumption : wy = Str.ofString "row")) (by decide +kernel) | exact absurd (hw.symm.trans (by assumption : wy = Str.ofString "drop")) (by decide +kernel)) | skip
        refine dinS c_d ?_
        rw [hin]
        walk_at "ge"
        refine K1.use ?_
        walk_at "cl"
        clear K1
        refine seqK fun M1 K1 => ?_
        walk_at "ge"
        rename Led _ _ => hlt
        refine ⟨_, [.str (Str.ofString "row"), .str (Str.ofString "store")], rfl, .inr (SqT.of (hlt.get List.mem_cons_self)), rfl, rfl, ?_⟩
        rw [show inV (.str wy) [.str (Str.ofString "row"), .str (Str.ofString "store")] = true by rw [hw]; decide +kernel]
        have c_d2 := hlt.get (List.mem_cons_of_mem _ i_d)
        have c_e2 := hlt.get (List.mem_cons_of_mem _ (i_f e he))
        walk_at "ge"
        rw [if_pos (by decide)]
        walk_at "ge"
        refine dgetS c_d2 hkv ?_
        walk_at "ge"
        · rename Led _ _ => hl3
          have hge := rfs_len e.2.2
          exact k .page _ _ ⟨as, bs, e, hab, rfl, by omega⟩ (show Led _ ((_, HO.lst [.bl false, .bl true, .bl false, .bl true, .bl false]) :: L) from hl3.wk (by walk_at "sp"))
        · refine K1.use ?_
          walk_at "cl"
          have hl2 := hlt.tail
          clear K1 hlt c_d2 c_e2
          walk_at "ge"
          rename Led _ _ => hl3
          have hge := rfs_len e.2.2
          exact k .no _ _ ⟨as, bs, e, p.toNat, hab, rfl, by omega, by omega⟩ hl3
      | drop =>
        replace hw : wy = Str.ofString "drop" := hw
        refine seqK fun M1 K1 => ?_
        walk_at "ge"
        all_goals first | (exfalso; first | exact absurd hw (by assumption) | exact absurd (hw.symm.trans (by assumption : wy = Str.ofString "make")) (by decide +kernel) | exact absurd (hw.symm.trans (by assumption : wy = Str.ofString "size")) (by decide +kernel) | exact absurd (hw.symm.trans (by assumption : wy = Str.ofString "row")) (by decide +kernel) | exact absurd (hw.symm.trans (by assumption : wy = Str.ofString "store")) (by decide +kernel)) | skip
        refine K1.use ?_
        walk_at "cl"
        clear K1
        refine seqK fun M1 K1 => ?_
        walk_at "ge"
        all_goals first | (exfalso; first | exact absurd hw (by assumption) | exact absurd (hw.symm.trans (by assumption : wy = Str.ofString "make")) (by decide +kernel) | exact absurd (hw.symm.trans (by assumption : wy = Str.ofString "size")) (by decide +kernel) | exact absurd (hw.symm.trans (by assumption : wy = Str.ofString "row")) (by decide +kernel) | exact absurd (hw.symm.trans (by assumption : wy = Str.ofString "store")) (by decide +kernel)) | skip
        refine dinS c_d ?_
        rw [hin]
        walk_at "ge"
        refine K1.use ?_
        walk_at "cl"
        clear K1
        refine seqK fun M1 K1 => ?_
        walk_at "ge"
        rename Led _ _ => hlt
        refine ⟨_, [.str (Str.ofString "row"), .str (Str.ofString "store")], rfl, .inr (SqT.of (hlt.get List.mem_cons_self)), rfl, rfl, ?_⟩
        rw [show inV (.str wy) [.str (Str.ofString "row"), .str (Str.ofString "store")] = false by rw [hw]; decide +kernel]
        walk_at "ge"
        rw [if_neg (by decide)]
        walk_at "ge"
        refine K1.use ?_
        walk_at "cl"
        have hl2 := hlt.tail
        clear K1 hlt
        walk_at "ge"
        rename Led _ _ => hl3
        exact k .no _ _ ⟨as, bs, e, hab, rfl⟩ hl3
    · have hin : (valV (kvF es) (.inr z)).isSome = false := by rw [val_in, decide_eq_false hz]
      cases w0 with
      | make =>
        replace hw : wy = Str.ofString "make" := hw
        refine seqK fun M1 K1 => ?_
        walk_at "ge"
        all_goals first | (exfalso; first | exact absurd hw (by assumption) | exact absurd (hw.symm.trans (by assumption : wy = Str.ofString "size")) (by decide +kernel) | exact absurd (hw.symm.trans (by assumption : wy = Str.ofString "row")) (by decide +kernel) | exact absurd (hw.symm.trans (by assumption : wy = Str.ofString "store")) (by decide +kernel) | exact absurd (hw.symm.trans (by assumption : wy = Str.ofString "drop")) (by decide +kernel)) | skip
        refine dinS c_d ?_
        rw [hin]
        walk_at "ge"
        refine K1.use ?_
        walk_at "cl"
        clear K1
        refine seqK fun M1 K1 => ?_
        walk_at "ge"
        all_goals first | (exfalso; first | exact absurd hw (by assumption) | exact absurd (hw.symm.trans (by assumption : wy = Str.ofString "size")) (by decide +kernel) | exact absurd (hw.symm.trans (by assumption : wy = Str.ofString "row")) (by decide +kernel) | exact absurd (hw.symm.trans (by assumption : wy = Str.ofString "store")) (by decide +kernel) | exact absurd (hw.symm.trans (by assumption : wy = Str.ofString "drop")) (by decide +kernel)) | skip
        refine K1.use ?_
        walk_at "cl"
        clear K1
        refine seqK fun M1 K1 => ?_
        walk_at "ge"
        rename Led _ _ => hlt
        refine ⟨_, [.str (Str.ofString "row"), .str (Str.ofString "store")], rfl, .inr (SqT.of (hlt.get List.mem_cons_self)), rfl, rfl, ?_⟩
        rw [show inV (.str wy) [.str (Str.ofString "row"), .str (Str.ofString "store")] = false by rw [hw]; decide +kernel]
        walk_at "ge"
        rw [if_neg (by decide)]
        walk_at "ge"
        refine K1.use ?_
        walk_at "cl"
        have hl2 := hlt.tail
        clear K1 hlt
        walk_at "ge"
        rename Led _ _ => hl3
        exact k .no _ _ hz hl3
      | size =>
        replace hw : wy = Str.ofString "size" := hw
        refine seqK fun M1 K1 => ?_
        walk_at "ge"
        all_goals first | (exfalso; first | exact absurd hw (by assumption) | exact absurd (hw.symm.trans (by assumption : wy = Str.ofString "make")) (by decide +kernel) | exact absurd (hw.symm.trans (by assumption : wy = Str.ofString "row")) (by decide +kernel) | exact absurd (hw.symm.trans (by assumption : wy = Str.ofString "store")) (by decide +kernel) | exact absurd (hw.symm.trans (by assumption : wy = Str.ofString "drop")) (by decide +kernel)) | skip
        refine K1.use ?_
        walk_at "cl"
        clear K1
        refine seqK fun M1 K1 => ?_
        walk_at "ge"
        all_goals first | (exfalso; first | exact absurd hw (by assumption) | exact absurd (hw.symm.trans (by assumption : wy = Str.ofString "make")) (by decide +kernel) | exact absurd (hw.symm.trans (by assumption : wy = Str.ofString "row")) (by decide +kernel) | exact absurd (hw.symm.trans (by assumption : wy = Str.ofString "store")) (by decide +kernel) | exact absurd (hw.symm.trans (by assumption : wy = Str.ofString "drop")) (by decide +kernel)) | skip
        refine dinS c_d ?_
        rw [hin]
        walk_at "ge"
        rename Led _ _ => hl1
        exact k .file _ _ hz hl1
      | row =>
        replace hw : wy = Str.ofString "row" := hw
        refine seqK fun M1 K1 => ?_
        walk_at "ge"
        all_goals first | (exfalso; first | exact absurd hw (by assumption) | exact absurd (hw.symm.trans (by assumption : wy = Str.ofString "make")) (by decide +kernel) | exact absurd (hw.symm.trans (by assumption : wy = Str.ofString "size")) (by decide +kernel) | exact absurd (hw.symm.trans (by assumption : wy = Str.ofString "store")) (by decide +kernel) | exact absurd (hw.symm.trans (by assumption : wy = Str.ofString "drop")) (by decide +kernel)) | skip
        refine K1.use ?_
        walk_at "cl"
        clear K1
        refine seqK fun M1 K1 => ?_
        walk_at "ge"
        all_goals first | (exfalso; first | exact absurd hw (by assumption) | exact absurd (hw.symm.trans (by assumption : wy = Str.ofString "make")) (by decide +kernel) | exact absurd (hw.symm.trans (by assumption : wy = Str.ofString "size")) (by decide +kernel) | exact absurd (hw.symm.trans (by assumption : wy = Str.ofString "store")) (by decide +kernel) | exact absurd (hw.symm.trans (by assumption : wy = Str.ofString "drop")) (by decide +kernel)) | skip
        refine dinS c_d ?_
        rw [hin]
        walk_at "ge"
        rename Led _ _ => hl1
        exact k .file _ _ hz hl1
      | store =>
        replace hw : wy = Str.ofString "store" := hw
        refine seqK fun M1 K1 => ?_
        walk_at "ge"
        all_goals first | (exfalso; first | exact absurd hw (by assumption) | exact absurd (hw.symm.trans (by assumption : wy = Str.ofString "make")) (by decide +kernel) | exact absurd (hw.symm.trans (by assumption : wy = Str.ofString "size")) (by decide +kernel) | exact absurd (hw.symm.trans (by assumption : wy = Str.ofString "row")) (by decide +kernel) | exact absurd (hw.symm.trans (by assumption : wy = Str.ofString "drop")) (by decide +kernel)) | skip
        refine K1.use ?_
        walk_at "cl"
        clear K1
        refine seqK fun M1 K1 => ?_
        walk_at "ge"
        all_goals first | (exfalso; first | exact absurd hw (by assumption) | exact absurd (hw.symm.trans (by assumption : wy = Str.ofString "make")) (by decide +kernel) | exact absurd (hw.symm.trans (by assumption : wy = Str.ofString "size")) (by decide +kernel) | exact absurd (hw.symm.trans (by assumption : wy = Str.ofString "row")) (by decide +kernel) | exact absurd (hw.symm.trans (by assumption : wy = Str.ofString "drop")) (by decide +kernel)) | skip
        refine dinS c_d ?_
        rw [hin]
        walk_at "ge"
        rename Led _ _ => hl1
        exact k .file _ _ hz hl1
      | drop =>
        replace hw : wy = Str.ofString "drop" := hw
        refine seqK fun M1 K1 => ?_
        walk_at "ge"
        all_goals first | (exfalso; first | exact absurd hw (by assumption) | exact absurd (hw.symm.trans (by assumption : wy = Str.ofString "make")) (by decide +kernel) | exact absurd (hw.symm.trans (by assumption : wy = Str.ofString "size")) (by decide +kernel) | exact absurd (hw.symm.trans (by assumption : wy = Str.ofString "row")) (by decide +kernel) | exact absurd (hw.symm.trans (by assumption : wy = Str.ofString "store")) (by decide +kernel)) | skip
        refine K1.use ?_
        walk_at "cl"
        clear K1
        refine seqK fun M1 K1 => ?_
        walk_at "ge"
        all_goals first | (exfalso; first | exact absurd hw (by assumption) | exact absurd (hw.symm.trans (by assumption : wy = Str.ofString "make")) (by decide +kernel) | exact absurd (hw.symm.trans (by assumption : wy = Str.ofString "size")) (by decide +kernel) | exact absurd (hw.symm.trans (by assumption : wy = Str.ofString "row")) (by decide +kernel) | exact absurd (hw.symm.trans (by assumption : wy = Str.ofString "store")) (by decide +kernel)) | skip
        refine dinS c_d ?_
        rw [hin]
        walk_at "ge"
        rename Led _ _ => hl1
        exact k .file _ _ hz hl1
end

section
variable {P : Program} {w : World} {K : PySem.W.Frag} {mg : Str → Option Value} {base : Heap} {cP cA cB cC c1 c2 c3 c4 c5 c6 cI : Addr}
abbrev PdC (d : Addr) (es : FEnts) (R : Cells) : Cells := (d, .dK (kvF es)) :: (filC es ++ R)
/-- what a deed that is not refused does to the plain files, and tells -/
def DoneK (d : Addr) (es : FEnts) (z : Str) (p : Int) (rows : Rws) (R : Cells) (Q : VK) (H : Hp) : Wy → Prop
  | .make => z ∉ es.map (·.1) ∧ ∀ (fa : Addr) (rows' : Rws) (H' : Hp), rows'.map (·.2) = rows.map (·.2) → Led H' (PdC d (es ++ [(z, fa, rows')]) (rwC rows' ++ R)) → Q .non H'
  | .size => ∃ as bs e, es = as ++ e :: bs ∧ e.1 = z ∧ Q (.int (e.2.2.length : Nat)) H
  | .row => ∃ as bs e, ∃ (j : Nat) (r : Addr × List Int), es = as ++ e :: bs ∧ e.1 = z ∧ p = ((j : Nat) : Int) ∧ e.2.2[j]? = some r ∧ ∀ q H', Led H' ((q, .lst (r.2.map V.int)) :: PdC d es R) → Q (.ref q) H'
  | .store => ∃ as bs e, ∃ (j : Nat) (r0 : Addr × List Int), es = as ++ e :: bs ∧ e.1 = z ∧ p = ((j : Nat) : Int) ∧ j < e.2.2.length ∧ rows[0]? = some r0 ∧ ∀ (nr : Addr) (H' : Hp), Led H' (PdC d (as ++ (e.1, e.2.1, e.2.2.set j (nr, r0.2)) :: bs) ((nr, .lst (r0.2.map V.int)) :: R)) → Q .non H'
  | .drop => ∃ as bs e, es = as ++ e :: bs ∧ e.1 = z ∧ ∀ H', Led H' (PdC d (as ++ bs) R) → Q .non H'
def spDone : Sp := fun vs H Q _ => ∃ (d l : Addr) (es : FEnts) (wy : Wy) (z : Str) (p : Int) (rows : Rws) (R : Cells), vs = [.ref d, .str (wyS wy), .str z, .int p, .ref l] ∧ Led H (PdC d es R) ∧ (es.map (·.1)).Nodup ∧ (l, HO.lst (rfs rows)) ∈ R ∧ (∀ r ∈ rows, (r.1, HO.lst (r.2.map V.int)) ∈ R ∧ r.2.length ≤ 600) ∧ (∀ e ∈ es, ∀ r ∈ e.2.2, (r.1, HO.lst (r.2.map V.int)) ∈ R ∧ r.2.length ≤ 600) ∧ rows.length ≤ 100 ∧ es.length ≤ 600 ∧ DoneK d es z p rows R Q H wy
theorem drop_mid {as bs : FEnts} {e : FEnt} (nd : ((as ++ e :: bs).map (·.1)).Nodup) : (as ++ e :: bs).filter (fun x => decide (x.1 ≠ e.1)) = as ++ bs := by
  rw [List.map_append, List.map_cons] at nd
  have h1 : ∀ x ∈ as ++ bs, x.1 ≠ e.1 := fun x hx q => by
    have nd2 := (List.perm_middle (l₁ := as.map (·.1)) (a := e.1) (l₂ := bs.map (·.1))).nodup_iff.mp nd
    rw [List.nodup_cons] at nd2
    refine nd2.1 ?_
    rw [← List.map_append, ← q]
    exact List.mem_map.mpr ⟨x, hx, rfl⟩
  rw [List.filter_append, List.filter_cons, if_neg (by simp)]
  rw [List.filter_eq_self.mpr, List.filter_eq_self.mpr]
  · intro x hx; exact decide_eq_true (h1 x (List.mem_append_right _ hx))
  · intro x hx; exact decide_eq_true (h1 x (List.mem_append_left _ hx))
theorem ok_done (D : Def K mg "_law_done" s_l_done) (B : Blt mg) (T : Txt K mg cP cA cB cC c1 c2 c3 c4 c5 c6 cI) : FnD P w K mg base 1 "_law_done" ["_law_plain", "_law_way", "_law_name_here", "_law_page", "_law_rows_here"] spDone := by
  have sc := sc_l_done
  refine D.ok sc_l_done (fun vs H Q E h => ?_) (fun _ _ _ _ _ _ us hl => match us, hl with | [_, _, _, _, _], _ => rfl) (fun f cdv A outer s H vs Q E hr h => ?_)
  · obtain ⟨_, _, _, _, _, _, _, _, rfl, _⟩ := h; rfl
  · obtain ⟨d, l, es, w0, z, p, rows, R, rfl, hL, nd, i_l, i_r, i_e, hrl, h6, k⟩ := h
    have hu := unit1 hr
    have up : ∀ {c : Addr × HO}, c ∈ R → c ∈ PdC d es R := fun h => List.mem_cons_of_mem _ (List.mem_append_right _ h)
    have c_d := hL.get List.mem_cons_self
    have c_l := hL.get (up i_l)
    refine ⟨_, (@pss_cons _ _ _ _ _ (@ps_if _ _ _ _ _ _ _ _ (@pt_cmpR _ _ _ _ _ _ _ _ op_eq (@pv _ 1 _ _ (by rfl) (by first | exact Or.inl rfl | exact Or.inr (Or.inl rfl) | exact Or.inr (Or.inr rfl)) (by decide) (by decide)) (@pe_str _ _ _ _) (nomark _)) (@pss_one _ _ _ (@ps_dput _ _ _ _ _ _ _ _ _ hu (@pv _ 0 _ _ (by rfl) (by first | exact Or.inl rfl | exact Or.inr (Or.inl rfl) | exact Or.inr (Or.inr rfl)) (by decide) (by decide)) (@pv _ 2 _ _ (by rfl) (by first | exact Or.inl rfl | exact Or.inr (Or.inl rfl) | exact Or.inr (Or.inr rfl)) (by decide) (by decide)) (@pe_comp _ _ "_law_row_here" _ _ _ _ _ _ _ _ _ rfl rfl rfl rfl noH (compSc_of (by kernel_rfl)) (@pi_list _ _ _ _ (@pv _ 4 _ _ (by rfl) (by first | exact Or.inl rfl | exact Or.inr (Or.inl rfl) | exact Or.inr (Or.inr rfl)) (by decide) (by decide))) (fun _ _ _ _ => (@pts_nil _)) (fun _ _ _ _ => (@pe_callTy _ _ _ _ _ _ _ _ _ (call_list_ofK (K := K) rfl) (by rfl) B.list bt_list (@pa_cons _ _ _ _ _ (@pk _ 0 _ _ (by kernel_rfl) (by kernel_rfl) (by decide) (by decide)) (@pa_nil _) (by rfl)) (by decide) (by decide) (by rfl) (by rfl))) (by intro _; rfl)) rfl)) (@pss_nil _)) (@pss_cons _ _ _ _ _ (@ps_if _ _ _ _ _ _ _ _ (@pt_cmpR _ _ _ _ _ _ _ _ op_eq (@pv _ 1 _ _ (by rfl) (by first | exact Or.inl rfl | exact Or.inr (Or.inl rfl) | exact Or.inr (Or.inr rfl)) (by decide) (by decide)) (@pe_str _ _ _ _) (nomark _)) (@pss_one _ _ _ (@ps_ret _ _ _ _ (@pe_callB _ _ _ _ _ _ _ _ _ call_lenA (by rfl) B.len bt_len (@pa_cons _ _ _ _ _ (@pe_dget _ _ _ _ _ _ hu (@pv _ 0 _ _ (by rfl) (by first | exact Or.inl rfl | exact Or.inr (Or.inl rfl) | exact Or.inr (Or.inr rfl)) (by decide) (by decide)) (@pv _ 2 _ _ (by rfl) (by first | exact Or.inl rfl | exact Or.inr (Or.inl rfl) | exact Or.inr (Or.inr rfl)) (by decide) (by decide)) (fun _ _ => rfl)) (@pa_nil _) (by rfl)) (by decide) (by decide) (by rfl) (by rfl)))) (@pss_nil _)) (@pss_cons _ _ _ _ _ (@ps_if _ _ _ _ _ _ _ _ (@pt_cmpR _ _ _ _ _ _ _ _ op_eq (@pv _ 1 _ _ (by rfl) (by first | exact Or.inl rfl | exact Or.inr (Or.inl rfl) | exact Or.inr (Or.inr rfl)) (by decide) (by decide)) (@pe_str _ _ _ _) (nomark _)) (@pss_one _ _ _ (@ps_ret _ _ _ _ (@pe_callTy _ _ _ _ _ _ _ _ _ (call_list_ofK (K := K) rfl) (by rfl) B.list bt_list (@pa_cons _ _ _ _ _ (@pe_ix _ _ _ _ _ _ _ ix_any (@pe_dget _ _ _ _ _ _ hu (@pv _ 0 _ _ (by rfl) (by first | exact Or.inl rfl | exact Or.inr (Or.inl rfl) | exact Or.inr (Or.inr rfl)) (by decide) (by decide)) (@pv _ 2 _ _ (by rfl) (by first | exact Or.inl rfl | exact Or.inr (Or.inl rfl) | exact Or.inr (Or.inr rfl)) (by decide) (by decide)) (fun _ _ => rfl)) (@pv _ 3 _ _ (by rfl) (by first | exact Or.inl rfl | exact Or.inr (Or.inl rfl) | exact Or.inr (Or.inr rfl)) (by decide) (by decide)) (fun _ _ => rfl)) (@pa_nil _) (by rfl)) (by decide) (by decide) (by rfl) (by rfl)))) (@pss_nil _)) (@pss_cons _ _ _ _ _ (@ps_if _ _ _ _ _ _ _ _ (@pt_cmpR _ _ _ _ _ _ _ _ op_eq (@pv _ 1 _ _ (by rfl) (by first | exact Or.inl rfl | exact Or.inr (Or.inl rfl) | exact Or.inr (Or.inr rfl)) (by decide) (by decide)) (@pe_str _ _ _ _) (nomark _)) (@pss_one _ _ _ (@ps_asg _ _ _ _ _ _ (@pe_callTy _ _ _ _ _ _ _ _ _ (call_list_ofK (K := K) rfl) (by rfl) B.list bt_list (@pa_cons _ _ _ _ _ (@pe_ix _ _ _ _ _ _ _ ix_any (@pv _ 4 _ _ (by rfl) (by first | exact Or.inl rfl | exact Or.inr (Or.inl rfl) | exact Or.inr (Or.inr rfl)) (by decide) (by decide)) (@pe_int _ _ _ _) (fun _ _ => rfl)) (@pa_nil _) (by rfl)) (by decide) (by decide) (by rfl) (by rfl)) (@pg_sub _ _ _ _ _ _ _ (@pe_dget _ _ _ _ _ _ hu (@pv _ 0 _ _ (by rfl) (by first | exact Or.inl rfl | exact Or.inr (Or.inl rfl) | exact Or.inr (Or.inr rfl)) (by decide) (by decide)) (@pv _ 2 _ _ (by rfl) (by first | exact Or.inl rfl | exact Or.inr (Or.inl rfl) | exact Or.inr (Or.inr rfl)) (by decide) (by decide)) (fun _ _ => rfl)) (@pv _ 3 _ _ (by rfl) (by first | exact Or.inl rfl | exact Or.inr (Or.inl rfl) | exact Or.inr (Or.inr rfl)) (by decide) (by decide)) set_list (by intro _; rfl)) (by rfl) (by rfl) (by rfl))) (@pss_nil _)) (@pss_cons _ _ _ _ _ (@ps_if _ _ _ _ _ _ _ _ (@pt_cmpR _ _ _ _ _ _ _ _ op_eq (@pv _ 1 _ _ (by rfl) (by first | exact Or.inl rfl | exact Or.inr (Or.inl rfl) | exact Or.inr (Or.inr rfl)) (by decide) (by decide)) (@pe_str _ _ _ _) (nomark _)) (@pss_one _ _ _ (@ps_expr _ _ _ _ (@pe_dpop1 _ _ _ _ _ _ _ (@pv _ 0 _ _ (by rfl) (by first | exact Or.inl rfl | exact Or.inr (Or.inl rfl) | exact Or.inr (Or.inr rfl)) (by decide) (by decide)) (@pv _ 2 _ _ (by rfl) (by first | exact Or.inl rfl | exact Or.inr (Or.inl rfl) | exact Or.inr (Or.inr rfl)) (by decide) (by decide)) ⟨rfl, rfl, rfl, rfl⟩) (by rfl))) (@pss_nil _)) (@pss_one _ _ _ (@ps_ret _ _ _ _ (@pe_non _ _ _)))))))), ?_⟩
    obtain ⟨wy, hw⟩ : ∃ y, wyS w0 = y := ⟨_, rfl⟩
    rw [hw]
    replace hw := hw.symm
    cases w0 with
    | make =>
      replace hw : wy = Str.ofString "make" := hw
      obtain ⟨hz, k⟩ := k
      refine seqK fun M1 K1 => ?_
      have rest : ∀ (fa : Addr) (rows' : Rws) (H' : Hp), rows'.map (·.2) = rows.map (·.2) → Led H' (PdC d (es ++ [(z, fa, rows')]) (rwC rows' ++ R)) → M1 [some (.ref d), some (.str wy), some (.str z), some (.int p), some (.ref l)] H' := by
        intro fa rows' H' hs hl'
        clear hL c_d c_l
        refine K1.use ?_
        walk_at "cl"
        clear K1
        refine seqK fun M1 K1 => ?_
        walk_at "ge"
        all_goals first | (exfalso; first | exact absurd hw (by assumption) | exact absurd (hw.symm.trans (by assumption : wy = Str.ofString "size")) (by decide +kernel) | exact absurd (hw.symm.trans (by assumption : wy = Str.ofString "row")) (by decide +kernel) | exact absurd (hw.symm.trans (by assumption : wy = Str.ofString "store")) (by decide +kernel) | exact absurd (hw.symm.trans (by assumption : wy = Str.ofString "drop")) (by decide +kernel)) | skip
        refine K1.use ?_
        walk_at "cl"
        clear K1
        refine seqK fun M1 K1 => ?_
        walk_at "ge"
        all_goals first | (exfalso; first | exact absurd hw (by assumption) | exact absurd (hw.symm.trans (by assumption : wy = Str.ofString "size")) (by decide +kernel) | exact absurd (hw.symm.trans (by assumption : wy = Str.ofString "row")) (by decide +kernel) | exact absurd (hw.symm.trans (by assumption : wy = Str.ofString "store")) (by decide +kernel) | exact absurd (hw.symm.trans (by assumption : wy = Str.ofString "drop")) (by decide +kernel)) | skip
        refine K1.use ?_
        walk_at "cl"
        clear K1
        refine seqK fun M1 K1 => ?_
        walk_at "ge"
        all_goals first | (exfalso; first | exact absurd hw (by assumption) | exact absurd (hw.symm.trans (by assumption : wy = Str.ofString "size")) (by decide +kernel) | exact absurd (hw.symm.trans (by assumption : wy = Str.ofString "row")) (by decide +kernel) | exact absurd (hw.symm.trans (by assumption : wy = Str.ofString "store")) (by decide +kernel) | exact absurd (hw.symm.trans (by assumption : wy = Str.ofString "drop")) (by decide +kernel)) | skip
        refine K1.use ?_
        walk_at "cl"
        clear K1
        refine seqK fun M1 K1 => ?_
        walk_at "ge"
        all_goals first | (exfalso; first | exact absurd hw (by assumption) | exact absurd (hw.symm.trans (by assumption : wy = Str.ofString "size")) (by decide +kernel) | exact absurd (hw.symm.trans (by assumption : wy = Str.ofString "row")) (by decide +kernel) | exact absurd (hw.symm.trans (by assumption : wy = Str.ofString "store")) (by decide +kernel) | exact absurd (hw.symm.trans (by assumption : wy = Str.ofString "drop")) (by decide +kernel)) | skip
        refine K1.use ?_
        walk_at "cl"
        clear K1
        walk_at "ge"
        exact k fa rows' _ hs hl'
      clear K1
      walk_at "ge"
      all_goals first | (exfalso; first | exact absurd hw (by assumption) | exact absurd (hw.symm.trans (by assumption : wy = Str.ofString "size")) (by decide +kernel) | exact absurd (hw.symm.trans (by assumption : wy = Str.ofString "row")) (by decide +kernel) | exact absurd (hw.symm.trans (by assumption : wy = Str.ofString "store")) (by decide +kernel) | exact absurd (hw.symm.trans (by assumption : wy = Str.ofString "drop")) (by decide +kernel)) | skip
      refine compL fun Lc hLc => ?_
      walk_at "ge"
      refine ⟨_, rfl, ⟨_, SqL.of c_l⟩, hLc.use ?_⟩
      clear hLc c_d c_l
      refine compListL (rfs rows) (fun i v C => ∃ (r : Addr) (row : List Int), v = V.ref r ∧ C = [(r, HO.lst (row.map V.int))] ∧ rows[i]?.map (·.2) = some row) hL (up i_l) (by rw [rfs_len]; have := sizeLine_eq; omega) (fun i x H2 R2 M2 hx hl2 hR => ?_) (fun fa vs Cs H2 hvl hcl hG hl2 => ?_)
      · unfold rfs at hx
        rw [List.getElem?_map] at hx
        obtain ⟨r, hr, rfl⟩ := Option.map_eq_some_iff.mp hx
        have hm := List.mem_of_getElem? hr
        have c3 := hl2.get (List.mem_append_right M2 (up (i_r r hm).1))
        have h7 := (i_r r hm).2
        have mr : (r.2.map V.int).length = r.2.length := List.length_map _
        walk_at "ge"
        rename Led _ _ => hl3
        exact hR _ _ [_] ⟨_, r.2, rfl, rfl, by rw [hr]; rfl⟩ hl3
      · obtain ⟨rows', rfl, e2, e3, e4⟩ := rowsOf (by rw [hvl, hcl]) hG
        rw [e2] at hl2
        rw [rfs_len, rfs_len] at hvl
        have hsame := rows_same e4 (by rw [← hvl])
        have c2 : H2 d = some (.dK (kvF es)) := hl2.get (List.mem_cons_of_mem _ (List.mem_append_right _ List.mem_cons_self))
        walk_at "ge"
        refine dputS c2 (by unfold kvF; rw [List.length_map]; have := sizeLine_eq; omega) ?_
        rw [kvF_put hz fa rows']
        have hl3 : Led H2 ((d, .dK (kvF es)) :: (filC es ++ ((fa, .lst (rfs rows')) :: (rwC rows' ++ R)))) := hl2.wk (by simp only [PdC]; walk_at "sp")
        have hl4 := hl3.put (o' := .dK (kvF (es ++ [(z, fa, rows')]))) rfl rfl
        walk_at "ge"
        refine rest fa rows' _ hsame (hl4.wk ?_)
        unfold PdC
        rw [show filC (es ++ [(z, fa, rows')]) = filC es ++ [(fa, HO.lst (rfs rows'))] by unfold filC; rw [List.map_append]; rfl]
        simp only [List.append_assoc, List.cons_append, List.nil_append]
        walk_at "sp"
    | size =>
      replace hw : wy = Str.ofString "size" := hw
      obtain ⟨as, bs, e, rfl, rfl, k⟩ := k
      have he : e ∈ as ++ e :: bs := List.mem_append_right _ List.mem_cons_self
      have hkv := kvF_some nd he
      have c_e := hL.get (List.mem_cons_of_mem _ (List.mem_append_left _ (filC_mem he)))
      refine seqK fun M1 K1 => ?_
      walk_at "ge"
      all_goals first | (exfalso; first | exact absurd hw (by assumption) | exact absurd (hw.symm.trans (by assumption : wy = Str.ofString "make")) (by decide +kernel) | exact absurd (hw.symm.trans (by assumption : wy = Str.ofString "row")) (by decide +kernel) | exact absurd (hw.symm.trans (by assumption : wy = Str.ofString "store")) (by decide +kernel) | exact absurd (hw.symm.trans (by assumption : wy = Str.ofString "drop")) (by decide +kernel)) | skip
      refine K1.use ?_
      walk_at "cl"
      clear K1
      refine seqK fun M1 K1 => ?_
      walk_at "ge"
      all_goals first | (exfalso; first | exact absurd hw (by assumption) | exact absurd (hw.symm.trans (by assumption : wy = Str.ofString "make")) (by decide +kernel) | exact absurd (hw.symm.trans (by assumption : wy = Str.ofString "row")) (by decide +kernel) | exact absurd (hw.symm.trans (by assumption : wy = Str.ofString "store")) (by decide +kernel) | exact absurd (hw.symm.trans (by assumption : wy = Str.ofString "drop")) (by decide +kernel)) | skip
      refine dgetS c_d hkv ?_
      walk_at "ge"
      rw [rfs_len]
      exact k
    | row =>
      replace hw : wy = Str.ofString "row" := hw
      obtain ⟨as, bs, e, j, r, rfl, rfl, rfl, hj, k⟩ := k
      have he : e ∈ as ++ e :: bs := List.mem_append_right _ List.mem_cons_self
      have hkv := kvF_some nd he
      have c_e := hL.get (List.mem_cons_of_mem _ (List.mem_append_left _ (filC_mem he)))
      have c_r := hL.get (up (i_e e he r (List.mem_of_getElem? hj)).1)
      have h7 := (i_e e he r (List.mem_of_getElem? hj)).2
      have mr : (r.2.map V.int).length = r.2.length := List.length_map _
      have ha : atI (rfs e.2.2) ((j : Nat) : Int) = some (.ref r.1) := atI_of (by omega) (by unfold rfs; rw [Int.toNat_natCast, List.getElem?_map, hj]; rfl)
      refine seqK fun M1 K1 => ?_
      walk_at "ge"
      all_goals first | (exfalso; first | exact absurd hw (by assumption) | exact absurd (hw.symm.trans (by assumption : wy = Str.ofString "make")) (by decide +kernel) | exact absurd (hw.symm.trans (by assumption : wy = Str.ofString "size")) (by decide +kernel) | exact absurd (hw.symm.trans (by assumption : wy = Str.ofString "store")) (by decide +kernel) | exact absurd (hw.symm.trans (by assumption : wy = Str.ofString "drop")) (by decide +kernel)) | skip
      refine K1.use ?_
      walk_at "cl"
      clear K1
      refine seqK fun M1 K1 => ?_
      walk_at "ge"
      all_goals first | (exfalso; first | exact absurd hw (by assumption) | exact absurd (hw.symm.trans (by assumption : wy = Str.ofString "make")) (by decide +kernel) | exact absurd (hw.symm.trans (by assumption : wy = Str.ofString "size")) (by decide +kernel) | exact absurd (hw.symm.trans (by assumption : wy = Str.ofString "store")) (by decide +kernel) | exact absurd (hw.symm.trans (by assumption : wy = Str.ofString "drop")) (by decide +kernel)) | skip
      refine K1.use ?_
      walk_at "cl"
      clear K1
      refine seqK fun M1 K1 => ?_
      walk_at "ge"
      all_goals first | (exfalso; first | exact absurd hw (by assumption) | exact absurd (hw.symm.trans (by assumption : wy = Str.ofString "make")) (by decide +kernel) | exact absurd (hw.symm.trans (by assumption : wy = Str.ofString "size")) (by decide +kernel) | exact absurd (hw.symm.trans (by assumption : wy = Str.ofString "store")) (by decide +kernel) | exact absurd (hw.symm.trans (by assumption : wy = Str.ofString "drop")) (by decide +kernel)) | skip
      refine dgetS c_d hkv ?_
      walk_at "ge"
      rename Led _ _ => hl3
      exact k _ _ hl3
    | store =>
      replace hw : wy = Str.ofString "store" := hw
      obtain ⟨as, bs, e, j, r0, rfl, rfl, rfl, hj, h0, k⟩ := k
      have he : e ∈ as ++ e :: bs := List.mem_append_right _ List.mem_cons_self
      have hkv := kvF_some nd he
      have hjl : j < (rfs e.2.2).length := by rw [rfs_len]; exact hj
      have c_r := hL.get (up (i_r r0 (List.mem_of_getElem? h0)).1)
      have h7 := (i_r r0 (List.mem_of_getElem? h0)).2
      have mr : (r0.2.map V.int).length = r0.2.length := List.length_map _
      have ha : atI (rfs rows) 0 = some (.ref r0.1) := atI_of (by decide) (by unfold rfs; rw [show (0 : Int).toNat = 0 from rfl, List.getElem?_map, h0]; rfl)
      refine seqK fun M1 K1 => ?_
      walk_at "ge"
      all_goals first | (exfalso; first | exact absurd hw (by assumption) | exact absurd (hw.symm.trans (by assumption : wy = Str.ofString "make")) (by decide +kernel) | exact absurd (hw.symm.trans (by assumption : wy = Str.ofString "size")) (by decide +kernel) | exact absurd (hw.symm.trans (by assumption : wy = Str.ofString "row")) (by decide +kernel) | exact absurd (hw.symm.trans (by assumption : wy = Str.ofString "drop")) (by decide +kernel)) | skip
      refine K1.use ?_
      walk_at "cl"
      clear K1
      refine seqK fun M1 K1 => ?_
      walk_at "ge"
      all_goals first | (exfalso; first | exact absurd hw (by assumption) | exact absurd (hw.symm.trans (by assumption : wy = Str.ofString "make")) (by decide +kernel) | exact absurd (hw.symm.trans (by assumption : wy = Str.ofString "size")) (by decide +kernel) | exact absurd (hw.symm.trans (by assumption : wy = Str.ofString "row")) (by decide +kernel) | exact absurd (hw.symm.trans (by assumption : wy = Str.ofString "drop")) (by decide +kernel)) | skip
      refine K1.use ?_
      walk_at "cl"
      clear K1
      refine seqK fun M1 K1 => ?_
      walk_at "ge"
      all_goals first | (exfalso; first | exact absurd hw (by assumption) | exact absurd (hw.symm.trans (by assumption : wy = Str.ofString "make")) (by decide +kernel) | exact absurd (hw.symm.trans (by assumption : wy = Str.ofString "size")) (by decide +kernel) | exact absurd (hw.symm.trans (by assumption : wy = Str.ofString "row")) (by decide +kernel) | exact absurd (hw.symm.trans (by assumption : wy = Str.ofString "drop")) (by decide +kernel)) | skip
      refine K1.use ?_
      walk_at "cl"
      clear K1
      refine seqK fun M1 K1 => ?_
      have rest : ∀ (nr : Addr) (H' : Hp), Led H' (PdC d (as ++ (e.1, e.2.1, e.2.2.set j (nr, r0.2)) :: bs) ((nr, .lst (r0.2.map V.int)) :: R)) → M1 [some (.ref d), some (.str wy), some (.str e.1), some (.int ((j : Nat) : Int)), some (.ref l)] H' := by
        intro nr H' hl'
        clear hL c_d c_l c_r
        refine K1.use ?_
        walk_at "cl"
        clear K1
        refine seqK fun M1 K1 => ?_
        walk_at "ge"
        all_goals first | (exfalso; first | exact absurd hw (by assumption) | exact absurd (hw.symm.trans (by assumption : wy = Str.ofString "make")) (by decide +kernel) | exact absurd (hw.symm.trans (by assumption : wy = Str.ofString "size")) (by decide +kernel) | exact absurd (hw.symm.trans (by assumption : wy = Str.ofString "row")) (by decide +kernel) | exact absurd (hw.symm.trans (by assumption : wy = Str.ofString "drop")) (by decide +kernel)) | skip
        refine K1.use ?_
        walk_at "cl"
        clear K1
        walk_at "ge"
        exact k nr _ hl'
      clear K1
      walk_at "ge"
      all_goals first | (exfalso; first | exact absurd hw (by assumption) | exact absurd (hw.symm.trans (by assumption : wy = Str.ofString "make")) (by decide +kernel) | exact absurd (hw.symm.trans (by assumption : wy = Str.ofString "size")) (by decide +kernel) | exact absurd (hw.symm.trans (by assumption : wy = Str.ofString "row")) (by decide +kernel) | exact absurd (hw.symm.trans (by assumption : wy = Str.ofString "drop")) (by decide +kernel)) | skip
      rename_i nr H2 _ hl2 _ _ _ _ _
      have c3 : H2 d = some (.dK (kvF (as ++ e :: bs))) := hl2.get (List.mem_cons_of_mem _ List.mem_cons_self)
      refine dgetS c3 hkv ?_
      walk_at "ge"
      have hl3 : Led H2 ((e.2.1, .lst (rfs e.2.2)) :: (d, .dK (kvF (as ++ e :: bs))) :: (filC as ++ (filC bs ++ ((nr, .lst (r0.2.map V.int)) :: R)))) := hl2.wk (by unfold PdC; rw [filC_mid]; simp only [List.append_assoc, List.cons_append]; walk_at "sp")
      refine setLH (hl3.get List.mem_cons_self) (ixN_of (by omega) (by omega)) ?_
      rw [Int.toNat_natCast, show (rfs e.2.2).set j (V.ref nr) = rfs (e.2.2.set j (nr, r0.2)) by unfold rfs; rw [List.map_set]]
      have hl4 := hl3.put (o' := .lst (rfs (e.2.2.set j (nr, r0.2)))) rfl rfl
      walk_at "ge"
      refine rest nr _ (hl4.wk ?_)
      unfold PdC
      rw [filC_mid, ← kvF_mid as bs e (e.1, e.2.1, e.2.2.set j (nr, r0.2)) rfl rfl]
      simp only [List.append_assoc, List.cons_append]
      walk_at "sp"
    | drop =>
      replace hw : wy = Str.ofString "drop" := hw
      obtain ⟨as, bs, e, rfl, rfl, k⟩ := k
      have he : e ∈ as ++ e :: bs := List.mem_append_right _ List.mem_cons_self
      have hkv := kvF_some nd he
      refine seqK fun M1 K1 => ?_
      walk_at "ge"
      all_goals first | (exfalso; first | exact absurd hw (by assumption) | exact absurd (hw.symm.trans (by assumption : wy = Str.ofString "make")) (by decide +kernel) | exact absurd (hw.symm.trans (by assumption : wy = Str.ofString "size")) (by decide +kernel) | exact absurd (hw.symm.trans (by assumption : wy = Str.ofString "row")) (by decide +kernel) | exact absurd (hw.symm.trans (by assumption : wy = Str.ofString "store")) (by decide +kernel)) | skip
      refine K1.use ?_
      walk_at "cl"
      clear K1
      refine seqK fun M1 K1 => ?_
      walk_at "ge"
      all_goals first | (exfalso; first | exact absurd hw (by assumption) | exact absurd (hw.symm.trans (by assumption : wy = Str.ofString "make")) (by decide +kernel) | exact absurd (hw.symm.trans (by assumption : wy = Str.ofString "size")) (by decide +kernel) | exact absurd (hw.symm.trans (by assumption : wy = Str.ofString "row")) (by decide +kernel) | exact absurd (hw.symm.trans (by assumption : wy = Str.ofString "store")) (by decide +kernel)) | skip
      refine K1.use ?_
      walk_at "cl"
      clear K1
      refine seqK fun M1 K1 => ?_
      walk_at "ge"
      all_goals first | (exfalso; first | exact absurd hw (by assumption) | exact absurd (hw.symm.trans (by assumption : wy = Str.ofString "make")) (by decide +kernel) | exact absurd (hw.symm.trans (by assumption : wy = Str.ofString "size")) (by decide +kernel) | exact absurd (hw.symm.trans (by assumption : wy = Str.ofString "row")) (by decide +kernel) | exact absurd (hw.symm.trans (by assumption : wy = Str.ofString "store")) (by decide +kernel)) | skip
      refine K1.use ?_
      walk_at "cl"
      clear K1
      refine seqK fun M1 K1 => ?_
      walk_at "ge"
      all_goals first | (exfalso; first | exact absurd hw (by assumption) | exact absurd (hw.symm.trans (by assumption : wy = Str.ofString "make")) (by decide +kernel) | exact absurd (hw.symm.trans (by assumption : wy = Str.ofString "size")) (by decide +kernel) | exact absurd (hw.symm.trans (by assumption : wy = Str.ofString "row")) (by decide +kernel) | exact absurd (hw.symm.trans (by assumption : wy = Str.ofString "store")) (by decide +kernel)) | skip
      refine K1.use ?_
      walk_at "cl"
      clear K1
      refine seqK fun M1 K1 => ?_
      walk_at "ge"
      all_goals first | (exfalso; first | exact absurd hw (by assumption) | exact absurd (hw.symm.trans (by assumption : wy = Str.ofString "make")) (by decide +kernel) | exact absurd (hw.symm.trans (by assumption : wy = Str.ofString "size")) (by decide +kernel) | exact absurd (hw.symm.trans (by assumption : wy = Str.ofString "row")) (by decide +kernel) | exact absurd (hw.symm.trans (by assumption : wy = Str.ofString "store")) (by decide +kernel)) | skip
      refine dpop1H fun R5 hR5 => ?_
      walk_at "ge"
      refine dpopS c_d hkv ?_
      rw [kvF_drop]
      have hfil : (as ++ e :: bs).filter (fun x => decide (x.1 ≠ e.1)) = as ++ bs := drop_mid nd
      rw [hfil]
      have hl3 : Led H ((d, .dK (kvF (as ++ e :: bs))) :: (filC as ++ (filC bs ++ R))) := by
        have h2 := hL
        unfold PdC at h2
        rw [filC_mid] at h2
        exact h2.wk (by simp only [List.append_assoc, List.cons_append]; walk_at "sp")
      have hl4 := hl3.put (o' := .dK (kvF (as ++ bs))) rfl rfl
      generalize upd H d (.dK (kvF (as ++ bs))) = H4 at hl4 ⊢
      walk_at "ge"
      refine K1.use ?_
      walk_at "ge"
      refine k _ (hl4.wk ?_)
      unfold PdC
      rw [filC_app]
      simp only [List.append_assoc, List.cons_append]
      walk_at "sp"
end

section
variable {P : Program} {w : World} {K : PySem.W.Frag} {mg : Str → Option Value} {base : Heap} {cP cA cB cC c1 c2 c3 c4 c5 c6 cI : Addr}
/-- what a deed that is not refused leaves, and finds -/
def FoundK (cI b dx d : Addr) (es : FEnts) (z : Str) (p : Int) (rows : Rws) (R : Cells) (S : V → Cells → Prop) : Wy → Prop
  | .make => z ∉ es.map (·.1) → ∀ (fa : Addr) (rows' : Rws), rows'.map (·.2) = rows.map (·.2) → S .non (FiC cI b dx d (es ++ [(z, fa, rows')]) (rwC rows' ++ R))
  | .size => ∀ as bs e, es = as ++ e :: bs → e.1 = z → S (.int (e.2.2.length : Nat)) (FiC cI b dx d es R)
  | .row => ∀ as bs e (j : Nat) (r : Addr × List Int), es = as ++ e :: bs → e.1 = z → p = ((j : Nat) : Int) → e.2.2[j]? = some r → ∀ q, S (.ref q) ((q, .lst (r.2.map V.int)) :: FiC cI b dx d es R)
  | .store => ∀ as bs e (j : Nat) (r0 : Addr × List Int), es = as ++ e :: bs → e.1 = z → p = ((j : Nat) : Int) → j < e.2.2.length → rows[0]? = some r0 → ∀ nr : Addr, S .non (FiC cI b dx d (as ++ (e.1, e.2.1, e.2.2.set j (nr, r0.2)) :: bs) ((nr, .lst (r0.2.map V.int)) :: R))
  | .drop => ∀ as bs e, es = as ++ e :: bs → e.1 = z → S .non (FiC cI b dx d (as ++ bs) R)
def spAsked (cI : Addr) : Sp := fun vs H Q _ => ∃ (b dx d l : Addr) (es : FEnts) (wy : Wy) (z : Str) (p : Int) (rows : Rws) (R : Cells), vs = [.ref b, .str (wyS wy), .str z, .int p, .ref l] ∧ Led H (FiC cI b dx d es R) ∧ (es.map (·.1)).Nodup ∧ (l, HO.lst (rfs rows)) ∈ R ∧ (∀ r ∈ rows, (r.1, HO.lst (r.2.map V.int)) ∈ R ∧ r.2.length ≤ 600) ∧ (∀ e ∈ es, ∀ r ∈ e.2.2, (r.1, HO.lst (r.2.map V.int)) ∈ R ∧ r.2.length ≤ 600) ∧ rows.length ≤ 100 ∧ 1 ≤ rows.length ∧ es.length ≤ 600 ∧ 0 ≤ p ∧
  (∀ rf : Rf, rf ≠ .no → RfOf es z p wy rf → ∀ (t q : Addr) (H' : Hp), Led H' ((t, .tup [.non, .ref q]) :: (q, .lst ((rfB rf).map V.bl)) :: FiC cI b dx d es R) → Q (.ref t) H') ∧
  FoundK cI b dx d es z p rows R (fun v M => ∀ (t q : Addr) (H' : Hp), Led H' ((t, .tup [v, .ref q]) :: (q, .lst []) :: M) → Q (.ref t) H') wy
theorem ok_asked (D : Def K mg "_law_asked" s_l_asked) (B : Blt mg) (T : Txt K mg cP cA cB cC c1 c2 c3 c4 c5 c6 cI) (M_Files_make : MethD P w K mg base 1 cI "make" ["self", "name", "rows"] (spMake cI cC)) (M_Files_size_of : MethD P w K mg base 2 cI "size_of" ["self", "name"] (spSize cI cA)) (M_Files_row_at : MethD P w K mg base 4 cI "row_at" ["self", "name", "page"] (spRowAt cI cA cB)) (M_Files_store_row : MethD P w K mg base 4 cI "store_row" ["self", "name", "page", "row"] (spStore cI cA cB)) (M_Files_drop : MethD P w K mg base 2 cI "drop" ["self", "name"] (spDrop cI cA)) : FnD P w K mg base 5 "_law_asked" ["_law_files", "_law_way", "_law_name_here", "_law_page", "_law_rows_here"] (spAsked cI) := by
  have sc := sc_l_asked
  refine D.ok sc_l_asked (fun vs H Q E h => ?_) (fun _ _ _ _ _ _ us hl => match us, hl with | [_, _, _, _, _], _ => rfl) (fun f cdv A outer s H vs Q E hr h => ?_)
  · obtain ⟨_, _, _, _, _, _, _, _, _, _, rfl, _⟩ := h; rfl
  · obtain ⟨b, dx, d, l, es, w0, z, p, rows, R, rfl, hL, nd, i_l, i_r, i_e, hrl, hr1, h6, p0, kr, kf⟩ := h
    refine ⟨_, (@pss_cons _ _ _ _ _ (@ps_set _ _ 5 _ _ _ _ sc.nd rfl (by first | exact Or.inl rfl | exact Or.inr rfl) (@pe_non _ _ _) (by rfl) (by first | exact .inl rfl | exact .inr rfl | assumption)) (@pss_cons _ _ _ _ _ (@ps_set _ _ 6 _ _ _ _ sc.nd rfl (by first | exact Or.inl rfl | exact Or.inr rfl) (@pe_lst _ _ _ _ (@pa_nil _)) (by rfl) (by first | exact .inl rfl | exact .inr rfl | assumption)) (@pss_cons _ _ _ _ _ (@ps_try _ _ _ _ _ _ _ 7 _ _ _ _ _ rfl rfl rfl (@psxs_one _ _ _ (@psx_if _ _ _ _ _ _ _ _ (@pt_cmpR _ _ _ _ _ _ _ _ op_eq (@pv _ 1 _ _ (by rfl) (by first | exact Or.inl rfl | exact Or.inr (Or.inl rfl) | exact Or.inr (Or.inr rfl)) (by decide) (by decide)) (@pe_str _ _ _ _) (nomark _)) (@psxs_one _ _ _ (@psx_expr _ _ _ _ (@pex_methD _ _ _ _ _ _ _ _ _ _ _ _ _ _ _ T.Files M_Files_make (hr.mono (by omega)) (@pv _ 0 _ _ (by rfl) (by first | exact Or.inl rfl | exact Or.inr (Or.inl rfl) | exact Or.inr (Or.inr rfl)) (by decide) (by decide)) (@pa_cons _ _ _ _ _ (@pv _ 2 _ _ (by rfl) (by first | exact Or.inl rfl | exact Or.inr (Or.inl rfl) | exact Or.inr (Or.inr rfl)) (by decide) (by decide)) (@pa_cons _ _ _ _ _ (@pv _ 4 _ _ (by rfl) (by first | exact Or.inl rfl | exact Or.inr (Or.inl rfl) | exact Or.inr (Or.inr rfl)) (by decide) (by decide)) (@pa_nil _) (by rfl)) (by rfl)) (by rfl) (by rfl) (by rfl)) (by rfl))) (@psxs_one _ _ _ (@psx_if _ _ _ _ _ _ _ _ (@pt_cmpR _ _ _ _ _ _ _ _ op_eq (@pv _ 1 _ _ (by rfl) (by first | exact Or.inl rfl | exact Or.inr (Or.inl rfl) | exact Or.inr (Or.inr rfl)) (by decide) (by decide)) (@pe_str _ _ _ _) (nomark _)) (@psxs_one _ _ _ (@psx_set _ 5 _ _ _ _ _ sc.nd rfl (by first | exact Or.inl rfl | exact Or.inr rfl) (@pex_methD _ _ _ _ _ _ _ _ _ _ _ _ _ _ _ T.Files M_Files_size_of (hr.mono (by omega)) (@pv _ 0 _ _ (by rfl) (by first | exact Or.inl rfl | exact Or.inr (Or.inl rfl) | exact Or.inr (Or.inr rfl)) (by decide) (by decide)) (@pa_cons _ _ _ _ _ (@pv _ 2 _ _ (by rfl) (by first | exact Or.inl rfl | exact Or.inr (Or.inl rfl) | exact Or.inr (Or.inr rfl)) (by decide) (by decide)) (@pa_nil _) (by rfl)) (by rfl) (by rfl) (by rfl)) (by rfl) (by first | exact .inl rfl | exact .inr rfl | assumption))) (@psxs_one _ _ _ (@psx_if _ _ _ _ _ _ _ _ (@pt_cmpR _ _ _ _ _ _ _ _ op_eq (@pv _ 1 _ _ (by rfl) (by first | exact Or.inl rfl | exact Or.inr (Or.inl rfl) | exact Or.inr (Or.inr rfl)) (by decide) (by decide)) (@pe_str _ _ _ _) (nomark _)) (@psxs_one _ _ _ (@psx_set _ 5 _ _ _ _ _ sc.nd rfl (by first | exact Or.inl rfl | exact Or.inr rfl) (@pex_methD _ _ _ _ _ _ _ _ _ _ _ _ _ _ _ T.Files M_Files_row_at (hr.mono (by omega)) (@pv _ 0 _ _ (by rfl) (by first | exact Or.inl rfl | exact Or.inr (Or.inl rfl) | exact Or.inr (Or.inr rfl)) (by decide) (by decide)) (@pa_cons _ _ _ _ _ (@pv _ 2 _ _ (by rfl) (by first | exact Or.inl rfl | exact Or.inr (Or.inl rfl) | exact Or.inr (Or.inr rfl)) (by decide) (by decide)) (@pa_cons _ _ _ _ _ (@pv _ 3 _ _ (by rfl) (by first | exact Or.inl rfl | exact Or.inr (Or.inl rfl) | exact Or.inr (Or.inr rfl)) (by decide) (by decide)) (@pa_nil _) (by rfl)) (by rfl)) (by rfl) (by rfl) (by rfl)) (by rfl) (by first | exact .inl rfl | exact .inr rfl | assumption))) (@psxs_one _ _ _ (@psx_if _ _ _ _ _ _ _ _ (@pt_cmpR _ _ _ _ _ _ _ _ op_eq (@pv _ 1 _ _ (by rfl) (by first | exact Or.inl rfl | exact Or.inr (Or.inl rfl) | exact Or.inr (Or.inr rfl)) (by decide) (by decide)) (@pe_str _ _ _ _) (nomark _)) (@psxs_one _ _ _ (@psx_expr _ _ _ _ (@pex_methD _ _ _ _ _ _ _ _ _ _ _ _ _ _ _ T.Files M_Files_store_row (hr.mono (by omega)) (@pv _ 0 _ _ (by rfl) (by first | exact Or.inl rfl | exact Or.inr (Or.inl rfl) | exact Or.inr (Or.inr rfl)) (by decide) (by decide)) (@pa_cons _ _ _ _ _ (@pv _ 2 _ _ (by rfl) (by first | exact Or.inl rfl | exact Or.inr (Or.inl rfl) | exact Or.inr (Or.inr rfl)) (by decide) (by decide)) (@pa_cons _ _ _ _ _ (@pv _ 3 _ _ (by rfl) (by first | exact Or.inl rfl | exact Or.inr (Or.inl rfl) | exact Or.inr (Or.inr rfl)) (by decide) (by decide)) (@pa_cons _ _ _ _ _ (@pe_ix _ _ _ _ _ _ _ ix_any (@pv _ 4 _ _ (by rfl) (by first | exact Or.inl rfl | exact Or.inr (Or.inl rfl) | exact Or.inr (Or.inr rfl)) (by decide) (by decide)) (@pe_int _ _ _ _) (fun _ _ => rfl)) (@pa_nil _) (by rfl)) (by rfl)) (by rfl)) (by rfl) (by rfl) (by rfl)) (by rfl))) (@psxs_one _ _ _ (@psx_expr _ _ _ _ (@pex_methD _ _ _ _ _ _ _ _ _ _ _ _ _ _ _ T.Files M_Files_drop (hr.mono (by omega)) (@pv _ 0 _ _ (by rfl) (by first | exact Or.inl rfl | exact Or.inr (Or.inl rfl) | exact Or.inr (Or.inr rfl)) (by decide) (by decide)) (@pa_cons _ _ _ _ _ (@pv _ 2 _ _ (by rfl) (by first | exact Or.inl rfl | exact Or.inr (Or.inl rfl) | exact Or.inr (Or.inr rfl)) (by decide) (by decide)) (@pa_nil _) (by rfl)) (by rfl) (by rfl) (by rfl)) (by rfl))))))))))) (by rfl) T.PaneError.mgC sc.nd rfl rfl (fun _ => (@pss_cons _ _ _ _ _ (@ps_set _ _ 8 _ _ _ _ sc.nd rfl (by first | exact Or.inl rfl | exact Or.inr rfl) (@pe_callB _ _ _ _ _ _ _ _ _ (call_isiXK (K := K) rfl) (by rfl) B.isinstance bt_isinstance (@pa_cons _ _ _ _ _ (@pv _ 7 _ _ (by rfl) (by first | exact Or.inl rfl | exact Or.inr (Or.inl rfl) | exact Or.inr (Or.inr rfl)) (by decide) (by decide)) (@pa_cons _ _ _ _ _ (@pe_tup _ _ _ _ _ (@pa_cons _ _ _ _ _ (@pe_glob _ _ (.ref _) _ _ (by rfl) T.NoNumber.mgC rfl (by decide)) (@pa_cons _ _ _ _ _ (@pe_glob _ _ (.ref _) _ _ (by rfl) T.NoSpace.mgC rfl (by decide)) (@pa_cons _ _ _ _ _ (@pe_glob _ _ (.ref _) _ _ (by rfl) T.NoRight.mgC rfl (by decide)) (@pa_cons _ _ _ _ _ (@pe_glob _ _ (.ref _) _ _ (by rfl) T.Held.mgC rfl (by decide)) (@pa_cons _ _ _ _ _ (@pe_glob _ _ (.ref _) _ _ (by rfl) T.Full.mgC rfl (by decide)) (@pa_cons _ _ _ _ _ (@pe_glob _ _ (.ref _) _ _ (by rfl) T.NoRow.mgC rfl (by decide)) (@pa_nil _) (by rfl)) (by rfl)) (by rfl)) (by rfl)) (by rfl)) (by rfl))) (@pa_nil _) (by rfl)) (by rfl)) (by decide) (by decide) (by rfl) (by rfl)) (by rfl) (by first | exact .inl rfl | exact .inr rfl | assumption)) (@pss_cons _ _ _ _ _ (@ps_set _ _ 9 _ _ _ _ sc.nd rfl (by first | exact Or.inl rfl | exact Or.inr rfl) (@pe_lst _ _ _ _ (@pa_cons _ _ _ _ _ (@pe_callB _ _ _ _ _ _ _ _ _ (call_isiXK (K := K) rfl) (by rfl) B.isinstance bt_isinstance (@pa_cons _ _ _ _ _ (@pv _ 7 _ _ (by rfl) (by first | exact Or.inl rfl | exact Or.inr (Or.inl rfl) | exact Or.inr (Or.inr rfl)) (by decide) (by decide)) (@pa_cons _ _ _ _ _ (@pe_glob _ _ (.ref _) _ _ (by rfl) T.NoFile.mgC rfl (by decide)) (@pa_nil _) (by rfl)) (by rfl)) (by decide) (by decide) (by rfl) (by rfl)) (@pa_cons _ _ _ _ _ (@pe_callB _ _ _ _ _ _ _ _ _ (call_isiXK (K := K) rfl) (by rfl) B.isinstance bt_isinstance (@pa_cons _ _ _ _ _ (@pv _ 7 _ _ (by rfl) (by first | exact Or.inl rfl | exact Or.inr (Or.inl rfl) | exact Or.inr (Or.inr rfl)) (by decide) (by decide)) (@pa_cons _ _ _ _ _ (@pe_glob _ _ (.ref _) _ _ (by rfl) T.NoPage.mgC rfl (by decide)) (@pa_nil _) (by rfl)) (by rfl)) (by decide) (by decide) (by rfl) (by rfl)) (@pa_cons _ _ _ _ _ (@pe_callB _ _ _ _ _ _ _ _ _ (call_isiXK (K := K) rfl) (by rfl) B.isinstance bt_isinstance (@pa_cons _ _ _ _ _ (@pv _ 7 _ _ (by rfl) (by first | exact Or.inl rfl | exact Or.inr (Or.inl rfl) | exact Or.inr (Or.inr rfl)) (by decide) (by decide)) (@pa_cons _ _ _ _ _ (@pe_glob _ _ (.ref _) _ _ (by rfl) T.Taken.mgC rfl (by decide)) (@pa_nil _) (by rfl)) (by rfl)) (by decide) (by decide) (by rfl) (by rfl)) (@pa_nil _) (by rfl)) (by rfl)) (by rfl))) (by rfl) (by first | exact .inl rfl | exact .inr rfl | assumption)) (@pss_one _ _ _ (@ps_set _ _ 6 _ _ _ _ sc.nd rfl (by first | exact Or.inl rfl | exact Or.inr rfl) (@pe_op _ _ _ _ _ _ _ _ op_cat (@pv _ 9 _ _ (by rfl) (by first | exact Or.inl rfl | exact Or.inr (Or.inl rfl) | exact Or.inr (Or.inr rfl)) (by decide) (by decide)) (@pe_lst _ _ _ _ (@pa_cons _ _ _ _ _ (@pe_callB _ _ _ _ _ _ _ _ _ (call_isiXK (K := K) rfl) (by rfl) B.isinstance bt_isinstance (@pa_cons _ _ _ _ _ (@pv _ 7 _ _ (by rfl) (by first | exact Or.inl rfl | exact Or.inr (Or.inl rfl) | exact Or.inr (Or.inr rfl)) (by decide) (by decide)) (@pa_cons _ _ _ _ _ (@pe_bltn _ _ (.ty "ValueError") _ _ (by rfl) B.ValueError bt_ValueError rfl (by decide) (by decide)) (@pa_nil _) (by rfl)) (by rfl)) (by decide) (by decide) (by rfl) (by rfl)) (@pa_cons _ _ _ _ _ (@pv _ 8 _ _ (by rfl) (by first | exact Or.inl rfl | exact Or.inr (Or.inl rfl) | exact Or.inr (Or.inr rfl)) (by decide) (by decide)) (@pa_nil _) (by rfl)) (by rfl)))) (by rfl) (by first | exact .inl rfl | exact .inr rfl | assumption)))))) (by decide)) (@pss_one _ _ _ (@ps_ret _ _ _ _ (@pe_tup _ _ _ _ _ (@pa_cons _ _ _ _ _ (@pv _ 5 _ _ (by rfl) (by first | exact Or.inl rfl | exact Or.inr (Or.inl rfl) | exact Or.inr (Or.inr rfl)) (by decide) (by decide)) (@pa_cons _ _ _ _ _ (@pv _ 6 _ _ (by rfl) (by first | exact Or.inl rfl | exact Or.inr (Or.inl rfl) | exact Or.inr (Or.inr rfl)) (by decide) (by decide)) (@pa_nil _) (by rfl)) (by rfl)))))))), ?_⟩
    refine seqK fun M1 K1 => ?_
    walk_at "ge"
    refine K1.use ?_
    walk_at "cl"
    clear K1
    refine seqK fun M1 K1 => ?_
    walk_at "ge"
    rename_i rq H1 _ hl1 _
    refine K1.use ?_
    walk_at "cl"
    clear K1
    have hl2 : Led H1 (FiC cI b dx d es ((rq, .lst []) :: R)) := hl1.wk (by unfold FiC; (try simp only [List.append_assoc, List.cons_append, List.nil_append]); walk_at "sp")
    clear hl1 hL
    have up : ∀ {c : Addr × HO}, c ∈ R → c ∈ (rq, HO.lst []) :: R := fun h => List.mem_cons_of_mem _ h
    have upF : ∀ {c : Addr × HO}, c ∈ R → c ∈ FiC cI b dx d es ((rq, HO.lst []) :: R) := fun h => List.mem_cons_of_mem _ (List.mem_cons_of_mem _ (List.mem_append_right _ (up h)))
    have fh := FH.of hl2 nd
    have c_b := fh.cb
    have c_l := hl2.get (upF i_l)
    obtain ⟨wy, hw⟩ : ∃ y, wyS w0 = y := ⟨_, rfl⟩
    rw [hw]
    replace hw := hw.symm
    refine seqK fun M1 K1 => ?_
    have fin : ∀ (v : V) (M : Cells) (H' : Hp), (∀ (t q : Addr) (H' : Hp), Led H' ((t, .tup [v, .ref q]) :: (q, .lst []) :: M) → Q (.ref t) H') → Led H' ((rq, .lst []) :: M) → M1 [some (.ref b), some (.str wy), some (.str z), some (.int p), some (.ref l), some v, some (.ref rq), none, none, none] H' := by
      clear hl2 fh c_b c_l
      intro v M H' kk hl'
      refine K1.use ?_
      clear K1
      walk_at "ge"
      rename Led _ _ => hl3
      exact kk _ rq _ hl3
    refine tryI fun E1 hE1 => ?_
    have exc_cA : RfOf es z p w0 .file → ∀ H', Led H' (FiC cI b dx d es ((rq, .lst []) :: R)) → E1 (.ref cA) none H' := by
      intro hrf H' hl'
      clear fin hl2 fh c_b c_l
      rw [hE1.eq]
      refine ⟨T.xm_cA_cP, fun ea hea => ?_⟩
      clear hE1
      have hl3 := hl'.new (o := .ext (IsExc ea (.ref cA))) hea
      generalize upd H' ea (.ext (IsExc ea (.ref cA))) = H3 at hl3 ⊢
      have c_e := hl3.get List.mem_cons_self
      refine seqK fun M2 K2 => ?_
      walk_at "ge"
      rename_i tp H4 _ hl4 _
      refine ⟨ea, cA, _, false, rfl, hl4.get (List.mem_cons_of_mem _ List.mem_cons_self), T.xi_cA, .inr (.inr ⟨tp, [c1, c2, c3, c4, c5, c6], rfl, hl4.get List.mem_cons_self, T.xocA⟩), ?_⟩
      walk_at "ge"
      refine K2.use ?_
      walk_at "cl"
      have hl5 := hl4.tail
      clear K2 c_e hl3 hl4 hl'
      have c_e := hl5.get List.mem_cons_self
      refine seqK fun M2 K2 => ?_
      walk_at "ge"
      refine ⟨ea, cA, _, true, rfl, c_e, T.xi_cA, .inr (.inl ⟨cA, rfl, T.xo_cA_cA⟩), ?_⟩
      walk_at "ge"
      refine ⟨ea, cA, _, false, rfl, c_e, T.xi_cA, .inr (.inl ⟨cB, rfl, T.xo_cA_cB⟩), ?_⟩
      walk_at "ge"
      refine ⟨ea, cA, _, false, rfl, c_e, T.xi_cA, .inr (.inl ⟨cC, rfl, T.xo_cA_cC⟩), ?_⟩
      walk_at "ge"
      rename_i kn H6 _ hl6 _
      refine K2.use ?_
      walk_at "cl"
      clear K2 hl5 c_e
      have c_e := hl6.get (List.mem_cons_of_mem _ List.mem_cons_self)
      walk_at "ge"
      refine ⟨ea, cA, _, true, rfl, c_e, T.xi_cA, .inl ⟨_, rfl, T.xo_cA_ValueError⟩, ?_⟩
      walk_at "ge"
      rename_i nq H7 _ hl7 _
      refine K1.use ?_
      walk_at "ge"
      rename_i tt H8 _ hl8 _
      (try simp only [List.cons_append, List.nil_append] at hl8)
      exact kr .file (fun q => nomatch q) hrf tt nq _ (show Led _ ((tt, .tup [.non, .ref nq]) :: (nq, .lst [.bl true, .bl false, .bl false, .bl true, .bl false]) :: FiC cI b dx d es R) from hl8.wk (by unfold FiC; (try simp only [List.append_assoc, List.cons_append, List.nil_append]); walk_at "sp"))
    have exc_cB : RfOf es z p w0 .page → ∀ H', Led H' (FiC cI b dx d es ((rq, .lst []) :: R)) → E1 (.ref cB) none H' := by
      intro hrf H' hl'
      clear fin hl2 fh c_b c_l
      rw [hE1.eq]
      refine ⟨T.xm_cB_cP, fun ea hea => ?_⟩
      clear hE1
      have hl3 := hl'.new (o := .ext (IsExc ea (.ref cB))) hea
      generalize upd H' ea (.ext (IsExc ea (.ref cB))) = H3 at hl3 ⊢
      have c_e := hl3.get List.mem_cons_self
      refine seqK fun M2 K2 => ?_
      walk_at "ge"
      rename_i tp H4 _ hl4 _
      refine ⟨ea, cB, _, false, rfl, hl4.get (List.mem_cons_of_mem _ List.mem_cons_self), T.xi_cB, .inr (.inr ⟨tp, [c1, c2, c3, c4, c5, c6], rfl, hl4.get List.mem_cons_self, T.xocB⟩), ?_⟩
      walk_at "ge"
      refine K2.use ?_
      walk_at "cl"
      have hl5 := hl4.tail
      clear K2 c_e hl3 hl4 hl'
      have c_e := hl5.get List.mem_cons_self
      refine seqK fun M2 K2 => ?_
      walk_at "ge"
      refine ⟨ea, cB, _, false, rfl, c_e, T.xi_cB, .inr (.inl ⟨cA, rfl, T.xo_cB_cA⟩), ?_⟩
      walk_at "ge"
      refine ⟨ea, cB, _, true, rfl, c_e, T.xi_cB, .inr (.inl ⟨cB, rfl, T.xo_cB_cB⟩), ?_⟩
      walk_at "ge"
      refine ⟨ea, cB, _, false, rfl, c_e, T.xi_cB, .inr (.inl ⟨cC, rfl, T.xo_cB_cC⟩), ?_⟩
      walk_at "ge"
      rename_i kn H6 _ hl6 _
      refine K2.use ?_
      walk_at "cl"
      clear K2 hl5 c_e
      have c_e := hl6.get (List.mem_cons_of_mem _ List.mem_cons_self)
      walk_at "ge"
      refine ⟨ea, cB, _, true, rfl, c_e, T.xi_cB, .inl ⟨_, rfl, T.xo_cB_ValueError⟩, ?_⟩
      walk_at "ge"
      rename_i nq H7 _ hl7 _
      refine K1.use ?_
      walk_at "ge"
      rename_i tt H8 _ hl8 _
      (try simp only [List.cons_append, List.nil_append] at hl8)
      exact kr .page (fun q => nomatch q) hrf tt nq _ (show Led _ ((tt, .tup [.non, .ref nq]) :: (nq, .lst [.bl false, .bl true, .bl false, .bl true, .bl false]) :: FiC cI b dx d es R) from hl8.wk (by unfold FiC; (try simp only [List.append_assoc, List.cons_append, List.nil_append]); walk_at "sp"))
    have exc_cC : RfOf es z p w0 .taken → ∀ H', Led H' (FiC cI b dx d es ((rq, .lst []) :: R)) → E1 (.ref cC) none H' := by
      intro hrf H' hl'
      clear fin hl2 fh c_b c_l
      rw [hE1.eq]
      refine ⟨T.xm_cC_cP, fun ea hea => ?_⟩
      clear hE1
      have hl3 := hl'.new (o := .ext (IsExc ea (.ref cC))) hea
      generalize upd H' ea (.ext (IsExc ea (.ref cC))) = H3 at hl3 ⊢
      have c_e := hl3.get List.mem_cons_self
      refine seqK fun M2 K2 => ?_
      walk_at "ge"
      rename_i tp H4 _ hl4 _
      refine ⟨ea, cC, _, false, rfl, hl4.get (List.mem_cons_of_mem _ List.mem_cons_self), T.xi_cC, .inr (.inr ⟨tp, [c1, c2, c3, c4, c5, c6], rfl, hl4.get List.mem_cons_self, T.xocC⟩), ?_⟩
      walk_at "ge"
      refine K2.use ?_
      walk_at "cl"
      have hl5 := hl4.tail
      clear K2 c_e hl3 hl4 hl'
      have c_e := hl5.get List.mem_cons_self
      refine seqK fun M2 K2 => ?_
      walk_at "ge"
      refine ⟨ea, cC, _, false, rfl, c_e, T.xi_cC, .inr (.inl ⟨cA, rfl, T.xo_cC_cA⟩), ?_⟩
      walk_at "ge"
      refine ⟨ea, cC, _, false, rfl, c_e, T.xi_cC, .inr (.inl ⟨cB, rfl, T.xo_cC_cB⟩), ?_⟩
      walk_at "ge"
      refine ⟨ea, cC, _, true, rfl, c_e, T.xi_cC, .inr (.inl ⟨cC, rfl, T.xo_cC_cC⟩), ?_⟩
      walk_at "ge"
      rename_i kn H6 _ hl6 _
      refine K2.use ?_
      walk_at "cl"
      clear K2 hl5 c_e
      have c_e := hl6.get (List.mem_cons_of_mem _ List.mem_cons_self)
      walk_at "ge"
      refine ⟨ea, cC, _, true, rfl, c_e, T.xi_cC, .inl ⟨_, rfl, T.xo_cC_ValueError⟩, ?_⟩
      walk_at "ge"
      rename_i nq H7 _ hl7 _
      refine K1.use ?_
      walk_at "ge"
      rename_i tt H8 _ hl8 _
      (try simp only [List.cons_append, List.nil_append] at hl8)
      exact kr .taken (fun q => nomatch q) hrf tt nq _ (show Led _ ((tt, .tup [.non, .ref nq]) :: (nq, .lst [.bl false, .bl false, .bl true, .bl true, .bl false]) :: FiC cI b dx d es R) from hl8.wk (by unfold FiC; (try simp only [List.append_assoc, List.cons_append, List.nil_append]); walk_at "sp"))
    clear K1
    have wkq : ∀ {H' : Hp} {es' : FEnts} {R' : Cells}, Led H' (FiC cI b dx d es' (R' ++ ((rq, .lst []) :: R))) → Led H' ((rq, .lst []) :: FiC cI b dx d es' (R' ++ R)) := fun h => h.wk (by unfold FiC; (try simp only [List.append_assoc, List.cons_append, List.nil_append]); walk_at "sp")
    cases w0 with
    | make =>
      replace hw : wy = Str.ofString "make" := hw
      walk_at "ge"
      all_goals first | (exfalso; first | exact absurd hw (by assumption) | exact absurd (hw.symm.trans (by assumption : wy = Str.ofString "size")) (by decide +kernel) | exact absurd (hw.symm.trans (by assumption : wy = Str.ofString "row")) (by decide +kernel) | exact absurd (hw.symm.trans (by assumption : wy = Str.ofString "store")) (by decide +kernel) | exact absurd (hw.symm.trans (by assumption : wy = Str.ofString "drop")) (by decide +kernel)) | skip
      refine ⟨b, dx, d, l, es, z, rows, _, rfl, hl2, nd, up i_l, (fun r hr => ⟨up (i_r r hr).1, (i_r r hr).2⟩), hrl, h6, fun hz fa rows' H' hs hl' => ?_, fun hz => exc_cC hz _ hl2⟩
      walk_at "ge"
      exact fin .non _ _ (kf hz fa rows' hs) (wkq hl')
    | size =>
      replace hw : wy = Str.ofString "size" := hw
      walk_at "ge"
      all_goals first | (exfalso; first | exact absurd hw (by assumption) | exact absurd (hw.symm.trans (by assumption : wy = Str.ofString "make")) (by decide +kernel) | exact absurd (hw.symm.trans (by assumption : wy = Str.ofString "row")) (by decide +kernel) | exact absurd (hw.symm.trans (by assumption : wy = Str.ofString "store")) (by decide +kernel) | exact absurd (hw.symm.trans (by assumption : wy = Str.ofString "drop")) (by decide +kernel)) | skip
      refine ⟨b, dx, d, es, z, rfl, fh, fun e he hz => ?_, fun hz => exc_cA hz _ hl2⟩
      obtain ⟨as, bs, hab, _⟩ := splitF nd he
      walk_at "ge"
      exact fin _ _ _ (kf as bs e hab hz) (wkq (R' := []) hl2)
    | row =>
      replace hw : wy = Str.ofString "row" := hw
      walk_at "ge"
      all_goals first | (exfalso; first | exact absurd hw (by assumption) | exact absurd (hw.symm.trans (by assumption : wy = Str.ofString "make")) (by decide +kernel) | exact absurd (hw.symm.trans (by assumption : wy = Str.ofString "size")) (by decide +kernel) | exact absurd (hw.symm.trans (by assumption : wy = Str.ofString "store")) (by decide +kernel) | exact absurd (hw.symm.trans (by assumption : wy = Str.ofString "drop")) (by decide +kernel)) | skip
      refine ⟨b, dx, d, es, z, p, _, rfl, hl2, fh, (fun e he r hr => ⟨hl2.get (upF (i_e e he r hr).1), (i_e e he r hr).2⟩), fun e he hz j r hp hj q H' hl' => ?_, fun e he hz hp => ?_, fun hz => exc_cA hz _ hl2⟩
      · obtain ⟨as, bs, hab, _⟩ := splitF nd he
        walk_at "ge"
        exact fin _ _ _ (kf as bs e j r hab hz hp hj q) (hl'.wk (by unfold FiC; (try simp only [List.append_assoc, List.cons_append, List.nil_append]); walk_at "sp"))
      · obtain ⟨as, bs, hab, _⟩ := splitF nd he
        exact exc_cB ⟨as, bs, e, hab, hz, by omega⟩ _ hl2
    | store =>
      replace hw : wy = Str.ofString "store" := hw
      walk_at "ge"
      all_goals first | (exfalso; first | exact absurd hw (by assumption) | exact absurd (hw.symm.trans (by assumption : wy = Str.ofString "make")) (by decide +kernel) | exact absurd (hw.symm.trans (by assumption : wy = Str.ofString "size")) (by decide +kernel) | exact absurd (hw.symm.trans (by assumption : wy = Str.ofString "row")) (by decide +kernel) | exact absurd (hw.symm.trans (by assumption : wy = Str.ofString "drop")) (by decide +kernel)) | skip
      obtain ⟨r0, h0⟩ : ∃ r0, rows[0]? = some r0 := ⟨_, List.getElem?_eq_getElem (by omega)⟩
      have ha : atI (rfs rows) 0 = some (.ref r0.1) := atI_of (by decide) (by unfold rfs; rw [show (0 : Int).toNat = 0 from rfl, List.getElem?_map, h0]; rfl)
      walk_at "ge"
      have hm := List.mem_of_getElem? h0
      refine ⟨b, dx, d, r0.1, es, z, p, r0.2, _, rfl, hl2, nd, up (i_r r0 hm).1, (i_r r0 hm).2, fun as bs e hab hz j hp hj nr H' hl' => ?_, fun e he hz hp => ?_, fun hz => exc_cA hz _ hl2⟩
      · walk_at "ge"
        exact fin _ _ _ (kf as bs e j r0 hab hz hp hj h0 nr) (hl'.wk (by unfold FiC; (try simp only [List.append_assoc, List.cons_append, List.nil_append]); walk_at "sp"))
      · obtain ⟨as, bs, hab, _⟩ := splitF nd he
        exact exc_cB ⟨as, bs, e, hab, hz, by omega⟩ _ hl2
    | drop =>
      replace hw : wy = Str.ofString "drop" := hw
      walk_at "ge"
      all_goals first | (exfalso; first | exact absurd hw (by assumption) | exact absurd (hw.symm.trans (by assumption : wy = Str.ofString "make")) (by decide +kernel) | exact absurd (hw.symm.trans (by assumption : wy = Str.ofString "size")) (by decide +kernel) | exact absurd (hw.symm.trans (by assumption : wy = Str.ofString "row")) (by decide +kernel) | exact absurd (hw.symm.trans (by assumption : wy = Str.ofString "store")) (by decide +kernel)) | skip
      refine ⟨b, dx, d, es, z, _, rfl, hl2, nd, fun as bs e hab hz H' hl' => ?_, fun hz => exc_cA hz _ hl2⟩
      walk_at "ge"
      exact fin _ _ _ (kf as bs e hab hz) (wkq (R' := []) hl')
end

section
variable {P : Program} {w : World} {K : PySem.W.Frag} {mg : Str → Option Value} {base : Heap} {cP cA cB cC c1 c2 c3 c4 c5 c6 cI : Addr}
def rfF (ks : List (Str × List (List Int))) (z : Str) (p : Int) (wy : Wy) : Rf :=
  match ks.find? (fun k => decide (k.1 = z)), wy with
  | some _, .make => .taken
  | none, .make => .no
  | none, _ => .file
  | some k, .row => if p < k.2.length then .no else .page
  | some k, .store => if p < k.2.length then .no else .page
  | some _, _ => .no
theorem find_ent (es : FEnts) (z : Str) : (entF es).find? (fun k => decide (k.1 = z)) = (es.find? fun e => decide (e.1 = z)).map fun e => (e.1, e.2.2.map (·.2)) := by
  unfold entF
  rw [List.find?_map]
  rfl
theorem find_ent_no {es : FEnts} {z : Str} (h : z ∉ es.map (·.1)) : (entF es).find? (fun k => decide (k.1 = z)) = none := by
  rw [find_ent, List.find?_eq_none.mpr]
  · rfl
  · intro e he q
    exact h (List.mem_map.mpr ⟨e, he, of_decide_eq_true q⟩)
theorem find_ent_some {as bs : FEnts} {e : FEnt} (nd : ((as ++ e :: bs).map (·.1)).Nodup) : (entF (as ++ e :: bs)).find? (fun k => decide (k.1 = e.1)) = some (e.1, e.2.2.map (·.2)) := by
  rw [find_ent, findF nd (List.mem_append_right _ List.mem_cons_self)]
  rfl
theorem mem_mid {as bs : FEnts} {e : FEnt} : e.1 ∈ (as ++ e :: bs).map (·.1) := List.mem_map.mpr ⟨e, List.mem_append_right _ List.mem_cons_self, rfl⟩
theorem rf_is {es : FEnts} {z : Str} {p : Int} {wy : Wy} {rf : Rf} (nd : (es.map (·.1)).Nodup) (h : RfOf es z p wy rf) : rf = rfF (entF es) z p wy := by
  have no : z ∉ es.map (·.1) → ∀ w, rfF (entF es) z p w = (match w with | .make => .no | _ => .file) := fun hz w => by
    unfold rfF
    rw [find_ent_no hz]
    cases w <;> rfl
  have yes : ∀ as bs e, es = as ++ e :: bs → e.1 = z → (entF es).find? (fun k => decide (k.1 = z)) = some (e.1, e.2.2.map (·.2)) := fun as bs e hab hz => by
    subst hab
    subst hz
    exact find_ent_some nd
  have is : z ∈ es.map (·.1) → ∃ k, (entF es).find? (fun k => decide (k.1 = z)) = some k := fun hz => by
    obtain ⟨e, he, rfl⟩ := List.mem_map.mp hz
    rw [find_ent, findF nd he]
    exact ⟨_, rfl⟩
  cases wy <;> cases rf <;> first | (exact h.elim) | (have h : z ∉ es.map (·.1) := h; rw [no h]) | skip
  · obtain ⟨k, hk⟩ := is h
    unfold rfF
    rw [hk]
  · obtain ⟨as, bs, e, hab, hz⟩ := h
    unfold rfF
    rw [yes as bs e hab hz]
  · obtain ⟨as, bs, e, j, hab, hz, hp, hj⟩ := h
    unfold rfF
    rw [yes as bs e hab hz]
    show Rf.no = if p < ((e.2.2.map (·.2)).length : Int) then _ else _
    rw [List.length_map, if_pos (by omega)]
  · obtain ⟨as, bs, e, hab, hz, hp⟩ := h
    unfold rfF
    rw [yes as bs e hab hz]
    show Rf.page = if p < ((e.2.2.map (·.2)).length : Int) then _ else _
    rw [List.length_map, if_neg (by omega)]
  · obtain ⟨as, bs, e, j, hab, hz, hp, hj⟩ := h
    unfold rfF
    rw [yes as bs e hab hz]
    show Rf.no = if p < ((e.2.2.map (·.2)).length : Int) then _ else _
    rw [List.length_map, if_pos (by omega)]
  · obtain ⟨as, bs, e, hab, hz, hp⟩ := h
    unfold rfF
    rw [yes as bs e hab hz]
    show Rf.page = if p < ((e.2.2.map (·.2)).length : Int) then _ else _
    rw [List.length_map, if_neg (by omega)]
  · obtain ⟨as, bs, e, hab, hz⟩ := h
    unfold rfF
    rw [yes as bs e hab hz]
structure Good (es es' : FEnts) (M : Cells) : Prop where
  nd : (es.map (·.1)).Nodup
  ek : entF es = entF es'
  r1 : ∀ e ∈ es, ∀ r ∈ e.2.2, (r.1, HO.lst (r.2.map V.int)) ∈ M ∧ r.2.length = 4
  r2 : ∀ e ∈ es', ∀ r ∈ e.2.2, (r.1, HO.lst (r.2.map V.int)) ∈ M ∧ r.2.length = 4
  ne : ∀ e ∈ es', 1 ≤ e.2.2.length ∧ e.2.2.length ≤ 64
theorem keys_ent (es : FEnts) : (entF es).map (·.1) = es.map (·.1) := by unfold entF; rw [List.map_map]; rfl
theorem Good.keys {es es' : FEnts} {M : Cells} (g : Good es es' M) : es.map (·.1) = es'.map (·.1) := by rw [← keys_ent, ← keys_ent, g.ek]
theorem Good.nd' {es es' : FEnts} {M : Cells} (g : Good es es' M) : (es'.map (·.1)).Nodup := by rw [← g.keys]; exact g.nd
theorem Good.len {es es' : FEnts} {M : Cells} (g : Good es es' M) : es.length = es'.length := by have := congrArg List.length g.ek; unfold entF at this; rw [List.length_map, List.length_map] at this; exact this
theorem Good.mono {es es' : FEnts} {M M' : Cells} (g : Good es es' M) (s : ∀ c ∈ M, c ∈ M') : Good es es' M' := ⟨g.nd, g.ek, fun e he r hr => ⟨s _ (g.r1 e he r hr).1, (g.r1 e he r hr).2⟩, fun e he r hr => ⟨s _ (g.r2 e he r hr).1, (g.r2 e he r hr).2⟩, g.ne⟩
/-- a made file, on both sides -/
theorem Good.made {es es' : FEnts} {M : Cells} (g : Good es es' M) {z : Str} {fa fb : Addr} {rs rs' : Rws} (hz : z ∉ es.map (·.1)) (hs : rs.map (·.2) = rs'.map (·.2)) (h1 : ∀ r ∈ rs, (r.1, HO.lst (r.2.map V.int)) ∈ M ∧ r.2.length = 4) (h2 : ∀ r ∈ rs', (r.1, HO.lst (r.2.map V.int)) ∈ M ∧ r.2.length = 4) (hn : 1 ≤ rs'.length ∧ rs'.length ≤ 64) : Good (es ++ [(z, fa, rs)]) (es' ++ [(z, fb, rs')]) M := by
  refine ⟨?_, ?_, fun e he => ?_, fun e he => ?_, fun e he => ?_⟩
  · rw [List.map_append, List.nodup_append]
    refine ⟨g.nd, by simp, fun a ha b hb => ?_⟩
    obtain rfl := List.mem_singleton.mp hb
    exact fun q => hz (q ▸ ha)
  · have h := g.ek
    unfold entF at h ⊢
    rw [List.map_append, List.map_append, h]
    show _ ++ [(z, rs.map (·.2))] = _ ++ [(z, rs'.map (·.2))]
    rw [hs]
  · rcases List.mem_append.mp he with he | he
    · exact g.r1 e he
    · obtain rfl := List.mem_singleton.mp he
      exact h1
  · rcases List.mem_append.mp he with he | he
    · exact g.r2 e he
    · obtain rfl := List.mem_singleton.mp he
      exact h2
  · rcases List.mem_append.mp he with he | he
    · exact g.ne e he
    · obtain rfl := List.mem_singleton.mp he
      exact hn
def updK (ks : List (Str × List (List Int))) (z : Str) (j : Nat) (row : List Int) : List (Str × List (List Int)) := ks.map fun k => if k.1 = z then (k.1, k.2.set j row) else k
theorem map_upd {as bs : FEnts} {e : FEnt} (nd : ((as ++ e :: bs).map (·.1)).Nodup) (j : Nat) (nr : Addr) (row : List Int) : entF (as ++ (e.1, e.2.1, e.2.2.set j (nr, row)) :: bs) = updK (entF (as ++ e :: bs)) e.1 j row := by
  rw [List.map_append, List.map_cons] at nd
  have h1 : ∀ x ∈ as ++ bs, x.1 ≠ e.1 := fun x hx q => by
    have nd2 := (List.perm_middle (l₁ := as.map (·.1)) (a := e.1) (l₂ := bs.map (·.1))).nodup_iff.mp nd
    rw [List.nodup_cons] at nd2
    refine nd2.1 ?_
    rw [← List.map_append, ← q]
    exact List.mem_map.mpr ⟨x, hx, rfl⟩
  have same : ∀ l : FEnts, (∀ x ∈ l, x.1 ≠ e.1) → updK (entF l) e.1 j row = entF l := fun l hl => by
    unfold updK entF
    rw [List.map_map]
    refine List.map_congr_left fun x hx => ?_
    show (if x.1 = e.1 then _ else _) = _
    rw [if_neg (hl x hx)]
  have app : ∀ l m : FEnts, entF (l ++ m) = entF l ++ entF m := fun l m => by unfold entF; rw [List.map_append]
  rw [app, app]
  have u : updK (entF as ++ entF (e :: bs)) e.1 j row = updK (entF as) e.1 j row ++ updK (entF (e :: bs)) e.1 j row := by unfold updK; rw [List.map_append]
  rw [u, same as fun x hx => h1 x (List.mem_append_left _ hx)]
  congr 1
  show (e.1, (e.2.2.set j (nr, row)).map (·.2)) :: entF bs = (if e.1 = e.1 then (e.1, (e.2.2.map (·.2)).set j row) else _) :: updK (entF bs) e.1 j row
  rw [if_pos rfl, same bs fun x hx => h1 x (List.mem_append_right _ hx), List.map_set]
theorem map_drop {as bs : FEnts} {e : FEnt} (nd : ((as ++ e :: bs).map (·.1)).Nodup) : entF (as ++ bs) = (entF (as ++ e :: bs)).filter fun k => decide (k.1 ≠ e.1) := by
  have h := drop_mid nd
  unfold entF
  rw [List.filter_map, ← h]
  rfl
theorem sub_nd {as bs : FEnts} {e : FEnt} (nd : ((as ++ e :: bs).map (·.1)).Nodup) : ((as ++ bs).map (·.1)).Nodup := by
  rw [List.map_append, List.map_cons] at nd
  rw [List.map_append]
  exact ((List.perm_middle.nodup_iff.mp nd) |> List.nodup_cons.mp).2
theorem upd_keys (as bs : FEnts) (e e' : FEnt) (h : e'.1 = e.1) : (as ++ e' :: bs).map (·.1) = (as ++ e :: bs).map (·.1) := by rw [List.map_append, List.map_append, List.map_cons, List.map_cons, h]
theorem Good.stored {as bs as' bs' : FEnts} {e e' : FEnt} {M : Cells} (g : Good (as ++ e :: bs) (as' ++ e' :: bs') M) (hz : e.1 = e'.1) {j : Nat} {nr nr' : Addr} {row : List Int} (h4 : row.length = 4) (h1 : (nr, HO.lst (row.map V.int)) ∈ M) (h2 : (nr', HO.lst (row.map V.int)) ∈ M) : Good (as ++ (e.1, e.2.1, e.2.2.set j (nr, row)) :: bs) (as' ++ (e'.1, e'.2.1, e'.2.2.set j (nr', row)) :: bs') M := by
  have side : ∀ {as bs : FEnts} {e : FEnt} {nr : Addr}, (nr, HO.lst (row.map V.int)) ∈ M → (∀ x ∈ as ++ e :: bs, ∀ r ∈ x.2.2, (r.1, HO.lst (r.2.map V.int)) ∈ M ∧ r.2.length = 4) → ∀ x ∈ as ++ (e.1, e.2.1, e.2.2.set j (nr, row)) :: bs, ∀ r ∈ x.2.2, (r.1, HO.lst (r.2.map V.int)) ∈ M ∧ r.2.length = 4 := by
    intro as bs e nr hm h x hx r hr
    rcases List.mem_append.mp hx with hx | hx
    · exact h x (List.mem_append_left _ hx) r hr
    · rcases List.mem_cons.mp hx with rfl | hx
      · rcases List.mem_or_eq_of_mem_set hr with hr | rfl
        · exact h e (List.mem_append_right _ List.mem_cons_self) r hr
        · exact ⟨hm, h4⟩
      · exact h x (List.mem_append_right _ (List.mem_cons_of_mem _ hx)) r hr
  refine ⟨by rw [upd_keys as bs e (e.1, e.2.1, e.2.2.set j (nr, row)) rfl]; exact g.nd, by rw [map_upd g.nd, map_upd g.nd', g.ek, hz], side h1 g.r1, side h2 g.r2, fun x hx => ?_⟩
  rcases List.mem_append.mp hx with hx | hx
  · exact g.ne x (List.mem_append_left _ hx)
  · rcases List.mem_cons.mp hx with rfl | hx
    · show 1 ≤ (e'.2.2.set j (nr', row)).length ∧ (e'.2.2.set j (nr', row)).length ≤ 64
      rw [List.length_set]
      exact g.ne e' (List.mem_append_right _ List.mem_cons_self)
    · exact g.ne x (List.mem_append_right _ (List.mem_cons_of_mem _ hx))
theorem Good.dropped {as bs as' bs' : FEnts} {e e' : FEnt} {M : Cells} (g : Good (as ++ e :: bs) (as' ++ e' :: bs') M) (hz : e.1 = e'.1) : Good (as ++ bs) (as' ++ bs') M := by
  have lf : ∀ {l m : FEnts} {e x : FEnt}, x ∈ l ++ m → x ∈ l ++ e :: m := fun h => (List.mem_append.mp h).elim (List.mem_append_left _) fun h => List.mem_append_right _ (List.mem_cons_of_mem _ h)
  exact ⟨sub_nd g.nd, by rw [map_drop g.nd, map_drop g.nd', g.ek, hz], fun x hx => g.r1 x (lf hx), fun x hx => g.r2 x (lf hx), fun x hx => g.ne x (lf hx)⟩
/-- the same file on the other side -/
theorem twin {es es' : FEnts} {M : Cells} (g : Good es es' M) {as bs : FEnts} {e : FEnt} (hab : es = as ++ e :: bs) : ∃ as' bs' e', es' = as' ++ e' :: bs' ∧ e'.1 = e.1 ∧ e'.2.2.map (·.2) = e.2.2.map (·.2) := by
  have h1 : e.1 ∈ es'.map (·.1) := by rw [← g.keys, hab]; exact mem_mid
  obtain ⟨e', he', hz⟩ := List.mem_map.mp h1
  obtain ⟨as', bs', hab', _⟩ := splitF g.nd' he'
  refine ⟨as', bs', e', hab', hz, ?_⟩
  have n1 := g.nd
  have n2 := g.nd'
  rw [hab] at n1
  rw [hab'] at n2
  have f1 := find_ent_some n1
  have f2 := find_ent_some n2
  rw [← hab, g.ek, hab', ← hz] at f1
  rw [f1] at f2
  exact (Prod.mk.inj (Option.some.inj f2)).2.symm
theorem at8w {t : Int} (h0 : 0 ≤ t) (h7 : t ≤ 7) : ∃ wy : Wy, atI [V.str (Str.ofString "make"), .str (Str.ofString "make"), .str (Str.ofString "size"), .str (Str.ofString "row"), .str (Str.ofString "row"), .str (Str.ofString "store"), .str (Str.ofString "store"), .str (Str.ofString "drop")] t = some (.str (wyS wy)) := by
  have h : t = 0 ∨ t = 1 ∨ t = 2 ∨ t = 3 ∨ t = 4 ∨ t = 5 ∨ t = 6 ∨ t = 7 := by omega
  rcases h with rfl | rfl | rfl | rfl | rfl | rfl | rfl | rfl
  · exact ⟨.make, atI_0⟩
  · exact ⟨.make, atI_1⟩
  · exact ⟨.size, atI_2⟩
  · exact ⟨.row, atI_3⟩
  · exact ⟨.row, atI_4⟩
  · exact ⟨.store, atI_5⟩
  · exact ⟨.store, atI_6⟩
  · exact ⟨.drop, atI_7⟩
theorem alike_rows {H : Hp} {p q : Addr} {rs rs' : Rws} (h1 : H p = some (.lst (rfs rs))) (h2 : H q = some (.lst (rfs rs'))) (hs : rs.map (·.2) = rs'.map (·.2)) (hl : rs'.length ≤ 600) (c1 : ∀ r ∈ rs, H r.1 = some (.lst (r.2.map V.int))) (c2 : ∀ r ∈ rs', H r.1 = some (.lst (r.2.map V.int)) ∧ r.2.length ≤ 600) : Alike H 2 (.ref p) (.ref q) := by
  have hll : rs.length = rs'.length := by have := congrArg List.length hs; rw [List.length_map, List.length_map] at this; exact this
  refine .inr ⟨p, q, _, _, rfl, rfl, .inl ⟨h1, h2⟩, by rw [rfs_len, rfs_len]; exact hll, by rw [rfs_len]; omega, fun i x y hx hy => ?_⟩
  unfold rfs at hx hy
  rw [List.getElem?_map] at hx hy
  obtain ⟨r, hr, rfl⟩ := Option.map_eq_some_iff.mp hx
  obtain ⟨r', hr', rfl⟩ := Option.map_eq_some_iff.mp hy
  have e : r.2 = r'.2 := by
    have := congrArg (fun l => l[i]?) hs
    simp only [List.getElem?_map, hr, hr'] at this
    exact Option.some.inj this
  have d1 := c1 r (List.mem_of_getElem? hr)
  obtain ⟨d2, d3⟩ := c2 r' (List.mem_of_getElem? hr')
  rw [e] at d1
  refine .inr ⟨_, _, _, _, rfl, rfl, .inl ⟨d1, d2⟩, rfl, by rw [List.length_map]; omega, fun j u v hu hv => ?_⟩
  rw [hu] at hv
  cases hv
  rw [List.getElem?_map] at hu
  obtain ⟨n, _, rfl⟩ := Option.map_eq_some_iff.mp hu
  exact .inr (.inr (.inl ⟨n, rfl, rfl⟩))
theorem alike_ints2 {H : Hp} {a b : Addr} {row : List Int} (h1 : H a = some (.lst (row.map V.int))) (h2 : H b = some (.lst (row.map V.int))) (hl : row.length ≤ 600) : Alike H 2 (.ref a) (.ref b) := by
  refine .inr ⟨a, b, _, _, rfl, rfl, .inl ⟨h1, h2⟩, rfl, by rw [List.length_map]; omega, fun i x y hx hy => ?_⟩
  rw [hx] at hy
  cases hy
  rw [List.getElem?_map] at hx
  obtain ⟨n, _, rfl⟩ := Option.map_eq_some_iff.mp hx
  exact .inl (.inr (.inr (.inl ⟨n, rfl, rfl⟩)))
end

section
variable {P : Program} {w : World} {K : PySem.W.Frag} {mg : Str → Option Value} {base : Heap} {cP cA cB cC c1 c2 c3 c4 c5 c6 cI : Addr}
/-- what the asked files found and became -/
def Fd (es : FEnts) (z : Str) (p : Int) (rows : Rws) (v : V) (es2 : FEnts) (X : Cells) : Wy → Prop
  | .make => z ∉ es.map (·.1) ∧ v = .non ∧ ∃ (fa : Addr) (rs : Rws), rs.map (·.2) = rows.map (·.2) ∧ es2 = es ++ [(z, fa, rs)] ∧ X = rwC rs
  | .size => ∃ as bs e, es = as ++ e :: bs ∧ e.1 = z ∧ v = .int (e.2.2.length : Nat) ∧ es2 = es ∧ X = []
  | .row => ∃ as bs e, ∃ (j : Nat) (r : Addr × List Int) (q : Addr), es = as ++ e :: bs ∧ e.1 = z ∧ p = ((j : Nat) : Int) ∧ e.2.2[j]? = some r ∧ v = .ref q ∧ es2 = es ∧ X = [(q, .lst (r.2.map V.int))]
  | .store => ∃ as bs e, ∃ (j : Nat) (r0 : Addr × List Int) (nr : Addr), es = as ++ e :: bs ∧ e.1 = z ∧ p = ((j : Nat) : Int) ∧ j < e.2.2.length ∧ rows[0]? = some r0 ∧ v = .non ∧ es2 = as ++ (e.1, e.2.1, e.2.2.set j (nr, r0.2)) :: bs ∧ X = [(nr, .lst (r0.2.map V.int))]
  | .drop => ∃ as bs e, es = as ++ e :: bs ∧ e.1 = z ∧ v = .non ∧ es2 = as ++ bs ∧ X = []
theorem Fd.no {es : FEnts} {z : Str} {p : Int} {rows : Rws} {v : V} {es2 : FEnts} {X : Cells} {wy : Wy} (h : Fd es z p rows v es2 X wy) : RfOf es z p wy .no := by
  cases wy with
  | make => exact h.1
  | size => obtain ⟨as, bs, e, h1, h2, _⟩ := h; exact ⟨as, bs, e, h1, h2⟩
  | row => obtain ⟨as, bs, e, j, r, q, h1, h2, h3, h4, _⟩ := h; exact ⟨as, bs, e, j, h1, h2, h3, (List.getElem?_eq_some_iff.mp h4).1⟩
  | store => obtain ⟨as, bs, e, j, r0, nr, h1, h2, h3, h4, _⟩ := h; exact ⟨as, bs, e, j, h1, h2, h3, h4⟩
  | drop => obtain ⟨as, bs, e, h1, h2, _⟩ := h; exact ⟨as, bs, e, h1, h2⟩
theorem rf_nil {rf : Rf} : rfB rf = [] ↔ rf = .no := by cases rf <;> simp [rfB]
def spDeed (cI : Addr) : Sp := fun vs H Q _ => ∃ (b dx d pd : Addr) (es es' : FEnts) (z : Str) (c : Int) (R0 M : Cells), vs = [.ref b, .ref pd, .str z, .int c] ∧ Led H (FiC cI b dx d es (PdC pd es' (R0 ++ M))) ∧ Good es es' M ∧ es.length ≤ 500 ∧ Builtin.Int.intBits c ≤ 1048576 ∧
  ∀ (es2 es2' : FEnts) (N : Cells) (H' : Hp), Good es2 es2' (N ++ M) → es2.length ≤ es.length + 1 → (∀ e ∈ es2, e.1 = z ∨ e.1 ∈ es.map (·.1)) → Led H' (FiC cI b dx d es2 (PdC pd es2' (R0 ++ (N ++ M)))) → Q (.bl true) H'
theorem ok_deed (D : Def K mg "_law_deed" s_l_deed) (B : Blt mg) (T : Txt K mg cP cA cB cC c1 c2 c3 c4 c5 c6 cI) (G__law_alike : FnD P w K mg base 4 "_law_alike" ["_law_found", "_law_due_here"] (spAlike 2)) (G__law_row : FnD P w K mg base 2 "_law_row" ["_law_cell"] spRow) (G__law_rows : FnD P w K mg base 3 "_law_rows" ["_law_cell"] spRows) (G__law_asked : FnD P w K mg base 5 "_law_asked" ["_law_files", "_law_way", "_law_name_here", "_law_page", "_law_rows_here"] (spAsked cI)) (G__law_due : FnD P w K mg base 1 "_law_due" ["_law_plain", "_law_way", "_law_name_here", "_law_page"] spDue) (G__law_done : FnD P w K mg base 1 "_law_done" ["_law_plain", "_law_way", "_law_name_here", "_law_page", "_law_rows_here"] spDone) : FnD P w K mg base 6 "_law_deed" ["_law_files", "_law_plain", "_law_name_here", "_law_cell"] (spDeed cI) := by
  have sc := sc_l_deed
  refine D.ok sc_l_deed (fun vs H Q E h => ?_) (fun _ _ _ _ _ _ us hl => match us, hl with | [_, _, _, _], _ => rfl) (fun f cdv A outer s H vs Q E hr h => ?_)
  · obtain ⟨_, _, _, _, _, _, _, _, _, _, rfl, _⟩ := h; rfl
  · obtain ⟨b, dx, d, pd, es, es', z, c, R0, M, rfl, hL, g, h5, hb, k⟩ := h
    have hu := unit1 hr
    have hlen := g.len
    have upM : ∀ {c : Addr × HO}, c ∈ M → c ∈ PdC pd es' (R0 ++ M) := fun h => List.mem_cons_of_mem _ (List.mem_append_right _ (List.mem_append_right _ h))
    have upF : ∀ {c : Addr × HO} {R : Cells}, c ∈ R → c ∈ FiC cI b dx d es R := fun h => List.mem_cons_of_mem _ (List.mem_cons_of_mem _ (List.mem_append_right _ h))
    refine ⟨_, (@pss_cons _ _ _ _ _ (@ps_set _ _ 4 _ _ _ _ sc.nd rfl (by first | exact Or.inl rfl | exact Or.inr rfl) (@pe_ix _ _ _ _ _ _ _ ix_any (@pe_lst _ _ _ _ (@pa_cons _ _ _ _ _ (@pe_str _ _ _ _) (@pa_cons _ _ _ _ _ (@pe_str _ _ _ _) (@pa_cons _ _ _ _ _ (@pe_str _ _ _ _) (@pa_cons _ _ _ _ _ (@pe_str _ _ _ _) (@pa_cons _ _ _ _ _ (@pe_str _ _ _ _) (@pa_cons _ _ _ _ _ (@pe_str _ _ _ _) (@pa_cons _ _ _ _ _ (@pe_str _ _ _ _) (@pa_cons _ _ _ _ _ (@pe_str _ _ _ _) (@pa_nil _) (by rfl)) (by rfl)) (by rfl)) (by rfl)) (by rfl)) (by rfl)) (by rfl)) (by rfl))) (@pe_op _ _ _ _ _ _ _ _ op_mod (@pv _ 3 _ _ (by rfl) (by first | exact Or.inl rfl | exact Or.inr (Or.inl rfl) | exact Or.inr (Or.inr rfl)) (by decide) (by decide)) (@pe_int _ _ _ _)) (fun _ _ => rfl)) (by rfl) (by first | exact .inl rfl | exact .inr rfl | assumption)) (@pss_cons _ _ _ _ _ (@ps_set _ _ 5 _ _ _ _ sc.nd rfl (by first | exact Or.inl rfl | exact Or.inr rfl) (@pe_int _ _ _ _) (by rfl) (by first | exact .inl rfl | exact .inr rfl | assumption)) (@pss_cons _ _ _ _ _ (@ps_if _ _ _ _ _ _ _ _ (@pt_cmp _ _ _ _ _ _ (@pc_din _ _ _ _ _ hu (@pv _ 2 _ _ (by rfl) (by first | exact Or.inl rfl | exact Or.inr (Or.inl rfl) | exact Or.inr (Or.inr rfl)) (by decide) (by decide)) (@pv _ 1 _ _ (by rfl) (by first | exact Or.inl rfl | exact Or.inr (Or.inl rfl) | exact Or.inr (Or.inr rfl)) (by decide) (by decide))) (by first | exact nobehind _ (by decide) (by decide) | rfl)) (@pss_one _ _ _ (@ps_set _ _ 5 _ _ _ _ sc.nd rfl (by first | exact Or.inl rfl | exact Or.inr rfl) (@pe_ix _ _ _ _ _ _ _ ix_any (@pe_lst _ _ _ _ (@pa_cons _ _ _ _ _ (@pe_op _ _ _ _ _ _ _ _ op_mod (@pe_op _ _ _ _ _ _ _ _ op_fdiv (@pv _ 3 _ _ (by rfl) (by first | exact Or.inl rfl | exact Or.inr (Or.inl rfl) | exact Or.inr (Or.inr rfl)) (by decide) (by decide)) (@pe_int _ _ _ _)) (@pe_op _ _ _ _ _ _ _ _ op_add (@pe_callB _ _ _ _ _ _ _ _ _ call_lenA (by rfl) B.len bt_len (@pa_cons _ _ _ _ _ (@pe_dget _ _ _ _ _ _ hu (@pv _ 1 _ _ (by rfl) (by first | exact Or.inl rfl | exact Or.inr (Or.inl rfl) | exact Or.inr (Or.inr rfl)) (by decide) (by decide)) (@pv _ 2 _ _ (by rfl) (by first | exact Or.inl rfl | exact Or.inr (Or.inl rfl) | exact Or.inr (Or.inr rfl)) (by decide) (by decide)) (fun _ _ => rfl)) (@pa_nil _) (by rfl)) (by decide) (by decide) (by rfl) (by rfl)) (@pe_int _ _ _ _))) (@pa_cons _ _ _ _ _ (@pe_op _ _ _ _ _ _ _ _ op_mod (@pe_op _ _ _ _ _ _ _ _ op_fdiv (@pv _ 3 _ _ (by rfl) (by first | exact Or.inl rfl | exact Or.inr (Or.inl rfl) | exact Or.inr (Or.inr rfl)) (by decide) (by decide)) (@pe_int _ _ _ _)) (@pe_callB _ _ _ _ _ _ _ _ _ call_lenA (by rfl) B.len bt_len (@pa_cons _ _ _ _ _ (@pe_dget _ _ _ _ _ _ hu (@pv _ 1 _ _ (by rfl) (by first | exact Or.inl rfl | exact Or.inr (Or.inl rfl) | exact Or.inr (Or.inr rfl)) (by decide) (by decide)) (@pv _ 2 _ _ (by rfl) (by first | exact Or.inl rfl | exact Or.inr (Or.inl rfl) | exact Or.inr (Or.inr rfl)) (by decide) (by decide)) (fun _ _ => rfl)) (@pa_nil _) (by rfl)) (by decide) (by decide) (by rfl) (by rfl))) (@pa_nil _) (by rfl)) (by rfl))) (@pe_op _ _ _ _ _ _ _ _ op_mod (@pe_op _ _ _ _ _ _ _ _ op_fdiv (@pv _ 3 _ _ (by rfl) (by first | exact Or.inl rfl | exact Or.inr (Or.inl rfl) | exact Or.inr (Or.inr rfl)) (by decide) (by decide)) (@pe_int _ _ _ _)) (@pe_int _ _ _ _)) (fun _ _ => rfl)) (by rfl) (by first | exact .inl rfl | exact .inr rfl | assumption))) (@pss_nil _)) (@pss_cons _ _ _ _ _ (@ps_if _ _ _ _ _ _ _ _ (@pt_cmpR _ _ _ _ _ _ _ _ op_eq (@pe_op _ _ _ _ _ _ _ _ op_mod (@pe_op _ _ _ _ _ _ _ _ op_fdiv (@pv _ 3 _ _ (by rfl) (by first | exact Or.inl rfl | exact Or.inr (Or.inl rfl) | exact Or.inr (Or.inr rfl)) (by decide) (by decide)) (@pe_int _ _ _ _)) (@pe_int _ _ _ _)) (@pe_int _ _ _ _) (nomark _)) (@pss_one _ _ _ (@ps_set _ _ 5 _ _ _ _ sc.nd rfl (by first | exact Or.inl rfl | exact Or.inr rfl) (@pe_ix _ _ _ _ _ _ _ ix_any (@pe_lst _ _ _ _ (@pa_cons _ _ _ _ _ (@pe_int _ _ _ _) (@pa_cons _ _ _ _ _ (@pe_op _ _ _ _ _ _ _ _ op_pow (@pe_int _ _ _ _) (@pe_int _ _ _ _)) (@pa_cons _ _ _ _ _ (@pe_int _ _ _ _) (@pa_cons _ _ _ _ _ (@pe_int _ _ _ _) (@pa_nil _) (by rfl)) (by rfl)) (by rfl)) (by rfl))) (@pe_op _ _ _ _ _ _ _ _ op_mod (@pe_op _ _ _ _ _ _ _ _ op_fdiv (@pv _ 3 _ _ (by rfl) (by first | exact Or.inl rfl | exact Or.inr (Or.inl rfl) | exact Or.inr (Or.inr rfl)) (by decide) (by decide)) (@pe_int _ _ _ _)) (@pe_int _ _ _ _)) (fun _ _ => rfl)) (by rfl) (by first | exact .inl rfl | exact .inr rfl | assumption))) (@pss_nil _)) (@pss_cons _ _ _ _ _ (@ps_set _ _ 6 _ _ _ _ sc.nd rfl (by first | exact Or.inl rfl | exact Or.inr rfl) (@pe_lst _ _ _ _ (@pa_cons _ _ _ _ _ (@pe_callD _ _ _ _ _ _ _ _ _ _ _ G__law_row (hr.mono (by omega)) (by rfl) passR0 (@pa_cons _ _ _ _ _ (@pe_op _ _ _ _ _ _ _ _ op_fdiv (@pv _ 3 _ _ (by rfl) (by first | exact Or.inl rfl | exact Or.inr (Or.inl rfl) | exact Or.inr (Or.inr rfl)) (by decide) (by decide)) (@pe_int _ _ _ _)) (@pa_nil _) (by rfl)) (by decide) (by rfl) (by rfl)) (@pa_nil _) (by rfl))) (by rfl) (by first | exact .inl rfl | exact .inr rfl | assumption)) (@pss_cons _ _ _ _ _ (@ps_if _ _ _ _ _ _ _ _ (@pt_cmpR _ _ _ _ _ _ _ _ op_eq (@pv _ 4 _ _ (by rfl) (by first | exact Or.inl rfl | exact Or.inr (Or.inl rfl) | exact Or.inr (Or.inr rfl)) (by decide) (by decide)) (@pe_str _ _ _ _) (nomark _)) (@pss_one _ _ _ (@ps_set _ _ 6 _ _ _ _ sc.nd rfl (by first | exact Or.inl rfl | exact Or.inr rfl) (@pe_callD _ _ _ _ _ _ _ _ _ _ _ G__law_rows (hr.mono (by omega)) (by rfl) passR0 (@pa_cons _ _ _ _ _ (@pe_op _ _ _ _ _ _ _ _ op_fdiv (@pv _ 3 _ _ (by rfl) (by first | exact Or.inl rfl | exact Or.inr (Or.inl rfl) | exact Or.inr (Or.inr rfl)) (by decide) (by decide)) (@pe_int _ _ _ _)) (@pa_nil _) (by rfl)) (by decide) (by rfl) (by rfl)) (by rfl) (by first | exact .inl rfl | exact .inr rfl | assumption))) (@pss_nil _)) (@pss_cons _ _ _ _ _ (@ps_setComp _ _ "_law_row_here" _ _ _ _ _ _ _ _ _ _ 7 _ _ rfl rfl rfl rfl noH (compSc_of (by kernel_rfl)) (@pi_list _ _ _ _ (@pv _ 6 _ _ (by rfl) (by first | exact Or.inl rfl | exact Or.inr (Or.inl rfl) | exact Or.inr (Or.inr rfl)) (by decide) (by decide))) (fun _ _ _ _ => (@pts_nil _)) (fun _ _ _ _ => (@pe_callTy _ _ _ _ _ _ _ _ _ (call_list_ofK (K := K) rfl) (by rfl) B.list bt_list (@pa_cons _ _ _ _ _ (@pk _ 0 _ _ (by kernel_rfl) (by kernel_rfl) (by decide) (by decide)) (@pa_nil _) (by rfl)) (by decide) (by decide) (by rfl) (by rfl))) sc.nd rfl (by first | exact Or.inl rfl | exact Or.inr rfl) (by intro _; rfl) (by rfl) (by first | exact .inl rfl | exact .inr rfl | assumption)) (@pss_cons _ _ _ _ _ (@ps_set _ _ 8 _ _ _ _ sc.nd rfl (by first | exact Or.inl rfl | exact Or.inr rfl) (@pe_callD _ _ _ _ _ _ _ _ _ _ _ G__law_due (hr.mono (by omega)) (by rfl) passR0 (@pa_cons _ _ _ _ _ (@pv _ 1 _ _ (by rfl) (by first | exact Or.inl rfl | exact Or.inr (Or.inl rfl) | exact Or.inr (Or.inr rfl)) (by decide) (by decide)) (@pa_cons _ _ _ _ _ (@pv _ 4 _ _ (by rfl) (by first | exact Or.inl rfl | exact Or.inr (Or.inl rfl) | exact Or.inr (Or.inr rfl)) (by decide) (by decide)) (@pa_cons _ _ _ _ _ (@pv _ 2 _ _ (by rfl) (by first | exact Or.inl rfl | exact Or.inr (Or.inl rfl) | exact Or.inr (Or.inr rfl)) (by decide) (by decide)) (@pa_cons _ _ _ _ _ (@pv _ 5 _ _ (by rfl) (by first | exact Or.inl rfl | exact Or.inr (Or.inl rfl) | exact Or.inr (Or.inr rfl)) (by decide) (by decide)) (@pa_nil _) (by rfl)) (by rfl)) (by rfl)) (by rfl)) (by decide) (by rfl) (by rfl)) (by rfl) (by first | exact .inl rfl | exact .inr rfl | assumption)) (@pss_cons _ _ _ _ _ (@ps_set _ _ 9 _ _ _ _ sc.nd rfl (by first | exact Or.inl rfl | exact Or.inr rfl) (@pe_callD _ _ _ _ _ _ _ _ _ _ _ G__law_asked (hr.mono (by omega)) (by rfl) passR0 (@pa_cons _ _ _ _ _ (@pv _ 0 _ _ (by rfl) (by first | exact Or.inl rfl | exact Or.inr (Or.inl rfl) | exact Or.inr (Or.inr rfl)) (by decide) (by decide)) (@pa_cons _ _ _ _ _ (@pv _ 4 _ _ (by rfl) (by first | exact Or.inl rfl | exact Or.inr (Or.inl rfl) | exact Or.inr (Or.inr rfl)) (by decide) (by decide)) (@pa_cons _ _ _ _ _ (@pv _ 2 _ _ (by rfl) (by first | exact Or.inl rfl | exact Or.inr (Or.inl rfl) | exact Or.inr (Or.inr rfl)) (by decide) (by decide)) (@pa_cons _ _ _ _ _ (@pv _ 5 _ _ (by rfl) (by first | exact Or.inl rfl | exact Or.inr (Or.inl rfl) | exact Or.inr (Or.inr rfl)) (by decide) (by decide)) (@pa_cons _ _ _ _ _ (@pv _ 7 _ _ (by rfl) (by first | exact Or.inl rfl | exact Or.inr (Or.inl rfl) | exact Or.inr (Or.inr rfl)) (by decide) (by decide)) (@pa_nil _) (by rfl)) (by rfl)) (by rfl)) (by rfl)) (by rfl)) (by decide) (by rfl) (by rfl)) (by rfl) (by first | exact .inl rfl | exact .inr rfl | assumption)) (@pss_cons _ _ _ _ _ (@ps_if _ _ _ _ _ _ _ _ (@PW.pt _ _ _ (@pw_or _ _ _ _ _ _ _ (@pt_cmpR _ _ _ _ _ _ _ _ (op_neD hr.units) (@pe_ix _ _ _ _ _ _ _ ix_any (@pv _ 9 _ _ (by rfl) (by first | exact Or.inl rfl | exact Or.inr (Or.inl rfl) | exact Or.inr (Or.inr rfl)) (by decide) (by decide)) (@pe_int _ _ _ _) (fun _ _ => rfl)) (@pv _ 8 _ _ (by rfl) (by first | exact Or.inl rfl | exact Or.inr (Or.inl rfl) | exact Or.inr (Or.inr rfl)) (by decide) (by decide)) (nomark _)) (@pw_or1 _ _ _ _ (@pt_not _ _ _ _ (@pt_val _ _ _ (@pe_callD _ _ _ _ _ _ _ _ _ _ _ G__law_alike (hr.mono (by omega)) (by rfl) passR0 (@pa_cons _ _ _ _ _ (@pv _ 7 _ _ (by rfl) (by first | exact Or.inl rfl | exact Or.inr (Or.inl rfl) | exact Or.inr (Or.inr rfl)) (by decide) (by decide)) (@pa_cons _ _ _ _ _ (@pv _ 6 _ _ (by rfl) (by first | exact Or.inl rfl | exact Or.inr (Or.inl rfl) | exact Or.inr (Or.inr rfl)) (by decide) (by decide)) (@pa_nil _) (by rfl)) (by rfl)) (by decide) (by rfl) (by rfl)) (by intro _; rfl)))))) (@pss_one _ _ _ (@ps_ret _ _ _ _ (@pe_bl _ _ _ _))) (@pss_nil _)) (@pss_cons _ _ _ _ _ (@ps_asg _ _ _ _ _ _ (@pe_op _ _ _ _ _ _ _ _ op_sub (@pe_op _ _ _ _ _ _ _ _ op_pow (@pe_int _ _ _ _) (@pe_int _ _ _ _)) (@pe_int _ _ _ _)) (@pg_sub _ _ _ _ _ _ _ (@pe_ix _ _ _ _ _ _ _ ix_any (@pv _ 7 _ _ (by rfl) (by first | exact Or.inl rfl | exact Or.inr (Or.inl rfl) | exact Or.inr (Or.inr rfl)) (by decide) (by decide)) (@pe_int _ _ _ _) (fun _ _ => rfl)) (@pe_op _ _ _ _ _ _ _ _ op_mod (@pe_op _ _ _ _ _ _ _ _ op_fdiv (@pv _ 3 _ _ (by rfl) (by first | exact Or.inl rfl | exact Or.inr (Or.inl rfl) | exact Or.inr (Or.inr rfl)) (by decide) (by decide)) (@pe_int _ _ _ _)) (@pe_int _ _ _ _)) set_list (by intro _; rfl)) (by rfl) (by rfl) (by rfl)) (@pss_cons _ _ _ _ _ (@ps_expr _ _ _ _ (@pe_bm _ _ _ _ _ _ _ _ _ _ _ _ PySem.F.plainAttrs_list PySem.F.slot_list_append PySem.F.type_list_append mt_append (@pv _ 7 _ _ (by rfl) (by first | exact Or.inl rfl | exact Or.inr (Or.inl rfl) | exact Or.inr (Or.inr rfl)) (by decide) (by decide)) (@pa_cons _ _ _ _ _ (@pe_lst _ _ _ _ (@pa_cons _ _ _ _ _ (@pe_int _ _ _ _) (@pa_cons _ _ _ _ _ (@pe_int _ _ _ _) (@pa_cons _ _ _ _ _ (@pe_int _ _ _ _) (@pa_cons _ _ _ _ _ (@pe_int _ _ _ _) (@pa_nil _) (by rfl)) (by rfl)) (by rfl)) (by rfl))) (@pa_nil _) (by rfl)) (by rfl) (by rfl) (by rfl) (by rfl) (by rfl)) (by rfl)) (@pss_cons _ _ _ _ _ (@ps_if _ _ _ _ _ _ _ _ (@pt_cmpR _ _ _ _ _ _ _ _ (op_neD hr.units) (@pv _ 8 _ _ (by rfl) (by first | exact Or.inl rfl | exact Or.inr (Or.inl rfl) | exact Or.inr (Or.inr rfl)) (by decide) (by decide)) (@pe_lst _ _ _ _ (@pa_nil _)) (nomark _)) (@pss_one _ _ _ (@ps_ret _ _ _ _ (@pe_bl _ _ _ _))) (@pss_nil _)) (@pss_cons _ _ _ _ _ (@ps_set _ _ 10 _ _ _ _ sc.nd rfl (by first | exact Or.inl rfl | exact Or.inr rfl) (@pe_callD _ _ _ _ _ _ _ _ _ _ _ G__law_done (hr.mono (by omega)) (by rfl) passR0 (@pa_cons _ _ _ _ _ (@pv _ 1 _ _ (by rfl) (by first | exact Or.inl rfl | exact Or.inr (Or.inl rfl) | exact Or.inr (Or.inr rfl)) (by decide) (by decide)) (@pa_cons _ _ _ _ _ (@pv _ 4 _ _ (by rfl) (by first | exact Or.inl rfl | exact Or.inr (Or.inl rfl) | exact Or.inr (Or.inr rfl)) (by decide) (by decide)) (@pa_cons _ _ _ _ _ (@pv _ 2 _ _ (by rfl) (by first | exact Or.inl rfl | exact Or.inr (Or.inl rfl) | exact Or.inr (Or.inr rfl)) (by decide) (by decide)) (@pa_cons _ _ _ _ _ (@pv _ 5 _ _ (by rfl) (by first | exact Or.inl rfl | exact Or.inr (Or.inl rfl) | exact Or.inr (Or.inr rfl)) (by decide) (by decide)) (@pa_cons _ _ _ _ _ (@pv _ 6 _ _ (by rfl) (by first | exact Or.inl rfl | exact Or.inr (Or.inl rfl) | exact Or.inr (Or.inr rfl)) (by decide) (by decide)) (@pa_nil _) (by rfl)) (by rfl)) (by rfl)) (by rfl)) (by rfl)) (by decide) (by rfl) (by rfl)) (by rfl) (by first | exact .inl rfl | exact .inr rfl | assumption)) (@pss_cons _ _ _ _ _ (@ps_if _ _ _ _ _ _ _ _ (@pt_not _ _ _ _ (@pt_val _ _ _ (@pe_callD _ _ _ _ _ _ _ _ _ _ _ G__law_alike (hr.mono (by omega)) (by rfl) passR0 (@pa_cons _ _ _ _ _ (@pe_ix _ _ _ _ _ _ _ ix_any (@pv _ 9 _ _ (by rfl) (by first | exact Or.inl rfl | exact Or.inr (Or.inl rfl) | exact Or.inr (Or.inr rfl)) (by decide) (by decide)) (@pe_int _ _ _ _) (fun _ _ => rfl)) (@pa_cons _ _ _ _ _ (@pv _ 10 _ _ (by rfl) (by first | exact Or.inl rfl | exact Or.inr (Or.inl rfl) | exact Or.inr (Or.inr rfl)) (by decide) (by decide)) (@pa_nil _) (by rfl)) (by rfl)) (by decide) (by rfl) (by rfl)) (by intro _; rfl))) (@pss_one _ _ _ (@ps_ret _ _ _ _ (@pe_bl _ _ _ _))) (@pss_nil _)) (@pss_cons _ _ _ _ _ (@ps_if _ _ _ _ _ _ _ _ (@pt_cmpR _ _ _ _ _ _ _ _ op_eq (@pv _ 4 _ _ (by rfl) (by first | exact Or.inl rfl | exact Or.inr (Or.inl rfl) | exact Or.inr (Or.inr rfl)) (by decide) (by decide)) (@pe_str _ _ _ _) (nomark _)) (@pss_one _ _ _ (@ps_asg _ _ _ _ _ _ (@pe_op _ _ _ _ _ _ _ _ op_add (@pe_op _ _ _ _ _ _ _ _ op_pow (@pe_int _ _ _ _) (@pe_int _ _ _ _)) (@pe_int _ _ _ _)) (@pg_sub _ _ _ _ _ _ _ (@pe_ix _ _ _ _ _ _ _ ix_any (@pv _ 9 _ _ (by rfl) (by first | exact Or.inl rfl | exact Or.inr (Or.inl rfl) | exact Or.inr (Or.inr rfl)) (by decide) (by decide)) (@pe_int _ _ _ _) (fun _ _ => rfl)) (@pe_op _ _ _ _ _ _ _ _ op_mod (@pe_op _ _ _ _ _ _ _ _ op_fdiv (@pv _ 3 _ _ (by rfl) (by first | exact Or.inl rfl | exact Or.inr (Or.inl rfl) | exact Or.inr (Or.inr rfl)) (by decide) (by decide)) (@pe_int _ _ _ _)) (@pe_int _ _ _ _)) set_list (by intro _; rfl)) (by rfl) (by rfl) (by rfl))) (@pss_nil _)) (@pss_one _ _ _ (@ps_ret _ _ _ _ (@pe_bl _ _ _ _))))))))))))))))))), ?_⟩
    refine seqK fun M1 K1 => ?_
    walk_at "ge"
    rename Led _ _ => hl1
    obtain ⟨w0, hat⟩ := at8w (t := c % 8) (by omega) (by omega)
    refine ixLH (hl1.get List.mem_cons_self) hat ?_
    obtain ⟨wy, hw⟩ : ∃ y, wyS w0 = y := ⟨_, rfl⟩
    rw [hw]
    walk_at "ge"
    refine K1.use ?_
    walk_at "cl"
    have hl2 := hl1.tail
    clear K1 hl1 hL hat
    refine seqK fun M1 K1 => ?_
    walk_at "ge"
    refine K1.use ?_
    walk_at "cl"
    clear K1
    refine seqK fun M1 K1 => ?_
    have rest1 : ∀ (p : Int) (H' : Hp), 0 ≤ p → Led H' (FiC cI b dx d es (PdC pd es' (R0 ++ M))) → M1 [some (.ref b), some (.ref pd), some (.str z), some (.int c), some (.str wy), some (.int p), none, none, none, none, none] H' := by
      clear hl2
      intro p H2 p0 hl2
      refine K1.use ?_
      clear K1
      refine seqK fun M1 K1 => ?_
      have rest2 : ∀ (p : Int) (H' : Hp), 0 ≤ p → Led H' (FiC cI b dx d es (PdC pd es' (R0 ++ M))) → M1 [some (.ref b), some (.ref pd), some (.str z), some (.int c), some (.str wy), some (.int p), none, none, none, none, none] H' := by
        clear hl2 p0
        intro p H2 p0 hl2
        refine K1.use ?_
        clear K1
        refine seqK fun M1 K1 => ?_
        walk_at "ge"
        refine ⟨_, _, rfl, Nat.le_trans (bits_div (by decide) hb) (by decide), hl2, fun r0 row0 H3 h40 hl3 => ?_⟩
        walk_at "ge"
        rename_i l0 H4 _ hl4 _
        refine K1.use ?_
        walk_at "cl"
        clear K1 hl3 hl2
        refine seqK fun M1 K1 => ?_
        have rest3 : ∀ (l : Addr) (rows : Rws) (H' : Hp), 1 ≤ rows.length → rows.length ≤ 64 → (∀ r ∈ rows, r.2.length = 4) → Led H' ((l, .lst (rfs rows)) :: (rwC rows ++ FiC cI b dx d es (PdC pd es' (R0 ++ M)))) → M1 [some (.ref b), some (.ref pd), some (.str z), some (.int c), some (.str wy), some (.int p), some (.ref l), none, none, none, none] H' := by
          clear hl4
          intro l rows H5 hr1 hr64 hr4 hl5
          refine K1.use ?_
          clear K1
          have c_l := hl5.get List.mem_cons_self
          refine seqK fun M1 K1 => ?_
          walk_at "ge"
          refine compL fun Lc hLc => ?_
          walk_at "ge"
          refine ⟨_, rfl, ⟨_, SqL.of c_l⟩, hLc.use ?_⟩
          clear hLc c_l
          refine compListL (rfs rows) (fun i v C => ∃ (r : Addr) (row : List Int), v = V.ref r ∧ C = [(r, HO.lst (row.map V.int))] ∧ rows[i]?.map (·.2) = some row) hl5 List.mem_cons_self (by rw [rfs_len]; have := sizeLine_eq; omega) (fun i x H2 R2 M2 hx hl2 hR => ?_) (fun hd vs Cs H6 hvl hcl hG hl6 => ?_)
          · unfold rfs at hx
            rw [List.getElem?_map] at hx
            obtain ⟨r, hr, rfl⟩ := Option.map_eq_some_iff.mp hx
            have hm := List.mem_of_getElem? hr
            have c3 := hl2.get (List.mem_append_right M2 (List.mem_cons_of_mem _ (List.mem_append_left _ (rwC_mem hm))))
            have h7 := hr4 r hm
            have mr : (r.2.map V.int).length = r.2.length := List.length_map _
            walk_at "ge"
            rename Led _ _ => hl3
            exact hR _ _ [_] ⟨_, r.2, rfl, rfl, by rw [hr]; rfl⟩ hl3
          obtain ⟨hrs, rfl, e2, e3, e4⟩ := rowsOf (by rw [hvl, hcl]) hG
          rw [e2] at hl6
          rw [rfs_len, rfs_len] at hvl
          have hsame := rows_same e4 (by rw [← hvl])
          have hh4 : ∀ r ∈ hrs, r.2.length = 4 := fun r hr => by
            have h1 : r.2 ∈ rows.map (·.2) := by rw [← hsame]; exact List.mem_map.mpr ⟨r, hr, rfl⟩
            obtain ⟨r', hr', e⟩ := List.mem_map.mp h1
            rw [← e]
            exact hr4 r' hr'
          clear hG hcl e2 e3 e4 hl5
          walk_at "ge"
          refine K1.use ?_
          walk_at "cl"
          clear K1
          refine seqK fun M1 K1 => ?_
          walk_at "ge"
          have inC : ∀ {c : Addr × HO}, c ∈ PdC pd es' (R0 ++ M) → c ∈ (hd, HO.lst (rfs hrs)) :: (rwC hrs ++ ((l, .lst (rfs rows)) :: (rwC rows ++ FiC cI b dx d es (PdC pd es' (R0 ++ M))))) := fun h => List.mem_cons_of_mem _ (List.mem_append_right _ (List.mem_cons_of_mem _ (List.mem_append_right _ (upF h))))
          refine ⟨pd, es', w0, z, p, _, by rw [hw]; rfl, hl6, inC List.mem_cons_self, g.nd', (fun e he => inC (List.mem_cons_of_mem _ (List.mem_append_left _ (filC_mem he)))), p0, fun rf dq H7 hrf hl7 => ?_⟩
          have hrfe := rf_is g.nd' hrf
          rw [← g.ek] at hrfe
          walk_at "ge"
          refine K1.use ?_
          walk_at "cl"
          clear K1 hl6
          obtain ⟨R, hR⟩ : ∃ R, R = (dq, HO.lst ((rfB rf).map V.bl)) :: (hd, HO.lst (rfs hrs)) :: (rwC hrs ++ ((l, HO.lst (rfs rows)) :: (rwC rows ++ PdC pd es' (R0 ++ M)))) := ⟨_, rfl⟩
          have hl8 : Led H7 (FiC cI b dx d es R) := by
            rw [hR]
            exact hl7.wk (by unfold FiC; (try simp only [List.append_assoc, List.cons_append, List.nil_append]); walk_at "sp")
          clear hl7 inC
          refine seqK fun M1 K1 => ?_
          have mid : ∀ (v : V) (es2 : FEnts) (X : Cells) (t q : Addr) (H' : Hp), (rf ≠ .no ∧ v = .non ∧ es2 = es ∧ X = []) ∨ (rf = .no ∧ Fd es z p hrs v es2 X w0) → Led H' ((t, .tup [v, .ref q]) :: (q, .lst ((rfB rf).map V.bl)) :: FiC cI b dx d es2 (X ++ R)) → M1 [some (.ref b), some (.ref pd), some (.str z), some (.int c), some (.str wy), some (.int p), some (.ref l), some (.ref hd), some (.ref dq), some (.ref t), none] H' := by
            clear hl8
            intro v es2 X t q H8 hcase hl8
            refine K1.use ?_
            clear K1
            have hl9 : Led H8 ((t, .tup [v, .ref q]) :: (q, .lst ((rfB rf).map V.bl)) :: (dq, .lst ((rfB rf).map V.bl)) :: (hd, .lst (rfs hrs)) :: (rwC hrs ++ ((l, .lst (rfs rows)) :: (rwC rows ++ FiC cI b dx d es2 (X ++ PdC pd es' (R0 ++ M)))))) := by
              rw [hR] at hl8
              exact hl8.wk (by unfold FiC PdC; (try simp only [List.append_assoc, List.cons_append, List.nil_append]); walk_at "sp")
            clear hl8 hR R
            have lR : ∀ {N : Cells} {c : Addr × HO}, c ∈ N → c ∈ rwC hrs ++ N := fun h => List.mem_append_right _ h
            refine seqK fun M1 K1 => ?_
            have c_t := hl9.get List.mem_cons_self
            walk_at "ge"
            refine neBlsH (hl9.get (List.mem_cons_of_mem _ List.mem_cons_self)) (hl9.get (List.mem_cons_of_mem _ (List.mem_cons_of_mem _ List.mem_cons_self))) ?_
            rw [decide_eq_true rfl]
            walk_at "ge"
            refine ⟨_, _, rfl, alike_rows (hl9.get (List.mem_cons_of_mem _ (List.mem_cons_of_mem _ (List.mem_cons_of_mem _ List.mem_cons_self)))) (hl9.get (List.mem_cons_of_mem _ (List.mem_cons_of_mem _ (List.mem_cons_of_mem _ (List.mem_cons_of_mem _ (lR List.mem_cons_self)))))) hsame (by omega) (fun r hr => hl9.get (List.mem_cons_of_mem _ (List.mem_cons_of_mem _ (List.mem_cons_of_mem _ (List.mem_cons_of_mem _ (List.mem_append_left _ (rwC_mem hr))))))) (fun r hr => ⟨hl9.get (List.mem_cons_of_mem _ (List.mem_cons_of_mem _ (List.mem_cons_of_mem _ (List.mem_cons_of_mem _ (lR (List.mem_cons_of_mem _ (List.mem_append_left _ (rwC_mem hr)))))))), by rw [hr4 r hr]; decide⟩), ?_⟩
            walk_at "ge"
            refine K1.use ?_
            walk_at "cl"
            clear K1 c_t
            obtain ⟨h0, ht, rfl⟩ : ∃ h0 ht, hrs = h0 :: ht := by
              cases hrs with
              | nil => rw [List.length_nil] at hvl; omega
              | cons a b => exact ⟨a, b, rfl⟩
            have h04 := hh4 h0 List.mem_cons_self
            have hl10 : Led H8 ((h0.1, .lst (h0.2.map V.int)) :: (t, .tup [v, .ref q]) :: (q, .lst ((rfB rf).map V.bl)) :: (dq, .lst ((rfB rf).map V.bl)) :: (hd, .lst (rfs (h0 :: ht))) :: (l, .lst (rfs rows)) :: (rwC rows ++ FiC cI b dx d es2 (X ++ PdC pd es' (R0 ++ M)))) := hl9.wk (by rw [show rwC (h0 :: ht) = (h0.1, HO.lst (h0.2.map V.int)) :: rwC ht from rfl]; unfold FiC PdC; (try simp only [List.append_assoc, List.cons_append, List.nil_append]); walk_at "sp")
            clear hl9 lR
            have ha0 : atI (rfs (h0 :: ht)) 0 = some (.ref h0.1) := atI_0
            refine seqK fun M1 K1 => ?_
            have c_h := hl10.get (List.mem_cons_of_mem _ (List.mem_cons_of_mem _ (List.mem_cons_of_mem _ (List.mem_cons_of_mem _ List.mem_cons_self))))
            walk_at "ge"
            refine setLH (hl10.get List.mem_cons_self) (ixN_of (by omega) (by rw [List.length_map]; omega)) ?_
            have hl11 := (hl10.put (o' := .lst ((h0.2.map V.int).set (c / 8 % 4).toNat (.int (1000000000000000000000000000000000000000000000000000000000000 - 7)))) rfl rfl).tail
            generalize upd H8 h0.1 (.lst ((h0.2.map V.int).set (c / 8 % 4).toNat (.int (1000000000000000000000000000000000000000000000000000000000000 - 7)))) = H11 at hl11 ⊢
            walk_at "ge"
            refine K1.use ?_
            walk_at "cl"
            clear K1 c_h hl10 ha0
            refine seqK fun M1 K1 => ?_
            walk_at "ge"
            refine ⟨tyVL (hl11.get (List.mem_cons_of_mem _ (List.mem_cons_of_mem _ (List.mem_cons_of_mem _ List.mem_cons_self)))), ?_⟩
            walk_at "ge"
            rename_i z4 H12 _ hl12 _
            have hl13 : Led H12 ((hd, .lst (rfs (h0 :: ht))) :: (t, .tup [v, .ref q]) :: (q, .lst ((rfB rf).map V.bl)) :: (dq, .lst ((rfB rf).map V.bl)) :: (l, .lst (rfs rows)) :: (rwC rows ++ FiC cI b dx d es2 (X ++ PdC pd es' (R0 ++ M)))) := hl12.wk (by unfold FiC PdC; (try simp only [List.append_assoc, List.cons_append, List.nil_append]); walk_at "sp")
            refine appH (hl13.get List.mem_cons_self) (by rw [rfs_len]; have := sizeLine_eq; omega) ?_
            have hl14 := (hl13.put (o' := .lst (rfs (h0 :: ht) ++ [.ref z4])) rfl rfl).tail
            generalize upd H12 hd (.lst (rfs (h0 :: ht) ++ [.ref z4])) = H14 at hl14 ⊢
            walk_at "ge"
            refine K1.use ?_
            walk_at "cl"
            clear K1 hl11 hl12 hl13
            refine seqK fun M1 K1 => ?_
            walk_at "ge"
            rename_i em H15 _ hl15 _
            refine neBlsH (cs := []) (hl15.get (List.mem_cons_of_mem _ (List.mem_cons_of_mem _ (List.mem_cons_of_mem _ List.mem_cons_self)))) (hl15.get List.mem_cons_self) ?_
            rcases hcase with ⟨hne, rfl, rfl, rfl⟩ | ⟨rfl, hfd⟩
            · rw [decide_eq_false (fun q => hne (rf_nil.mp q))]
              walk_at "ge"
              exact k es2 es' [] _ g (by omega) (fun e he => .inr (List.mem_map.mpr ⟨e, he, rfl⟩)) (hl15.wk (by unfold FiC PdC; (try simp only [List.append_assoc, List.cons_append, List.nil_append]); walk_at "sp"))
            rw [decide_eq_true (show rfB Rf.no = [] from rfl)]
            walk_at "ge"
            refine K1.use ?_
            walk_at "cl"
            clear K1 hl14
            have hl16 : Led H15 (PdC pd es' ((t, .tup [v, .ref q]) :: (l, .lst (rfs rows)) :: (rwC rows ++ FiC cI b dx d es2 (X ++ (R0 ++ M))))) := hl15.wk (by unfold FiC PdC; (try simp only [List.append_assoc, List.cons_append, List.nil_append]); walk_at "sp")
            clear hl15
            have mR : ∀ {c : Addr × HO}, c ∈ M → c ∈ (t, HO.tup [v, .ref q]) :: (l, .lst (rfs rows)) :: (rwC rows ++ FiC cI b dx d es2 (X ++ (R0 ++ M))) := fun h => List.mem_cons_of_mem _ (List.mem_cons_of_mem _ (List.mem_append_right _ (List.mem_cons_of_mem _ (List.mem_cons_of_mem _ (List.mem_append_right _ (List.mem_append_right _ (List.mem_append_right _ h)))))))
            replace hw := hw.symm
            refine seqK fun M1 K1 => ?_
            walk_at "ge"
            refine ⟨pd, l, es', w0, z, p, rows, _, by rw [hw]; rfl, hl16, g.nd', List.mem_cons_of_mem _ List.mem_cons_self, (fun r hr => ⟨List.mem_cons_of_mem _ (List.mem_cons_of_mem _ (List.mem_append_left _ (rwC_mem hr))), by rw [hr4 r hr]; decide⟩), (fun e he r hr => ⟨mR (g.r2 e he r hr).1, by rw [(g.r2 e he r hr).2]; decide⟩), by omega, by omega, ?_⟩
            cases w0 with
            | make =>
              replace hw : wy = Str.ofString "make" := hw
              obtain ⟨hz, rfl, fa, rs, hs, rfl, rfl⟩ := hfd
              refine ⟨by rw [← g.keys]; exact hz, fun fb rs' H17 hs' hl17 => ?_⟩
              walk_at "ge"
              refine K1.use ?_
              walk_at "cl"
              clear K1
              refine seqK fun M1 K1 => ?_
              have c_t := hl17.get (List.mem_cons_of_mem _ (List.mem_append_right _ (List.mem_append_right _ List.mem_cons_self)))
              walk_at "ge"
              refine ⟨_, _, rfl, .inl (.inl ⟨rfl, rfl⟩), ?_⟩
              walk_at "ge"
              refine K1.use ?_
              walk_at "cl"
              clear K1
              refine seqK fun M1 K1 => ?_
              walk_at "ge"
              all_goals first | (exfalso; first | exact absurd hw (by assumption) | exact absurd (hw.symm.trans (by assumption : wy = Str.ofString "size")) (by decide +kernel) | exact absurd (hw.symm.trans (by assumption : wy = Str.ofString "row")) (by decide +kernel) | exact absurd (hw.symm.trans (by assumption : wy = Str.ofString "store")) (by decide +kernel) | exact absurd (hw.symm.trans (by assumption : wy = Str.ofString "drop")) (by decide +kernel)) | skip
              refine K1.use ?_
              walk_at "ge"
              have hall : ∀ {ss : Rws}, ss.map (·.2) = rows.map (·.2) → ∀ r ∈ ss, r.2.length = 4 := fun hss r hr => by
                have h1 : r.2 ∈ rows.map (·.2) := by rw [← hss]; exact List.mem_map.mpr ⟨r, hr, rfl⟩
                obtain ⟨r', hr', e⟩ := List.mem_map.mp h1
                rw [← e]
                exact hr4 r' hr'
              have g2 : Good (es ++ [(z, fa, rs)]) (es' ++ [(z, fb, rs')]) ((rwC rs ++ rwC rs') ++ M) := (g.mono fun c hc => List.mem_append_right _ hc).made hz (hs.trans (hsame.trans hs'.symm)) (fun r hr => ⟨List.mem_append_left _ (List.mem_append_left _ (rwC_mem hr)), hall (hs.trans hsame) r hr⟩) (fun r hr => ⟨List.mem_append_left _ (List.mem_append_right _ (rwC_mem hr)), hall hs' r hr⟩) (by have := congrArg List.length hs'; rw [List.length_map, List.length_map] at this; omega)
              exact k _ _ (rwC rs ++ rwC rs') _ g2 (by rw [List.length_append, List.length_singleton]; omega) (fun e he => (List.mem_append.mp he).elim (fun h => .inr (List.mem_map.mpr ⟨e, h, rfl⟩)) fun h => by obtain rfl := List.mem_singleton.mp h; exact .inl rfl) (hl17.wk (by unfold FiC PdC; (try simp only [List.append_assoc, List.cons_append, List.nil_append]); walk_at "sp"))
            | size =>
              replace hw : wy = Str.ofString "size" := hw
              obtain ⟨as, bs, e, hab, hz, rfl, rfl, rfl⟩ := hfd
              obtain ⟨as', bs', e', hab', hz', hr'⟩ := twin g hab
              have hll : e'.2.2.length = e.2.2.length := by have := congrArg List.length hr'; rw [List.length_map, List.length_map] at this; exact this
              refine ⟨as', bs', e', hab', hz'.trans hz, ?_⟩
              rw [hll]
              walk_at "ge"
              refine K1.use ?_
              walk_at "cl"
              clear K1
              refine seqK fun M1 K1 => ?_
              have c_t := hl16.get (List.mem_cons_of_mem _ (List.mem_append_right _ List.mem_cons_self))
              walk_at "ge"
              refine ⟨_, _, rfl, .inl (.inr (.inr (.inl ⟨_, rfl, rfl⟩))), ?_⟩
              walk_at "ge"
              refine K1.use ?_
              walk_at "cl"
              clear K1
              refine seqK fun M1 K1 => ?_
              walk_at "ge"
              all_goals first | (exfalso; first | exact absurd hw (by assumption) | exact absurd (hw.symm.trans (by assumption : wy = Str.ofString "make")) (by decide +kernel) | exact absurd (hw.symm.trans (by assumption : wy = Str.ofString "row")) (by decide +kernel) | exact absurd (hw.symm.trans (by assumption : wy = Str.ofString "store")) (by decide +kernel) | exact absurd (hw.symm.trans (by assumption : wy = Str.ofString "drop")) (by decide +kernel)) | skip
              refine K1.use ?_
              walk_at "ge"
              exact k _ _ [] _ g (by omega) (fun e he => .inr (List.mem_map.mpr ⟨e, he, rfl⟩)) (hl16.wk (by unfold FiC PdC; (try simp only [List.append_assoc, List.cons_append, List.nil_append]); walk_at "sp"))
            | row =>
              replace hw : wy = Str.ofString "row" := hw
              obtain ⟨as, bs, e, j, r, q2, hab, hz, hp, hj, rfl, rfl, rfl⟩ := hfd
              obtain ⟨as', bs', e', hab', hz', hr'⟩ := twin g hab
              obtain ⟨r', hj', hrr⟩ : ∃ r', e'.2.2[j]? = some r' ∧ r'.2 = r.2 := by
                have h1 := congrArg (fun l => l[j]?) hr'
                simp only [List.getElem?_map, hj] at h1
                obtain ⟨r', h2, h3⟩ := Option.map_eq_some_iff.mp h1
                exact ⟨r', h2, h3⟩
              refine ⟨as', bs', e', j, r', hab', hz'.trans hz, hp, hj', fun q3 H17 hl17 => ?_⟩
              rw [hrr] at hl17
              walk_at "ge"
              refine K1.use ?_
              walk_at "cl"
              clear K1
              have hl18 : Led H17 ((q2, .lst (r.2.map V.int)) :: (t, .tup [.ref q2, .ref q]) :: (q3, .lst (r.2.map V.int)) :: FiC cI b dx d es2 (PdC pd es' (R0 ++ M))) := hl17.wk (by unfold FiC PdC; (try simp only [List.append_assoc, List.cons_append, List.nil_append]); walk_at "sp")
              clear hl17 hl16
              have hr4' : r.2.length = 4 := (g.r1 e (by rw [hab]; exact List.mem_append_right _ List.mem_cons_self) r (List.mem_of_getElem? hj)).2
              refine seqK fun M1 K1 => ?_
              have c_t := hl18.get (List.mem_cons_of_mem _ List.mem_cons_self)
              walk_at "ge"
              refine ⟨_, _, rfl, alike_ints2 (hl18.get List.mem_cons_self) (hl18.get (List.mem_cons_of_mem _ (List.mem_cons_of_mem _ List.mem_cons_self))) (by omega), ?_⟩
              walk_at "ge"
              refine K1.use ?_
              walk_at "cl"
              clear K1
              refine seqK fun M1 K1 => ?_
              walk_at "ge"
              all_goals first | (exfalso; first | exact absurd hw (by assumption) | exact absurd (hw.symm.trans (by assumption : wy = Str.ofString "make")) (by decide +kernel) | exact absurd (hw.symm.trans (by assumption : wy = Str.ofString "size")) (by decide +kernel) | exact absurd (hw.symm.trans (by assumption : wy = Str.ofString "store")) (by decide +kernel) | exact absurd (hw.symm.trans (by assumption : wy = Str.ofString "drop")) (by decide +kernel)) | skip
              refine setLH (hl18.get List.mem_cons_self) (ixN_of (by omega) (by rw [List.length_map]; omega)) ?_
              have hl19 := (hl18.put (o' := .lst ((r.2.map V.int).set (c / 32 % 4).toNat (.int (100000000000000000000000000000000000000000000000000000000000 + 9)))) rfl rfl).tail
              generalize upd H17 q2 (.lst ((r.2.map V.int).set (c / 32 % 4).toNat (.int (100000000000000000000000000000000000000000000000000000000000 + 9)))) = H19 at hl19 ⊢
              clear c_t hl18
              walk_at "ge"
              refine K1.use ?_
              walk_at "ge"
              exact k _ _ [] _ g (by omega) (fun e he => .inr (List.mem_map.mpr ⟨e, he, rfl⟩)) (hl19.wk (by unfold FiC PdC; (try simp only [List.append_assoc, List.cons_append, List.nil_append]); walk_at "sp"))
            | store =>
              replace hw : wy = Str.ofString "store" := hw
              obtain ⟨as, bs, e, j, r0, nr, hab, hz, hp, hj, h00, rfl, rfl, rfl⟩ := hfd
              subst hab
              obtain ⟨as', bs', e', hab', hz', hr'⟩ := twin g rfl
              subst hab'
              have hll : e'.2.2.length = e.2.2.length := by have := congrArg List.length hr'; rw [List.length_map, List.length_map] at this; exact this
              obtain ⟨r1, h01, h02⟩ : ∃ r1, rows[0]? = some r1 ∧ r1.2 = r0.2 := by
                have h1 := congrArg (fun l => l[0]?) hsame
                simp only [List.getElem?_map, h00] at h1
                obtain ⟨r', h2, h3⟩ := Option.map_eq_some_iff.mp h1.symm
                exact ⟨r', h2, h3⟩
              refine ⟨as', bs', e', j, r1, rfl, hz'.trans hz, hp, by omega, h01, fun nr' H17 hl17 => ?_⟩
              rw [h02] at hl17
              walk_at "ge"
              refine K1.use ?_
              walk_at "cl"
              clear K1
              refine seqK fun M1 K1 => ?_
              have c_t := hl17.get (List.mem_cons_of_mem _ (List.mem_append_right _ (List.mem_cons_of_mem _ List.mem_cons_self)))
              walk_at "ge"
              refine ⟨_, _, rfl, .inl (.inl ⟨rfl, rfl⟩), ?_⟩
              walk_at "ge"
              refine K1.use ?_
              walk_at "cl"
              clear K1
              refine seqK fun M1 K1 => ?_
              walk_at "ge"
              all_goals first | (exfalso; first | exact absurd hw (by assumption) | exact absurd (hw.symm.trans (by assumption : wy = Str.ofString "make")) (by decide +kernel) | exact absurd (hw.symm.trans (by assumption : wy = Str.ofString "size")) (by decide +kernel) | exact absurd (hw.symm.trans (by assumption : wy = Str.ofString "row")) (by decide +kernel) | exact absurd (hw.symm.trans (by assumption : wy = Str.ofString "drop")) (by decide +kernel)) | skip
              refine K1.use ?_
              walk_at "ge"
              have h40' : r0.2.length = 4 := by rw [← h02]; exact hr4 r1 (List.mem_of_getElem? h01)
              exact k _ _ [(nr, .lst (r0.2.map V.int)), (nr', .lst (r0.2.map V.int))] _ ((g.mono fun c hc => List.mem_append_right _ hc).stored hz'.symm h40' List.mem_cons_self (List.mem_cons_of_mem _ List.mem_cons_self)) (by simp only [List.length_append, List.length_cons]; omega) (fun x hx => .inr (by rw [← upd_keys as bs e (e.1, e.2.1, e.2.2.set j (nr, r0.2)) rfl]; exact List.mem_map.mpr ⟨x, hx, rfl⟩)) (hl17.wk (by unfold FiC PdC; (try simp only [List.append_assoc, List.cons_append, List.nil_append]); walk_at "sp"))
            | drop =>
              replace hw : wy = Str.ofString "drop" := hw
              obtain ⟨as, bs, e, hab, hz, rfl, rfl, rfl⟩ := hfd
              subst hab
              obtain ⟨as', bs', e', hab', hz', hr'⟩ := twin g rfl
              subst hab'
              refine ⟨as', bs', e', rfl, hz'.trans hz, fun H17 hl17 => ?_⟩
              walk_at "ge"
              refine K1.use ?_
              walk_at "cl"
              clear K1
              refine seqK fun M1 K1 => ?_
              have c_t := hl17.get (List.mem_cons_of_mem _ (List.mem_append_right _ List.mem_cons_self))
              walk_at "ge"
              refine ⟨_, _, rfl, .inl (.inl ⟨rfl, rfl⟩), ?_⟩
              walk_at "ge"
              refine K1.use ?_
              walk_at "cl"
              clear K1
              refine seqK fun M1 K1 => ?_
              walk_at "ge"
              all_goals first | (exfalso; first | exact absurd hw (by assumption) | exact absurd (hw.symm.trans (by assumption : wy = Str.ofString "make")) (by decide +kernel) | exact absurd (hw.symm.trans (by assumption : wy = Str.ofString "size")) (by decide +kernel) | exact absurd (hw.symm.trans (by assumption : wy = Str.ofString "row")) (by decide +kernel) | exact absurd (hw.symm.trans (by assumption : wy = Str.ofString "store")) (by decide +kernel)) | skip
              refine K1.use ?_
              walk_at "ge"
              exact k _ _ [] _ (g.dropped hz'.symm) (by simp only [List.length_append, List.length_cons]; omega) (fun x hx => .inr (List.mem_map.mpr ⟨x, (List.mem_append.mp hx).elim (List.mem_append_left _) fun h => List.mem_append_right _ (List.mem_cons_of_mem _ h), rfl⟩)) (hl17.wk (by unfold FiC PdC; (try simp only [List.append_assoc, List.cons_append, List.nil_append]); walk_at "sp"))
          clear K1
          walk_at "ge"
          have mR : ∀ {c : Addr × HO}, c ∈ PdC pd es' (R0 ++ M) → c ∈ R := fun h => by rw [hR]; exact List.mem_cons_of_mem _ (List.mem_cons_of_mem _ (List.mem_append_right _ (List.mem_cons_of_mem _ (List.mem_append_right _ h))))
          have same : ∀ rf2, RfOf es z p w0 rf2 → rf2 = rf := fun rf2 h => (rf_is g.nd h).trans hrfe.symm
          refine ⟨b, dx, d, hd, es, w0, z, p, hrs, R, by rw [hw]; rfl, hl8, g.nd, by rw [hR]; exact List.mem_cons_of_mem _ List.mem_cons_self, (fun r hr => ⟨by rw [hR]; exact List.mem_cons_of_mem _ (List.mem_cons_of_mem _ (List.mem_append_left _ (rwC_mem hr))), by rw [hh4 r hr]; decide⟩), (fun e he r hr => ⟨mR (upM (g.r1 e he r hr).1), by rw [(g.r1 e he r hr).2]; decide⟩), by omega, by omega, by omega, p0, fun rf2 hne hrf2 t q H9 hl9 => ?_, ?_⟩
          · obtain rfl := same rf2 hrf2
            walk_at "ge"
            exact mid .non es [] t q _ (.inl ⟨hne, rfl, rfl, rfl⟩) hl9
          · cases w0 with
            | make =>
              intro hz fa rs hs t q H9 hl9
              have hn : rf = .no := (same .no hz).symm
              walk_at "ge"
              refine mid .non _ _ t q _ (.inr ⟨hn, hz, rfl, fa, rs, hs, rfl, rfl⟩) ?_
              rw [hn]
              exact hl9
            | size =>
              intro as bs e hab hz t q H9 hl9
              have hn : rf = .no := (same .no ⟨as, bs, e, hab, hz⟩).symm
              walk_at "ge"
              refine mid _ es [] t q _ (.inr ⟨hn, as, bs, e, hab, hz, rfl, rfl, rfl⟩) ?_
              rw [hn]
              exact hl9
            | row =>
              intro as bs e j r hab hz hp hj q2 t q H9 hl9
              have hn : rf = .no := (same .no ⟨as, bs, e, j, hab, hz, hp, (List.getElem?_eq_some_iff.mp hj).1⟩).symm
              walk_at "ge"
              refine mid _ es [_] t q _ (.inr ⟨hn, as, bs, e, j, r, q2, hab, hz, hp, hj, rfl, rfl, rfl⟩) ?_
              rw [hn]
              exact hl9.wk (by unfold FiC rfB; (try simp only [List.append_assoc, List.cons_append, List.nil_append, List.map_nil]); walk_at "sp")
            | store =>
              intro as bs e j r0 hab hz hp hj h0 nr t q H9 hl9
              have hn : rf = .no := (same .no ⟨as, bs, e, j, hab, hz, hp, hj⟩).symm
              walk_at "ge"
              refine mid _ _ [_] t q _ (.inr ⟨hn, as, bs, e, j, r0, nr, hab, hz, hp, hj, h0, rfl, rfl, rfl⟩) ?_
              rw [hn]
              exact hl9
            | drop =>
              intro as bs e hab hz t q H9 hl9
              have hn : rf = .no := (same .no ⟨as, bs, e, hab, hz⟩).symm
              walk_at "ge"
              refine mid _ _ [] t q _ (.inr ⟨hn, as, bs, e, hab, hz, rfl, rfl, rfl⟩) ?_
              rw [hn]
              exact hl9
        clear K1
        walk_at "ge"
        · refine ⟨_, _, rfl, Nat.le_trans (bits_div (by decide) hb) (Nat.le_refl _), hl4.tail.tail, fun l rows H5 a1 a2 a3 hl5 => ?_⟩
          walk_at "ge"
          exact rest3 l rows _ a1 a2 a3 hl5
        · exact rest3 l0 [(r0, row0)] _ (Nat.le_refl 1) (show 1 ≤ 64 by decide) (fun r hr => by obtain rfl := List.mem_singleton.mp hr; exact h40) hl4
      clear K1
      walk_at "ge"
      · rename Led _ _ => hl3
        obtain ⟨x, hx, hx0⟩ : ∃ x : Int, atI [V.int 64, .int 1000000000000000000000000000000, .int 63, .int 2] (c / 144 % 4) = some (.int x) ∧ 0 ≤ x := by
          rcases (by omega : c / 144 % 4 = 0 ∨ c / 144 % 4 = 1 ∨ c / 144 % 4 = 2 ∨ c / 144 % 4 = 3) with h | h | h | h <;> rw [h]
          · exact ⟨_, atI_0, by decide⟩
          · exact ⟨_, atI_1, by decide⟩
          · exact ⟨_, atI_2, by decide⟩
          · exact ⟨_, atI_3, by decide⟩
        refine ixLH (hl3.get List.mem_cons_self) hx ?_
        walk_at "ge"
        exact rest2 x _ hx0 hl3.tail
      · exact rest2 p _ p0 hl2
    clear K1
    have c_pd := hl2.get (upF (R := PdC pd es' (R0 ++ M)) List.mem_cons_self)
    walk_at "ge"
    refine dinS c_pd ?_
    rw [val_in]
    by_cases hz : z ∈ es'.map (·.1)
    · rw [decide_eq_true hz]
      obtain ⟨e, he, rfl⟩ := List.mem_map.mp hz
      have hkv := kvF_some g.nd' he
      have c_e := hl2.get (upF (R := PdC pd es' (R0 ++ M)) (List.mem_cons_of_mem _ (List.mem_append_left _ (filC_mem he))))
      have hn1 := g.ne e he
      have hrl := rfs_len e.2.2
      walk_at "ge"
      refine dgetS c_pd hkv ?_
      walk_at "ge"
      refine dgetS c_pd hkv ?_
      walk_at "ge"
      rename Led _ _ => hl3
      refine ixLH (hl3.get List.mem_cons_self) (at2i (by omega) (by omega)) ?_
      walk_at "ge"
      refine rest1 _ _ ?_ hl3.tail
      split
      · exact Int.emod_nonneg _ (by omega)
      · exact Int.emod_nonneg _ (by omega)
    · rw [decide_eq_false hz]
      walk_at "ge"
      exact rest1 0 _ (by decide) hl2
end

section
variable {P : Program} {w : World} {K : PySem.W.Frag} {mg : Str → Option Value} {base : Heap} {cP cA cB cC c1 c2 c3 c4 c5 c6 cI : Addr}
/-- a told list of names and its copy -/
structure Hl where
  w : Addr
  to : Addr
  cp : Addr
  zs : List Str
def HlOk (ws : List Hl) (M : Cells) : Prop := ∀ x ∈ ws, (x.w, HO.tup [.ref x.to, .ref x.cp]) ∈ M ∧ (x.to, HO.lst (x.zs.map V.str)) ∈ M ∧ (x.cp, HO.lst (x.zs.map V.str)) ∈ M ∧ ∀ z ∈ x.zs, OkZ z
theorem HlOk.mono {ws : List Hl} {M M' : Cells} (h : HlOk ws M) (s : ∀ c ∈ M, c ∈ M') : HlOk ws M' := fun x hx => ⟨s _ (h x hx).1, s _ (h x hx).2.1, s _ (h x hx).2.2.1, (h x hx).2.2.2⟩
theorem HlOk.snoc {ws : List Hl} {M : Cells} (h : HlOk ws M) {y : Hl} (hy : (y.w, HO.tup [.ref y.to, .ref y.cp]) ∈ M ∧ (y.to, HO.lst (y.zs.map V.str)) ∈ M ∧ (y.cp, HO.lst (y.zs.map V.str)) ∈ M ∧ ∀ z ∈ y.zs, OkZ z) : HlOk (ws ++ [y]) M := fun x hx => by
  rcases List.mem_append.mp hx with h1 | h1
  · exact h x h1
  · obtain rfl := List.mem_singleton.mp h1
    exact hy
def hlV (ws : List Hl) : List V := ws.map fun x => V.ref x.w
theorem alike_strs {H : Hp} {p q : Addr} {zs : List Str} (h1 : H p = some (.lst (zs.map V.str))) (h2 : H q = some (.lst (zs.map V.str))) (hl : zs.length ≤ 600) : Alike H 2 (.ref p) (.ref q) := by
  refine .inr ⟨p, q, _, _, rfl, rfl, .inl ⟨h1, h2⟩, rfl, by rw [List.length_map]; omega, fun i x y hx hy => ?_⟩
  rw [hx] at hy
  cases hy
  rw [List.getElem?_map] at hx
  obtain ⟨z, _, rfl⟩ := Option.map_eq_some_iff.mp hx
  exact .inl (.inr (.inr (.inr ⟨z, rfl, rfl⟩)))
def spIsFiles (cI : Addr) : Sp := fun vs H Q _ => ∃ (b dx d pd hd : Addr) (es es' : FEnts) (z : Str) (c : Int) (ws : List Hl) (R0 M : Cells), vs = [.ref b, .ref pd, .str z, .int c, .ref hd] ∧ Led H (FiC cI b dx d es (PdC pd es' ((hd, .lst (hlV ws)) :: (R0 ++ M)))) ∧ Good es es' M ∧ es.length < 64 ∧ (∀ e ∈ es, OkZ e.1) ∧ OkZ z ∧ HlOk ws M ∧ ws.length ≤ 1000 ∧
  ∀ (ws2 : List Hl) (N : Cells) (H' : Hp), HlOk ws2 (N ++ M) → ws2.length = ws.length + 1 → Led H' (FiC cI b dx d es (PdC pd es' ((hd, .lst (hlV ws2)) :: (R0 ++ (N ++ M))))) → Q (.bl true) H'
theorem ok_is_files (D : Def K mg "_law_is_files" s_l_is_files) (B : Blt mg) (T : Txt K mg cP cA cB cC c1 c2 c3 c4 c5 c6 cI) (M_Files_names : MethD P w K mg base 1 cI "names" ["self"] (spNames cI)) (M_Files_size_of : MethD P w K mg base 2 cI "size_of" ["self", "name"] (spSize cI cA)) (M_Files_row_at : MethD P w K mg base 4 cI "row_at" ["self", "name", "page"] (spRowAt cI cA cB)) (G__law_alike : FnD P w K mg base 4 "_law_alike" ["_law_found", "_law_due_here"] (spAlike 2)) : FnD P w K mg base 5 "_law_is_files" ["_law_files", "_law_plain", "_law_name_here", "_law_cell", "_law_held"] (spIsFiles cI) := by
  have sc := sc_l_is_files
  refine D.ok sc_l_is_files (fun vs H Q E h => ?_) (fun _ _ _ _ _ _ us hl => match us, hl with | [_, _, _, _, _], _ => rfl) (fun f cdv A outer s H vs Q E hr h => ?_)
  · obtain ⟨_, _, _, _, _, _, _, _, _, _, _, _, rfl, _⟩ := h; rfl
  · obtain ⟨b, dx, d, pd, hd, es, es', z, c, ws, R0, M, rfl, hL, g, h64, okk, okz, hw, hwl, k⟩ := h
    have hu := unit1 hr
    have hlen := g.len
    have upF : ∀ {c : Addr × HO} {R : Cells}, c ∈ R → c ∈ FiC cI b dx d es R := fun h => List.mem_cons_of_mem _ (List.mem_cons_of_mem _ (List.mem_append_right _ h))
    have upP : ∀ {c : Addr × HO} {R : Cells}, c ∈ R → c ∈ PdC pd es' R := fun h => List.mem_cons_of_mem _ (List.mem_append_right _ h)
    refine ⟨_, (@pss_cons _ _ _ _ _ (@ps_set _ _ 5 _ _ _ _ sc.nd rfl (by first | exact Or.inl rfl | exact Or.inr rfl) (@pe_methD0 _ _ _ _ _ _ _ _ _ _ _ _ _ T.Files M_Files_names (hr.mono (by omega)) passR0 (@pv _ 0 _ _ (by rfl) (by first | exact Or.inl rfl | exact Or.inr (Or.inl rfl) | exact Or.inr (Or.inr rfl)) (by decide) (by decide)) (by rfl)) (by rfl) (by first | exact .inl rfl | exact .inr rfl | assumption)) (@pss_cons _ _ _ _ _ (@ps_if _ _ _ _ _ _ _ _ (@pt_not _ _ _ _ (@pt_val _ _ _ (@pe_callD _ _ _ _ _ _ _ _ _ _ _ G__law_alike (hr.mono (by omega)) (by rfl) passR0 (@pa_cons _ _ _ _ _ (@pv _ 5 _ _ (by rfl) (by first | exact Or.inl rfl | exact Or.inr (Or.inl rfl) | exact Or.inr (Or.inr rfl)) (by decide) (by decide)) (@pa_cons _ _ _ _ _ (@pe_callB _ _ _ _ _ _ _ _ _ (call_sortDS rfl) (by rfl) B.sorted bt_sorted (@pa_cons _ _ _ _ _ (@pv _ 1 _ _ (by rfl) (by first | exact Or.inl rfl | exact Or.inr (Or.inl rfl) | exact Or.inr (Or.inr rfl)) (by decide) (by decide)) (@pa_nil _) (by rfl)) (by decide) (by decide) (by rfl) (by rfl)) (@pa_nil _) (by rfl)) (by rfl)) (by decide) (by rfl) (by rfl)) (by intro _; rfl))) (@pss_one _ _ _ (@ps_ret _ _ _ _ (@pe_bl _ _ _ _))) (@pss_nil _)) (@pss_cons _ _ _ _ _ (@ps_expr _ _ _ _ (@pe_bm _ _ _ _ _ _ _ _ _ _ _ _ PySem.F.plainAttrs_list PySem.F.slot_list_append PySem.F.type_list_append mt_append (@pv _ 5 _ _ (by rfl) (by first | exact Or.inl rfl | exact Or.inr (Or.inl rfl) | exact Or.inr (Or.inr rfl)) (by decide) (by decide)) (@pa_cons _ _ _ _ _ (@pv _ 2 _ _ (by rfl) (by first | exact Or.inl rfl | exact Or.inr (Or.inl rfl) | exact Or.inr (Or.inr rfl)) (by decide) (by decide)) (@pa_nil _) (by rfl)) (by rfl) (by rfl) (by rfl) (by rfl) (by rfl)) (by rfl)) (@pss_cons _ _ _ _ _ (@ps_expr _ _ _ _ (@pe_bm _ _ _ _ _ _ _ _ _ _ _ _ PySem.F.plainAttrs_list PySem.F.slot_list_append PySem.F.type_list_append mt_append (@pv _ 4 _ _ (by rfl) (by first | exact Or.inl rfl | exact Or.inr (Or.inl rfl) | exact Or.inr (Or.inr rfl)) (by decide) (by decide)) (@pa_cons _ _ _ _ _ (@pe_tup _ _ _ _ _ (@pa_cons _ _ _ _ _ (@pv _ 5 _ _ (by rfl) (by first | exact Or.inl rfl | exact Or.inr (Or.inl rfl) | exact Or.inr (Or.inr rfl)) (by decide) (by decide)) (@pa_cons _ _ _ _ _ (@pe_callTy _ _ _ _ _ _ _ _ _ (call_list_ofK (K := K) rfl) (by rfl) B.list bt_list (@pa_cons _ _ _ _ _ (@pv _ 5 _ _ (by rfl) (by first | exact Or.inl rfl | exact Or.inr (Or.inl rfl) | exact Or.inr (Or.inr rfl)) (by decide) (by decide)) (@pa_nil _) (by rfl)) (by decide) (by decide) (by rfl) (by rfl)) (@pa_nil _) (by rfl)) (by rfl))) (@pa_nil _) (by rfl)) (by rfl) (by rfl) (by rfl) (by rfl) (by rfl)) (by rfl)) (@pss_cons _ _ _ _ _ (@ps_if _ _ _ _ _ _ _ _ (@pt_cmp _ _ _ _ _ _ (@pc_din _ _ _ _ _ hu (@pv _ 2 _ _ (by rfl) (by first | exact Or.inl rfl | exact Or.inr (Or.inl rfl) | exact Or.inr (Or.inr rfl)) (by decide) (by decide)) (@pv _ 1 _ _ (by rfl) (by first | exact Or.inl rfl | exact Or.inr (Or.inl rfl) | exact Or.inr (Or.inr rfl)) (by decide) (by decide))) (by first | exact nobehind _ (by decide) (by decide) | rfl)) (@pss_cons _ _ _ _ _ (@ps_set _ _ 6 _ _ _ _ sc.nd rfl (by first | exact Or.inl rfl | exact Or.inr rfl) (@pe_op _ _ _ _ _ _ _ _ op_mod (@pe_op _ _ _ _ _ _ _ _ op_fdiv (@pv _ 3 _ _ (by rfl) (by first | exact Or.inl rfl | exact Or.inr (Or.inl rfl) | exact Or.inr (Or.inr rfl)) (by decide) (by decide)) (@pe_int _ _ _ _)) (@pe_callB _ _ _ _ _ _ _ _ _ call_lenA (by rfl) B.len bt_len (@pa_cons _ _ _ _ _ (@pe_dget _ _ _ _ _ _ hu (@pv _ 1 _ _ (by rfl) (by first | exact Or.inl rfl | exact Or.inr (Or.inl rfl) | exact Or.inr (Or.inr rfl)) (by decide) (by decide)) (@pv _ 2 _ _ (by rfl) (by first | exact Or.inl rfl | exact Or.inr (Or.inl rfl) | exact Or.inr (Or.inr rfl)) (by decide) (by decide)) (fun _ _ => rfl)) (@pa_nil _) (by rfl)) (by decide) (by decide) (by rfl) (by rfl))) (by rfl) (by first | exact .inl rfl | exact .inr rfl | assumption)) (@pss_cons _ _ _ _ _ (@ps_if _ _ _ _ _ _ _ _ (@PW.pt _ _ _ (@pw_and _ _ _ _ _ _ _ (@pt_cmpR _ _ _ _ _ _ _ _ op_eq (@pe_op _ _ _ _ _ _ _ _ op_mod (@pv _ 3 _ _ (by rfl) (by first | exact Or.inl rfl | exact Or.inr (Or.inl rfl) | exact Or.inr (Or.inr rfl)) (by decide) (by decide)) (@pe_int _ _ _ _)) (@pe_int _ _ _ _) (nomark _)) (@pw_and1 _ _ _ _ (@pt_not _ _ _ _ (@pt_val _ _ _ (@pe_callD _ _ _ _ _ _ _ _ _ _ _ G__law_alike (hr.mono (by omega)) (by rfl) passR0 (@pa_cons _ _ _ _ _ (@pe_methD _ _ _ _ _ _ _ _ _ _ _ _ _ _ _ _ T.Files M_Files_size_of (hr.mono (by omega)) passR0 (@pv _ 0 _ _ (by rfl) (by first | exact Or.inl rfl | exact Or.inr (Or.inl rfl) | exact Or.inr (Or.inr rfl)) (by decide) (by decide)) (@pa_cons _ _ _ _ _ (@pv _ 2 _ _ (by rfl) (by first | exact Or.inl rfl | exact Or.inr (Or.inl rfl) | exact Or.inr (Or.inr rfl)) (by decide) (by decide)) (@pa_nil _) (by rfl)) (by rfl) (by rfl) (by rfl)) (@pa_cons _ _ _ _ _ (@pe_callB _ _ _ _ _ _ _ _ _ call_lenA (by rfl) B.len bt_len (@pa_cons _ _ _ _ _ (@pe_dget _ _ _ _ _ _ hu (@pv _ 1 _ _ (by rfl) (by first | exact Or.inl rfl | exact Or.inr (Or.inl rfl) | exact Or.inr (Or.inr rfl)) (by decide) (by decide)) (@pv _ 2 _ _ (by rfl) (by first | exact Or.inl rfl | exact Or.inr (Or.inl rfl) | exact Or.inr (Or.inr rfl)) (by decide) (by decide)) (fun _ _ => rfl)) (@pa_nil _) (by rfl)) (by decide) (by decide) (by rfl) (by rfl)) (@pa_nil _) (by rfl)) (by rfl)) (by decide) (by rfl) (by rfl)) (by intro _; rfl)))))) (@pss_one _ _ _ (@ps_ret _ _ _ _ (@pe_bl _ _ _ _))) (@pss_nil _)) (@pss_one _ _ _ (@ps_ret _ _ _ _ (@pe_callD _ _ _ _ _ _ _ _ _ _ _ G__law_alike (hr.mono (by omega)) (by rfl) passR0 (@pa_cons _ _ _ _ _ (@pe_methD _ _ _ _ _ _ _ _ _ _ _ _ _ _ _ _ T.Files M_Files_row_at (hr.mono (by omega)) passR0 (@pv _ 0 _ _ (by rfl) (by first | exact Or.inl rfl | exact Or.inr (Or.inl rfl) | exact Or.inr (Or.inr rfl)) (by decide) (by decide)) (@pa_cons _ _ _ _ _ (@pv _ 2 _ _ (by rfl) (by first | exact Or.inl rfl | exact Or.inr (Or.inl rfl) | exact Or.inr (Or.inr rfl)) (by decide) (by decide)) (@pa_cons _ _ _ _ _ (@pv _ 6 _ _ (by rfl) (by first | exact Or.inl rfl | exact Or.inr (Or.inl rfl) | exact Or.inr (Or.inr rfl)) (by decide) (by decide)) (@pa_nil _) (by rfl)) (by rfl)) (by rfl) (by rfl) (by rfl)) (@pa_cons _ _ _ _ _ (@pe_ix _ _ _ _ _ _ _ ix_any (@pe_dget _ _ _ _ _ _ hu (@pv _ 1 _ _ (by rfl) (by first | exact Or.inl rfl | exact Or.inr (Or.inl rfl) | exact Or.inr (Or.inr rfl)) (by decide) (by decide)) (@pv _ 2 _ _ (by rfl) (by first | exact Or.inl rfl | exact Or.inr (Or.inl rfl) | exact Or.inr (Or.inr rfl)) (by decide) (by decide)) (fun _ _ => rfl)) (@pv _ 6 _ _ (by rfl) (by first | exact Or.inl rfl | exact Or.inr (Or.inl rfl) | exact Or.inr (Or.inr rfl)) (by decide) (by decide)) (fun _ _ => rfl)) (@pa_nil _) (by rfl)) (by rfl)) (by decide) (by rfl) (by rfl)))))) (@pss_nil _)) (@pss_one _ _ _ (@ps_ret _ _ _ _ (@pe_bl _ _ _ _)))))))), ?_⟩
    refine seqK fun M1 K1 => ?_
    have c_b : H b = some (.ins cI dx (fiFld d)) := hL.get List.mem_cons_self
    walk_at "ge"
    refine ⟨b, dx, d, es, _, rfl, hL, FH.of hL g.nd, h64, fun to ms H1 hp hs hl1 => ?_⟩
    walk_at "ge"
    refine K1.use ?_
    walk_at "cl"
    clear K1 hL c_b
    have okm : ∀ y ∈ ms ++ [z], OkZ y := fun y hy => by
      rcases List.mem_append.mp hy with h | h
      · obtain ⟨e, he, rfl⟩ := List.mem_map.mp (hp.subset h)
        exact okk e he
      · obtain rfl := List.mem_singleton.mp h
        exact okz
    have hml : ms.length = es.length := by rw [hp.length_eq, List.length_map]
    have mst : (ms.map V.str).length = ms.length := List.length_map _
    refine seqK fun M1 K1 => ?_
    have c_p := hl1.get (List.mem_cons_of_mem _ (upF (R := PdC pd es' ((hd, .lst (hlV ws)) :: (R0 ++ M))) List.mem_cons_self))
    walk_at "ge"
    refine sortDSR c_p (kvF_keys es') (by rw [List.length_map]; omega) fun ms' hp' hs' => Led.alloc hl1 fun sq H2 _ hl2 _ => ?_
    obtain rfl : ms' = ms := sortedS_uniq (hp'.trans (by rw [← g.keys]; exact hp.symm)) hs' hs
    walk_at "ge"
    refine ⟨_, _, rfl, alike_strs (hl2.get (List.mem_cons_of_mem _ List.mem_cons_self)) (hl2.get List.mem_cons_self) (by omega), ?_⟩
    walk_at "ge"
    refine K1.use ?_
    walk_at "cl"
    have hl3 := hl2.tail
    clear K1 c_p hl2 hl1
    refine seqK fun M1 K1 => ?_
    walk_at "ge"
    refine ⟨tyVL (hl3.get List.mem_cons_self), ?_⟩
    walk_at "ge"
    refine appH (hl3.get List.mem_cons_self) (by rw [mst]; have := sizeLine_eq; omega) ?_
    have hl4 := hl3.put (o' := .lst (ms'.map V.str ++ [.str z])) rfl rfl
    generalize upd H2 to (.lst (ms'.map V.str ++ [.str z])) = H4 at hl4 ⊢
    rw [show ms'.map V.str ++ [V.str z] = (ms' ++ [z]).map V.str by rw [List.map_append]; rfl] at hl4
    generalize hzs : ms' ++ [z] = zs at hl4 okm
    have hzl : (zs.map V.str).length ≤ 65 := by rw [List.length_map, ← hzs, List.length_append, List.length_singleton]; omega
    walk_at "ge"
    refine K1.use ?_
    walk_at "cl"
    clear K1 hl3
    refine seqK fun M1 K1 => ?_
    have c_to := hl4.get List.mem_cons_self
    have c_hd := hl4.get (List.mem_cons_of_mem _ (upF (upP List.mem_cons_self)))
    walk_at "ge"
    refine ⟨tyVL c_hd, ?_⟩
    walk_at "ge"
    rename_i cp H6 _ _ _ wt H7 _ hl7 _
    have hwv : (hlV ws).length = ws.length := List.length_map _
    have hl8 : Led H7 ((hd, .lst (hlV ws)) :: FiC cI b dx d es (PdC pd es' ([(wt, .tup [.ref to, .ref cp]), (cp, .lst (zs.map V.str)), (to, .lst (zs.map V.str))] ++ (R0 ++ M)))) := hl7.wk (by unfold FiC PdC; (try simp only [List.append_assoc, List.cons_append, List.nil_append]); walk_at "sp")
    refine appH (hl8.get List.mem_cons_self) (by rw [hwv]; have := sizeLine_eq; omega) ?_
    have hl9 := hl8.put (o' := .lst (hlV ws ++ [.ref wt])) rfl rfl
    generalize upd H7 hd (.lst (hlV ws ++ [.ref wt])) = H9 at hl9 ⊢
    rw [show hlV ws ++ [V.ref wt] = hlV (ws ++ [⟨wt, to, cp, zs⟩]) by unfold hlV; rw [List.map_append]; rfl] at hl9
    have sub : ∀ c ∈ M, c ∈ [(wt, HO.tup [.ref to, .ref cp]), (cp, .lst (zs.map V.str)), (to, .lst (zs.map V.str))] ++ M := fun c hc => List.mem_append_right _ hc
    have hw2 : HlOk (ws ++ [⟨wt, to, cp, zs⟩]) ([(wt, HO.tup [.ref to, .ref cp]), (cp, .lst (zs.map V.str)), (to, .lst (zs.map V.str))] ++ M) := (hw.mono sub).snoc ⟨List.mem_cons_self, List.mem_cons_of_mem _ (List.mem_cons_of_mem _ List.mem_cons_self), List.mem_cons_of_mem _ List.mem_cons_self, okm⟩
    have hl10 : Led H9 (FiC cI b dx d es (PdC pd es' ((hd, .lst (hlV (ws ++ [⟨wt, to, cp, zs⟩]))) :: (R0 ++ ([(wt, .tup [.ref to, .ref cp]), (cp, .lst (zs.map V.str)), (to, .lst (zs.map V.str))] ++ M))))) := hl9.wk (by unfold FiC PdC; (try simp only [List.append_assoc, List.cons_append, List.nil_append]); walk_at "sp")
    have hwl2 : (ws ++ [(⟨wt, to, cp, zs⟩ : Hl)]).length = ws.length + 1 := by rw [List.length_append, List.length_singleton]
    replace k := fun (H' : Hp) (h : Led H' (FiC cI b dx d es (PdC pd es' ((hd, .lst (hlV (ws ++ [⟨wt, to, cp, zs⟩]))) :: (R0 ++ ([(wt, .tup [.ref to, .ref cp]), (cp, .lst (zs.map V.str)), (to, .lst (zs.map V.str))] ++ M)))))) => k _ _ H' hw2 hwl2 h
    replace g := g.mono sub
    generalize ([(wt, HO.tup [.ref to, .ref cp]), (cp, .lst (zs.map V.str)), (to, .lst (zs.map V.str))] ++ M) = M2 at hl10 k g
    generalize (ws ++ [(⟨wt, to, cp, zs⟩ : Hl)]) = ws2 at hl10 k
    walk_at "ge"
    refine K1.use ?_
    walk_at "cl"
    clear K1 hl9 hl8 hl7 hl4 c_to c_hd sub hw2 hwl2
    refine seqK fun M1 K1 => ?_
    have c_p := hl10.get (upF (R := PdC pd es' ((hd, .lst (hlV ws2)) :: (R0 ++ M2))) List.mem_cons_self)
    walk_at "ge"
    refine dinS c_p ?_
    rw [val_in]
    by_cases hz : z ∈ es'.map (·.1)
    · rw [decide_eq_true hz]
      obtain ⟨e', he', rfl⟩ := List.mem_map.mp hz
      have hkv := kvF_some g.nd' he'
      have c_e := hl10.get (upF (R := PdC pd es' ((hd, .lst (hlV ws2)) :: (R0 ++ M2))) (List.mem_cons_of_mem _ (List.mem_append_left _ (filC_mem he'))))
      have hn1 := g.ne e' he'
      have hrl := rfs_len e'.2.2
      obtain ⟨e, he, hez⟩ := List.mem_map.mp (show e'.1 ∈ es.map (·.1) by rw [g.keys]; exact hz)
      obtain ⟨as, bs, hab, _⟩ := splitF g.nd he
      obtain ⟨as', bs', e2, hab', hz2, hrs⟩ := twin g hab
      have he2 : e2 = e' := by
        have h1 := findF g.nd' (e := e2) (by rw [hab']; exact List.mem_append_right _ List.mem_cons_self)
        have h2 := findF g.nd' he'
        rw [hz2, hez] at h1
        exact Option.some.inj (h1.symm.trans h2)
      subst he2
      have eq_of : ∀ {x : FEnt}, x ∈ es → x.1 = e2.1 → x = e := fun hx hxz => by
        have h1 := findF g.nd hx
        have h2 := findF g.nd he
        rw [hxz, ← hez] at h1
        exact Option.some.inj (h1.symm.trans h2)
      have hll : e2.2.2.length = e.2.2.length := by have := congrArg List.length hrs; rw [List.length_map, List.length_map] at this; exact this
      obtain ⟨j, hjp⟩ : ∃ j : Nat, c / 9 % ((rfs e2.2.2).length : Int) = ((j : Nat) : Int) := ⟨_, (Int.toNat_of_nonneg (Int.emod_nonneg _ (by omega))).symm⟩
      have hjl : j < e2.2.2.length := by have := Int.emod_lt_of_pos (c / 9) (show 0 < ((rfs e2.2.2).length : Int) by omega); omega
      have hj' := List.getElem?_eq_getElem hjl
      generalize e2.2.2[j] = r' at hj'
      have ha' : atI (rfs e2.2.2) (c / 9 % ((rfs e2.2.2).length : Int)) = some (.ref r'.1) := by
        rw [hjp]
        exact atI_of (by omega) (by unfold rfs; rw [Int.toNat_natCast, List.getElem?_map, hj']; rfl)
      have rr : ∀ {r : Addr × List Int}, e.2.2[j]? = some r → r.2 = r'.2 := fun h => by
        have h1 := congrArg (fun l => l[j]?) hrs
        simp only [List.getElem?_map, h, hj'] at h1
        exact (Option.some.inj h1).symm
      have c_b : H9 b = some (.ins cI dx (fiFld d)) := hl10.get List.mem_cons_self
      walk_at "ge"
      refine dgetS c_p hkv ?_
      walk_at "ge"
      · refine ⟨b, dx, d, es, e2.1, rfl, FH.of hl10 g.nd, fun x hx hxz => ?_, fun hz3 => absurd (by rw [g.keys]; exact hz) hz3⟩
        rw [eq_of hx hxz]
        walk_at "ge"
        refine dgetS c_p hkv ?_
        walk_at "ge"
        refine ⟨_, _, rfl, .inl (.inr (.inr (.inl ⟨_, by rw [hrl, hll], rfl⟩))), ?_⟩
        walk_at "ge"
        refine ⟨b, dx, d, es, e2.1, _, _, rfl, hl10, FH.of hl10 g.nd, (fun e2 he2 r hr => ⟨hl10.get (upF (upP (List.mem_cons_of_mem _ (List.mem_append_right _ (g.r1 e2 he2 r hr).1)))), by rw [(g.r1 e2 he2 r hr).2]; decide⟩), fun x2 hx2 hz2 j2 r hp2 hj2 q H12 hl12 => ?_, fun x2 hx2 hz2 hp2 => ?_, fun hz2 => absurd (by rw [g.keys]; exact hz) hz2⟩
        · have ee : x2 = e := eq_of hx2 hz2
          rw [ee] at hj2
          obtain rfl : j2 = j := by omega
          have hrr : r.2 = r'.2 := rr hj2
          have c_p2 := hl12.get (List.mem_cons_of_mem _ (upF (R := PdC pd es' ((hd, .lst (hlV ws2)) :: (R0 ++ M2))) List.mem_cons_self))
          have c_e2 := hl12.get (List.mem_cons_of_mem _ (upF (R := PdC pd es' ((hd, .lst (hlV ws2)) :: (R0 ++ M2))) (List.mem_cons_of_mem _ (List.mem_append_left _ (filC_mem he')))))
          walk_at "ge"
          refine dgetS c_p2 hkv ?_
          walk_at "ge"
          refine ⟨_, _, rfl, alike_ints2 (row := r'.2) (by rw [← hrr]; exact hl12.get List.mem_cons_self) (hl12.get (List.mem_cons_of_mem _ (upF (upP (List.mem_cons_of_mem _ (List.mem_append_right _ (g.r2 _ he' r' (List.mem_of_getElem? hj')).1)))))) (by rw [(g.r2 _ he' r' (List.mem_of_getElem? hj')).2]; decide), ?_⟩
          walk_at "ge"
          exact k _ hl12.tail
        · have ee : x2 = e := eq_of hx2 hz2
          rw [ee] at hp2
          exact absurd ⟨by omega, by omega⟩ hp2
      · refine ⟨b, dx, d, es, e2.1, _, _, rfl, hl10, FH.of hl10 g.nd, (fun e2 he2 r hr => ⟨hl10.get (upF (upP (List.mem_cons_of_mem _ (List.mem_append_right _ (g.r1 e2 he2 r hr).1)))), by rw [(g.r1 e2 he2 r hr).2]; decide⟩), fun x2 hx2 hz2 j2 r hp2 hj2 q H12 hl12 => ?_, fun x2 hx2 hz2 hp2 => ?_, fun hz2 => absurd (by rw [g.keys]; exact hz) hz2⟩
        · have ee : x2 = e := eq_of hx2 hz2
          rw [ee] at hj2
          obtain rfl : j2 = j := by omega
          have hrr : r.2 = r'.2 := rr hj2
          have c_p2 := hl12.get (List.mem_cons_of_mem _ (upF (R := PdC pd es' ((hd, .lst (hlV ws2)) :: (R0 ++ M2))) List.mem_cons_self))
          have c_e2 := hl12.get (List.mem_cons_of_mem _ (upF (R := PdC pd es' ((hd, .lst (hlV ws2)) :: (R0 ++ M2))) (List.mem_cons_of_mem _ (List.mem_append_left _ (filC_mem he')))))
          walk_at "ge"
          refine dgetS c_p2 hkv ?_
          walk_at "ge"
          refine ⟨_, _, rfl, alike_ints2 (row := r'.2) (by rw [← hrr]; exact hl12.get List.mem_cons_self) (hl12.get (List.mem_cons_of_mem _ (upF (upP (List.mem_cons_of_mem _ (List.mem_append_right _ (g.r2 _ he' r' (List.mem_of_getElem? hj')).1)))))) (by rw [(g.r2 _ he' r' (List.mem_of_getElem? hj')).2]; decide), ?_⟩
          walk_at "ge"
          exact k _ hl12.tail
        · have ee : x2 = e := eq_of hx2 hz2
          rw [ee] at hp2
          exact absurd ⟨by omega, by omega⟩ hp2
    · rw [decide_eq_false hz]
      walk_at "ge"
      refine K1.use ?_
      walk_at "ge"
      exact k _ hl10
end

section
variable {P : Program} {w : World} {K : PySem.W.Frag} {mg : Str → Option Value} {base : Heap} {cP cA cB cC c1 c2 c3 c4 c5 c6 cI : Addr}
structure One where
  b : Addr
  dx : Addr
  d : Addr
  pd : Addr
  es : FEnts
  es' : FEnts
structure OkO (o : One) (n : Nat) (M : Cells) : Prop where
  g : Good o.es o.es' M
  n : o.es.length ≤ n
  z : ∀ e ∈ o.es, OkZ e.1
theorem OkO.mono {o : One} {n m : Nat} {M M' : Cells} (h : OkO o n M) (hm : n ≤ m) (s : ∀ c ∈ M, c ∈ M') : OkO o m M' := ⟨h.g.mono s, Nat.le_trans h.n hm, h.z⟩
abbrev OC (cI : Addr) (o : One) (R : Cells) : Cells := FiC cI o.b o.dx o.d o.es (PdC o.pd o.es' R)
 local macro_rules | `(tactic| walk_at "spo") => `(tactic| (simp only [OC, FiC, PdC, List.append_assoc, List.cons_append, List.nil_append]; walk_at "sp"))
theorem upO {cI : Addr} {o : One} {R : Cells} {c : Addr × HO} (h : c ∈ R) : c ∈ OC cI o R := List.mem_cons_of_mem _ (List.mem_cons_of_mem _ (List.mem_append_right _ (List.mem_cons_of_mem _ (List.mem_append_right _ h))))
theorem sel (A B : One) {j : Int} (h0 : 0 ≤ j) (h1 : j ≤ 1) : ∃ X Y : One, (j = 0 ∧ X = A ∧ Y = B) ∨ (j = 1 ∧ X = B ∧ Y = A) := by
  rcases (by omega : j = 0 ∨ j = 1) with h | h
  · exact ⟨A, B, .inl ⟨h, rfl, rfl⟩⟩
  · exact ⟨B, A, .inr ⟨h, rfl, rfl⟩⟩
section
variable {A B X Y : One} {j : Int} {n : Nat} {M R : Cells} {H : Hp}
theorem sel_b (s : (j = 0 ∧ X = A ∧ Y = B) ∨ (j = 1 ∧ X = B ∧ Y = A)) : atI [V.ref A.b, .ref B.b] j = some (.ref X.b) := by
  rcases s with ⟨rfl, rfl, rfl⟩ | ⟨rfl, rfl, rfl⟩
  · exact atI_0
  · exact atI_1
theorem sel_p (s : (j = 0 ∧ X = A ∧ Y = B) ∨ (j = 1 ∧ X = B ∧ Y = A)) : atI [V.ref A.pd, .ref B.pd] j = some (.ref X.pd) := by
  rcases s with ⟨rfl, rfl, rfl⟩ | ⟨rfl, rfl, rfl⟩
  · exact atI_0
  · exact atI_1
theorem sel_o (s : (j = 0 ∧ X = A ∧ Y = B) ∨ (j = 1 ∧ X = B ∧ Y = A)) (a : OkO A n M) (b : OkO B n M) : OkO X n M ∧ OkO Y n M := by
  rcases s with ⟨_, rfl, rfl⟩ | ⟨_, rfl, rfl⟩
  · exact ⟨a, b⟩
  · exact ⟨b, a⟩
theorem sel_l (s : (j = 0 ∧ X = A ∧ Y = B) ∨ (j = 1 ∧ X = B ∧ Y = A)) (h : Led H (OC cI A (OC cI B R))) : Led H (OC cI X (OC cI Y R)) := by
  rcases s with ⟨_, rfl, rfl⟩ | ⟨_, rfl, rfl⟩
  · exact h
  · exact h.wk (by walk_at "spo")
theorem sel_k (s : (j = 0 ∧ X = A ∧ Y = B) ∨ (j = 1 ∧ X = B ∧ Y = A)) (h : Led H (OC cI X (OC cI Y R))) : Led H (OC cI A (OC cI B R)) := by
  rcases s with ⟨_, rfl, rfl⟩ | ⟨_, rfl, rfl⟩
  · exact h
  · exact h.wk (by walk_at "spo")
theorem sel_back (s : (j = 0 ∧ X = A ∧ Y = B) ∨ (j = 1 ∧ X = B ∧ Y = A)) {X' : One} (hb : X'.b = X.b) (hp : X'.pd = X.pd) (hx : OkO X' n M) (hy : OkO Y n M) (h : Led H (OC cI X' (OC cI Y R))) : ∃ A' B' : One, A'.b = A.b ∧ B'.b = B.b ∧ A'.pd = A.pd ∧ B'.pd = B.pd ∧ OkO A' n M ∧ OkO B' n M ∧ Led H (OC cI A' (OC cI B' R)) := by
  rcases s with ⟨_, rfl, rfl⟩ | ⟨_, rfl, rfl⟩
  · exact ⟨X', Y, hb, rfl, hp, rfl, hx, hy, h⟩
  · exact ⟨Y, X', rfl, hb, rfl, hp, hy, hx, h.wk (by walk_at "spo")⟩
end
theorem good_new {M : Cells} : Good [] [] M := ⟨List.nodup_nil, rfl, fun e he => (nomatch he), fun e he => (nomatch he), fun e he => (nomatch he)⟩
theorem strs_dat {H : Hp} {p : Addr} {zs : List Str} (h : H p = some (.lst (zs.map V.str))) : DatV H (.ref p) (PySem.W.kqdP (.list (zs.map fun z => .str z))) := by
  rw [PySem.W.kqdP]
  refine .lst h ?_
  clear h
  induction zs with
  | nil => exact .nil
  | cons z zs ih =>
    rw [List.map_cons, List.map_cons, PySem.W.kqdPs, PySem.W.kqdP]
    exact .cons (.str z) ih
theorem strs_ok {zs : List Str} (h : ∀ z ∈ zs, OkZ z) : PySem.W.kqdOk 8 (.list (zs.map fun z => .str z)) = true := by
  rw [PySem.W.kqdOk, List.all_eq_true]
  intro e he
  obtain ⟨z, hz, rfl⟩ := List.mem_map.mp he
  exact h z hz
theorem namesOf {acc : List V} (h : ∀ (i : Nat) v, acc[i]? = some v → ∃ z, v = V.str z ∧ OkZ z) : ∃ zs : List Str, acc = zs.map V.str ∧ ∀ z ∈ zs, OkZ z := by
  induction acc with
  | nil => exact ⟨[], rfl, fun z hz => nomatch hz⟩
  | cons v acc ih =>
    obtain ⟨z, rfl, hz⟩ := h 0 v rfl
    obtain ⟨zs, rfl, hzs⟩ := ih fun i u hu => h (i + 1) u hu
    exact ⟨z :: zs, rfl, fun y hy => (List.mem_cons.mp hy).elim (fun e => e ▸ hz) (hzs y)⟩
theorem ok_law {f : Addr} {fd : FuncData} (F : Fun K "law" "law" s_law f fd) (B : Blt mg) (T : Txt K mg cP cA cB cC c1 c2 c3 c4 c5 c6 cI) (I_Files : InitD P w K mg base 1 cI ["self"] (spIInit cI)) (M_Files_row_at : MethD P w K mg base 4 cI "row_at" ["self", "name", "page"] (spRowAt cI cA cB)) (G__law_cell_at : FnD P w K mg base 1 "_law_cell_at" ["_law_script", "_law_k"] (spCellAt K)) (G__law_alike : FnD P w K mg base 4 "_law_alike" ["_law_found", "_law_due_here"] (spAlike 2)) (G__law_name : FnD P w K mg base 1 "_law_name" ["_law_cell", "_law_turn"] spName) (G__law_deed : FnD P w K mg base 6 "_law_deed" ["_law_files", "_law_plain", "_law_name_here", "_law_cell"] (spDeed cI)) (G__law_is_files : FnD P w K mg base 5 "_law_is_files" ["_law_files", "_law_plain", "_law_name_here", "_law_cell", "_law_held"] (spIsFiles cI)) : FnOk P w K mg base (CXR P w) 7 f fd ["_law_script"] (spLawB K) := by
  have sc := sc_law
  refine F.okN sc (fun vs H Q E h => ?_) (fun cdv A outer s H vs Q E hr h => ?_)
  · obtain ⟨a, ns, rfl, _⟩ := h; rfl
  · obtain ⟨a, ns, rfl, hS, hlen, hbits, hO, k⟩ := h
    have hu := unit1 hr
    refine ⟨_, (@pss_cons _ _ _ _ _ (@ps_setComp _ _ "_law_turn" _ _ _ _ _ _ _ _ _ _ 1 _ _ rfl rfl rfl rfl noH (compSc_of (by kernel_rfl)) (@pi_range1 _ _ _ _ _ _ (by rfl) B.range (@pa_cons _ _ _ _ _ (@pe_int _ _ _ _) (@pa_nil _) (by rfl)) (by rfl)) (fun _ _ _ _ => (@pts_nil _)) (fun _ _ _ _ => (@pe_callD _ _ _ _ _ _ _ _ _ _ _ G__law_name (hr.mono (by omega)) (by rfl) passR0 (@pa_cons _ _ _ _ _ (@pe_callD _ _ _ _ _ _ _ _ _ _ _ G__law_cell_at (hr.mono (by omega)) (by rfl) passR0 (@pa_cons _ _ _ _ _ (@pk _ 1 _ _ (by kernel_rfl) (by kernel_rfl) (by decide) (by decide)) (@pa_cons _ _ _ _ _ (@pe_int _ _ _ _) (@pa_nil _) (by rfl)) (by rfl)) (by decide) (by rfl) (by rfl)) (@pa_cons _ _ _ _ _ (@pk _ 0 _ _ (by kernel_rfl) (by kernel_rfl) (by decide) (by decide)) (@pa_nil _) (by rfl)) (by rfl)) (by decide) (by rfl) (by rfl))) sc.nd rfl (by first | exact Or.inl rfl | exact Or.inr rfl) (by intro _; rfl) (by rfl) (by first | exact .inl rfl | exact .inr rfl | assumption)) (@pss_cons _ _ _ _ _ (@ps_set _ _ 2 _ _ _ _ sc.nd rfl (by first | exact Or.inl rfl | exact Or.inr rfl) (@pe_lst _ _ _ _ (@pa_cons _ _ _ _ _ (@pe_makeD0 _ _ _ _ _ _ _ _ _ T.Files I_Files (hr.mono (by omega)) (by rfl) passR0 (by decide)) (@pa_cons _ _ _ _ _ (@pe_makeD0 _ _ _ _ _ _ _ _ _ T.Files I_Files (hr.mono (by omega)) (by rfl) passR0 (by decide)) (@pa_nil _) (by rfl)) (by rfl))) (by rfl) (by first | exact .inl rfl | exact .inr rfl | assumption)) (@pss_cons _ _ _ _ _ (@ps_set _ _ 3 _ _ _ _ sc.nd rfl (by first | exact Or.inl rfl | exact Or.inr rfl) (@pe_lst _ _ _ _ (@pa_cons _ _ _ _ _ (@pe_dnewK _ _) (@pa_cons _ _ _ _ _ (@pe_dnewK _ _) (@pa_nil _) (by rfl)) (by rfl))) (by rfl) (by first | exact .inl rfl | exact .inr rfl | assumption)) (@pss_cons _ _ _ _ _ (@ps_set _ _ 4 _ _ _ _ sc.nd rfl (by first | exact Or.inl rfl | exact Or.inr rfl) (@pe_lst _ _ _ _ (@pa_nil _)) (by rfl) (by first | exact .inl rfl | exact .inr rfl | assumption)) (@pss_cons _ _ _ _ _ (@ps_for _ _ _ _ _ _ _ _ PassesOwn.never rfl (@pi_list _ _ _ _ (@pe_slice _ _ _ _ _ _ _ _ _ _ (sl_listK (K := K) rfl) (@pv _ 0 _ _ (by rfl) (by first | exact Or.inl rfl | exact Or.inr (Or.inl rfl) | exact Or.inr (Or.inr rfl)) (by decide) (by decide)) (@po_some _ _ _ (@pe_int _ _ _ _)) (@po_some _ _ _ (@pe_int _ _ _ _)))) (@pg_name _ _ 5 _ sc.nd rfl (by first | exact Or.inl rfl | exact Or.inr rfl) (by first | exact .inl rfl | exact .inr rfl | assumption)) (@pss_cons _ _ _ _ _ (@ps_set _ _ 6 _ _ _ _ sc.nd rfl (by first | exact Or.inl rfl | exact Or.inr rfl) (@pe_op _ _ _ _ _ _ _ _ op_mod (@pe_op _ _ _ _ _ _ _ _ op_mod (@pe_op _ _ _ _ _ _ _ _ op_mulB (@pe_op _ _ _ _ _ _ _ _ op_add (@pv _ 5 _ _ (by rfl) (by first | exact Or.inl rfl | exact Or.inr (Or.inl rfl) | exact Or.inr (Or.inr rfl)) (by decide) (by decide)) (@pe_callD _ _ _ _ _ _ _ _ _ _ _ G__law_cell_at (hr.mono (by omega)) (by rfl) passR0 (@pa_cons _ _ _ _ _ (@pv _ 0 _ _ (by rfl) (by first | exact Or.inl rfl | exact Or.inr (Or.inl rfl) | exact Or.inr (Or.inr rfl)) (by decide) (by decide)) (@pa_cons _ _ _ _ _ (@pe_int _ _ _ _) (@pa_nil _) (by rfl)) (by rfl)) (by decide) (by rfl) (by rfl))) (@pe_int _ _ _ _)) (@pe_int _ _ _ _)) (@pe_int _ _ _ _)) (by rfl) (by first | exact .inl rfl | exact .inr rfl | assumption)) (@pss_cons _ _ _ _ _ (@ps_set _ _ 7 _ _ _ _ sc.nd rfl (by first | exact Or.inl rfl | exact Or.inr rfl) (@pe_ix _ _ _ _ _ _ _ ix_any (@pv _ 1 _ _ (by rfl) (by first | exact Or.inl rfl | exact Or.inr (Or.inl rfl) | exact Or.inr (Or.inr rfl)) (by decide) (by decide)) (@pe_op _ _ _ _ _ _ _ _ op_mod (@pe_op _ _ _ _ _ _ _ _ op_mod (@pe_op _ _ _ _ _ _ _ _ op_mulB (@pe_op _ _ _ _ _ _ _ _ op_add (@pv _ 5 _ _ (by rfl) (by first | exact Or.inl rfl | exact Or.inr (Or.inl rfl) | exact Or.inr (Or.inr rfl)) (by decide) (by decide)) (@pe_callD _ _ _ _ _ _ _ _ _ _ _ G__law_cell_at (hr.mono (by omega)) (by rfl) passR0 (@pa_cons _ _ _ _ _ (@pv _ 0 _ _ (by rfl) (by first | exact Or.inl rfl | exact Or.inr (Or.inl rfl) | exact Or.inr (Or.inr rfl)) (by decide) (by decide)) (@pa_cons _ _ _ _ _ (@pe_int _ _ _ _) (@pa_nil _) (by rfl)) (by rfl)) (by decide) (by rfl) (by rfl))) (@pe_int _ _ _ _)) (@pe_int _ _ _ _)) (@pe_int _ _ _ _)) (fun _ _ => rfl)) (by rfl) (by first | exact .inl rfl | exact .inr rfl | assumption)) (@pss_cons _ _ _ _ _ (@ps_if _ _ _ _ _ _ _ _ (@pt_not _ _ _ _ (@pt_val _ _ _ (@pe_callD _ _ _ _ _ _ _ _ _ _ _ G__law_deed (hr.mono (by omega)) (by rfl) passR0 (@pa_cons _ _ _ _ _ (@pe_ix _ _ _ _ _ _ _ ix_any (@pv _ 2 _ _ (by rfl) (by first | exact Or.inl rfl | exact Or.inr (Or.inl rfl) | exact Or.inr (Or.inr rfl)) (by decide) (by decide)) (@pv _ 6 _ _ (by rfl) (by first | exact Or.inl rfl | exact Or.inr (Or.inl rfl) | exact Or.inr (Or.inr rfl)) (by decide) (by decide)) (fun _ _ => rfl)) (@pa_cons _ _ _ _ _ (@pe_ix _ _ _ _ _ _ _ ix_any (@pv _ 3 _ _ (by rfl) (by first | exact Or.inl rfl | exact Or.inr (Or.inl rfl) | exact Or.inr (Or.inr rfl)) (by decide) (by decide)) (@pv _ 6 _ _ (by rfl) (by first | exact Or.inl rfl | exact Or.inr (Or.inl rfl) | exact Or.inr (Or.inr rfl)) (by decide) (by decide)) (fun _ _ => rfl)) (@pa_cons _ _ _ _ _ (@pv _ 7 _ _ (by rfl) (by first | exact Or.inl rfl | exact Or.inr (Or.inl rfl) | exact Or.inr (Or.inr rfl)) (by decide) (by decide)) (@pa_cons _ _ _ _ _ (@pv _ 5 _ _ (by rfl) (by first | exact Or.inl rfl | exact Or.inr (Or.inl rfl) | exact Or.inr (Or.inr rfl)) (by decide) (by decide)) (@pa_nil _) (by rfl)) (by rfl)) (by rfl)) (by rfl)) (by decide) (by rfl) (by rfl)) (by intro _; rfl))) (@pss_one _ _ _ (@ps_ret _ _ _ _ (@pe_bl _ _ _ _))) (@pss_nil _)) (@pss_one _ _ _ (@ps_for _ _ _ _ _ _ _ _ PassesOwn.never rfl (@pi_range1 _ _ _ _ _ _ (by rfl) B.range (@pa_cons _ _ _ _ _ (@pe_int _ _ _ _) (@pa_nil _) (by rfl)) (by rfl)) (@pg_name _ _ 8 _ sc.nd rfl (by first | exact Or.inl rfl | exact Or.inr rfl) (by first | exact .inl rfl | exact .inr rfl | assumption)) (@pss_cons _ _ _ _ _ (@ps_set _ _ 9 _ _ _ _ sc.nd rfl (by first | exact Or.inl rfl | exact Or.inr rfl) (@pe_op _ _ _ _ _ _ _ _ op_mod (@pe_op _ _ _ _ _ _ _ _ op_add (@pv _ 8 _ _ (by rfl) (by first | exact Or.inl rfl | exact Or.inr (Or.inl rfl) | exact Or.inr (Or.inr rfl)) (by decide) (by decide)) (@pe_op _ _ _ _ _ _ _ _ op_fdiv (@pv _ 5 _ _ (by rfl) (by first | exact Or.inl rfl | exact Or.inr (Or.inl rfl) | exact Or.inr (Or.inr rfl)) (by decide) (by decide)) (@pe_int _ _ _ _))) (@pe_int _ _ _ _)) (by rfl) (by first | exact .inl rfl | exact .inr rfl | assumption)) (@pss_one _ _ _ (@ps_if _ _ _ _ _ _ _ _ (@pt_not _ _ _ _ (@pt_val _ _ _ (@pe_callD _ _ _ _ _ _ _ _ _ _ _ G__law_is_files (hr.mono (by omega)) (by rfl) passR0 (@pa_cons _ _ _ _ _ (@pe_ix _ _ _ _ _ _ _ ix_any (@pv _ 2 _ _ (by rfl) (by first | exact Or.inl rfl | exact Or.inr (Or.inl rfl) | exact Or.inr (Or.inr rfl)) (by decide) (by decide)) (@pv _ 9 _ _ (by rfl) (by first | exact Or.inl rfl | exact Or.inr (Or.inl rfl) | exact Or.inr (Or.inr rfl)) (by decide) (by decide)) (fun _ _ => rfl)) (@pa_cons _ _ _ _ _ (@pe_ix _ _ _ _ _ _ _ ix_any (@pv _ 3 _ _ (by rfl) (by first | exact Or.inl rfl | exact Or.inr (Or.inl rfl) | exact Or.inr (Or.inr rfl)) (by decide) (by decide)) (@pv _ 9 _ _ (by rfl) (by first | exact Or.inl rfl | exact Or.inr (Or.inl rfl) | exact Or.inr (Or.inr rfl)) (by decide) (by decide)) (fun _ _ => rfl)) (@pa_cons _ _ _ _ _ (@pv _ 7 _ _ (by rfl) (by first | exact Or.inl rfl | exact Or.inr (Or.inl rfl) | exact Or.inr (Or.inr rfl)) (by decide) (by decide)) (@pa_cons _ _ _ _ _ (@pv _ 5 _ _ (by rfl) (by first | exact Or.inl rfl | exact Or.inr (Or.inl rfl) | exact Or.inr (Or.inr rfl)) (by decide) (by decide)) (@pa_cons _ _ _ _ _ (@pv _ 4 _ _ (by rfl) (by first | exact Or.inl rfl | exact Or.inr (Or.inl rfl) | exact Or.inr (Or.inr rfl)) (by decide) (by decide)) (@pa_nil _) (by rfl)) (by rfl)) (by rfl)) (by rfl)) (by rfl)) (by decide) (by rfl) (by rfl)) (by intro _; rfl))) (@pss_one _ _ _ (@ps_ret _ _ _ _ (@pe_bl _ _ _ _))) (@pss_nil _)))) (by intro _; rfl)))))) (by intro _; rfl)) (@pss_cons _ _ _ _ _ (@ps_for _ _ _ _ _ _ _ _ PassesOwn.never rfl (@pi_range1 _ _ _ _ _ _ (by rfl) B.range (@pa_cons _ _ _ _ _ (@pe_int _ _ _ _) (@pa_nil _) (by rfl)) (by rfl)) (@pg_name _ _ 8 _ sc.nd rfl (by first | exact Or.inl rfl | exact Or.inr rfl) (by first | exact .inl rfl | exact .inr rfl | assumption)) (@pss_one _ _ _ (@ps_for _ _ _ _ _ _ _ _ PassesOwn.never rfl (@pi_list _ _ _ _ (@pe_callTy _ _ _ _ _ _ _ _ _ (call_listDS rfl) (by rfl) B.list bt_list (@pa_cons _ _ _ _ _ (@pe_ix _ _ _ _ _ _ _ ix_any (@pv _ 3 _ _ (by rfl) (by first | exact Or.inl rfl | exact Or.inr (Or.inl rfl) | exact Or.inr (Or.inr rfl)) (by decide) (by decide)) (@pv _ 8 _ _ (by rfl) (by first | exact Or.inl rfl | exact Or.inr (Or.inl rfl) | exact Or.inr (Or.inr rfl)) (by decide) (by decide)) (fun _ _ => rfl)) (@pa_nil _) (by rfl)) (by decide) (by decide) (by rfl) (by rfl))) (@pg_name _ _ 7 _ sc.nd rfl (by first | exact Or.inl rfl | exact Or.inr rfl) (by first | exact .inl rfl | exact .inr rfl | assumption)) (@pss_one _ _ _ (@ps_for _ _ _ _ _ _ _ _ PassesOwn.never rfl (@pi_range1 _ _ _ _ _ _ (by rfl) B.range (@pa_cons _ _ _ _ _ (@pe_callB _ _ _ _ _ _ _ _ _ call_lenA (by rfl) B.len bt_len (@pa_cons _ _ _ _ _ (@pe_dget _ _ _ _ _ _ hu (@pe_ix _ _ _ _ _ _ _ ix_any (@pv _ 3 _ _ (by rfl) (by first | exact Or.inl rfl | exact Or.inr (Or.inl rfl) | exact Or.inr (Or.inr rfl)) (by decide) (by decide)) (@pv _ 8 _ _ (by rfl) (by first | exact Or.inl rfl | exact Or.inr (Or.inl rfl) | exact Or.inr (Or.inr rfl)) (by decide) (by decide)) (fun _ _ => rfl)) (@pv _ 7 _ _ (by rfl) (by first | exact Or.inl rfl | exact Or.inr (Or.inl rfl) | exact Or.inr (Or.inr rfl)) (by decide) (by decide)) (fun _ _ => rfl)) (@pa_nil _) (by rfl)) (by decide) (by decide) (by rfl) (by rfl)) (@pa_nil _) (by rfl)) (by rfl)) (@pg_name _ _ 10 _ sc.nd rfl (by first | exact Or.inl rfl | exact Or.inr rfl) (by first | exact .inl rfl | exact .inr rfl | assumption)) (@pss_one _ _ _ (@ps_if _ _ _ _ _ _ _ _ (@pt_not _ _ _ _ (@pt_val _ _ _ (@pe_callD _ _ _ _ _ _ _ _ _ _ _ G__law_alike (hr.mono (by omega)) (by rfl) passR0 (@pa_cons _ _ _ _ _ (@pe_methD _ _ _ _ _ _ _ _ _ _ _ _ _ _ _ _ T.Files M_Files_row_at (hr.mono (by omega)) passR0 (@pe_ix _ _ _ _ _ _ _ ix_any (@pv _ 2 _ _ (by rfl) (by first | exact Or.inl rfl | exact Or.inr (Or.inl rfl) | exact Or.inr (Or.inr rfl)) (by decide) (by decide)) (@pv _ 8 _ _ (by rfl) (by first | exact Or.inl rfl | exact Or.inr (Or.inl rfl) | exact Or.inr (Or.inr rfl)) (by decide) (by decide)) (fun _ _ => rfl)) (@pa_cons _ _ _ _ _ (@pv _ 7 _ _ (by rfl) (by first | exact Or.inl rfl | exact Or.inr (Or.inl rfl) | exact Or.inr (Or.inr rfl)) (by decide) (by decide)) (@pa_cons _ _ _ _ _ (@pv _ 10 _ _ (by rfl) (by first | exact Or.inl rfl | exact Or.inr (Or.inl rfl) | exact Or.inr (Or.inr rfl)) (by decide) (by decide)) (@pa_nil _) (by rfl)) (by rfl)) (by rfl) (by rfl) (by rfl)) (@pa_cons _ _ _ _ _ (@pe_ix _ _ _ _ _ _ _ ix_any (@pe_dget _ _ _ _ _ _ hu (@pe_ix _ _ _ _ _ _ _ ix_any (@pv _ 3 _ _ (by rfl) (by first | exact Or.inl rfl | exact Or.inr (Or.inl rfl) | exact Or.inr (Or.inr rfl)) (by decide) (by decide)) (@pv _ 8 _ _ (by rfl) (by first | exact Or.inl rfl | exact Or.inr (Or.inl rfl) | exact Or.inr (Or.inr rfl)) (by decide) (by decide)) (fun _ _ => rfl)) (@pv _ 7 _ _ (by rfl) (by first | exact Or.inl rfl | exact Or.inr (Or.inl rfl) | exact Or.inr (Or.inr rfl)) (by decide) (by decide)) (fun _ _ => rfl)) (@pv _ 10 _ _ (by rfl) (by first | exact Or.inl rfl | exact Or.inr (Or.inl rfl) | exact Or.inr (Or.inr rfl)) (by decide) (by decide)) (fun _ _ => rfl)) (@pa_nil _) (by rfl)) (by rfl)) (by decide) (by rfl) (by rfl)) (by intro _; rfl))) (@pss_one _ _ _ (@ps_ret _ _ _ _ (@pe_bl _ _ _ _))) (@pss_nil _))) (by intro _; rfl))) (by intro _; rfl))) (by intro _; rfl)) (@pss_cons _ _ _ _ _ (@ps_for _ _ _ _ _ _ _ _ PassesOwn.never rfl (@pi_list _ _ _ _ (@pv _ 4 _ _ (by rfl) (by first | exact Or.inl rfl | exact Or.inr (Or.inl rfl) | exact Or.inr (Or.inr rfl)) (by decide) (by decide))) (@pg_tup _ _ _ _ _ _ rfl (@pgs_cons _ _ _ _ _ (@pg_name _ _ 11 _ sc.nd rfl (by first | exact Or.inl rfl | exact Or.inr rfl) (by first | exact .inl rfl | exact .inr rfl | assumption)) (@pgs_cons _ _ _ _ _ (@pg_name _ _ 12 _ sc.nd rfl (by first | exact Or.inl rfl | exact Or.inr rfl) (by first | exact .inl rfl | exact .inr rfl | assumption)) (@pgs_nil _) (by rfl)) (by rfl)) (by rfl) (by rfl)) (@pss_one _ _ _ (@ps_if _ _ _ _ _ _ _ _ (@pt_cmpR _ _ _ _ _ _ _ _ (op_neD hr.units) (@pv _ 11 _ _ (by rfl) (by first | exact Or.inl rfl | exact Or.inr (Or.inl rfl) | exact Or.inr (Or.inr rfl)) (by decide) (by decide)) (@pv _ 12 _ _ (by rfl) (by first | exact Or.inl rfl | exact Or.inr (Or.inl rfl) | exact Or.inr (Or.inr rfl)) (by decide) (by decide)) (nomark _)) (@pss_one _ _ _ (@ps_ret _ _ _ _ (@pe_bl _ _ _ _))) (@pss_nil _))) (by intro _; rfl)) (@pss_one _ _ _ (@ps_ret _ _ _ _ (@pe_bl _ _ _ _)))))))))), ?_⟩
    obtain ⟨L, hL, hs⟩ := scr_start hS hO
    clear hO
    refine seqK fun M1 K1 => ?_
    walk_at "ge"
    refine compR1 fun Lc hLc => ?_
    walk_at "ge"
    refine ⟨_, rfl, by omega, by omega, hLc.use ?_⟩
    clear hLc
    refine compRangeL (fun _ v => ∃ z, v = V.str z ∧ OkZ z) hL (by decide) (fun i H2 R q hi hl2 hR => ?_) (fun nm acc H2 hnl hacc hl2 => ?_)
    · have hi5 : i < 5 := hi
      walk_at "ge"
      refine ⟨a, ns, 0, rfl, by decide, hs.seq hl2.tail, ?_⟩
      walk_at "ge"
      refine ⟨_, _, rfl, ⟨by omega, by omega⟩, ?_⟩
      walk_at "ge"
      exact hR _ _ ⟨_, rfl, nameF_ok _ _⟩ hl2
    obtain ⟨zs, rfl, hzs⟩ := namesOf hacc
    rw [List.length_map] at hnl
    replace hnl : zs.length = 5 := hnl
    walk_at "ge"
    refine K1.use ?_
    walk_at "cl"
    clear K1 hacc
    refine seqK fun M1 K1 => ?_
    walk_at "ge"
    intro b0 dx0 z1 z2 z3
    refine ⟨b0, dx0, _, rfl, hl2.make z1 z2 z3, fun d0 H3 hl3 => ⟨rfl, ?_⟩⟩
    clear z1 z2 z3 hl2
    walk_at "ge"
    intro b1 dx1 z1 z2 z3
    refine ⟨b1, dx1, _, rfl, hl3.make z1 z2 z3, fun d1 H4 hl4 => ⟨rfl, ?_⟩⟩
    clear z1 z2 z3 hl3
    walk_at "ge"
    rename_i bo H5 _ hl5 _
    refine K1.use ?_
    walk_at "cl"
    clear K1 hl4 hL
    refine seqK fun M1 K1 => ?_
    walk_at "ge"
    rename_i pn H6 _ hl6 _
    refine K1.use ?_
    walk_at "cl"
    clear K1 hl5
    refine seqK fun M1 K1 => ?_
    walk_at "ge"
    rename_i hd H7 _ hl7 _
    refine K1.use ?_
    walk_at "cl"
    clear K1 hl6
    rename_i pa _ _ _ pb _ _ _ _ _ _
    have hl10 : Led H7 (OC cI ⟨b0, dx0, d0, pa, [], []⟩ (OC cI ⟨b1, dx1, d1, pb, [], []⟩ ((hd, .lst (hlV [])) :: (pn, .lst [.ref pa, .ref pb]) :: (bo, .lst [.ref b0, .ref b1]) :: (nm, .lst (zs.map V.str)) :: L))) := by
      rw [show hlV [] = ([] : List V) from rfl]
      exact hl7.wk (by rw [show HO.dK [] = HO.dK (kvF []) from rfl]; simp only [OC, FiC, PdC, show filC ([] : FEnts) = ([] : Cells) from rfl, List.append_assoc, List.cons_append, List.nil_append]; walk_at "sp")
    clear hl7
    have hsM : Scr K ((pn, .lst [.ref pa, .ref pb]) :: (bo, .lst [.ref b0, .ref b1]) :: (nm, .lst (zs.map V.str)) :: L) a (ns.map V.int) := hs.mono fun c hc => List.mem_cons_of_mem _ (List.mem_cons_of_mem _ (List.mem_cons_of_mem _ hc))
    have i_bo : (bo, HO.lst [.ref b0, .ref b1]) ∈ (pn, HO.lst [.ref pa, .ref pb]) :: (bo, .lst [.ref b0, .ref b1]) :: (nm, .lst (zs.map V.str)) :: L := List.mem_cons_of_mem _ List.mem_cons_self
    have i_pn : (pn, HO.lst [.ref pa, .ref pb]) ∈ (pn, HO.lst [.ref pa, .ref pb]) :: (bo, .lst [.ref b0, .ref b1]) :: (nm, .lst (zs.map V.str)) :: L := List.mem_cons_self
    have i_nm : (nm, HO.lst (zs.map V.str)) ∈ (pn, HO.lst [.ref pa, .ref pb]) :: (bo, .lst [.ref b0, .ref b1]) :: (nm, .lst (zs.map V.str)) :: L := List.mem_cons_of_mem _ (List.mem_cons_of_mem _ List.mem_cons_self)
    have oA : OkO ⟨b0, dx0, d0, pa, [], []⟩ 0 ((pn, .lst [.ref pa, .ref pb]) :: (bo, .lst [.ref b0, .ref b1]) :: (nm, .lst (zs.map V.str)) :: L) := ⟨good_new, Nat.le_refl _, fun e he => nomatch he⟩
    have oB : OkO ⟨b1, dx1, d1, pb, [], []⟩ 0 ((pn, .lst [.ref pa, .ref pb]) :: (bo, .lst [.ref b0, .ref b1]) :: (nm, .lst (zs.map V.str)) :: L) := ⟨good_new, Nat.le_refl _, fun e he => nomatch he⟩
    have eA : (⟨b0, dx0, d0, pa, [], []⟩ : One).b = b0 ∧ (⟨b0, dx0, d0, pa, [], []⟩ : One).pd = pa := ⟨rfl, rfl⟩
    have eB : (⟨b1, dx1, d1, pb, [], []⟩ : One).b = b1 ∧ (⟨b1, dx1, d1, pb, [], []⟩ : One).pd = pb := ⟨rfl, rfl⟩
    generalize (⟨b0, dx0, d0, pa, [], []⟩ : One) = A0 at hl10 oA eA
    generalize (⟨b1, dx1, d1, pb, [], []⟩ : One) = C0 at hl10 oB eB
    generalize (pn, HO.lst [.ref pa, .ref pb]) :: (bo, .lst [.ref b0, .ref b1]) :: (nm, .lst (zs.map V.str)) :: L = M at hl10 hsM i_bo i_pn i_nm oA oB
    clear hs
    refine seqK fun M1 K1 => ?_
    refine forL fun Lr hLr => ?_
    have hsq : SqL K H7 a (ns.map V.int) := hsM.seq (hl10.wk (by walk_at "spo"))
    walk_at "ge"
    obtain ⟨cs, hcs, hcl, hmem⟩ := cut_intsM ns (some 2) (some 80)
    refine slLH hsq fun sl hsl => ?_
    rw [hcs]
    refine ⟨sl, rfl, ⟨_, SqL.of upd_same⟩, hLr.use ?_⟩
    have hl12 := hl10.new (o := .lst (cs.map V.int)) hsl
    generalize upd H7 sl (.lst (cs.map V.int)) = H12 at hl12 ⊢
    have hl13 : Led H12 (OC cI A0 (OC cI C0 ((hd, .lst (hlV [])) :: (sl, .lst (cs.map V.int)) :: M))) := hl12.wk (by walk_at "spo")
    clear hLr hsq hsl hl12 hcs hl10
    walk_at "cl"
    refine loopL (cs.map V.int) (fun i σ H' => ∃ (A C : One) (ws : List Hl) (M : Cells) (v1 v2 v3 v4 v5 : Option V), A.b = b0 ∧ A.pd = pa ∧ C.b = b1 ∧ C.pd = pb ∧ Led H' (OC cI A (OC cI C ((hd, .lst (hlV ws)) :: M))) ∧ OkO A i M ∧ OkO C i M ∧ HlOk ws M ∧ ws.length ≤ 2 * i ∧ Scr K M a (ns.map V.int) ∧ (bo, HO.lst [.ref b0, .ref b1]) ∈ M ∧ (pn, HO.lst [.ref pa, .ref pb]) ∈ M ∧ (nm, HO.lst (zs.map V.str)) ∈ M ∧ (sl, HO.lst (cs.map V.int)) ∈ M ∧ σ = [some (.ref a), some (.ref nm), some (.ref bo), some (.ref pn), some (.ref hd), v1, v2, v3, v4, v5, none, none, none]) ⟨A0, C0, [], _, _, _, _, _, _, eA.1, eA.2, eB.1, eB.2, hl13, oA.mono (Nat.le_refl _) fun c hc => List.mem_cons_of_mem _ hc, oB.mono (Nat.le_refl _) fun c hc => List.mem_cons_of_mem _ hc, (fun x hx => nomatch hx), Nat.le_refl _, hsM.mono fun c hc => List.mem_cons_of_mem _ hc, List.mem_cons_of_mem _ i_bo, List.mem_cons_of_mem _ i_pn, List.mem_cons_of_mem _ i_nm, List.mem_cons_self, rfl⟩ (fun i σ H' _ h => by
      obtain ⟨A, C, ws, M, _, _, _, _, _, _, _, _, _, hl', _, _, _, _, _, _, _, _, i_sl, _⟩ := h
      exact SqL.of (hl'.get (upO (upO (List.mem_cons_of_mem _ i_sl))))) ?_ ?_
    · clear hl13 K1 k oA oB eA eB hsM i_bo i_pn i_nm
      rintro i v σ H' hv ⟨A, C, ws, M, v1, v2, v3, v4, v5, eA1, eA2, eB1, eB2, hl', oA, oB, hw, hwl, hsM, i_bo, i_pn, i_nm, i_sl, rfl⟩
      have hi : i < cs.length := by have := (List.getElem?_eq_some_iff.mp hv).1; rw [List.length_map] at this; exact this
      rw [List.getElem?_map] at hv
      obtain ⟨cell, hcell, rfl⟩ := Option.map_eq_some_iff.mp hv
      have hcb := hbits cell (hmem cell (List.mem_of_getElem? hcell))
      rw [← eA1, ← eB1] at i_bo
      rw [← eA2, ← eB2] at i_pn
      have hM : Led H' M := hl'.wk (by walk_at "spo")
      have hsq := hsM.seq hM
      refine seqK fun M2 K2 => ?_
      walk_at "ge"
      refine ⟨a, ns, 1, rfl, by decide, hsq, ?_⟩
      obtain ⟨w1, hw1⟩ : ∃ w : Int, ns.getD (Int.toNat 1) 0 = w := ⟨_, rfl⟩
      rw [hw1]
      walk_at "ge"
      obtain ⟨at_, hat⟩ : ∃ z : Int, (cell + w1) * 69621 % 7919 % 2 = z := ⟨_, rfl⟩
      have a0 : 0 ≤ at_ := by rw [← hat]; exact Int.emod_nonneg _ (by decide)
      have a1 : at_ ≤ 1 := by have := Int.emod_lt_of_pos ((cell + w1) * 69621 % 7919) (show (0 : Int) < 2 by decide); omega
      rw [hat]
      refine K2.use ?_
      walk_at "cl"
      clear K2 hat
      refine seqK fun M2 K2 => ?_
      walk_at "ge"
      refine ⟨a, ns, 1, rfl, by decide, hsq, ?_⟩
      rw [hw1]
      walk_at "ge"
      obtain ⟨z, hz, haz⟩ : ∃ z, OkZ z ∧ atI (zs.map V.str) ((cell + w1) * 48271 % 10007 % 5) = some (.str z) := by
        have h0 := Int.emod_nonneg ((cell + w1) * 48271 % 10007) (show (5 : Int) ≠ 0 by decide)
        have h5 := Int.emod_lt_of_pos ((cell + w1) * 48271 % 10007) (show (0 : Int) < 5 by decide)
        generalize (cell + w1) * 48271 % 10007 % 5 = x at h0 h5
        have hx : x.toNat < zs.length := by omega
        exact ⟨zs[x.toNat], hzs _ (List.getElem_mem hx), atI_of h0 (by rw [List.getElem?_map, List.getElem?_eq_getElem hx]; rfl)⟩
      refine ixLH (hM.get i_nm) haz ?_
      walk_at "ge"
      refine K2.use ?_
      walk_at "cl"
      clear K2 hw1 hsq hM haz
      obtain ⟨X, Y, se⟩ := sel A C a0 a1
      have sb := sel_b se
      have spp := sel_p se
      obtain ⟨oX, oY⟩ := sel_o se oA oB
      have hlX := sel_l se hl'
      clear hl'
      refine seqK fun M2 K2 => ?_
      have c_bo := hlX.get (upO (upO (List.mem_cons_of_mem _ i_bo)))
      have c_pn := hlX.get (upO (upO (List.mem_cons_of_mem _ i_pn)))
      walk_at "ge"
      refine ⟨X.b, X.dx, X.d, X.pd, X.es, X.es', z, cell, OC cI Y [(hd, .lst (hlV ws))], M, rfl, hlX.wk (by walk_at "spo"), oX.g, by have := oX.n; omega, hcb, fun es2 es2' N H11 g' hn' hk' hl11 => ?_⟩
      have oX' : OkO ⟨X.b, X.dx, X.d, X.pd, es2, es2'⟩ (i + 1) (N ++ M) := ⟨g', by have := oX.n; show es2.length ≤ _; omega, fun e he => (hk' e he).elim (fun q => q ▸ hz) fun q => by
        obtain ⟨e', he', q'⟩ := List.mem_map.mp q
        rw [← q']
        exact oX.z e' he'⟩
      obtain ⟨A2, C2, e1, e2, e3, e4, oA2, oB2, hl12⟩ := sel_back (n := i + 1) (M := N ++ M) (R := (hd, .lst (hlV ws)) :: (N ++ M)) se (X' := ⟨X.b, X.dx, X.d, X.pd, es2, es2'⟩) rfl rfl oX' (oY.mono (Nat.le_succ _) fun c hc => List.mem_append_right _ hc) (hl11.wk (by walk_at "spo"))
      have subN : ∀ c ∈ M, c ∈ N ++ M := fun c hc => List.mem_append_right _ hc
      rw [← e1, ← e2] at i_bo
      rw [← e3, ← e4] at i_pn
      replace i_bo := subN _ i_bo
      replace i_pn := subN _ i_pn
      replace i_nm := subN _ i_nm
      replace i_sl := subN _ i_sl
      replace hw := hw.mono subN
      replace hsM := hsM.mono subN
      generalize N ++ M = M4 at hl12 oA2 oB2 i_bo i_pn i_nm i_sl hw hsM
      rw [eA1] at e1
      rw [eB1] at e2
      rw [eA2] at e3
      rw [eB2] at e4
      clear hl11 hlX c_bo c_pn oX oY oA oB sb spp g' hn' hk' subN oX'
      walk_at "ge"
      refine K2.use ?_
      walk_at "cl"
      clear K2
      refine forR1 fun Lr hLr => ?_
      walk_at "ge"
      refine ⟨_, rfl, by omega, by omega, hLr.use ?_⟩
      clear hLr
      refine loopR (fun j σ H' => ∃ (ws : List Hl) (M : Cells) (v4 v5 : Option V), Led H' (OC cI A2 (OC cI C2 ((hd, .lst (hlV ws)) :: M))) ∧ OkO A2 (i + 1) M ∧ OkO C2 (i + 1) M ∧ HlOk ws M ∧ ws.length ≤ 2 * i + j ∧ Scr K M a (ns.map V.int) ∧ (bo, HO.lst [.ref A2.b, .ref C2.b]) ∈ M ∧ (pn, HO.lst [.ref A2.pd, .ref C2.pd]) ∈ M ∧ (nm, HO.lst (zs.map V.str)) ∈ M ∧ (sl, HO.lst (cs.map V.int)) ∈ M ∧ σ = [some (.ref a), some (.ref nm), some (.ref bo), some (.ref pn), some (.ref hd), some (.int cell), some (.int at_), some (.str z), v4, v5, none, none, none]) ⟨ws, M4, _, _, hl12, oA2, oB2, hw, hwl, hsM, i_bo, i_pn, i_nm, i_sl, rfl⟩ ?_ ?_
      · clear hl12 oA2 oB2 hw hwl hsM i_bo i_pn i_nm i_sl
        rintro j σ H' hj ⟨ws, M, v4, v5, hl', oA2, oB2, hw, hwl, hsM, i_bo, i_pn, i_nm, i_sl, rfl⟩
        have hj2 : j < 2 := hj
        refine seqK fun M2 K2 => ?_
        walk_at "ge"
        obtain ⟨wh, hwh⟩ : ∃ z : Int, (0 + (j : Int) + cell / 5) % 2 = z := ⟨_, rfl⟩
        have w0' : 0 ≤ wh := by omega
        have w1' : wh ≤ 1 := by omega
        rw [hwh]
        refine K2.use ?_
        walk_at "cl"
        clear K2 hwh
        obtain ⟨X2, Y2, se2⟩ := sel A2 C2 w0' w1'
        have sb := sel_b se2
        have spp := sel_p se2
        obtain ⟨oX, oY⟩ := sel_o se2 oA2 oB2
        have hlX := sel_l se2 hl'
        have c_bo := hlX.get (upO (upO (List.mem_cons_of_mem _ i_bo)))
        have c_pn := hlX.get (upO (upO (List.mem_cons_of_mem _ i_pn)))
        walk_at "ge"
        refine ⟨X2.b, X2.dx, X2.d, X2.pd, hd, X2.es, X2.es', z, cell, ws, OC cI Y2 [], M, rfl, hlX.wk (by walk_at "spo"), oX.g, by have := oX.n; omega, oX.z, hz, hw, by omega, fun ws2 N H13 hw2 hwl2 hl13 => ?_⟩
        walk_at "ge"
        have subN : ∀ c ∈ M, c ∈ N ++ M := fun c hc => List.mem_append_right _ hc
        exact ⟨ws2, N ++ M, _, _, sel_k se2 (hl13.wk (by walk_at "spo")), oA2.mono (Nat.le_refl _) subN, oB2.mono (Nat.le_refl _) subN, hw2, by omega, hsM.mono subN, subN _ i_bo, subN _ i_pn, subN _ i_nm, subN _ i_sl, rfl⟩
      · clear hl12 oA2 oB2 hw hwl hsM i_bo i_pn i_nm i_sl
        rintro σ H' ⟨ws, M, v4, v5, hl', oA2, oB2, hw, hwl, hsM, i_bo, i_pn, i_nm, i_sl, rfl⟩
        exact ⟨A2, C2, ws, M, _, _, _, _, _, e1, e3, e2, e4, hl', oA2, oB2, hw, hwl, hsM, by rw [← e1, ← e2]; exact i_bo, by rw [← e3, ← e4]; exact i_pn, i_nm, i_sl, rfl⟩
    · clear hl13 oA oB eA eB hsM i_bo i_pn i_nm
      rintro σ H' ⟨A, C, ws, M, v1, v2, v3, v4, v5, eA1, eA2, eB1, eB2, hl', oA, oB, hw, hwl, hsM, i_bo, i_pn, i_nm, i_sl, rfl⟩
      rw [List.length_map] at hwl oA oB
      rw [← eA1, ← eB1] at i_bo
      rw [← eA2, ← eB2] at i_pn
      walk_at "ge"
      refine K1.use ?_
      walk_at "cl"
      clear K1
      refine seqK fun M1 K1 => ?_
      refine forR1 fun Lr hLr => ?_
      walk_at "ge"
      refine ⟨_, rfl, by omega, by omega, hLr.use ?_⟩
      clear hLr
      refine loopR (fun j σ H' => Led H' (OC cI A (OC cI C ((hd, .lst (hlV ws)) :: M))) ∧ ∃ v3 v4 v6, σ = [some (.ref a), some (.ref nm), some (.ref bo), some (.ref pn), some (.ref hd), v1, v2, v3, v4, v5, v6, none, none]) ⟨hl', _, _, _, rfl⟩ ?_ ?_
      · clear hl' K1 k
        rintro j σ H' hj ⟨hl', v3, v4, v6, rfl⟩
        have hj2 : j < 2 := hj
        obtain ⟨X, Y, se⟩ := sel A C (j := 0 + (j : Int)) (by omega) (by omega)
        have sb := sel_b se
        have spp := sel_p se
        obtain ⟨oX, oY⟩ := sel_o se oA oB
        have g := oX.g
        have hlX := sel_l se hl'
        have c_pn := hlX.get (upO (upO (List.mem_cons_of_mem _ i_pn)))
        have c_p := hlX.get (List.mem_cons_of_mem _ (List.mem_cons_of_mem _ (List.mem_append_right _ List.mem_cons_self)))
        refine forL fun Lr hLr => ?_
        walk_at "ge"
        refine listDSH c_p (kvF_keys X.es') fun lk hlk => ?_
        refine ⟨lk, rfl, ⟨_, SqL.of upd_same⟩, hLr.use ?_⟩
        have hl2 := hlX.new (o := .lst ((X.es'.map (·.1)).map V.str)) hlk
        generalize upd H' lk (.lst ((X.es'.map (·.1)).map V.str)) = H2 at hl2 ⊢
        clear hLr hlk hl' hlX c_pn c_p
        walk_at "cl"
        refine loopL ((X.es'.map (·.1)).map V.str) (fun i σ H' => Led H' ((lk, .lst ((X.es'.map (·.1)).map V.str)) :: OC cI X (OC cI Y ((hd, .lst (hlV ws)) :: M))) ∧ ∃ v3 v6, σ = [some (.ref a), some (.ref nm), some (.ref bo), some (.ref pn), some (.ref hd), v1, v2, v3, some (.int (0 + (j : Int))), v5, v6, none, none]) ⟨hl2, _, _, rfl⟩ (fun i σ H' _ h => SqL.of (h.1.get List.mem_cons_self)) ?_ ?_
        · clear hl2
          rintro i y σ H2 hy ⟨hl2, v3, v6, rfl⟩
          rw [List.getElem?_map, List.getElem?_map] at hy
          obtain ⟨z, hz, rfl⟩ := Option.map_eq_some_iff.mp hy
          obtain ⟨e', he', rfl⟩ := Option.map_eq_some_iff.mp hz
          replace he' := List.mem_of_getElem? he'
          have hkv := kvF_some g.nd' he'
          have hrl := rfs_len e'.2.2
          have hn1 := g.ne e' he'
          obtain ⟨e, he, hez⟩ := List.mem_map.mp (show e'.1 ∈ X.es.map (·.1) by rw [g.keys]; exact List.mem_map.mpr ⟨e', he', rfl⟩)
          obtain ⟨as, bs, hab, _⟩ := splitF g.nd he
          obtain ⟨as', bs', e2, hab', hz2, hrs⟩ := twin g hab
          have he2 : e2 = e' := by
            have h1 := findF g.nd' (e := e2) (by rw [hab']; exact List.mem_append_right _ List.mem_cons_self)
            have h2 := findF g.nd' he'
            rw [hz2, hez] at h1
            exact Option.some.inj (h1.symm.trans h2)
          subst he2
          have eq_of : ∀ {x : FEnt}, x ∈ X.es → x.1 = e2.1 → x = e := fun hx hxz => by
            have h1 := findF g.nd hx
            have h2 := findF g.nd he
            rw [hxz, ← hez] at h1
            exact Option.some.inj (h1.symm.trans h2)
          have hll : e2.2.2.length = e.2.2.length := by have := congrArg List.length hrs; rw [List.length_map, List.length_map] at this; exact this
          have c_bo := hl2.get (List.mem_cons_of_mem _ (upO (upO (List.mem_cons_of_mem _ i_bo))))
          have c_pn := hl2.get (List.mem_cons_of_mem _ (upO (upO (List.mem_cons_of_mem _ i_pn))))
          have c_p := hl2.get (List.mem_cons_of_mem _ (List.mem_cons_of_mem _ (List.mem_cons_of_mem _ (List.mem_append_right _ List.mem_cons_self))))
          have c_e := hl2.get (List.mem_cons_of_mem _ (List.mem_cons_of_mem _ (List.mem_cons_of_mem _ (List.mem_append_right _ (List.mem_cons_of_mem _ (List.mem_append_left _ (filC_mem he')))))))
          refine forR1 fun Lr hLr => ?_
          walk_at "ge"
          refine dgetS c_p hkv ?_
          walk_at "ge"
          refine ⟨_, rfl, by omega, by omega, hLr.use ?_⟩
          clear hLr c_bo c_pn c_p c_e
          rw [show (((rfs e2.2.2).length : Nat) : Int).toNat = e2.2.2.length by rw [hrl]; omega]
          refine loopR (fun m σ H' => Led H' ((lk, .lst ((X.es'.map (·.1)).map V.str)) :: OC cI X (OC cI Y ((hd, .lst (hlV ws)) :: M))) ∧ ∃ v6, σ = [some (.ref a), some (.ref nm), some (.ref bo), some (.ref pn), some (.ref hd), v1, v2, some (.str e2.1), some (.int (0 + (j : Int))), v5, v6, none, none]) ⟨hl2, _, rfl⟩ ?_ ?_
          · clear hl2
            rintro m σ H2 hm ⟨hl2, v6, rfl⟩
            have hj' := List.getElem?_eq_getElem hm
            generalize e2.2.2[m] = r' at hj'
            have ha' : atI (rfs e2.2.2) (0 + (m : Int)) = some (.ref r'.1) := by
              rw [Int.zero_add]
              exact atI_of (by omega) (by unfold rfs; rw [Int.toNat_natCast, List.getElem?_map, hj']; rfl)
            have rr : ∀ {r : Addr × List Int}, e.2.2[m]? = some r → r.2 = r'.2 := fun h => by
              have h1 := congrArg (fun l => l[m]?) hrs
              simp only [List.getElem?_map, h, hj'] at h1
              exact (Option.some.inj h1).symm
            have hl3 := hl2.tail
            have c_bo := hl2.get (List.mem_cons_of_mem _ (upO (upO (List.mem_cons_of_mem _ i_bo))))
            have c_b : H2 X.b = some (.ins cI X.dx (fiFld X.d)) := hl3.get List.mem_cons_self
            clear hl3
            walk_at "ge"
            refine ⟨X.b, X.dx, X.d, X.es, e2.1, _, _, rfl, hl2, FH.of hl2.tail g.nd, (fun x hx r hr => ⟨hl2.get (List.mem_cons_of_mem _ (upO (upO (List.mem_cons_of_mem _ (g.r1 x hx r hr).1)))), by rw [(g.r1 x hx r hr).2]; decide⟩), fun x2 hx2 hz2 j2 r hp2 hj2 q H12 hl12 => ?_, fun x2 hx2 hz2 hp2 => ?_, fun hz2 => absurd (List.mem_map.mpr ⟨e, he, hez⟩) hz2⟩
            · have ee : x2 = e := eq_of hx2 hz2
              rw [ee] at hj2
              obtain rfl : j2 = m := by omega
              have hrr : r.2 = r'.2 := rr hj2
              have c_pn2 := hl12.get (List.mem_cons_of_mem _ (List.mem_cons_of_mem _ (upO (upO (List.mem_cons_of_mem _ i_pn)))))
              have c_p2 := hl12.get (List.mem_cons_of_mem _ (List.mem_cons_of_mem _ (List.mem_cons_of_mem _ (List.mem_cons_of_mem _ (List.mem_append_right _ List.mem_cons_self)))))
              have c_e2 := hl12.get (List.mem_cons_of_mem _ (List.mem_cons_of_mem _ (List.mem_cons_of_mem _ (List.mem_cons_of_mem _ (List.mem_append_right _ (List.mem_cons_of_mem _ (List.mem_append_left _ (filC_mem he'))))))))
              walk_at "ge"
              refine dgetS c_p2 hkv ?_
              walk_at "ge"
              refine ⟨_, _, rfl, alike_ints2 (row := r'.2) (by rw [← hrr]; exact hl12.get List.mem_cons_self) (hl12.get (List.mem_cons_of_mem _ (List.mem_cons_of_mem _ (upO (upO (List.mem_cons_of_mem _ (g.r2 _ he' r' (List.mem_of_getElem? hj')).1)))))) (by rw [(g.r2 _ he' r' (List.mem_of_getElem? hj')).2]; decide), ?_⟩
              walk_at "ge"
              exact ⟨hl12.tail, _, rfl⟩
            · have ee : x2 = e := eq_of hx2 hz2
              rw [ee] at hp2
              exact absurd ⟨by omega, by omega⟩ hp2
          · clear hl2
            rintro σ H2 ⟨hl2, v6, rfl⟩
            exact ⟨hl2, _, _, rfl⟩
        · clear hl2
          rintro σ H2 ⟨hl2, v3, v6, rfl⟩
          exact ⟨sel_k se hl2.tail, _, _, _, rfl⟩
      · clear hl'
        rintro σ H' ⟨hl', v3, v4, v6, rfl⟩
        walk_at "ge"
        refine K1.use ?_
        walk_at "cl"
        clear K1
        have c_hd := hl'.get (upO (upO List.mem_cons_self))
        refine seqK fun M1 K1 => ?_
        refine forL fun Lr hLr => ?_
        walk_at "ge"
        refine ⟨hd, rfl, ⟨_, SqL.of c_hd⟩, hLr.use ?_⟩
        clear hLr
        refine loopL (hlV ws) (fun j σ H5 => H5 = H' ∧ ∃ v7 v8, σ = [some (.ref a), some (.ref nm), some (.ref bo), some (.ref pn), some (.ref hd), v1, v2, v3, v4, v5, v6, v7, v8]) ⟨rfl, _, _, rfl⟩ (fun j σ H5 _ h => by obtain ⟨rfl, _⟩ := h; exact SqL.of c_hd) ?_ ?_
        · clear K1
          rintro j y σ H5 hy ⟨rfl, v7, v8, rfl⟩
          unfold hlV at hy
          rw [List.getElem?_map] at hy
          obtain ⟨x, hx, rfl⟩ := Option.map_eq_some_iff.mp hy
          obtain ⟨x1, x2, x3, x4⟩ := hw x (List.mem_of_getElem? hx)
          have cc : ∀ {c : Addr × HO}, c ∈ M → H5 c.1 = some c.2 := fun hc => hl'.get (upO (upO (List.mem_cons_of_mem _ hc)))
          refine tupN2 (cc x1) ?_
          walk_at "ge"
          refine neDH (b := true) (strs_dat (cc x2)) (strs_dat (cc x3)) (strs_ok x4) (strs_ok x4) (iff_of_true rfl rfl) ?_
          walk_at "ge"
          exact ⟨rfl, _, _, rfl⟩
        · rintro σ H5 ⟨rfl, v7, v8, rfl⟩
          walk_at "ge"
          refine K1.use ?_
          walk_at "ge"
          exact k _
theorem ok_all {f : Addr} {fd : FuncData} (F : Fun K "law" "law" s_law f fd) (B : Blt mg) (T : Txt K mg cP cA cB cC c1 c2 c3 c4 c5 c6 cI) : FnOk P w K mg base (CXR P w) 7 f fd ["_law_script"] (spLawB K) := by
  have g_cell := ok_cell_at (P := P) (w := w) (base := base) T.d_l_cell_at B
  have g_alike := ok_alike (P := P) (w := w) (base := base) T.d_l_alike B T (ok_whole T.d_l_whole B T) 2
  have g_num := ok_num (P := P) (w := w) (base := base) T.d_l_num T
  have g_row := ok_row (P := P) (w := w) (base := base) T.d_l_row B T g_num
  have g_name := ok_name (P := P) (w := w) (base := base) T.d_l_name B T
  have g_rows := ok_rows (P := P) (w := w) (base := base) T.d_l_rows B T g_row
  have m_ask := ok_ask_name (P := P) (w := w) (base := base) T.m_Files_ask_name B T
  have m_size := ok_size (P := P) (w := w) (base := base) T.m_Files_size_of B T m_ask
  have m_page := ok_ask_page (P := P) (w := w) (base := base) T.m_Files_ask_page B T m_size
  have m_row := ok_row_at (P := P) (w := w) (base := base) T.m_Files_row_at B T m_page
  have m_names := ok_names (P := P) (w := w) (base := base) T.m_Files_names B T
  have m_make := ok_make (P := P) (w := w) (base := base) T.m_Files_make B T
  have m_store := ok_store (P := P) (w := w) (base := base) T.m_Files_store_row B T m_page
  have m_drop := ok_drop (P := P) (w := w) (base := base) T.m_Files_drop B T m_ask
  have g_due := ok_due (P := P) (w := w) (base := base) T.d_l_due B T
  have g_done := ok_done (P := P) (w := w) (base := base) T.d_l_done B T
  have g_asked := ok_asked (P := P) (w := w) (base := base) T.d_l_asked B T m_make m_size m_row m_store m_drop
  have g_deed := ok_deed (P := P) (w := w) (base := base) T.d_l_deed B T g_alike g_row g_rows g_asked g_due g_done
  have g_isf := ok_is_files (P := P) (w := w) (base := base) T.d_l_is_files B T m_names m_size m_row g_alike
  exact ok_law F B T (ok_iinit T.i_Files T) m_row g_cell g_alike g_name g_deed g_isf
end
end My
open PySem PySem.W PyProof.Rows
set_option maxRecDepth 100000 in
set_option maxHeartbeats 0 in
theorem PySem.Challenge.cw_paneworks_k37_files_through_deeds_holds : PySem.Challenge.rw_paneworks_k37_files_through_deeds.Holds := by
  w_on; o_law; k_head; (case hw => w_witness2)
  k_fill
  refine L2.law_walkB (l := PySem.Challenge.rw_paneworks_k37_files_through_deeds) (k := 7) (x := "_law_script") rfl rfl ⟨rfl, by decide, by decide⟩ (fun w h Y => PySem.W.kIn_of Y) ?F
  case F =>
    intro w mg fa h KX G hmg
    have B : L2.Blt mg := by
      refine' L2.blt_mk KX G ?z0 ?z1 ?z2 ?z3 ?z4 ?z5 ?z6 ?z7 ?z8 ?z9 ?z10 ?z11 ?z12 ?z13 ?z14 ?z15 ?z16
      all_goals k_is
    have T : ∃ cP cA cB cC c1 c2 c3 c4 c5 c6 cI, My.Txt (L2.KOf KX) mg cP cA cB cC c1 c2 c3 c4 c5 c6 cI := by
      dsimp only [L2.KOf]
      refine' My.txt_mk KX G ?y1 ?y2 ?y3 ?y4 ?y5 ?y6 ?y7 ?y8 ?y9 ?y10 ?y11 ?y12 ?y13 ?y14 ?y15 ?y16 ?y17 ?y18 ?y19 ?y20 ?y21 ?y22 ?y23 ?y24 ?y25 ?y26 ?y27 ?y28 ?y29 ?y30 ?y31 ?y32 ?y33 ?y34 ?y35 ?y36 ?y37 ?y38 ?y39 ?y40 ?y41 ?y42 ?y43 ?y44 ?y45 ?y46 ?y47 ?y48 ?y49 ?y50 ?y51 ?y52 ?y53 ?y54 ?y55 ?y56 ?y57 ?y58 ?y59 ?y60 ?y61 ?y62 ?y63 ?y64 ?y65 ?y66 ?y67 ?y68 ?y69 ?y70 ?y71 ?y72 ?y73 ?y74 ?y75 ?y76 ?y77 ?y78 ?y79 ?y80 ?y81 ?y82 ?y83 ?y84 ?y85 ?y86 ?y87 ?y88 ?y89 ?y90 ?y91 ?y92 ?y93 ?y94 ?y95 ?y96 ?y97 ?y98 ?y99 ?y100 ?y101 ?y102 ?y103 ?y104 ?y105 ?y106 ?y107 ?y108 ?y109 ?y110 ?y111 ?y112 ?y113 ?y114 ?y115 ?y116 ?y117 ?y118 ?y119 ?y120 ?y121 ?y122 ?y123 ?y124 ?y125 ?y126 ?y127 ?y128 ?y129 ?y130 ?y131 ?y132 ?y133 ?y134 ?y135 ?y136 ?y137 ?y138 ?y139 ?y140 ?y141 ?y142 ?y143 ?y144 ?y145 ?y146 ?y147 ?y148 ?y149 ?y150 ?y151 ?y152 ?y153 ?y154 ?y155 ?y156 ?y157 ?y158 ?y159 ?y160
      (case y1 => first | k_is | kernel_rfl)
      (case y2 => first | k_is | kernel_rfl)
      (case y3 => first | k_is | kernel_rfl)
      (case y4 => first | k_is | kernel_rfl)
      (case y5 => first | k_is | kernel_rfl)
      (case y6 => first | k_is | kernel_rfl)
      (case y7 => first | k_is | kernel_rfl)
      (case y8 => first | k_is | kernel_rfl)
      (case y9 => first | k_is | kernel_rfl)
      (case y10 => first | k_is | kernel_rfl)
      (case y11 => first | k_is | kernel_rfl)
      (case y12 => first | k_is | kernel_rfl)
      (case y13 => first | k_is | kernel_rfl)
      (case y14 => first | k_is | kernel_rfl)
      (case y15 => first | k_is | kernel_rfl)
      (case y16 => first | k_is | kernel_rfl)
      (case y17 => first | k_is | kernel_rfl)
      (case y18 => first | k_is | kernel_rfl)
      (case y19 => first | k_is | kernel_rfl)
      (case y20 => first | k_is | kernel_rfl)
      (case y21 => first | k_is | kernel_rfl)
      (case y22 => first | k_is | kernel_rfl)
      (case y23 => first | k_is | kernel_rfl)
      (case y24 => first | k_is | kernel_rfl)
      (case y25 => first | k_is | kernel_rfl)
      (case y26 => first | k_is | kernel_rfl)
      (case y27 => first | k_is | kernel_rfl)
      (case y28 => first | k_is | kernel_rfl)
      (case y29 => first | k_is | kernel_rfl)
      (case y30 => first | k_is | kernel_rfl)
      (case y31 => first | k_is | kernel_rfl)
      (case y32 => first | k_is | kernel_rfl)
      (case y33 => first | k_is | kernel_rfl)
      (case y34 => first | k_is | kernel_rfl)
      (case y35 => first | k_is | kernel_rfl)
      (case y36 => first | k_is | kernel_rfl)
      (case y37 => first | k_is | kernel_rfl)
      (case y38 => first | k_is | kernel_rfl)
      (case y39 => first | k_is | kernel_rfl)
      (case y40 => first | k_is | kernel_rfl)
      (case y41 => first | k_is | kernel_rfl)
      (case y42 => first | k_is | kernel_rfl)
      (case y43 => first | k_is | kernel_rfl)
      (case y44 => first | k_is | kernel_rfl)
      (case y45 => first | k_is | kernel_rfl)
      (case y46 => first | k_is | kernel_rfl)
      (case y47 => first | k_is | kernel_rfl)
      (case y48 => first | k_is | kernel_rfl)
      (case y49 => first | k_is | kernel_rfl)
      (case y50 => first | k_is | kernel_rfl)
      (case y51 => first | k_is | kernel_rfl)
      (case y52 => first | k_is | kernel_rfl)
      (case y53 => first | k_is | kernel_rfl)
      (case y54 => first | k_is | kernel_rfl)
      (case y55 => first | k_is | kernel_rfl)
      (case y56 => first | k_is | kernel_rfl)
      (case y57 => first | k_is | kernel_rfl)
      (case y58 => first | k_is | kernel_rfl)
      (case y59 => first | k_is | kernel_rfl)
      (case y60 => first | k_is | kernel_rfl)
      (case y61 => first | k_is | kernel_rfl)
      (case y62 => first | k_is | kernel_rfl)
      (case y63 => first | k_is | kernel_rfl)
      (case y64 => first | k_is | kernel_rfl)
      (case y65 => first | k_is | kernel_rfl)
      (case y66 => first | k_is | kernel_rfl)
      (case y67 => first | k_is | kernel_rfl)
      (case y68 => first | k_is | kernel_rfl)
      (case y69 => first | k_is | kernel_rfl)
      (case y70 => first | k_is | kernel_rfl)
      (case y71 => first | k_is | kernel_rfl)
      (case y72 => first | k_is | kernel_rfl)
      (case y73 => first | k_is | kernel_rfl)
      (case y74 => first | k_is | kernel_rfl)
      (case y75 => first | k_is | kernel_rfl)
      (case y76 => first | k_is | kernel_rfl)
      (case y77 => first | k_is | kernel_rfl)
      (case y78 => first | k_is | kernel_rfl)
      (case y79 => first | k_is | kernel_rfl)
      (case y80 => first | k_is | kernel_rfl)
      (case y81 => first | k_is | kernel_rfl)
      (case y82 => first | k_is | kernel_rfl)
      (case y83 => first | k_is | kernel_rfl)
      (case y84 => first | k_is | kernel_rfl)
      (case y85 => first | k_is | kernel_rfl)
      (case y86 => first | k_is | kernel_rfl)
      (case y87 => first | k_is | kernel_rfl)
      (case y88 => first | k_is | kernel_rfl)
      (case y89 => first | k_is | kernel_rfl)
      (case y90 => first | k_is | kernel_rfl)
      (case y91 => first | k_is | kernel_rfl)
      (case y92 => first | k_is | kernel_rfl)
      (case y93 => first | k_is | kernel_rfl)
      (case y94 => first | k_is | kernel_rfl)
      (case y95 => first | k_is | kernel_rfl)
      (case y96 => first | k_is | kernel_rfl)
      (case y97 => first | k_is | kernel_rfl)
      (case y98 => first | k_is | kernel_rfl)
      (case y99 => first | k_is | kernel_rfl)
      (case y100 => first | k_is | kernel_rfl)
      (case y101 => first | k_is | kernel_rfl)
      (case y102 => first | k_is | kernel_rfl)
      (case y103 => first | k_is | kernel_rfl)
      (case y104 => first | k_is | kernel_rfl)
      (case y105 => first | k_is | kernel_rfl)
      (case y106 => first | k_is | kernel_rfl)
      (case y107 => first | k_is | kernel_rfl)
      (case y108 => first | k_is | kernel_rfl)
      (case y109 => first | k_is | kernel_rfl)
      (case y110 => first | k_is | kernel_rfl)
      (case y111 => first | k_is | kernel_rfl)
      (case y112 => first | k_is | kernel_rfl)
      (case y113 => first | k_is | kernel_rfl)
      (case y114 => first | k_is | kernel_rfl)
      (case y115 => first | k_is | kernel_rfl)
      (case y116 => first | k_is | kernel_rfl)
      (case y117 => first | k_is | kernel_rfl)
      (case y118 => first | k_is | kernel_rfl)
      (case y119 => first | k_is | kernel_rfl)
      (case y120 => first | k_is | kernel_rfl)
      (case y121 => first | k_is | kernel_rfl)
      (case y122 => first | k_is | kernel_rfl)
      (case y123 => first | k_is | kernel_rfl)
      (case y124 => first | k_is | kernel_rfl)
      (case y125 => first | k_is | kernel_rfl)
      (case y126 => first | k_is | kernel_rfl)
      (case y127 => first | k_is | kernel_rfl)
      (case y128 => first | k_is | kernel_rfl)
      (case y129 => first | k_is | kernel_rfl)
      (case y130 => first | k_is | kernel_rfl)
      (case y131 => first | k_is | kernel_rfl)
      (case y132 => first | k_is | kernel_rfl)
      (case y133 => first | k_is | kernel_rfl)
      (case y134 => first | k_is | kernel_rfl)
      (case y135 => first | k_is | kernel_rfl)
      (case y136 => first | k_is | kernel_rfl)
      (case y137 => first | k_is | kernel_rfl)
      (case y138 => first | k_is | kernel_rfl)
      (case y139 => first | k_is | kernel_rfl)
      (case y140 => first | k_is | kernel_rfl)
      (case y141 => first | k_is | kernel_rfl)
      (case y142 => first | k_is | kernel_rfl)
      (case y143 => first | k_is | kernel_rfl)
      (case y144 => first | k_is | kernel_rfl)
      (case y145 => first | k_is | kernel_rfl)
      (case y146 => first | k_is | kernel_rfl)
      (case y147 => first | k_is | kernel_rfl)
      (case y148 => first | k_is | kernel_rfl)
      (case y149 => first | k_is | kernel_rfl)
      (case y150 => first | k_is | kernel_rfl)
      (case y151 => first | k_is | kernel_rfl)
      (case y152 => first | k_is | kernel_rfl)
      (case y153 => first | k_is | kernel_rfl)
      (case y154 => first | k_is | kernel_rfl)
      (case y155 => first | k_is | kernel_rfl)
      (case y156 => first | k_is | kernel_rfl)
      (case y157 => first | k_is | kernel_rfl)
      (case y158 => first | k_is | kernel_rfl)
      (case y159 => first | k_is | kernel_rfl)
      (case y160 => first | k_is | kernel_rfl)
    obtain ⟨cP, cA, cB, cC, c1, c2, c3, c4, c5, c6, cI, T⟩ := T
    exact L2.law_F T.d_law hmg (fun _ _ _ _ _ _ _ => rfl) fun base f fd F => My.ok_all F B T
#print axioms PySem.Challenge.cw_paneworks_k37_files_through_deeds_holds

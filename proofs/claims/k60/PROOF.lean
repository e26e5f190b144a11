import PyProof.Rows.All
import Wide.All
import OpenK.AllK
import Wide.FinOn
import Lean
import PyProof.EqAt
import PyProof.EqKinds
import PyProof.TupleCall
import PyProof.Rows.SortWalk
import KE.KDictSum
import KE.LcSums
import KE.KEqDat
import KE.KRevIter
import PyProof.P3In
import PyProof.SliceStr2
import PyProof.MeetsStr
import PyProof.StrBlockI
import PyProof.StrWalks
import PyProof.FitsReplace
import PyProof.ListStr
import PyProof.ZipIter
import KE.KIntText
import KE.IntTextLaws
import PyProof.StrLawsIn
import PyProof.StrCalls2
import PyProof.Rows.CatFin
import PyProof.Rows.StrClose
import KE.IntTextText
import PyProof.StrLawsTight
import PyProof.StrLawsChain
import PyProof.Rows.StrItems
import PyProof.Rows.ReprOcc
import PyProof.Rows.SortStr
import PySem.Challenge.RW_paneworks_k60_a_world_made
set_option Elab.async false
set_option compiler.extract_closed false
set_option linter.all false
set_option maxRecDepth 100000
/-! THE HAND LAYER, for ints, bools, texts, own classes, DICTS (int and text keys), calls, loops. Paste it whole ahead of your own text; what your proof does not reach may be deleted. -/
namespace L2
open PySem PySem.Spec PyProof.Rows

/-- a key: an int or a str -/
abbrev Key := Sum Int Str
def keyIs : Key → Value → Bool
  | .inl k, v => Value.isInt k v
  | .inr x, v => Value.isStrOf x v
def keyH (w : World) : Key → Int
  | .inl k => hashInt k
  | .inr x => hashStr w x
theorem keyIs_shape : ∀ {k : Key} {v : Value}, keyIs k v = true → (∃ i t, k = Sum.inl i ∧ v = Value.int i t) ∨ (∃ x t, k = Sum.inr x ∧ v = Value.str x t)
  | .inl i, v, h => by
    obtain ⟨t, e⟩ := Value.isInt_shape (k := i) (v := v) h
    exact .inl ⟨i, t, rfl, e⟩
  | .inr x, v, h => by
    obtain ⟨t, e⟩ := Value.isStrOf_shape (x := x) (v := v) h
    exact .inr ⟨x, t, rfl, e⟩
theorem keyIs_int (i : Int) (t : Tok) : keyIs (.inl i) (.int i t) = true := by simp [keyIs, Value.isInt]
theorem keyIs_str (x : Str) (t : Tok) : keyIs (.inr x) (.str x t) = true := by simp [keyIs, Value.isStrOf]
theorem key_ll (a b : Int) : decide ((Sum.inl a : Key) = Sum.inl b) = (a == b) := by
  by_cases e : a = b
  · subst e; simp
  · have h : ¬ (Sum.inl a : Key) = Sum.inl b := fun q => e (Sum.inl.inj q)
    rw [decide_eq_false h]
    exact (beq_eq_false_iff_ne.mpr e).symm
theorem key_rr (a b : Str) : decide ((Sum.inr a : Key) = Sum.inr b) = decide (a = b) := by
  by_cases e : a = b
  · subst e; simp
  · have h : ¬ (Sum.inr a : Key) = Sum.inr b := fun q => e (Sum.inr.inj q)
    rw [decide_eq_false h, decide_eq_false e]
theorem key_lr (a : Int) (b : Str) : decide ((Sum.inl a : Key) = Sum.inr b) = false := decide_eq_false (fun q => nomatch q)
theorem key_rl (a : Str) (b : Int) : decide ((Sum.inr a : Key) = Sum.inl b) = false := decide_eq_false (fun q => nomatch q)

def mixKind (prog : Program) (w : World) : PySem.KeyKind prog w Key where
  is := keyIs
  hash := keyH w
  inj := fun v a b ha hb => by
    rcases keyIs_shape ha with ⟨i, t, rfl, rfl⟩ | ⟨x, t, rfl, rfl⟩
    · rcases keyIs_shape hb with ⟨j, u, rfl, e⟩ | ⟨y, u, rfl, e⟩
      · injection e with e1 _; rw [e1]
      · exact nomatch e
    · rcases keyIs_shape hb with ⟨j, u, rfl, e⟩ | ⟨y, u, rfl, e⟩
      · exact nomatch e
      · injection e with e1 _; rw [e1]
  byValue := fun k v h => by
    rcases keyIs_shape h with ⟨i, t, rfl, rfl⟩ | ⟨x, t, rfl, rfl⟩ <;> rfl
  pyHash := fun hv h => by
    rcases keyIs_shape hv with ⟨i, t, rfl, rfl⟩ | ⟨x, t, rfl, rfl⟩
    · exact wpAny_pyHash_int h
    · exact wpAny_pyHash_str h
  eqBool := fun hu hv h => by
    rcases keyIs_shape hu with ⟨i, t, rfl, rfl⟩ | ⟨x, t, rfl, rfl⟩
    · rcases keyIs_shape hv with ⟨j, u, rfl, rfl⟩ | ⟨y, u, rfl, rfl⟩
      · rw [key_ll] at h; exact wpAny_eqBool_int h
      · rw [key_lr] at h; exact SeqAt.EqAt.int_str i t y u _ _ _ _ h
    · rcases keyIs_shape hv with ⟨j, u, rfl, rfl⟩ | ⟨y, u, rfl, rfl⟩
      · rw [key_rl] at h; exact SeqAt.EqAt.str_int x t j u _ _ _ _ h
      · rw [key_rr] at h; exact wpAny_eqBool_str h
  «strs» := fun k x t v h => by
    rcases keyIs_shape h with ⟨i, u, rfl, e⟩ | ⟨y, u, rfl, e⟩
    · exact nomatch e
    · injection e with e1 _
      subst e1
      cases v <;> rfl

theorem mixKind_int (prog : Program) (w : World) (i : Int) (t : Tok) : (mixKind prog w).is (.inl i) (.int i t) = true := keyIs_int i t
theorem mixKind_str (prog : Program) (w : World) (x : Str) (t : Tok) : (mixKind prog w).is (.inr x) (.str x t) = true := keyIs_str x t
end L2

namespace L2
open PySem PySem.Spec PyProof.Rows

/-- a value, without the heap -/
inductive V where
  | non | bl (b : Bool) | int (i : Int) | str (x : Str) | byt (b : Array UInt8) | flt (b : UInt64) | ref (a : Addr) | ty (n : String)
  deriving DecidableEq

def RelV : V → Value → Prop
  | .non, u => u = Value.none
  | .bl b, u => u = Value.bool b
  | .int i, u => ∃ t, u = Value.int i t
  | .str x, u => ∃ t, u = Value.str x t
  | .byt b, u => ∃ t, u = Value.bytes b t
  | .flt b, u => ∃ t, u = Value.float b t
  | .ref a, u => u = Value.ref a
  | .ty n, u => u = Value.type n

abbrev Vals : List V → List Value → Prop := Paired RelV
theorem Vals.length {xs : List V} {us : List Value} (r : Vals xs us) : xs.length = us.length := Paired.length r
theorem Vals.get : ∀ {xs : List V} {us : List Value} {i : Nat} {x : V}, Vals xs us → xs[i]? = some x → ∃ u, us[i]? = some u ∧ RelV x u
  | _, _, _, _, .nil, e => by simp at e
  | _, _, 0, _, .cons r _, e => by simp at e; subst e; exact ⟨_, rfl, r⟩
  | _, _, i + 1, x, .cons _ t, e => by
    obtain ⟨u, h1, h2⟩ := Vals.get (i := i) (x := x) t (by simpa using e)
    exact ⟨u, by simpa using h1, h2⟩
theorem Vals.set {x : V} {u : Value} (r : RelV x u) : ∀ {xs : List V} {us : List Value} (i : Nat), Vals xs us → Vals (xs.set i x) (us.set i u)
  | _, _, _, .nil => .nil
  | _, _, 0, .cons _ t => .cons r t
  | _, _, i + 1, .cons q t => .cons q (Vals.set r i t)
theorem Vals.append : ∀ {xs ys : List V} {us ws : List Value}, Vals xs us → Vals ys ws → Vals (xs ++ ys) (us ++ ws)
  | _, _, _, _, .nil, s => s
  | _, _, _, _, .cons r t, s => .cons r (Vals.append t s)
theorem Vals.take : ∀ {xs : List V} {us : List Value} (n : Nat), Vals xs us → Vals (xs.take n) (us.take n)
  | _, _, 0, _ => .nil
  | _, _, _ + 1, .nil => .nil
  | _, _, n + 1, .cons r t => .cons r (Vals.take n t)
theorem Vals.drop : ∀ {xs : List V} {us : List Value} (n : Nat), Vals xs us → Vals (xs.drop n) (us.drop n)
  | _, _, 0, r => r
  | _, _, _ + 1, .nil => .nil
  | _, _, n + 1, .cons _ t => Vals.drop n t
def RelO : Option V → Option Value → Prop
  | some v, some u => RelV v u
  | none, none => True
  | _, _ => False
def KV {κ : Type} : List (κ × V) → List (κ × Value) → Prop := Paired fun (p : κ × V) (q : κ × Value) => p.1 = q.1 ∧ RelV p.2 q.2

/-- a key of a dict (00_mix): an int or a text -/
def kV : Key → V
  | .inl i => .int i
  | .inr x => .str x

/-- what stands at a tracked address -/
inductive HO where
  /-- a list -/
  | lst (xs : List V)
  /-- a tuple (never changes) -/
  | tup (xs : List V)
  /-- a dict whose keys are ints and texts; one whose keys are tuples of ints and texts (the empty one is both) -/
  | dK (kvs : List (Key × V)) | dT (kvs : List (List Key × V))
  /-- a set of ints: its members, its size -/
  | set (S : Int → Bool) (n : Nat)
  /-- an instance of the class at C, its dict at dx, its attributes -/
  | ins (C dx : Addr) (fs : List (Str × V))
  /-- the dict of the instance at x -/
  | own (x : Addr)
  /-- the dict of an exception -/
  | xd (fs : List (Str × V))
  /-- a bound method, f of x -/
  | met (f x : Addr)
  /-- a range object lo, lo + 1, .. below hi -/
  | rng (lo hi : Int)
  /-- a thing that is known to the object (the script; a dict while a loop walks it): read, never written while it is so -/
  | frz (o : Obj) (u : HO)
  /-- a code object's table -/
  | tbl (ps : Array Value)
  /-- any other thing, by what is true of its one object (a def of one's own: SetO a S n := HO.ext fun h => ..) -/
  | ext (φ : Heap → Prop)

abbrev Hp := Addr → Option HO
def upd (H : Hp) (a : Addr) (o : HO) : Hp := fun b => if b = a then some o else H b
theorem upd_same {H : Hp} {a : Addr} {o : HO} : upd H a o a = some o := by unfold upd; rw [if_pos rfl]
theorem upd_ne {H : Hp} {a b : Addr} {o : HO} (h : b ≠ a) : upd H a o b = H b := by unfold upd; rw [if_neg h]
theorem ne_of_none {H : Hp} {a b : Addr} {o : HO} (h : H a = some o) (h' : H b = none) : a ≠ b := by
  intro e; subst e; rw [h] at h'; cases h'

section
variable (P : Program) (w : World)
def ObjOk (H : Hp) (h : Heap) (a : Addr) : HO → Prop
  | .lst xs => xs.length ≤ sizeLine ∧ ∃ (its : List Value) (n : Nat), Vals xs its ∧ h.get? a = some { cls := .type "list", data := .seq its.toArray n }
  | .tup xs => xs.length ≤ sizeLine ∧ ∃ its : List Value, Vals xs its ∧ IsTup h a its.toArray
  | .dK kvs => kvs.length ≤ sizeLine ∧ (a == sysModules) = false ∧ ∃ vs, KV kvs vs ∧ h.DictOf (mixKind P w) a vs
  | .dT kvs => kvs.length ≤ sizeLine ∧ (a == sysModules) = false ∧ ∃ xs : List (List Key × Addr × Value),
      Paired (fun (p : List Key × V) (q : List Key × Addr × Value) => p.1 = q.1 ∧ H q.2.1 = some (.tup (p.1.map kV)) ∧ RelV p.2 q.2.2) kvs xs ∧
      ∃ o es ep, h.get? a = some o ∧ o.ExactDict ∧ o.data = .dict es ep ∧ es.toList = xs.map (entryOfKey (tupleKind (mixKind P w))) ∧ (xs.map (·.1)).Nodup
  | .set S n => h.SetOf (intKind P w) a S n
  | .ins C dx fs => H dx = some (.own a) ∧ fs.length ≤ 1000 ∧ dx ≠ a ∧ h.get? a = some (PySem.W.instObj C dx) ∧
      ∃ mA, h.Ns1 dx mA ∧ (∀ f, RelO (fs.lookup f) (mA f)) ∧ PySem.Within mA (fs.map (·.1))
  | .own _ => ∃ o, h.get? a = some o
  | .xd fs => ∃ mA, h.Ns1 a mA ∧ ∀ f, RelO (fs.lookup f) (mA f)
  | .rng lo hi => ∃ t u v, h.get? a = some { cls := .type "range", data := .fields #[.int lo t, .int hi u, .int 1 v] }
  | .frz o u => h.get? a = some o ∧ ObjOk H h a u
  | .tbl ps => h.get? a = some { cls := .none, data := .fields ps }
  | .met f x => h.get? a = some (PySem.W.methodObj (.ref f) (.ref x))
  | .ext φ => φ h ∧ (∃ o, h.get? a = some o) ∧ ∀ h1 h2 : Heap, φ h1 → (∀ o, h1.get? a = some o → h2.get? a = some o) → φ h2
/-- the abstract heap is held -/
def HOk (H : Hp) (h : Heap) : Prop := ∀ a o, H a = some o → ObjOk P w H h a o
end

section
variable {P : Program} {w : World} {H H' : Hp} {h h' : Heap} {a : Addr} {o : HO}
theorem ObjOk.lt (x : ObjOk P w H h a o) : a < h.objs.size := by
  cases o with
  | lst xs => obtain ⟨_, _, _, _, e⟩ := x; exact Heap.lt_size e
  | tup xs => obtain ⟨_, _, _, p⟩ := x; exact p.lt
  | dK kvs => obtain ⟨_, _, _, _, o, _, _, e, _⟩ := x; exact Heap.lt_size e
  | dT kvs => obtain ⟨_, _, _, _, o, _, _, e, _⟩ := x; exact Heap.lt_size e
  | set S n => obtain ⟨o, _, _, _, e, _⟩ := x; exact Heap.lt_size e
  | ins C dx fs => obtain ⟨_, _, _, e, _⟩ := x; exact Heap.lt_size e
  | own y => obtain ⟨_, e⟩ := x; exact Heap.lt_size e
  | xd fs => obtain ⟨_, ⟨_, _, _, e, _⟩, _⟩ := x; exact Heap.lt_size e
  | rng lo hi => obtain ⟨_, _, _, e⟩ := x; exact Heap.lt_size e
  | frz ob u => obtain ⟨e, _⟩ := x; exact Heap.lt_size e
  | tbl ps => exact Heap.lt_size (show h.get? a = some _ from x)
  | met f y => exact Heap.lt_size (show h.get? a = some _ from x)
  | ext φ => obtain ⟨_, ⟨_, e⟩, _⟩ := x; exact Heap.lt_size e
theorem Paired.mapP {α β : Type} {F G : α → β → Prop} : ∀ {l₁ : List α} {l₂ : List β}, Paired F l₁ l₂ → (∀ a b, F a b → G a b) → Paired G l₁ l₂
  | _, _, .nil, _ => .nil
  | _, _, .cons r t, f => .cons (f _ _ r) (Paired.mapP t f)
/-- what an object's description leans on: its own object, its own dict, the tuples -/
theorem ObjOk.stay (x : ObjOk P w H h a o) (k : ∀ b u, (b = a ∨ H b = some (.own a)) → h.get? b = some u → h'.get? b = some u)
    (ho : ∀ b, H b = some (.own a) → H' b = some (.own a)) (ht : ∀ b xs, H b = some (.tup xs) → H' b = some (.tup xs)) : ObjOk P w H' h' a o := by
  induction o with
  | lst xs => obtain ⟨z, its, n, r, e⟩ := x; exact ⟨z, its, n, r, k _ _ (.inl rfl) e⟩
  | tup xs => obtain ⟨z, its, r, ob, e, c⟩ := x; exact ⟨z, its, r, ob, k _ _ (.inl rfl) e, c⟩
  | dK kvs => obtain ⟨z, y, vs, r, ob, es, ep, e, c⟩ := x; exact ⟨z, y, vs, r, ob, es, ep, k _ _ (.inl rfl) e, c⟩
  | dT kvs =>
    obtain ⟨z, y, xs, r, ob, es, ep, e, c⟩ := x
    exact ⟨z, y, xs, Paired.mapP r fun p q z => ⟨z.1, ht _ _ z.2.1, z.2.2⟩, ob, es, ep, k _ _ (.inl rfl) e, c⟩
  | set S n => obtain ⟨ob, es, ep, t, e, c⟩ := x; exact ⟨ob, es, ep, t, k _ _ (.inl rfl) e, c⟩
  | ins C dx fs =>
    obtain ⟨d, z, ne, e, mA, ⟨od, es, ep, e2, c⟩, r⟩ := x
    exact ⟨ho _ d, z, ne, k _ _ (.inl rfl) e, mA, ⟨od, es, ep, k _ _ (.inr d) e2, c⟩, r⟩
  | own y => obtain ⟨ob, e⟩ := x; exact ⟨ob, k _ _ (.inl rfl) e⟩
  | xd fs => obtain ⟨mA, ⟨od, es, ep, e, c⟩, r⟩ := x; exact ⟨mA, ⟨od, es, ep, k _ _ (.inl rfl) e, c⟩, r⟩
  | rng lo hi => obtain ⟨t, u, v, e⟩ := x; exact ⟨t, u, v, k _ _ (.inl rfl) e⟩
  | frz ob u ih => obtain ⟨e, q⟩ := x; exact ⟨k _ _ (.inl rfl) e, ih q⟩
  | tbl ps =>
    have e : h.get? a = some { cls := .none, data := .fields ps } := x
    show h'.get? a = some { cls := .none, data := .fields ps }
    exact k a _ (.inl rfl) e
  | met f y =>
    have e : h.get? a = some (PySem.W.methodObj (.ref f) (.ref y)) := x
    show h'.get? a = some (PySem.W.methodObj (.ref f) (.ref y))
    exact k a _ (.inl rfl) e
  | ext φ => obtain ⟨p, ⟨o, e⟩, st⟩ := x; exact ⟨st _ _ p fun o q => k _ _ (.inl rfl) q, ⟨o, k _ _ (.inl rfl) e⟩, st⟩
theorem HOk.lt (x : HOk P w H h) (e : H a = some o) : a < h.objs.size := (x a o e).lt
theorem HOk.fresh (x : HOk P w H h) (e : h.objs.size ≤ a) : H a = none := by
  cases q : H a with
  | none => rfl
  | some u => exact absurd (Nat.lt_of_lt_of_le (x.lt q) e) (Nat.lt_irrefl _)
/-- every object of the heap is kept -/
theorem HOk.kept (x : HOk P w H h) (k : ∀ b u, h.get? b = some u → h'.get? b = some u) : HOk P w H h' := fun a o e =>
  (x a o e).stay (fun b u _ q => k b u q) (fun _ q => q) fun _ _ q => q
/-- a new object is laid and tracked -/
theorem HOk.laid (x : HOk P w H h) (k : ∀ b u, h.get? b = some u → h'.get? b = some u) (hp : h.objs.size ≤ a) (new : ObjOk P w (upd H a o) h' a o) : HOk P w (upd H a o) h' := fun b u e => by
  have hn := x.fresh hp
  by_cases hb : b = a
  · subst hb; rw [upd_same] at e; cases e; exact new
  · rw [upd_ne hb] at e
    exact (x b u e).stay (fun c v _ q => k c v q) (fun c q => by rw [upd_ne (ne_of_none q hn)]; exact q) fun c xs q => by rw [upd_ne (ne_of_none q hn)]; exact q
end

/-- what may be read as u: it is u, or a known u -/
def Rd (H : Hp) (a : Addr) (u : HO) : Prop := H a = some u ∨ ∃ o, H a = some (.frz o u)
theorem Rd.of {H : Hp} {a : Addr} {u : HO} (h : H a = some u) : Rd H a u := .inl h
theorem Rd.ok {P : Program} {w : World} {H : Hp} {h : Heap} {a : Addr} {u : HO} (r : Rd H a u) (x : HOk P w H h) : ObjOk P w H h a u := by
  rcases r with r | ⟨o, r⟩
  · exact x a u r
  · obtain ⟨_, q⟩ := x a _ r
    exact q
/-- what may be written -/
def Mut : Option HO → Prop
  | some (.lst _) => True
  | some (.dK _) => True
  | some (.dT _) => True
  | some (.set _ _) => True
  | some (.ins _ _ _) => True
  | some (.ext _) => True
  | _ => False
section
variable {P : Program} {w : World} {H : Hp} {h h' : Heap} {x e : Addr} {o' : HO}
/-- the object at e is changed: x itself, or the dict of the instance x -/
theorem HOk.write (ok : HOk P w H h) (mu : Mut (H x)) (he : e = x ∨ H e = some (.own x)) (k : ∀ b u, b ≠ e → h.get? b = some u → h'.get? b = some u) (heo : ∃ u, h'.get? e = some u)
    (new : ObjOk P w (upd H x o') h' x o') : HOk P w (upd H x o') h' := fun b u q => by
  have nown : ∀ c y, H c = some (.own y) → c ≠ x := fun c y r z => by subst z; rw [r] at mu; exact mu
  have ntup : ∀ c xs, H c = some (.tup xs) → c ≠ x := fun c xs r z => by subst z; rw [r] at mu; exact mu
  by_cases hb : b = x
  · subst hb; rw [upd_same] at q; cases q; exact new
  · rw [upd_ne hb] at q
    by_cases hbe : b = e
    · have q' : H b = some (.own x) := by
        rcases he with z | z
        · exact absurd (hbe.trans z) hb
        · rw [hbe]; exact z
      rw [q] at q'; cases q'
      obtain ⟨v, hv⟩ := heo
      exact ⟨v, by rw [hbe]; exact hv⟩
    · refine (ok b u q).stay (fun c v hc r => k c v ?_ r) (fun c r => by rw [upd_ne (nown c b r)]; exact r) fun c xs r => by rw [upd_ne (ntup c xs r)]; exact r
      rcases hc with rfl | hc
      · exact hbe
      · rintro rfl
        rcases he with z | z
        · exact nown c b hc z
        · rw [hc] at z; cases z; exact hb rfl
end

/-! ### kept unless tracked; of the frames at fs (the callers') the slots may change (an exception that passes writes there); of the records at ex (iterators) nothing is said -/
structure Un (fs ex : List Addr) (H H' : Hp) (h h' : Heap) : Prop where
  keep : ∀ b o, h.get? b = some o → H b = none → b ∉ fs → b ∉ ex → h'.get? b = some o
  slot : ∀ b o, h.get? b = some o → H b = none → b ∈ fs → b ∉ ex → ∃ sl, h'.get? b = some { o with slots := sl }
  free : ∀ b o, h.get? b = some o → H b = none → b ∉ ex → H' b = none
  there : ∀ b o, h.get? b = some o → b ∉ ex → ∃ o', h'.get? b = some o'
  tups : ∀ b xs, H b = some (.tup xs) → H' b = some (.tup xs)
  frzs : ∀ b o u, H b = some (.frz o u) → H' b = some (.frz o u)
  tbls : ∀ b ps, H b = some (.tbl ps) → ∃ more, H' b = some (.tbl (ps ++ more))
section
variable {fs fs' ex ex' : List Addr} {H H1 H2 : Hp} {h h1 h2 h' : Heap} {a x e : Addr} {o : HO}
theorem Un.any (u : Un fs ex H H1 h h1) {b : Addr} {ob : Obj} (q : h.get? b = some ob) (n : H b = none) (hx : b ∉ ex) : ∃ sl, h1.get? b = some { ob with slots := sl } := by
  by_cases hb : b ∈ fs
  · exact u.slot b ob q n hb hx
  · exact ⟨ob.slots, u.keep b ob q n hb hx⟩
theorem Un.trans (a : Un fs ex H H1 h h1) (b : Un fs ex H1 H2 h1 h2) : Un fs ex H H2 h h2 where
  keep := fun c ob q n hc hx => b.keep c ob (a.keep c ob q n hc hx) (a.free c ob q n hx) hc hx
  slot := fun c ob q n hc hx => by
    obtain ⟨sl, e1⟩ := a.slot c ob q n hc hx
    obtain ⟨sl', e2⟩ := b.slot c _ e1 (a.free c ob q n hx) hc hx
    exact ⟨sl', e2⟩
  free := fun c ob q n hx => by
    obtain ⟨o', e1⟩ := a.there c ob q hx
    exact b.free c o' e1 (a.free c ob q n hx) hx
  there := fun c ob q hx => by
    obtain ⟨o', e1⟩ := a.there c ob q hx
    exact b.there c o' e1 hx
  tups := fun c xs q => b.tups c xs (a.tups c xs q)
  frzs := fun c ob xs q => b.frzs c ob xs (a.frzs c ob xs q)
  tbls := fun c ps q => by
    obtain ⟨m1, e1⟩ := a.tbls c ps q
    obtain ⟨m2, e2⟩ := b.tbls c _ e1
    exact ⟨m1 ++ m2, by rw [e2, Array.append_assoc]⟩
theorem Un.kept (k : ∀ b u, h.get? b = some u → h'.get? b = some u) : Un fs ex H H h h' :=
  ⟨fun b ob q _ _ _ => k b ob q, fun b ob q _ _ _ => ⟨ob.slots, k b ob q⟩, fun _ _ _ n _ => n, fun b ob q _ => ⟨ob, k b ob q⟩, fun _ _ q => q, fun _ _ _ q => q, fun _ ps q => ⟨#[], by rw [q]; simp⟩⟩
theorem Un.refl : Un fs ex H H h h := Un.kept fun _ _ q => q
theorem Un.laid (k : ∀ b u, h.get? b = some u → h'.get? b = some u) (hp : h.objs.size ≤ a) (hn : H a = none) : Un fs ex H (upd H a o) h h' where
  keep := fun b u q _ _ _ => k b u q
  slot := fun b u q _ _ _ => ⟨u.slots, k b u q⟩
  free := fun b u q n _ => by rw [upd_ne (Nat.ne_of_lt (Nat.lt_of_lt_of_le (Heap.lt_size q) hp))]; exact n
  there := fun b u q _ => ⟨u, k b u q⟩
  tups := fun b xs q => by rw [upd_ne (ne_of_none q hn)]; exact q
  frzs := fun b u xs q => by rw [upd_ne (ne_of_none q hn)]; exact q
  tbls := fun b ps q => ⟨#[], by rw [upd_ne (ne_of_none q hn), q]; simp⟩
theorem Un.write (mu : Mut (H x)) (he : e = x ∨ H e = some (.own x)) (k : ∀ b u, b ≠ e → h.get? b = some u → h'.get? b = some u) (heo : ∃ u, h'.get? e = some u) : Un fs ex H (upd H x o) h h' := by
  have hx : ∀ b, H b = none → b ≠ x := fun b n z => by subst z; rw [n] at mu; exact mu
  have hb : ∀ b, H b = none → b ≠ e := fun b n z => by
    subst z
    rcases he with r | r
    · exact hx b n r
    · rw [n] at r; cases r
  have hm : ∀ b u, H b = some u → ¬ Mut (some u) → b ≠ x := fun b u q nm z => by subst z; rw [q] at mu; exact nm mu
  refine ⟨fun b u q n _ _ => k b u (hb b n) q, fun b u q n _ _ => ⟨u.slots, k b u (hb b n) q⟩, fun b u q n _ => by rw [upd_ne (hx b n)]; exact n, fun b u q _ => ?_,
    fun b xs q => by rw [upd_ne (hm b _ q fun z => z)]; exact q, fun b u xs q => by rw [upd_ne (hm b _ q fun z => z)]; exact q, fun b ps q => ⟨#[], by rw [upd_ne (hm b _ q fun z => z), q]; simp⟩⟩
  by_cases hbe : b = e
  · subst hbe; exact heo
  · exact ⟨u, k b u hbe q⟩
theorem Un.mono (u : Un fs ex H H1 h h1) (hs : ∀ b ∈ fs, b ∈ fs') (hx : ∀ b ∈ ex, b ∈ ex') : Un fs' ex' H H1 h h1 :=
  ⟨fun b ob q n hb he => u.keep b ob q n (fun z => hb (hs b z)) fun z => he (hx b z), fun _ _ q n _ he => u.any q n fun z => he (hx _ z), fun b ob q n he => u.free b ob q n fun z => he (hx b z), fun b ob q he => u.there b ob q fun z => he (hx b z), u.tups, u.frzs, u.tbls⟩
end

/-! ### the heap without what is tracked -/
def trk (h : Heap) (H : Hp) : List Addr := (List.range h.objs.size).filter fun a => (H a).isSome
def hidT (h : Heap) (H : Hp) : Heap := PySem.W.hideAll h (trk h H)
theorem hidT_size (h : Heap) (H : Hp) : (hidT h H).objs.size = h.objs.size := PySem.W.hideAll_size _ _
theorem hidT_get {h : Heap} {H : Hp} {b : Addr} {o : Obj} (e : h.get? b = some o) (n : H b = none) : (hidT h H).get? b = some o :=
  PySem.W.hideAll_get _ e fun hm => by
    have q : (H b).isSome = true := (List.mem_filter.mp hm).2
    rw [n] at q; simp at q
theorem of_hidT {h : Heap} {H : Hp} {b : Addr} {o : Obj} (e : (hidT h H).get? b = some o) : h.get? b = some o ∧ H b = none := by
  have e' : h.get? b = some o := PySem.W.of_hideAll (trk h H) e
  refine ⟨e', ?_⟩
  cases q : H b with
  | none => rfl
  | some x =>
    have hm : b ∈ trk h H := List.mem_filter.mpr ⟨List.mem_range.mpr (Heap.lt_size e'), by simp [q]⟩
    have z : (hidT h H).get? b = none := PySem.W.hideAll_none (trk h H) hm
    rw [z] at e; cases e

/-! ### OpenK's ledger, filled with every new object but one -/
def allNews (g h : Heap) (L : Addr) : List (Addr × Obj) := (List.range h.objs.size).filterMap fun a => if a = L ∨ (g.get? a).isSome = true then none else (h.get? a).map fun o => (a, o)
def rest (g h : Heap) (L d : Addr) : List (Addr × Obj) := (allNews g h L).filter fun p => decide (p.1 ≠ d)
end L2

namespace L2
open PySem PySem.Spec PyProof.Rows

/-- the module's facts, over the base: the heap at the law's entry without what is tracked there -/
structure Mod (K : PySem.W.Frag) (mg : Str → Option Value) (base : Heap) : Prop where
  kin : K.In base
  glob : base.Ns mainGlobals mg
  blt : ∃ mb, base.Ns builtinsNs mb ∧ ∀ x : Str, x ≠ "__name__" → mb x = bootBuiltins x
  nolimit : base.NoLimit

/-- the context: a def's body (or a comprehension's block) running. base: fixed through the whole law; s₀, H₀: the entry; outer: the frames whose slots others may change (a def's callers); stack: all frames that run;
   ex: iterators that were made ahead of the entry and are walked here (a comprehension's); fn: the names whose cells were made at the entry (a def: all; a comprehension's block: its own); calm: not within an except suite; pn: pins that every state bears; xe: what is wanted of an exception that leaves the code -/
structure Cx where
  prog : Program
  w : World
  K : PySem.W.Frag
  mg : Str → Option Value
  base : Heap
  A : Around
  N : List Str
  s₀ : Shared
  H₀ : Hp
  env : Env
  outer : List Env
  stack : List Env
  ex : List Addr
  fn : Str → Bool
  calm : Bool
  pn : List (Addr × Obj)
  xe : Value → Shared → Prop
/-- the callers' frames -/
def frs (l : List Env) : List Addr := l.filterMap (·.frame)
abbrev Cx.fs (X : Cx) : List Addr := frs X.outer

def Vis (sc : Scope) (x : Str) : Prop := sc.names.lookup x = some .local ∨ sc.names.lookup x = some .cell ∨ sc.names.lookup x = some .free
def Loc (sc : Scope) (x : Str) : Prop := sc.names.lookup x = some .local ∨ sc.names.lookup x = some .cell
def Look (env : Env) (h : Heap) (m : Str → Option Value) (x : Str) (u : Value) : Prop :=
  (env.kindOf x = some .local ∧ m x = some u) ∨ ((env.kindOf x = some .cell ∨ env.kindOf x = some .free) ∧ ∃ c, env.cells.lookup x = some c ∧ h.IsCell c (some u))

structure Cx.Ok (X : Cx) : Prop where
  mod : Mod X.K X.mg X.base
  kind : X.env.scope.kind = .function
  glob : X.env.globals = mainGlobals
  blt : X.env.builtins = builtinsNs
  above : X.s₀.heap.objs.size ≤ X.env.locals
  inj : ∀ x y c, X.env.cells.lookup x = some c → X.env.cells.lookup y = some c → x = y
  has : ∀ x, (X.env.kindOf x = some .cell ∨ X.env.kindOf x = some .free) → ∃ c, X.env.cells.lookup x = some c
  cab : ∀ x c, X.fn x = true → X.env.cells.lookup x = some c → X.s₀.heap.objs.size ≤ c
  hd : X.calm = true → X.A.handled = none
  frames : X.A.frames = some X.stack
  stk : X.stack = X.outer ∨ (X.stack = X.env :: X.outer ∧ X.env.frame = some X.env.locals)
  exf : ∀ b ∈ X.ex, b ≠ X.env.locals ∧ ∀ x c, X.env.cells.lookup x = some c → c ≠ b
  bs : ∀ b o, X.base.get? b = some o → X.s₀.heap.get? b = some o ∧ X.H₀ b = none
  bsz : X.base.objs.size ≤ X.s₀.heap.objs.size
  noex : ∀ b o, X.base.get? b = some o → b ∉ X.ex
  exfs : ∀ b ∈ X.ex, b ∉ X.fs
  funs : X.s₀.heap.FunFrames X.base X.outer
  frf : ∀ b ∈ X.fs, X.H₀ b = none

structure Inv (X : Cx) (pins : List (Addr × Obj)) (σ : List (Option V)) (H : Hp) (s : Shared) : Prop where
  ok : X.Ok
  os : s.os = X.s₀.os
  bare : AllBare s.gens
  base : Un X.fs X.ex X.H₀ H X.s₀.heap s.heap
  loc : ∃ m, s.heap.Ns X.env.locals m ∧ ∀ (i : Nat) (x : Str) (v : V), X.N[i]? = some x → σ[i]? = some (some v) → Vis X.env.scope x → ∃ u, RelV v u ∧ Look X.env s.heap m x u
  cell : ∀ x c, X.env.cells.lookup x = some c → ∃ v, s.heap.IsCell c v
  free : H X.env.locals = none
  freeC : ∀ x c, X.env.cells.lookup x = some c → H c = none
  pin : ∀ p ∈ X.pn ++ pins, s.heap.get? p.1 = some p.2 ∧ H p.1 = none ∧ p.1 ≠ X.env.locals ∧ p.1 ∉ X.fs ∧ ∀ v, p.2.data ≠ .cell v
  hok : HOk X.prog X.w H s.heap
  len : σ.length = X.N.length

section
variable {X : Cx} {pins : List (Addr × Obj)} {σ : List (Option V)} {H H' : Hp} {s : Shared} {h' : Heap}

theorem Cx.Ok.nofr (ok : X.Ok) {b : Addr} {o : Obj} (e : X.base.get? b = some o) : b ∉ X.fs := fun hb => by
  have := (ok.funs.mem hb).1
  rw [e] at this; cases this
theorem Inv.bs (I : Inv X pins σ H s) : ∀ b o, X.base.get? b = some o → s.heap.get? b = some o ∧ H b = none := fun b o e =>
  ⟨I.base.keep b o (I.ok.bs b o e).1 (I.ok.bs b o e).2 (I.ok.nofr e) (I.ok.noex b o e), I.base.free b o (I.ok.bs b o e).1 (I.ok.bs b o e).2 (I.ok.noex b o e)⟩
theorem Inv.bk (I : Inv X pins σ H s) : ∀ b o, X.base.get? b = some o → s.heap.get? b = some o := fun b o e => (I.bs b o e).1
theorem Inv.mod (I : Inv X pins σ H s) : Mod X.K X.mg X.base := I.ok.mod
theorem Inv.kIn (I : Inv X pins σ H s) : X.K.In s.heap := I.ok.mod.kin.keeps I.bk
/-- the frame over the base: for OpenK's rules (K.In X.base is I.mod.kin) -/
theorem Inv.fr (I : Inv X pins σ H s) : ∃ m, Fr X.base X.env.locals s.heap m :=
  let ⟨m, hn, _⟩ := I.loc
  ⟨m, hn, I.bk, Nat.le_trans I.ok.bsz I.ok.above⟩
theorem Inv.lt (I : Inv X pins σ H s) : X.env.locals < s.heap.objs.size := let ⟨_, hn, _⟩ := I.loc; hn.lt
theorem Inv.sz (I : Inv X pins σ H s) : X.s₀.heap.objs.size ≤ s.heap.objs.size := Nat.le_trans I.ok.above (Nat.le_of_lt I.lt)
theorem Inv.nofs (I : Inv X pins σ H s) {a : Addr} (h : s.heap.objs.size ≤ a) : a ∉ X.fs := fun hb => by
  obtain ⟨_, o, ho, _⟩ := I.ok.funs.mem hb
  exact absurd (Nat.lt_of_lt_of_le (Heap.lt_size ho) (Nat.le_trans I.sz h)) (Nat.lt_irrefl _)
theorem Inv.cne (I : Inv X pins σ H s) : ∀ x c, X.env.cells.lookup x = some c → c ≠ X.env.locals := fun x c e z => by
  obtain ⟨v, o, ho, hd⟩ := I.cell x c e
  obtain ⟨m, ⟨o', es, ep, ho', hd', _⟩, _⟩ := I.loc
  rw [z, ho'] at ho; cases ho; rw [hd'] at hd; cases hd
theorem Inv.funs (I : Inv X pins σ H s) : s.heap.FunFrames X.base X.outer := by
  have all : ∀ (l : List Env), (∀ b ∈ frs l, b ∈ X.fs) → X.s₀.heap.FunFrames X.base l → s.heap.FunFrames X.base l := by
    intro l
    induction l with
    | nil => intro _ _; trivial
    | cons env r ih =>
      intro hs hl
      obtain ⟨hk, ⟨L, o, hf, hn, ho, hd⟩, hr⟩ := hl
      have hL : L ∈ X.fs := hs L (by unfold frs; rw [List.filterMap_cons, hf]; exact List.mem_cons_self)
      obtain ⟨sl, e⟩ := I.base.slot L o ho (I.ok.frf L hL) hL fun z => I.ok.exfs L z hL
      exact ⟨hk, ⟨L, _, hf, hn, e, hd⟩, ih (fun b hb => hs b (by unfold frs; rw [List.filterMap_cons, hf]; exact List.mem_cons_of_mem _ hb)) hr⟩
  exact all X.outer (fun _ hb => hb) I.ok.funs

/-- the frames that run, for a call -/
theorem Inv.stack (I : Inv X pins σ H s) : s.heap.FunFrames X.base X.stack := by
  rcases I.ok.stk with e | ⟨e, hf⟩
  · rw [e]; exact I.funs
  · rw [e]
    obtain ⟨m, hn, _⟩ := I.loc
    refine .cons (by rw [I.ok.kind]; decide) hf hn ?_ I.funs
    exact Heap.get?_none_of_le (Nat.le_trans I.ok.bsz I.ok.above)
theorem Inv.stkSub (I : Inv X pins σ H s) : ∀ b ∈ frs X.stack, b ∈ X.env.locals :: X.fs := fun b hb => by
  rcases I.ok.stk with e | ⟨e, hf⟩
  · rw [e] at hb; exact List.mem_cons_of_mem _ hb
  · rw [e] at hb
    unfold frs at hb
    rw [List.filterMap_cons, hf] at hb
    exact hb
theorem Inv.stkFree (I : Inv X pins σ H s) : ∀ b ∈ frs X.stack, H b = none := fun b hb => by
  rcases List.mem_cons.mp (I.stkSub b hb) with e | hb
  · rw [e]; exact I.free
  · obtain ⟨_, o, ho, _⟩ := I.ok.funs.mem hb
    exact I.base.free b o ho (I.ok.frf b hb) fun z => I.ok.exfs b z hb

/-- THE STEP: the untracked objects but the frame and the records at ch are kept (the callers' frames up to slots), the frame's map is kept, the new abstract heap is held -/
theorem Inv.step {g' : Array GenState} {t' : Nat} {d' : Drawn} {ch : List Addr} (I : Inv X pins σ H s)
    (hch : ∀ b ∈ ch, (b ∈ X.ex ∨ X.s₀.heap.objs.size ≤ b) ∧ b ≠ X.env.locals ∧ (∀ x c, X.env.cells.lookup x = some c → c ≠ b) ∧ ∀ p ∈ X.pn ++ pins, p.1 ≠ b)
    (keep : ∀ b o, b ≠ X.env.locals → b ∉ X.fs → b ∉ ch → s.heap.get? b = some o → H b = none → h'.get? b = some o)
    (slot : ∀ b o, b ≠ X.env.locals → b ∈ X.fs → b ∉ ch → s.heap.get? b = some o → H b = none → ∃ sl, h'.get? b = some { o with slots := sl }) (free : ∀ b o, b ∉ ch → s.heap.get? b = some o → H b = none → H' b = none)
    (there : ∀ b o, b ∉ ch → s.heap.get? b = some o → ∃ o', h'.get? b = some o')
    (tups : ∀ b xs, H b = some (.tup xs) → H' b = some (.tup xs)) (frzs : ∀ b o u, H b = some (.frz o u) → H' b = some (.frz o u)) (tbls : ∀ b ps, H b = some (.tbl ps) → ∃ more, H' b = some (.tbl (ps ++ more)))
    (ns : ∀ m, s.heap.Ns X.env.locals m → h'.Ns X.env.locals m) (hok : HOk X.prog X.w H' h') (hg : AllBare g') :
    Inv X pins σ H' { s with heap := h', gens := g', drawn := d', toks := t' } := by
  have neL : ∀ b o, X.s₀.heap.get? b = some o → b ≠ X.env.locals := fun b o e => Nat.ne_of_lt (Nat.lt_of_lt_of_le (Heap.lt_size e) I.ok.above)
  have neC : ∀ b o, X.s₀.heap.get? b = some o → b ∉ X.ex → b ∉ ch := fun b o e hx hb => by
    rcases (hch b hb).1 with z | z
    · exact hx z
    · exact absurd (Nat.lt_of_lt_of_le (Heap.lt_size e) z) (Nat.lt_irrefl _)
  have cellK : ∀ x c, X.env.cells.lookup x = some c → ∀ v, s.heap.IsCell c v → h'.IsCell c v := fun x c e v ⟨o, ho, hd⟩ => by
    have nch : c ∉ ch := fun z => (hch c z).2.2.1 x c e rfl
    by_cases hc : c ∈ X.fs
    · obtain ⟨sl, q⟩ := slot c o (I.cne x c e) hc nch ho (I.freeC x c e)
      exact ⟨_, q, hd⟩
    · exact ⟨o, keep c o (I.cne x c e) hc nch ho (I.freeC x c e), hd⟩
  refine ⟨I.ok, I.os, hg, ⟨fun b o e n hb hx => ?_, fun b o e n hb hx => ?_, fun b o e n hx => ?_, fun b o e hx => ?_, fun b xs e => tups b xs (I.base.tups b xs e), fun b o xs e => frzs b o xs (I.base.frzs b o xs e), fun b ps e => ?_⟩, ?_, fun x c e => ?_, ?_, fun x c e => ?_, fun p hp => ?_, hok, I.len⟩
  · exact keep b o (neL b o e) hb (neC b o e hx) (I.base.keep b o e n hb hx) (I.base.free b o e n hx)
  · obtain ⟨sl, e1⟩ := I.base.slot b o e n hb hx
    obtain ⟨sl', e2⟩ := slot b _ (neL b o e) hb (neC b o e hx) e1 (I.base.free b o e n hx)
    exact ⟨sl', e2⟩
  · obtain ⟨o', e1⟩ := I.base.there b o e hx
    exact free b o' (neC b o e hx) e1 (I.base.free b o e n hx)
  · obtain ⟨o', e1⟩ := I.base.there b o e hx
    exact there b o' (neC b o e hx) e1
  · obtain ⟨m1, e1⟩ := I.base.tbls b ps e
    obtain ⟨m2, e2⟩ := tbls b _ e1
    exact ⟨m1 ++ m2, by rw [e2, Array.append_assoc]⟩
  · obtain ⟨m, hn, hl⟩ := I.loc
    refine ⟨m, ns m hn, fun i x v e1 e2 e3 => ?_⟩
    obtain ⟨u, r, l⟩ := hl i x v e1 e2 e3
    refine ⟨u, r, ?_⟩
    rcases l with l | ⟨k, c, e, z⟩
    · exact .inl l
    · exact .inr ⟨k, c, e, cellK x c e _ z⟩
  · obtain ⟨v, z⟩ := I.cell x c e
    exact ⟨v, cellK x c e v z⟩
  · obtain ⟨m, ⟨o, _, _, ho, _⟩, _⟩ := I.loc
    exact free _ o (fun z => (hch _ z).2.1 rfl) ho I.free
  · obtain ⟨v, o, ho, hd⟩ := I.cell x c e
    exact free c o (fun z => (hch c z).2.2.1 x c e rfl) ho (I.freeC x c e)
  · obtain ⟨e, n, ne, nf, d⟩ := I.pin p hp
    have nch : p.1 ∉ ch := fun z => (hch p.1 z).2.2.2 p hp rfl
    exact ⟨keep p.1 p.2 ne nf nch e n, free p.1 p.2 nch e n, ne, nf, d⟩
/-- .. where the frame's own object is kept too -/
theorem Inv.un {t' : Nat} (I : Inv X pins σ H s) (u : Un X.fs [] H H' s.heap h') (hok : HOk X.prog X.w H' h') : Inv X pins σ H' { s with heap := h', toks := t' } := by
  obtain ⟨m, ⟨o, es, ep, ho, r⟩, _⟩ := id I.loc
  obtain ⟨sl, hL⟩ := u.any ho I.free (by simp)
  exact I.step (g' := s.gens) (d' := s.drawn) (ch := []) (fun _ z => nomatch z) (fun b o _ hb _ e n => u.keep b o e n hb (by simp)) (fun b o _ hb _ e n => u.slot b o e n hb (by simp)) (fun b o _ e n => u.free b o e n (by simp)) (fun b o _ e => u.there b o e (by simp)) u.tups u.frzs u.tbls (fun m' hm => by
    obtain ⟨o', es', ep', ho', r'⟩ := hm
    rw [ho] at ho'; cases ho'
    exact ⟨_, es', ep', hL, r'⟩) hok I.bare
/-- behind a call (or a comprehension's block): the slots of this frame may have changed too, the records at ch may have turned -/
theorem Inv.call {g' : Array GenState} {t' : Nat} {d' : Drawn} {ch : List Addr} (I : Inv X pins σ H s) (u : Un (frs X.stack) ch H H' s.heap h') (hok : HOk X.prog X.w H' h') (hg : AllBare g')
    (hch : ∀ b ∈ ch, (b ∈ X.ex ∨ X.s₀.heap.objs.size ≤ b) ∧ b ≠ X.env.locals ∧ (∀ x c, X.env.cells.lookup x = some c → c ≠ b) ∧ ∀ p ∈ X.pn ++ pins, p.1 ≠ b) :
    Inv X pins σ H' { s with heap := h', gens := g', drawn := d', toks := t' } := by
  obtain ⟨m, ⟨o, es, ep, ho, r⟩, _⟩ := id I.loc
  obtain ⟨sl, hL⟩ := u.any ho I.free fun z => (hch _ z).2.1 rfl
  exact I.step (ch := ch) hch (fun b o hL hb hc e n => u.keep b o e n (fun z => (List.mem_cons.mp (I.stkSub b z)).elim hL hb) hc) (fun b o _ _ hc e n => u.any e n hc) (fun b o hc e n => u.free b o e n hc) (fun b o hc e => u.there b o e hc) u.tups u.frzs u.tbls (fun m' hm => by
    obtain ⟨o', es', ep', ho', r'⟩ := hm
    rw [ho] at ho'; cases ho'
    exact ⟨_, es', ep', hL, r'⟩) hok hg
/-- an untracked record of ours (an iterator) has turned -/
theorem Inv.turned {t' : Nat} {it : Addr} (I : Inv X pins σ H s) (k : ∀ b o, b ≠ it → s.heap.get? b = some o → h'.get? b = some o) (hn : H it = none) (hL : it ≠ X.env.locals)
    (h1 : it ∈ X.ex ∨ X.s₀.heap.objs.size ≤ it) (h2 : ∀ x c, X.env.cells.lookup x = some c → c ≠ it) (h3 : ∀ p ∈ X.pn ++ pins, p.1 ≠ it) : Inv X pins σ H { s with heap := h', toks := t' } := by
  have nit : ∀ b u, H b = some u → b ≠ it := fun b u e z => by rw [z, hn] at e; cases e
  refine I.step (g' := s.gens) (d' := s.drawn) (ch := [it]) (fun b hb => ?_) (fun b o _ _ hc e _ => k b o (fun z => hc (by simp [z])) e) (fun b o _ _ hc e _ => ⟨o.slots, k b o (fun z => hc (by simp [z])) e⟩) (fun _ _ _ _ n => n)
    (fun b o hc e => ⟨o, k b o (fun z => hc (by simp [z])) e⟩) (fun _ _ e => e) (fun _ _ _ e => e) (fun b ps e => ⟨#[], by rw [e]; simp⟩) (fun m hm => ?_) (fun b u e => ?_) I.bare
  · have e : b = it := by simpa using hb
    subst e
    exact ⟨h1, hL, h2, h3⟩
  · obtain ⟨o, es, ep, ho, r⟩ := hm
    exact ⟨o, es, ep, k _ o (Ne.symm hL) ho, r⟩
  · refine (I.hok b u e).stay (fun c v hc q => k c v ?_ q) (fun _ q => q) fun _ _ q => q
    rcases hc with z | z
    · rw [z]; exact nit b u e
    · exact nit c _ z
theorem Inv.tok (I : Inv X pins σ H s) (t : Nat) : Inv X pins σ H { s with toks := t } := I.un (h' := s.heap) (t' := t) Un.refl I.hok
/-- all objects kept -/
theorem Inv.kept {t' : Nat} (I : Inv X pins σ H s) (k : ∀ b u, s.heap.get? b = some u → h'.get? b = some u) : Inv X pins σ H { s with heap := h', toks := t' } := I.un (Un.kept k) (I.hok.kept k)
/-- a new object laid and tracked -/
theorem Inv.laid {a : Addr} {o : HO} {t' : Nat} (I : Inv X pins σ H s) (k : ∀ b u, s.heap.get? b = some u → h'.get? b = some u) (hp : s.heap.objs.size ≤ a) (new : ObjOk X.prog X.w (upd H a o) h' a o) :
    Inv X pins σ (upd H a o) { s with heap := h', toks := t' } := I.un (Un.laid k hp (I.hok.fresh hp)) (I.hok.laid k hp new)
/-- an object written -/
theorem Inv.write {x e : Addr} {o : HO} {t' : Nat} (I : Inv X pins σ H s) (mu : Mut (H x)) (he : e = x ∨ H e = some (.own x)) (k : ∀ b u, b ≠ e → s.heap.get? b = some u → h'.get? b = some u) (heo : ∃ u, h'.get? e = some u)
    (new : ObjOk X.prog X.w (upd H x o) h' x o) : Inv X pins σ (upd H x o) { s with heap := h', toks := t' } := I.un (Un.write mu he k heo) (I.hok.write mu he k heo new)
theorem Inv.pins_of {pins' : List (Addr × Obj)} (I : Inv X pins σ H s) (h : ∀ p ∈ pins', s.heap.get? p.1 = some p.2 ∧ H p.1 = none ∧ p.1 ≠ X.env.locals ∧ p.1 ∉ X.fs ∧ ∀ v, p.2.data ≠ .cell v) : Inv X pins' σ H s :=
  ⟨I.ok, I.os, I.bare, I.base, I.loc, I.cell, I.free, I.freeC, fun p hp => (List.mem_append.mp hp).elim (fun z => I.pin p (List.mem_append_left _ z)) (h p), I.hok, I.len⟩

theorem nodup_ix {N : List Str} (hN : N.Nodup) {i j : Nat} {x : Str} (a : N[i]? = some x) (b : N[j]? = some x) : i = j := by
  obtain ⟨h1, e1⟩ := List.getElem?_eq_some_iff.mp a
  obtain ⟨h2, e2⟩ := List.getElem?_eq_some_iff.mp b
  exact (List.getElem_inj hN).mp (e1.trans e2.symm)

/-- a name is stored; what changed -/
theorem store_ok2 {M : Model} {A : Around} {E : Value → Shared → Prop} {i : Nat} {x : Str} {v : V} {u : Value} {Q : Unit → Shared → Prop} (I : Inv X pins σ H s) (hN : X.N.Nodup) (hi : X.N[i]? = some x) (hx : Loc X.env.scope x) (r : RelV v u)
    (h : ∀ s', Inv X pins (σ.set i (some v)) H s' → (∃ a, Heap.SameBut a s.heap s'.heap ∧ (a = X.env.locals ∨ X.env.cells.lookup x = some a)) → Q () s') (hf : X.fn x = true ∨ X.env.scope.names.lookup x = some .local := by first | exact .inl rfl | exact .inr rfl | assumption) : wpAny M A (storeName X.env x u) Q E s := by
  obtain ⟨m, hn, hl⟩ := id I.loc
  have hcls : (X.env.scope.kind == .class || (X.env.scope.kind == .module && X.env.locals != X.env.globals)) = false := by rw [I.ok.kind]; rfl
  have hiσ : i < σ.length := by rw [I.len]; exact (List.getElem?_eq_some_iff.mp hi).1
  have cne := I.cne
  have tracked : ∀ {a : Addr} {h' : Heap}, (∃ o, s.heap.get? a = some o ∧ H a = none) → Heap.SameBut a s.heap h' → HOk X.prog X.w H h' := fun {a h'} ha hs b ob e => by
    obtain ⟨_, _, hfree⟩ := ha
    refine (I.hok b ob e).stay (fun c w' hc q => (hs.2 c ?_).trans q) (fun _ q => q) fun _ _ q => q
    rintro rfl
    rcases hc with rfl | hc
    · rw [hfree] at e; cases e
    · rw [hfree] at hc; cases hc
  rcases hx with hk | hk
  · refine wpAny_storeName_local hk hn (fun h' hn' hs => ?_) hcls
    obtain ⟨oL, _, _, hoL, _⟩ := id hn
    refine h _ ⟨I.ok, I.os, I.bare, ⟨fun b o e n hb hx => ?_, fun b o e n hb hx => ?_, I.base.free, fun b o e hx => ?_, I.base.tups, I.base.frzs, I.base.tbls⟩, ⟨_, hn', fun j y v' e1 e2 e3 => ?_⟩, fun y c e => ?_, I.free, I.freeC, fun p hp => ?_, tracked ⟨oL, hoL, I.free⟩ hs, by simpa using I.len⟩ ⟨_, hs, .inl rfl⟩
    · exact (hs.2 b (Nat.ne_of_lt (Nat.lt_of_lt_of_le (Heap.lt_size e) I.ok.above))).trans (I.base.keep b o e n hb hx)
    · obtain ⟨sl, e1⟩ := I.base.slot b o e n hb hx
      exact ⟨sl, (hs.2 b (Nat.ne_of_lt (Nat.lt_of_lt_of_le (Heap.lt_size e) I.ok.above))).trans e1⟩
    · obtain ⟨o', e1⟩ := I.base.there b o e hx
      exact ⟨o', (hs.2 b (Nat.ne_of_lt (Nat.lt_of_lt_of_le (Heap.lt_size e) I.ok.above))).trans e1⟩
    · by_cases hj : j = i
      · subst hj
        rw [hi] at e1; cases e1
        rw [List.getElem?_set_self hiσ] at e2
        cases e2
        exact ⟨u, r, .inl ⟨hk, by simp⟩⟩
      · rw [List.getElem?_set_ne (Ne.symm hj)] at e2
        obtain ⟨u', r', q⟩ := hl j y v' e1 e2 e3
        refine ⟨u', r', ?_⟩
        rcases q with ⟨k, e⟩ | ⟨k, c, e, z⟩
        · refine .inl ⟨k, ?_⟩
          have : y ≠ x := fun e => hj (nodup_ix hN e1 (e ▸ hi))
          simp [this, e]
        · exact .inr ⟨k, c, e, z.sameBut hs (cne y c e)⟩
    · obtain ⟨w', z⟩ := I.cell y c e
      exact ⟨w', z.sameBut hs (cne y c e)⟩
    · obtain ⟨e, n, ne, nf, d⟩ := I.pin p hp
      exact ⟨(hs.2 p.1 ne).trans e, n, ne, nf, d⟩
  · have hfn : X.fn x = true := by
      rcases hf with z | z
      · exact z
      · rw [z] at hk; cases hk
    obtain ⟨c, hc⟩ := I.ok.has x (.inl hk)
    obtain ⟨w', z⟩ := I.cell x c hc
    refine wpAny_storeName_cell I.ok.kind hk hc z (fun h' hc' hs => ?_)
    obtain ⟨oc, hoc, hocd⟩ := id z
    refine h { s with heap := h' } ⟨I.ok, I.os, I.bare, ⟨fun b o e n hb hx => ?_, fun b o e n hb hx => ?_, I.base.free, fun b o e hx => ?_, I.base.tups, I.base.frzs, I.base.tbls⟩, ⟨m, hn.sameBut hs (Ne.symm (cne x c hc)), fun j y v' e1 e2 e3 => ?_⟩, fun y c' e => ?_, I.free, I.freeC, fun p hp => ?_, tracked ⟨oc, hoc, I.freeC x c hc⟩ hs, by simpa using I.len⟩ ⟨c, hs, .inr hc⟩
    · exact (hs.2 b (Nat.ne_of_lt (Nat.lt_of_lt_of_le (Heap.lt_size e) (I.ok.cab x c hfn hc)))).trans (I.base.keep b o e n hb hx)
    · obtain ⟨sl, e1⟩ := I.base.slot b o e n hb hx
      exact ⟨sl, (hs.2 b (Nat.ne_of_lt (Nat.lt_of_lt_of_le (Heap.lt_size e) (I.ok.cab x c hfn hc)))).trans e1⟩
    · obtain ⟨o', e1⟩ := I.base.there b o e hx
      exact ⟨o', (hs.2 b (Nat.ne_of_lt (Nat.lt_of_lt_of_le (Heap.lt_size e) (I.ok.cab x c hfn hc)))).trans e1⟩
    · by_cases hj : j = i
      · subst hj
        rw [hi] at e1; cases e1
        rw [List.getElem?_set_self hiσ] at e2
        cases e2
        exact ⟨u, r, .inr ⟨.inl hk, c, hc, hc'⟩⟩
      · rw [List.getElem?_set_ne (Ne.symm hj)] at e2
        obtain ⟨u', r', q⟩ := hl j y v' e1 e2 e3
        refine ⟨u', r', ?_⟩
        rcases q with q | ⟨k, c', e, z'⟩
        · exact .inl q
        · refine .inr ⟨k, c', e, z'.sameBut hs ?_⟩
          rintro rfl
          exact hj (nodup_ix hN e1 (I.ok.inj _ _ _ e hc ▸ hi))
    · by_cases hcc : c' = c
      · subst hcc; exact ⟨_, hc'⟩
      · obtain ⟨w2, z2⟩ := I.cell y c' e
        exact ⟨w2, z2.sameBut hs hcc⟩
    · obtain ⟨e, n, ne, nf, d⟩ := I.pin p hp
      refine ⟨(hs.2 p.1 ?_).trans e, n, ne, nf, d⟩
      intro q
      rw [q, hoc] at e
      have q' : oc = p.2 := Option.some.inj e
      exact d w' (by rw [← q']; exact hocd)
theorem store_ok {M : Model} {A : Around} {E : Value → Shared → Prop} {i : Nat} {x : Str} {v : V} {u : Value} {Q : Unit → Shared → Prop} (I : Inv X pins σ H s) (hN : X.N.Nodup) (hi : X.N[i]? = some x) (hx : Loc X.env.scope x) (r : RelV v u)
    (h : ∀ s', Inv X pins (σ.set i (some v)) H s' → Q () s') (hf : X.fn x = true ∨ X.env.scope.names.lookup x = some .local := by first | exact .inl rfl | exact .inr rfl | assumption) : wpAny M A (storeName X.env x u) Q E s :=
  store_ok2 I hN hi hx r (fun s' I' _ => h s' I') hf
/-- behind a call or a block, the state as it is -/
theorem Inv.call' {s' : Shared} {ch : List Addr} (I : Inv X pins σ H s) (ho : s'.os = s.os) (u : Un (frs X.stack) ch H H' s.heap s'.heap) (hok : HOk X.prog X.w H' s'.heap) (hg : AllBare s'.gens)
    (hch : ∀ b ∈ ch, (b ∈ X.ex ∨ X.s₀.heap.objs.size ≤ b) ∧ b ≠ X.env.locals ∧ (∀ x c, X.env.cells.lookup x = some c → c ≠ b) ∧ ∀ p ∈ X.pn ++ pins, p.1 ≠ b) : Inv X pins σ H' s' := by
  obtain ⟨h', g', d', t', o'⟩ := s'
  have e : o' = s.os := ho
  subst e
  exact I.call (g' := g') (t' := t') (d' := d') u hok hg hch
end

/-! ### the judgements -/
/-- an exception: its class, its own dict's address (where it has one), the abstract heap behind it -/
abbrev XK := Value → Option Addr → Hp → Prop
abbrev St := List (Option V)
abbrev VK := V → Hp → Prop
/-- an expression's reading; a test's; an argument list's -/
abbrev TE := St → Hp → VK → Prop
abbrev TT := St → Hp → (Bool → Hp → Prop) → Prop
abbrev TA := St → Hp → (List V → Hp → Prop) → Prop
/-- what is wanted behind a statement -/
structure Ends where
  nx : St → Hp → Prop
  rt : VK
  bk : St → Hp → Prop := fun _ _ => False
  ct : St → Hp → Prop := fun _ _ => False
abbrev TS := Ends → St → Hp → Prop

def EP (X : Cx) (pins : List (Addr × Obj)) (σ : St) (Q : VK) (u : Value) (s' : Shared) : Prop := ∃ v H', Inv X pins σ H' s' ∧ RelV v u ∧ Q v H'
def TP (X : Cx) (pins : List (Addr × Obj)) (σ : St) (Q : Bool → Hp → Prop) (b : Bool) (s' : Shared) : Prop := ∃ H', Inv X pins σ H' s' ∧ Q b H'
def AP (X : Cx) (pins : List (Addr × Obj)) (σ : St) (Q : List V → Hp → Prop) (us : List Value) (s' : Shared) : Prop := ∃ vs H', Inv X pins σ H' s' ∧ Vals vs us ∧ Q vs H'
def SP (X : Cx) (pins : List (Addr × Obj)) (D : Ends) (f : Flow) (s' : Shared) : Prop :=
  match f with
  | .next => ∃ σ' H', Inv X pins σ' H' s' ∧ D.nx σ' H'
  | .brk => ∃ σ' H', Inv X pins σ' H' s' ∧ D.bk σ' H'
  | .cont => ∃ σ' H', Inv X pins σ' H' s' ∧ D.ct σ' H'
  | .ret u => ∃ v σ' H', Inv X pins σ' H' s' ∧ RelV v u ∧ D.rt v H'

def PE (X : Cx) (e : Expr) (t : TE) : Prop :=
  ∀ (pins : List (Addr × Obj)) (s : Shared) (σ : St) (H : Hp) (Q : VK), Inv X pins σ H s → t σ H Q → wpAny (model X.prog X.w) X.A (eval e X.env) (EP X pins σ Q) X.xe s
def PT (X : Cx) (e : Expr) (t : TT) : Prop :=
  ∀ (pins : List (Addr × Obj)) (s : Shared) (σ : St) (H : Hp) (Q : Bool → Hp → Prop), Inv X pins σ H s → t σ H Q → wpAny (model X.prog X.w) X.A (isTrue e X.env (eval e X.env)) (TP X pins σ Q) X.xe s
/-- a test whatever its 'whole' is (and, or) -/
def PW (X : Cx) (e : Expr) (t : TT) : Prop :=
  ∀ (whole : Sem Value) (pins : List (Addr × Obj)) (s : Shared) (σ : St) (H : Hp) (Q : Bool → Hp → Prop), Inv X pins σ H s → t σ H Q → wpAny (model X.prog X.w) X.A (isTrue e X.env whole) (TP X pins σ Q) X.xe s
theorem PW.pt {X : Cx} {e : Expr} {t : TT} (h : PW X e t) : PT X e t := h _
/-- an argument list (no star), from the left -/
def PA (X : Cx) (es : List Expr) (t : TA) : Prop :=
  ∀ (pos : Pos) (pins : List (Addr × Obj)) (s : Shared) (σ : St) (H : Hp) (Q : List V → Hp → Prop), Inv X pins σ H s → t σ H Q → wpAny (model X.prog X.w) X.A (spliced (backTo pos (starEach es X.env))) (AP X pins σ Q) X.xe s
def PS (X : Cx) (st : Stmt) (t : TS) : Prop :=
  ∀ (pins : List (Addr × Obj)) (s : Shared) (σ : St) (H : Hp) (D : Ends), Inv X pins σ H s → t D σ H → wpAny (model X.prog X.w) X.A (exec st X.env) (SP X pins D) X.xe s
def PSs (X : Cx) (st : List Stmt) (t : TS) : Prop :=
  ∀ (pins : List (Addr × Obj)) (s : Shared) (σ : St) (H : Hp) (D : Ends), Inv X pins σ H s → t D σ H → wpAny (model X.prog X.w) X.A (execs st X.env) (SP X pins D) X.xe s
/-- weaken the end -/
theorem thn {α : Type} {t : Sem α} {Q Q' : α → Shared → Prop} {M : Model} {A : Around} {E : Value → Shared → Prop} {s : Shared} (h : wpAny M A t Q E s) (hQ : ∀ a s, Q a s → Q' a s) : wpAny M A t Q' E s := wpAny_mono h hQ fun _ _ x => x
end L2

namespace L2
open PySem PySem.Spec PyProof.Rows
section
variable {X : Cx}

/-- two expressions in a row -/
theorem bin {a b : Expr} {ta tb : TE} (ha : PE X a ta) (hb : PE X b tb) {pins : List (Addr × Obj)} {s : Shared} {σ : St} {H : Hp} {R : V → V → Hp → Prop} (I : Inv X pins σ H s) (h : ta σ H fun x H1 => tb σ H1 fun y H2 => R x y H2)
    {α : Type} {Q : α → Shared → Prop} {f : Value → Value → Sem α}
    (hf : ∀ v u s2 x y H2, Inv X pins σ H2 s2 → RelV x v → RelV y u → R x y H2 → wpAny (model X.prog X.w) X.A (f v u) Q X.xe s2) :
    wpAny (model X.prog X.w) X.A (eval a X.env) (fun v s₁ => wpAny (model X.prog X.w) X.A (eval b X.env) (fun u s₂ => wpAny (model X.prog X.w) X.A (f v u) Q X.xe s₂) X.xe s₁) X.xe s := by
  refine thn (ha pins s σ H _ I h) fun v s1 ⟨x, H1, I1, r1, q1⟩ => ?_
  refine thn (hb pins s1 σ H1 _ I1 q1) fun u s2 ⟨y, H2, I2, r2, q2⟩ => ?_
  exact hf v u s2 x y H2 I2 r1 r2 q2

/-! ### names and constants -/
def tVar (i : Nat) : TE := fun σ H Q => ∃ v, σ[i]? = some (some v) ∧ Q v H
def tC (v : V) : TE := fun _ H Q => Q v H
theorem pe_var {i : Nat} {x : Str} {pos : Pos} (hN : X.N[i]? = some x) (hv : Vis X.env.scope x) (hd : (x == ("__debug__" : Str)) = false := by decide) (hcd : (x == ("__classdict__" : Str)) = false := by decide) : PE X (.Name x pos) (tVar i) := by
  intro pins s σ H Q I h
  obtain ⟨v, e, h⟩ := h
  obtain ⟨m, hn, hl⟩ := I.loc
  obtain ⟨u, r, l⟩ := hl i x v hN e hv
  have fin : EP X pins σ Q u s := ⟨v, H, I, r, h⟩
  rcases l with ⟨hk, hm⟩ | ⟨hk, c, hc, hcell⟩
  · exact wpAny_Name (wpAny_loadName_local I.ok.kind hk hn hm fin) hd
  · rcases hk with hk | hk
    · exact wpAny_Name (wpAny_loadName_cell I.ok.kind hk hc hcell fin) hd
    · exact wpAny_Name (wpAny_loadName_free I.ok.kind hk hc hcell fin hcd) hd
theorem pe_int {i j pos} : PE X (.Constant (.int i) j pos) (tC (.int i)) := fun _ _ _ H _ I h => wpAny_Constant_int ⟨.int i, H, I.tok _, ⟨_, rfl⟩, h⟩
theorem pe_bl {b j pos} : PE X (.Constant (.bool b) j pos) (tC (.bl b)) := fun _ _ _ H _ I h => Constant_bool ⟨.bl b, H, I, rfl, h⟩
theorem pe_non {j pos} : PE X (.Constant .none j pos) (tC .non) := fun _ _ _ H _ I h => Constant_none ⟨.non, H, I, rfl, h⟩
theorem pe_str {x j pos} : PE X (.Constant (.str x) j pos) (tC (.str x)) := fun _ _ _ H _ I h => Calls.Constant_str ⟨.str x, H, I.tok _, ⟨_, rfl⟩, h⟩

/-- a global name of the def -/
def Gl (X : Cx) (x : Str) : Prop := X.env.kindOf x = some .globalImplicit
theorem ld_glob {E : Value → Shared → Prop} {pins : List (Addr × Obj)} {s : Shared} {σ : St} {H : Hp} {x : Str} {u : Value} {pos : Pos} {Q : Value → Shared → Prop} (I : Inv X pins σ H s) (hg : Gl X x) (hm : X.mg x = some u) (h : Q u s)
    (hd : (x == ("__debug__" : Str)) = false := by decide) : wpAny (model X.prog X.w) X.A (eval (.Name x pos) X.env) Q E s :=
  Calls.Name_function_global I.ok.kind hg (Calls.loadGlobal_global (by rw [I.ok.glob]; exact I.mod.glob.keeps I.bk) hm h) hd
theorem ld_blt {E : Value → Shared → Prop} {pins : List (Addr × Obj)} {s : Shared} {σ : St} {H : Hp} {x : Str} {u : Value} {pos : Pos} {Q : Value → Shared → Prop} (I : Inv X pins σ H s) (hg : Gl X x) (hm : X.mg x = none) (hv : bootBuiltins x = some u) (h : Q u s)
    (hn : x ≠ "__name__" := by decide) (hd : (x == ("__debug__" : Str)) = false := by decide) : wpAny (model X.prog X.w) X.A (eval (.Name x pos) X.env) Q E s := by
  obtain ⟨mb, h1, h2⟩ := I.mod.blt
  exact Calls.Name_function_global I.ok.kind hg (Calls.loadGlobal_builtin (by rw [I.ok.glob]; exact I.mod.glob.keeps I.bk) hm (by rw [I.ok.blt]; exact h1.keeps I.bk) ((h2 x hn).trans hv) h) hd
/-- a module's constant, a class, a function, as a value -/
theorem pe_glob {x : Str} {v : V} {u : Value} {pos : Pos} (hg : Gl X x) (hm : X.mg x = some u) (r : RelV v u) (hd : (x == ("__debug__" : Str)) = false := by decide) : PE X (.Name x pos) (tC v) :=
  fun _ _ _ H _ I h => ld_glob I hg hm ⟨v, H, I, r, h⟩ hd
theorem pe_bltn {x : Str} {v : V} {u : Value} {pos : Pos} (hg : Gl X x) (hm : X.mg x = none) (hv : bootBuiltins x = some u) (r : RelV v u) (hn : x ≠ "__name__" := by decide) (hd : (x == ("__debug__" : Str)) = false := by decide) : PE X (.Name x pos) (tC v) :=
  fun _ _ _ H _ I h => ld_blt I hg hm hv ⟨v, H, I, r, h⟩ hn hd

/-! ### arithmetic -/
variable {a b : Expr} {ta tb : TE} {pos : Pos}
/-! ### comparisons -/
def PC (X : Cx) (op : CmpOp) (a b : Expr) (t : TE) : Prop :=
  ∀ (pins : List (Addr × Obj)) (s : Shared) (σ : St) (H : Hp) (Q : VK), Inv X pins σ H s → t σ H Q →
    wpAny (model X.prog X.w) X.A (eval a X.env) (fun v s₁ => wpAny (model X.prog X.w) X.A (eval b X.env) (fun u s₂ => wpAny (model X.prog X.w) X.A (compareOp op v u) (EP X pins σ Q) X.xe s₂) X.xe s₁) X.xe s
theorem nobehind (b : Expr) {op : CmpOp} (h : op ≠ .In) (h2 : op ≠ .NotIn) : behindInMarks op b = false := by
  have e1 : (op == CmpOp.In) = false := by cases op <;> first | rfl | exact absurd rfl h
  have e2 : (op == CmpOp.NotIn) = false := by cases op <;> first | rfl | exact absurd rfl h2
  cases b <;> simp [behindInMarks, e1, e2]
/-- a comparison as a value, as a test -/
def tB (t : TE) : TT := fun σ H Q => t σ H fun x H1 => ∃ c, x = .bl c ∧ Q c H1
theorem pt_cmp {op : CmpOp} {t : TE} (h : PC X op a b t) (h1 : behindInMarks op b = false := by first | exact nobehind _ (by decide) (by decide) | rfl) : PT X (.Compare a [op] [b] pos) (tB t) := by
  intro pins s σ H Q I hw
  refine wpAny_isTrue_Compare1 (thn (h pins s σ H _ I hw) fun v s1 h1 => thn h1 fun u s2 h2 => thn h2 fun c s3 ⟨x, H1, I1, r1, q1⟩ => ?_) h1
  obtain ⟨d, rfl, q⟩ := q1
  cases r1
  exact wpAny_truthy_bool ⟨H1, I1, q⟩
/-- an expression whose value is a bool, as a test -/
theorem pt_val {e : Expr} {t : TE} (h : PE X e t) (he : ∀ whole, isTrue e X.env whole = (do let v ← whole; standAt e.pos; holding [v] (truthy v)) := by intro _; rfl) : PT X e (tB t) := by
  intro pins s σ H Q I hw
  refine isTrue_plain (thn (h pins s σ H _ I hw) fun v s1 ⟨x, H1, I1, r1, q1⟩ => ?_) (he _)
  obtain ⟨d, rfl, q⟩ := q1
  cases r1
  exact wpAny_truthy_bool ⟨H1, I1, q⟩

/-! ### and, or, not -/
variable {tA tB' : TT} {rest : List Expr}
def tAnd (t u : TT) : TT := fun σ H Q => t σ H fun c H1 => if c = true then u σ H1 Q else Q false H1
def tOr (t u : TT) : TT := fun σ H Q => t σ H fun c H1 => if c = true then Q true H1 else u σ H1 Q
def tNot (t : TT) : TT := fun σ H Q => t σ H fun c H1 => Q (!c) H1
theorem pw_and1 (ha : PT X a tA) : PW X (.BoolOp .And [a] pos) tA := by
  intro wh pins s σ H Q I h
  refine isTrue_and (thn (ha pins s σ H Q I h) fun c s1 e => ?_)
  cases c with
  | true => exact isTrue_and_nil e
  | false => exact e
theorem pw_or1 (ha : PT X a tA) : PW X (.BoolOp .Or [a] pos) tA := by
  intro wh pins s σ H Q I h
  refine isTrue_or (thn (ha pins s σ H Q I h) fun c s1 e => ?_)
  cases c with
  | false => exact isTrue_or_nil e
  | true => exact e
theorem pw_and (ha : PT X a tA) (hb : PW X (.BoolOp .And (b :: rest) pos) tB') : PW X (.BoolOp .And (a :: b :: rest) pos) (tAnd tA tB') := by
  intro wh pins s σ H Q I h
  refine isTrue_and (thn (ha pins s σ H _ I h) fun c s1 ⟨H1, I1, q1⟩ => ?_)
  cases c with
  | true => exact hb wh pins s1 σ H1 Q I1 q1
  | false => exact ⟨H1, I1, q1⟩
theorem pw_or (ha : PT X a tA) (hb : PW X (.BoolOp .Or (b :: rest) pos) tB') : PW X (.BoolOp .Or (a :: b :: rest) pos) (tOr tA tB') := by
  intro wh pins s σ H Q I h
  refine isTrue_or (thn (ha pins s σ H _ I h) fun c s1 ⟨H1, I1, q1⟩ => ?_)
  cases c with
  | true => exact ⟨H1, I1, q1⟩
  | false => exact hb wh pins s1 σ H1 Q I1 q1
theorem pt_not (ha : PT X a tA) : PT X (.UnaryOp .Not a pos) (tNot tA) := by
  intro pins s σ H Q I h
  exact isTrue_not (ha pins s σ H (fun c H1 => Q (!c) H1) I h)
/-- .. as values (bools) -/
def tAndV (ta tb : TE) : TE := fun σ H Q => ta σ H fun x H1 => ∃ c, x = .bl c ∧ if c = true then tb σ H1 Q else Q (.bl false) H1
def tOrV (ta tb : TE) : TE := fun σ H Q => ta σ H fun x H1 => ∃ c, x = .bl c ∧ if c = true then Q (.bl true) H1 else tb σ H1 Q
def tNotV (ta : TE) : TE := fun σ H Q => ta σ H fun x H1 => ∃ c, x = .bl c ∧ Q (.bl (!c)) H1
theorem pe_one {op} {t : TE} (h : PE X a t) : PE X (.BoolOp op [a] pos) t := fun pins s σ H Q I hw => BoolOp_one (h pins s σ H Q I hw)
theorem pe_and (ha : PE X a ta) (hb : PE X (.BoolOp .And (b :: rest) pos) tb) : PE X (.BoolOp .And (a :: b :: rest) pos) (tAndV ta tb) := by
  intro pins s σ H Q I h
  refine BoolOp_and (thn (ha pins s σ H _ I h) fun v s1 ⟨x, H1, I1, r1, q1⟩ => ?_)
  obtain ⟨c, rfl, q1⟩ := q1
  cases r1
  refine wpAny_truthy_bool ?_
  cases c with
  | true => exact hb pins s1 σ H1 Q I1 q1
  | false => exact ⟨.bl false, H1, I1, rfl, q1⟩
theorem pe_not (ha : PE X a ta) : PE X (.UnaryOp .Not a pos) (tNotV ta) := by
  intro pins s σ H Q I h
  refine UnaryOp_ (thn (ha pins s σ H _ I h) fun v s1 ⟨x, H1, I1, r1, q1⟩ => ?_)
  obtain ⟨c, rfl, q1⟩ := q1
  cases r1
  exact not_of (wpAny_truthy_bool ⟨.bl (!c), H1, I1, rfl, q1⟩)
/-- a if t else b -/
def tIf (t : TT) (ta tb : TE) : TE := fun σ H Q => t σ H fun c H1 => if c = true then ta σ H1 Q else tb σ H1 Q
end
end L2

namespace L2
open PySem PySem.Spec PyProof.Rows

/-! ### a list, a tuple that is read: tracked, frozen, or an object of the module -/
def SqL (K : PySem.W.Frag) (H : Hp) (a : Addr) (xs : List V) : Prop :=
  Rd H a (.lst xs) ∨
    ∃ (o : Obj) (its : Array Value) (n : Nat), K.lookup a = some o ∧ o.cls = .type "list" ∧ o.dict = none ∧ o.data = .seq its n ∧ its.size ≤ sizeLine ∧ Vals xs its.toList
def SqT (K : PySem.W.Frag) (H : Hp) (a : Addr) (xs : List V) : Prop :=
  Rd H a (.tup xs) ∨
    ∃ (o : Obj) (its : Array Value) (n : Nat), K.lookup a = some o ∧ o.cls = .type "tuple" ∧ o.data = .seq its n ∧ its.size ≤ sizeLine ∧ Vals xs its.toList
def absV : Value → Option V
  | .none => some .non
  | .bool b => some (.bl b)
  | .int i _ => some (.int i)
  | .str x _ => some (.str x)
  | .bytes b _ => some (.byt b)
  | .float b _ => some (.flt b)
  | .ref a => some (.ref a)
  | .type n => some (.ty n)
  | _ => none
theorem RelV.abs {x : V} {u : Value} (r : RelV x u) : absV u = some x := by
  cases x with
  | non => cases r; rfl
  | bl _ => cases r; rfl
  | int _ => obtain ⟨t, rfl⟩ := r; rfl
  | str _ => obtain ⟨t, rfl⟩ := r; rfl
  | byt _ => obtain ⟨t, rfl⟩ := r; rfl
  | flt _ => obtain ⟨t, rfl⟩ := r; rfl
  | ref _ => cases r; rfl
  | ty _ => cases r; rfl
theorem RelV.inj {x y : V} {u : Value} (r : RelV x u) (q : RelV y u) : x = y := Option.some.inj (r.abs.symm.trans q.abs)
theorem Vals.inj : ∀ {xs ys : List V} {us : List Value}, Vals xs us → Vals ys us → xs = ys
  | _, _, _, .nil, .nil => rfl
  | _, _, _, .cons r t, .cons r' t' => by rw [r.inj r', Vals.inj t t']
section
variable {X : Cx} {pins : List (Addr × Obj)} {σ : St} {H : Hp} {s : Shared} {a : Addr} {xs ys : List V}
theorem SqL.of {K : PySem.W.Frag} (h : H a = some (.lst xs)) : SqL K H a xs := .inl (.inl h)
theorem SqT.of {K : PySem.W.Frag} (h : H a = some (.tup xs)) : SqT K H a xs := .inl (.inl h)
theorem Inv.list (I : Inv X pins σ H s) (h : SqL X.K H a xs) : ∃ its : List Value, Vals xs its ∧ PlainL s.heap a its.toArray ∧ xs.length ≤ sizeLine := by
  rcases h with h | ⟨o, its, n, hk, hc, hd, hs, hz, r⟩
  · obtain ⟨z, its, n, r, e⟩ := h.ok I.hok
    exact ⟨its, r, ⟨_, n, e, rfl, rfl, rfl⟩, z⟩
  · refine ⟨its.toList, r, ⟨o, n, I.kIn a o hk, hc, hd, by simpa using hs⟩, ?_⟩
    have e := r.length
    simp only [Array.length_toList] at e
    omega
theorem Inv.tuple (I : Inv X pins σ H s) (h : SqT X.K H a xs) : ∃ its : List Value, Vals xs its ∧ IsTup s.heap a its.toArray ∧ xs.length ≤ sizeLine := by
  rcases h with h | ⟨o, its, n, hk, hc, hs, hz, r⟩
  · obtain ⟨z, its, r, p⟩ := h.ok I.hok
    exact ⟨its, r, p, z⟩
  · refine ⟨its.toList, r, ⟨o, I.kIn a o hk, hc, n, by simpa using hs⟩, ?_⟩
    have e := r.length
    simp only [Array.length_toList] at e
    omega
theorem Inv.list_inj (I : Inv X pins σ H s) (h : SqL X.K H a xs) (h' : SqL X.K H a ys) : xs = ys := by
  obtain ⟨its, r, ⟨o, n, e, _, _, d⟩, _⟩ := I.list h
  obtain ⟨its', r', ⟨o', n', e', _, _, d'⟩, _⟩ := I.list h'
  rw [e] at e'; cases e'
  rw [d] at d'
  injection d' with d1 _
  have : its = its' := by simpa using congrArg Array.toList d1
  subst this
  exact r.inj r'
end

/-! ### another wish about exceptions -/
abbrev Cx.wish (X : Cx) (E : Value → Shared → Prop) : Cx := { X with xe := E }
/-- no exception leaves -/
abbrev Cx.nox (X : Cx) : Cx := X.wish fun _ _ => False
theorem Cx.Ok.wish {X : Cx} (ok : X.Ok) (E : Value → Shared → Prop) : (X.wish E).Ok :=
  ⟨ok.mod, ok.kind, ok.glob, ok.blt, ok.above, ok.inj, ok.has, ok.cab, ok.hd, ok.frames, ok.stk, ok.exf, ok.bs, ok.bsz, ok.noex, ok.exfs, ok.funs, ok.frf⟩
theorem Cx.Ok.unwish {X : Cx} {E : Value → Shared → Prop} (ok : (X.wish E).Ok) : X.Ok :=
  ⟨ok.mod, ok.kind, ok.glob, ok.blt, ok.above, ok.inj, ok.has, ok.cab, ok.hd, ok.frames, ok.stk, ok.exf, ok.bs, ok.bsz, ok.noex, ok.exfs, ok.funs, ok.frf⟩
section
variable {X : Cx} {pins : List (Addr × Obj)} {σ : St} {H : Hp} {s : Shared} {E : Value → Shared → Prop}
theorem Inv.wish (I : Inv X pins σ H s) (E : Value → Shared → Prop) : Inv (X.wish E) pins σ H s := ⟨I.ok.wish E, I.os, I.bare, I.base, I.loc, I.cell, I.free, I.freeC, I.pin, I.hok, I.len⟩
theorem Inv.unwish (I : Inv (X.wish E) pins σ H s) : Inv X pins σ H s := ⟨I.ok.unwish, I.os, I.bare, I.base, I.loc, I.cell, I.free, I.freeC, I.pin, I.hok, I.len⟩
theorem SP.unwish {D : Ends} {f : Flow} {s' : Shared} (h : SP (X.wish E) pins D f s') : SP X pins D f s' := by
  cases f with
  | next => obtain ⟨σ', H', I, q⟩ := h; exact ⟨σ', H', I.unwish, q⟩
  | brk => obtain ⟨σ', H', I, q⟩ := h; exact ⟨σ', H', I.unwish, q⟩
  | cont => obtain ⟨σ', H', I, q⟩ := h; exact ⟨σ', H', I.unwish, q⟩
  | ret u => obtain ⟨v, σ', H', I, r, q⟩ := h; exact ⟨v, σ', H', I.unwish, r, q⟩
theorem PSs.nox {st : List Stmt} {t : TS} (h : PSs X.nox st t) : PSs X st t := fun pins s σ H D I hw =>
  wpAny_mono (h pins s σ H D (I.wish _) hw) (fun _ _ q => q.unwish) fun _ _ z => False.elim z
end

/-! ### blocks and small statements -/
section
variable {X : Cx} {st : Stmt} {rest : List Stmt} {t u : TS} {e : Expr} {te : TE} {pos : Pos}
def tNext : TS := fun D σ H => D.nx σ H
def tSeq (t u : TS) : TS := fun D σ H => t { D with nx := u D } σ H
theorem pss_nil : PSs X [] tNext := fun _ _ σ H _ I h => wpAny_execs_nil ⟨σ, H, I, h⟩
theorem pss_cons (h1 : PS X st t) (h2 : PSs X rest u) : PSs X (st :: rest) (tSeq t u) := by
  intro pins s σ H D I h
  refine wpAny_execs_cons (thn (h1 pins s σ H { D with nx := u D } I h) fun f s1 q => ?_)
  cases f with
  | next =>
    obtain ⟨σ', H', I', q⟩ := q
    exact h2 pins s1 σ' H' D I' q
  | ret v => exact q
  | brk => exact q
  | cont => exact q
theorem pss_one (h1 : PS X st t) : PSs X [st] t := by
  intro pins s σ H D I h
  refine wpAny_execs_cons (thn (h1 pins s σ H D I h) fun f s1 q => ?_)
  cases f with
  | next => exact wpAny_execs_nil q
  | ret v => exact q
  | brk => exact q
  | cont => exact q
/-- in a def's body nothing is shown -/
theorem Inv.quiet {pins : List (Addr × Obj)} {σ : St} {H : Hp} {s : Shared} (I : Inv X pins σ H s) : interactive X.env = false := by simp [interactive, I.ok.kind]
/-- an expression whose value is dropped -/
def tDrop (te : TE) : TS := fun D σ H => te σ H fun _ H1 => D.nx σ H1
theorem ps_expr (he : PE X e te) (hs : swapsWith e none pos.line X.env = pure false := by rfl) : PS X (.Expr e pos) (tDrop te) := by
  intro pins s σ H D I h
  exact wpAny_Expr_any (thn (he pins s σ H _ I h) fun v s1 ⟨x, H1, I1, r1, q1⟩ => ⟨σ, H1, I1, q1⟩) I.quiet hs
def tRet (te : TE) : TS := fun D σ H => te σ H D.rt
theorem ps_ret (he : PE X e te) : PS X (.Return (some e) pos) (tRet te) := by
  intro pins s σ H D I h
  exact wpAny_Return_some (thn (he pins s σ H _ I h) fun v s1 ⟨x, H1, I1, r1, q1⟩ => ⟨x, σ, H1, I1, r1, q1⟩)
def tRetN : TS := fun D _ H => D.rt .non H
def tIfS (c : TT) (t u : TS) : TS := fun D σ H => c σ H fun b H1 => if b = true then t D σ H1 else u D σ H1
theorem ps_if {c : Expr} {a b : List Stmt} {tc : TT} (hc : PT X c tc) (ha : PSs X a t) (hb : PSs X b u) : PS X (.If c a b pos) (tIfS tc t u) := by
  intro pins s σ H D I h
  refine wpAny_If (thn (hc pins s σ H _ I h) fun d s1 ⟨H1, I1, q1⟩ => ?_)
  cases d with
  | true => exact ha pins s1 σ H1 D I1 q1
  | false => exact hb pins s1 σ H1 D I1 q1
end

/-! ### targets -/
abbrev TG := V → St → Hp → (St → Hp → Prop) → Prop
abbrev TGs := List V → St → Hp → (St → Hp → Prop) → Prop
def PG (X : Cx) (target : Expr) (t : TG) : Prop :=
  ∀ (pins : List (Addr × Obj)) (s : Shared) (σ : St) (H : Hp) (v : V) (u : Value) (Q : St → Hp → Prop), Inv X pins σ H s → RelV v u → t v σ H Q →
    wpAny (model X.prog X.w) X.A (assign target X.env u) (fun _ s' => ∃ σ' H', Inv X pins σ' H' s' ∧ Q σ' H') X.xe s
/-- o[i] = v, by values -/
abbrev TSet := V → V → V → Hp → (Hp → Prop) → Prop
def PSet (X : Cx) (t : TSet) : Prop :=
  ∀ (pins : List (Addr × Obj)) (s : Shared) (σ : St) (H : Hp) (o i v : V) (ov iv u : Value) (Q : Hp → Prop), Inv X pins σ H s → RelV o ov → RelV i iv → RelV v u → t o i v H Q →
    wpAny (model X.prog X.w) X.A (setItem ov iv u) (fun _ s' => ∃ H', Inv X pins σ H' s' ∧ Q H') X.xe s
section
variable {X : Cx} {pos : Pos}
def gName (i : Nat) : TG := fun v σ H Q => Q (σ.set i (some v)) H
theorem pg_name {i : Nat} {x : Str} (hN : X.N.Nodup) (hi : X.N[i]? = some x) (hx : Loc X.env.scope x) (hf : X.fn x = true ∨ X.env.scope.names.lookup x = some .local := by first | exact .inl rfl | exact .inr rfl | assumption) : PG X (.Name x pos) (gName i) := by
  intro pins s σ H v u Q I r h
  exact wpAny_assign_Name (store_ok I hN hi hx r (fun s' I' => ⟨_, H, I', h⟩) hf)
def gNil : TGs := fun vs σ H Q => vs = [] ∧ Q σ H
def gCons (t : TG) (u : TGs) : TGs := fun vs σ H Q => ∃ v r, vs = v :: r ∧ t v σ H fun σ' H' => u r σ' H' Q
/-- (a, b, ..) = a tuple of that length -/
def gTup (K : PySem.W.Frag) (n : Nat) (t : TGs) : TG := fun v σ H Q => ∃ a xs, v = .ref a ∧ SqT K H a xs ∧ xs.length = n ∧ t xs σ H Q
/-- o[i] = .. -/
def gSub (to ti : TE) (t : TSet) : TG := fun v σ H Q => to σ H fun o H1 => ti σ H1 fun i H2 => t o i v H2 fun H3 => Q σ H3
theorem pg_sub {o i : Expr} {to ti : TE} {t : TSet} (ho : PE X o to) (hi : PE X i ti) (hs : PSet X t)
    (ha : ∀ v, assign (.Subscript o i pos) X.env v = (do
      let ov ← holding [v] (eval o X.env)
      let iv ← holding [v, ov] (eval i X.env)
      standAt pos
      holding [v, ov, iv] (setItem ov iv v)
      release [v, ov, iv] []) := by intro _; rfl) : PG X (.Subscript o i pos) (gSub to ti t) := by
  intro pins s σ H v u Q I r h
  rw [ha]
  refine wpAny_bind (wpAny_holding (thn (ho pins s σ H _ I h) fun ov s1 ⟨x, H1, I1, r1, q1⟩ => ?_))
  refine wpAny_bind (wpAny_holding (thn (hi pins s1 σ H1 _ I1 q1) fun iv s2 ⟨y, H2, I2, r2, q2⟩ => ?_))
  refine wpAny_bind (wpAny_standAt (wpAny_bind (wpAny_holding (thn (hs pins s2 σ H2 x y v ov iv u _ I2 r1 r2 r q2) fun _ s3 ⟨H3, I3, q3⟩ => ?_))))
  exact wpAny_release ⟨σ, H3, I3, q3⟩
/-- target = value -/
def tAsg (te : TE) (g : TG) : TS := fun D σ H => te σ H fun x H1 => g x σ H1 D.nx
theorem ps_asg {tg e : Expr} {te : TE} {g : TG} (he : PE X e te) (hg : PG X tg g) (hs : swapsWithSole [tg] e pos.line X.env = pure false := by rfl) (hw : swappedStores [tg] e X.env = pure none := by rfl)
    (h1 : (assignEach [tg] X.env).map (·.2) = [assign tg X.env] := by rfl) : PS X (.Assign [tg] e pos) (tAsg te g) := by
  intro pins s σ H D I h
  refine wpAny_Assign_stores (thn (he pins s σ H _ I h) fun v s1 ⟨x, H1, I1, r1, q1⟩ => ?_) hs hw
  rw [h1]
  exact thn (hg pins s1 σ H1 x v _ I1 r1 q1) fun _ s2 q => q
/-- name = value -/
theorem ps_set {i : Nat} {x : Str} {e : Expr} {te : TE} {pos' : Pos} (hN : X.N.Nodup) (hi : X.N[i]? = some x) (hx : Loc X.env.scope x) (he : PE X e te) (hs : swapsWith e (some (.Name x pos')) pos.line X.env = pure false := by rfl) (hf : X.fn x = true ∨ X.env.scope.names.lookup x = some .local := by first | exact .inl rfl | exact .inr rfl | assumption) :
    PS X (.Assign [.Name x pos'] e pos) (tAsg te (gName i)) := by
  intro pins s σ H D I h
  refine wpAny_Assign_Name (thn (he pins s σ H _ I h) fun v s1 ⟨y, H1, I1, r1, q1⟩ => ?_) hs
  exact store_ok I1 hN hi hx r1 (fun s2 I2 => ⟨_, H1, I2, q1⟩) hf
end

/-! ### while -/
section
variable {X : Cx} {pos : Pos}
end

/-! ### what a loop or a comprehension walks -/
/-- at turn i: it yields x (the heap may grow), or it stops -/
structure It where
  go : Nat → Hp → Prop
  yld : Nat → Hp → V → Hp → Prop
  stop : Nat → Hp → Prop
/-- the iterator's own objects may turn: they are not the frame's, not pinned, younger than the entry (or a comprehension's own) -/
def FpOk (X : Cx) (pins : List (Addr × Obj)) (H : Hp) (b : Addr) : Prop :=
  H b = none ∧ b ≠ X.env.locals ∧ b ∉ X.fs ∧ (b ∈ X.ex ∨ X.s₀.heap.objs.size ≤ b) ∧ (∀ x c, X.env.cells.lookup x = some c → c ≠ b) ∧ ∀ p ∈ X.pn ++ pins, p.1 ≠ b
theorem Inv.fpOk {X : Cx} {pins : List (Addr × Obj)} {σ : St} {H H' : Hp} {s : Shared} {b : Addr} (I : Inv X pins σ H s) (hb : s.heap.objs.size ≤ b) (hn : H' b = none) : FpOk X pins H' b := by
  refine ⟨hn, Nat.ne_of_gt (Nat.lt_of_lt_of_le I.lt hb), I.nofs hb, .inr (Nat.le_trans I.sz hb), fun x c e z => ?_, fun p hp z => ?_⟩
  · obtain ⟨v, q⟩ := I.cell x c e
    exact absurd (Nat.lt_of_lt_of_le q.lt (by rw [z]; exact hb)) (Nat.lt_irrefl _)
  · exact absurd (Nat.lt_of_lt_of_le (Heap.lt_size (I.pin p hp).1) (by rw [z]; exact hb)) (Nat.lt_irrefl _)
structure Turn (P : Program) (w : World) (K : PySem.W.Frag) (tg : Expr) (J : It) (fp : List Addr) (it : Addr) (tn : Nat → Heap → Prop) : Prop where
  mem : it ∈ fp
  obj : ∀ i h, tn i h → ∀ b ∈ fp, ∃ o, h.get? b = some o ∧ ∀ v, o.data ≠ .cell v
  keep : ∀ i h h', tn i h → (∀ b ∈ fp, ∀ o, h.get? b = some o → h'.get? b = some o) → tn i h'
  item : ∀ (X : Cx), X.prog = P → X.w = w → X.K = K → X.calm = true → ∀ (i : Nat) (pins : List (Addr × Obj)) (s : Shared) (σ : St) (H : Hp) (E : Value → Shared → Prop), Inv X pins σ H s → (∀ b ∈ fp, FpOk X pins H b) → tn i s.heap → J.go i H →
    wpAny (model P w) X.A (pyNext (.ref it)) (fun r s1 => ∃ u, r = some u ∧
      wpAny (model P w) X.A (letOwnedTupleGo tg (.ref it) u) (fun _ s2 => ∃ x H', Inv X pins σ H' s2 ∧ RelV x u ∧ J.yld i H x H' ∧ tn (i + 1) s2.heap ∧ ∀ b ∈ fp, H' b = none) E s1) E s
  done : ∀ (X : Cx), X.prog = P → X.w = w → X.K = K → X.calm = true → ∀ (i : Nat) (pins : List (Addr × Obj)) (s : Shared) (σ : St) (H : Hp) (E : Value → Shared → Prop), Inv X pins σ H s → (∀ b ∈ fp, FpOk X pins H b) → tn i s.heap → J.stop i H →
    wpAny (model P w) X.A (pyNext (.ref it)) (fun r s1 => r = none ∧ Inv X pins σ H s1) E s
  self : ∀ (A : Around) (i : Nat) (s : Shared) (Q : Value → Shared → Prop) (E : Value → Shared → Prop), tn i s.heap → Q (.ref it) s → wpAny (model P w) A (pyIter (.ref it)) Q E s
abbrev TI := St → Hp → (It → Hp → Prop) → Prop
/-- an iterator has come -/
def PIE (X : Cx) (pins : List (Addr × Obj)) (σ : St) (tg : Expr) (R : It → Hp → Prop) (itv : Value) (s2 : Shared) : Prop :=
  ∃ (it : Addr) (fp : List Addr) (tn : Nat → Heap → Prop) (J : It) (H' : Hp), itv = .ref it ∧ Inv X pins σ H' s2 ∧ Turn X.prog X.w X.K tg J fp it tn ∧ tn 0 s2.heap ∧ (∀ b ∈ fp, FpOk X pins H' b) ∧ R J H'
def PI (X : Cx) (tg iter : Expr) (wi : TI) : Prop :=
  ∀ (pins : List (Addr × Obj)) (s : Shared) (σ : St) (H : Hp) (R : It → Hp → Prop), Inv X pins σ H s → wi σ H R →
    wpAny (model X.prog X.w) X.A (eval iter X.env) (fun v s1 => wpAny (model X.prog X.w) X.A (pyIter v) (PIE X pins σ tg R) X.xe s1) X.xe s

/-- the step ahead of the store is nothing for an iterator that keeps no tuple -/
theorem go_of {M : Model} {A : Around} {E : Value → Shared → Prop} {s : Shared} {tg : Expr} {it : Addr} {u : Value} {o : Obj} {n : String} {vs : Array Value} {Q : Unit → Shared → Prop} (ho : s.heap.get? it = some o) (hc : o.cls = .type n) (hd : o.data = .fields vs)
    (hn : ["enumerate", "zip", "dict_itemiterator", "dict_reverseitemiterator", "odict_iterator", "itertools.zip_longest", "itertools.pairwise"].contains n = false) (hQ : Q () s) : wpAny M A (letOwnedTupleGo tg (.ref it) u) Q E s := by
  unfold letOwnedTupleGo
  cases tg <;> first
    | exact wpAny_pure hQ
    | (cases u <;> first
        | exact wpAny_pure hQ
        | (refine wpAny_bind (wpAny_load ho ?_)
           rw [hc, hd]
           show wpAny M A (if (["enumerate", "zip", "dict_itemiterator", "dict_reverseitemiterator", "odict_iterator", "itertools.zip_longest", "itertools.pairwise"].contains n && vs[0]? == some (rawInt _)) = true then _ else _) Q E s
           rw [if_neg (by intro h; rw [hn, Bool.false_and] at h; cases h)]
           exact wpAny_pure hQ))

/-- the list at a, as it stands at each turn (a loop may append to it) -/
def Itl (K : PySem.W.Frag) (a : Addr) : It :=
  ⟨fun i H => ∃ xs x, SqL K H a xs ∧ xs[i]? = some x, fun i H x H' => H' = H ∧ ∀ xs, SqL K H a xs → xs[i]? = some x, fun i H => ∃ xs, SqL K H a xs ∧ xs.length ≤ i⟩
/-- lo, lo + 1, .. (n of them) -/
def Itr (lo : Int) (n : Nat) : It := ⟨fun i _ => i < n, fun i H x H' => H' = H ∧ x = .int (lo + i), fun i _ => n ≤ i⟩
theorem turn_list {P : Program} {w : World} {K : PySem.W.Frag} {tg : Expr} (a it : Addr) : Turn P w K tg (Itl K a) [it] it (fun i h => h.IsListIter it a i) where
  mem := by simp
  obj := fun i h st b hb => by
    have e : b = it := by simpa using hb
    subst e
    obtain ⟨o, e, c, d⟩ := st
    exact ⟨o, e, fun v z => by rw [d] at z; cases z⟩
  keep := fun i h h' st k => st.at fun o e => k it (by simp) o e
  item := by
    intro X hP hw hK hc i pins s σ H E I hf st hg
    subst hP hw hK
    obtain ⟨xs, x, hq, hx⟩ := hg
    obtain ⟨its, rv, p, hz⟩ := I.list hq
    obtain ⟨u, hu, ru⟩ := rv.get hx
    obtain ⟨f0, f1, f2, f3, f4, f5⟩ := hf it (by simp)
    refine wpAny_pyNext_list_item st p.isList (x := u) (by simpa using hu) fun h' st' sb => ?_
    have I1 : Inv X pins σ H { s with heap := h' } := I.turned (t' := s.toks) (fun b o hb e => (sb.2 b hb).trans e) f0 f1 f3 f4 f5
    obtain ⟨o, e, c, d⟩ := id st'
    exact ⟨u, rfl, go_of (s := { s with heap := h' }) e c d (by decide) ⟨x, H, I1, ru, ⟨rfl, fun ys hy => by rw [I.list_inj hy hq]; exact hx⟩, st', fun b hb => (hf b hb).1⟩⟩
  done := by
    intro X hP hw hK hc i pins s σ H E I hf st hg
    subst hP hw hK
    obtain ⟨xs, hq, hx⟩ := hg
    obtain ⟨its, rv, p, hz⟩ := I.list hq
    obtain ⟨f0, f1, f2, f3, f4, f5⟩ := hf it (by simp)
    have hl := rv.length
    exact wpAny_pyNext_list_end (I.ok.hd hc) st p.isList (by simp; omega) fun h' eb => ⟨rfl, I.turned (t' := s.toks) (fun b o hb e => eb b o hb e) f0 f1 f3 f4 f5⟩
  self := fun _ _ _ _ _ st h => wpAny_pyIter_listiter st h
theorem turn_range {P : Program} {w : World} {K : PySem.W.Frag} {tg : Expr} (it : Addr) (lo : Int) (n : Nat) : Turn P w K tg (Itr lo n) [it] it (fun i h => IsRangeIter h it (lo + (i : Nat) * 1) ((n : Int) - (i : Nat)) 1) where
  mem := by simp
  obj := fun i h st b hb => by
    have e : b = it := by simpa using hb
    subst e
    exact ⟨_, st, fun v z => by
      have z' : Data.fields _ = Data.cell v := z
      cases z'⟩
  keep := fun i h h' st k => k it (by simp) _ st
  item := by
    intro X hP hw hK hc i pins s σ H E I hf st hg
    subst hP hw hK
    obtain ⟨f0, f1, f2, f3, f4, f5⟩ := hf it (by simp)
    have W := Walks.range (prog := X.prog) (w := X.w) (I.ok.hd hc) it lo 1 n
    refine W.item i s _ _ hg st fun v h' tk hv st' kk => ?_
    obtain ⟨t, rfl⟩ := hv
    have I1 : Inv X pins σ H { s with heap := h', toks := tk } := I.turned (fun b o hb e => kk b o (by simpa using hb) e) f0 f1 f3 f4 f5
    refine ⟨_, rfl, go_of (s := { s with heap := h', toks := tk }) (n := "range_iterator") st' rfl rfl (by decide) ⟨.int (lo + i), H, I1, ⟨t, ?_⟩, ⟨rfl, rfl⟩, st', fun b hb => (hf b hb).1⟩⟩
    rw [Int.mul_one]
  done := by
    intro X hP hw hK hc i pins s σ H E I hf st hg
    subst hP hw hK
    obtain ⟨f0, f1, f2, f3, f4, f5⟩ := hf it (by simp)
    exact wpAny_pyNext_range_end (I.ok.hd hc) st (by have : n ≤ i := hg; omega) fun h' eb => ⟨rfl, I.turned (t' := s.toks) (fun b o hb e => eb b o hb e) f0 f1 f3 f4 f5⟩
  self := fun _ _ _ _ _ st h => wpAny_pyIter_rangeiter st h
end L2

namespace L2
open PySem PySem.Spec PyProof.Rows
section
variable {X : Cx} {tg : Expr}
def iList (K : PySem.W.Frag) (tl : TE) : TI := fun σ H R => tl σ H fun x H1 => ∃ a, x = .ref a ∧ (∃ xs, SqL K H1 a xs) ∧ R (Itl K a) H1
theorem pi_list {l : Expr} {tl : TE} (hl : PE X l tl) : PI X tg l (iList X.K tl) := by
  intro pins s σ H R I h
  refine thn (hl pins s σ H _ I h) fun v s1 ⟨x, H1, I1, r1, q1⟩ => ?_
  obtain ⟨a, e, ⟨xs, hq⟩, q⟩ := q1
  subst e
  cases r1
  obtain ⟨its, rv, p, hz⟩ := I1.list hq
  refine wpAny_pyIter_list p.isList ?_
  refine ⟨s1.heap.objs.size, [s1.heap.objs.size], _, _, H1, rfl, I1.kept (t' := s1.toks) fun b o e => Heap.get?_push_of_some _ e, turn_list a _, ⟨_, Heap.get?_push_size _ rfl, rfl, rfl⟩, fun b hb => ?_, q⟩
  have e : b = s1.heap.objs.size := by simpa using hb
  subst e
  exact I1.fpOk (Nat.le_refl _) (I1.hok.fresh (Nat.le_refl _))
/-- a range object just made, walked -/
theorem range_it {pins : List (Addr × Obj)} {σ : St} {H : Hp} {s : Shared} {R : It → Hp → Prop} {E : Value → Shared → Prop} {lo hi : Int} {t u v : Tok} {tk : Nat} (I : Inv X pins σ H s) (h1 : -(2 ^ 62) ≤ lo) (h2 : lo < 2 ^ 62) (h3 : -(2 ^ 62) ≤ hi) (h4 : hi < 2 ^ 62)
    (q : R (Itr lo (hi - lo).toNat) H) : wpAny (model X.prog X.w) X.A (pyIter (.ref s.heap.objs.size)) (PIE X pins σ tg R) E { s with heap := s.heap.push { cls := .type "range", data := .fields #[.int lo t, .int hi u, .int 1 v] }, toks := tk } := by
  refine wpAny_pyIter_range (IsRange.new ..) (small_one h1 h2 h3 h4) ?_
  have I1 : Inv X pins σ H { s with heap := s.heap.push { cls := .type "range", data := .fields #[.int lo t, .int hi u, .int 1 v] }, toks := tk } := I.kept fun b o e => Heap.get?_push_of_some _ e
  refine ⟨(s.heap.push { cls := .type "range", data := .fields #[.int lo t, .int hi u, .int 1 v] }).objs.size, [(s.heap.push { cls := .type "range", data := .fields #[.int lo t, .int hi u, .int 1 v] }).objs.size], _, _, H, rfl,
    I1.kept (t' := tk) fun b o e => Heap.get?_push_of_some _ e, turn_range _ lo (hi - lo).toNat, ?_, fun b hb => ?_, q⟩
  · have e1 : lo + ((0 : Nat) : Int) * 1 = lo := by simp
    have e2 : (((hi - lo).toNat : Nat) : Int) - ((0 : Nat) : Int) = Builtin.Range.rangeSize lo hi 1 := by rw [rangeSize_one]; split <;> omega
    show IsRangeIter _ _ (lo + ((0 : Nat) : Int) * 1) ((((hi - lo).toNat : Nat) : Int) - ((0 : Nat) : Int)) 1
    rw [e1, e2]
    exact Heap.get?_push_size _ rfl
  · have e : b = (s.heap.push { cls := .type "range", data := .fields #[.int lo t, .int hi u, .int 1 v] }).objs.size := by simpa using hb
    subst e
    exact I1.fpOk (Nat.le_refl _) (I1.hok.fresh (Nat.le_refl _))
def iRng1 (ta : TA) : TI := fun σ H R => ta σ H fun vs H1 => ∃ j : Int, vs = [.int j] ∧ -(2 ^ 62) ≤ j ∧ j < 2 ^ 62 ∧ R (Itr 0 j.toNat) H1
def iRng2 (ta : TA) : TI := fun σ H R => ta σ H fun vs H1 => ∃ i j : Int, vs = [.int i, .int j] ∧ (-(2 ^ 62) ≤ i ∧ i < 2 ^ 62 ∧ -(2 ^ 62) ≤ j ∧ j < 2 ^ 62) ∧ R (Itr i (j - i).toNat) H1
theorem pi_range1 {a : Expr} {ta : TA} {p pos : Pos} (hg : Gl X "range") (hm : X.mg "range" = none) (ha : PA X [a] ta) (hs : starEach [a] X.env = [(false, eval a X.env)] := by rfl) : PI X tg (.Call (.Name "range" p) [a] [] pos) (iRng1 ta) := by
  intro pins s σ H R I h
  refine Call_ (ld_blt I hg hm boot_range (PyProof.Rows.callWith_type1 (thn (ha pos pins s σ H _ I h) fun us s1 ⟨vs, H1, I1, r1, q1⟩ => ?_) hs rfl))
  obtain ⟨j, e, q1, q2, q⟩ := q1
  subst e
  cases r1 with
  | cons r rr =>
    cases rr
    obtain ⟨t, rfl⟩ := r
    exact call_range_1 (range_it I1 (by omega) (by omega) q1 q2 (by simpa using q))
theorem pi_range2 {a b : Expr} {ta : TA} {p pos : Pos} (hg : Gl X "range") (hm : X.mg "range" = none) (ha : PA X [a, b] ta) (hs : starEach [a, b] X.env = [(false, eval a X.env), (false, eval b X.env)] := by rfl) (hs2 : starEach [b] X.env = [(false, eval b X.env)] := by rfl) :
    PI X tg (.Call (.Name "range" p) [a, b] [] pos) (iRng2 ta) := by
  intro pins s σ H R I h
  refine Call_ (ld_blt I hg hm boot_range (PyProof.Rows.callWith_type1 (thn (ha pos pins s σ H _ I h) fun us s1 ⟨vs, H1, I1, r1, q1⟩ => ?_) (by rw [hs, hs2]) (by rw [hs2]; rfl)))
  obtain ⟨i, j, e, ⟨q1, q2, q3, q4⟩, q⟩ := q1
  subst e
  cases r1 with
  | cons r rr =>
    cases rr with
    | cons r' rr =>
      cases rr
      obtain ⟨t, rfl⟩ := r
      obtain ⟨t', rfl⟩ := r'
      exact call_range_2 (range_it I1 q1 q2 q3 q4 q)

/-! ### for -/
/-- W: the invariant by the turn and a measure; N: what the body is to reach -/
def tFor (wi : TI) (g : TG) (tb : TS) : TS := fun D σ H => wi σ H fun J H1 => ∃ W : Nat → Nat → St → Hp → Prop, (∃ m, W 0 m σ H1) ∧ ∀ i m σ H, W i m σ H →
  (J.stop i H ∧ D.nx σ H) ∨ (J.go i H ∧ ∃ N : St → Hp → Prop, (∀ σ' H', N σ' H' → ∃ m', m' < m ∧ W (i + 1) m' σ' H') ∧ ∀ x H', J.yld i H x H' → g x σ H' fun σ2 H2 => tb { D with nx := N, ct := N, bk := D.nx } σ2 H2)
/-- the records at fp as they stand -/
def pinsAt (fp : List Addr) (h : Heap) : List (Addr × Obj) := fp.filterMap fun b => (h.get? b).map fun o => (b, o)
theorem mem_pinsAt {fp : List Addr} {h : Heap} {b : Addr} {o : Obj} (hb : b ∈ fp) (e : h.get? b = some o) : (b, o) ∈ pinsAt fp h := List.mem_filterMap.mpr ⟨b, hb, by rw [e]; rfl⟩
theorem of_pinsAt {fp : List Addr} {h : Heap} {p : Addr × Obj} (hp : p ∈ pinsAt fp h) : p.1 ∈ fp ∧ h.get? p.1 = some p.2 := by
  obtain ⟨b, hb, e⟩ := List.mem_filterMap.mp hp
  cases q : h.get? b with
  | none => rw [q] at e; cases e
  | some o =>
    rw [q] at e
    have e' : (b, o) = p := Option.some.inj e
    subst e'
    exact ⟨hb, q⟩
theorem Inv.pinned {pins : List (Addr × Obj)} {σ : St} {H : Hp} {s : Shared} {fp : List Addr} (I : Inv X pins σ H s) (hf : ∀ b ∈ fp, FpOk X pins H b) (ho : ∀ b ∈ fp, ∃ o, s.heap.get? b = some o ∧ ∀ v, o.data ≠ .cell v) : Inv X (pins ++ pinsAt fp s.heap) σ H s :=
  I.pins_of fun p hp => (List.mem_append.mp hp).elim (fun z => I.pin p (List.mem_append_right _ z)) fun z => by
    obtain ⟨hb, e⟩ := of_pinsAt z
    obtain ⟨f0, f1, f2, _⟩ := hf p.1 hb
    obtain ⟨o, e', d⟩ := ho p.1 hb
    rw [e] at e'; cases e'
    exact ⟨e, f0, f1, f2, d⟩
theorem Inv.unpinned {pins pl : List (Addr × Obj)} {σ : St} {H : Hp} {s : Shared} (I : Inv X (pins ++ pl) σ H s) : Inv X pins σ H s := I.pins_of fun p hp => I.pin p (List.mem_append_right _ (List.mem_append_left _ hp))
theorem ps_for {iter : Expr} {body : List Stmt} {wi : TI} {g : TG} {tb : TS} {pos : Pos} (hp : PassesOwn (model X.prog X.w) X.A X.env X.xe) (hc : X.calm = true) (hi : PI X tg iter wi) (hg : PG X tg g) (hb : PSs X body tb)
    (hs : ∀ x, foldedSetIterable iter X.env x = pure x := by intro _; rfl) : PS X (.For tg iter body [] pos) (tFor wi g tb) := by
  intro pins s σ H D I h
  refine wpAny_For (thn (hi pins s σ H _ I h) fun v s1 h1 => thn h1 fun itv s2 h2 => ?_) hs
  obtain ⟨it, fp, tn, J, H2, e, I2, T, st2, f2, W, ⟨m0, w0⟩, turn⟩ := h2
  subst e
  -- what stays true of the iterator's objects through the loop
  have stat : ∀ {H' : Hp}, (∀ b ∈ fp, H' b = none) → ∀ b ∈ fp, FpOk X pins H' b := fun hn b hb => ⟨hn b hb, (f2 b hb).2⟩
  refine codeAny_forLoop_any (fun n s' => ∃ i σ' H', Inv X pins σ' H' s' ∧ tn i s'.heap ∧ (∀ b ∈ fp, H' b = none) ∧ W i n σ' H') ?_ m0 ⟨0, σ, H2, I2, st2, fun b hb => (f2 b hb).1, w0⟩
  rintro n s3 ⟨i, σ3, H3, I3, st3, fr3, w3⟩
  rcases turn i n σ3 H3 w3 with ⟨stop, qn⟩ | ⟨go, N, hN, step⟩
  · refine wpAny_passesOwn hp (thn (T.done X rfl rfl rfl hc i pins s3 σ3 H3 X.xe I3 (stat fr3) st3 stop) fun r s4 ⟨hr, I4⟩ => ?_)
    subst hr
    exact wpAny_execs_nil ⟨σ3, H3, I4, qn⟩
  · refine wpAny_passesOwn hp (thn (T.item X rfl rfl rfl hc i pins s3 σ3 H3 X.xe I3 (stat fr3) st3 go) fun r s4 ⟨u, hr, h4⟩ => ?_)
    subst hr
    refine wpAny_passesOwn hp (thn h4 fun _ s5 ⟨x, H5, I5, r5, y5, st5, fr5⟩ => ?_)
    have I5' := I5.pinned (stat fr5) (T.obj _ _ st5)
    refine wpAny_passesOwn hp (thn (hg _ s5 σ3 H5 x u _ I5' r5 (step x H5 y5)) fun _ s6 ⟨σ6, H6, I6, q6⟩ => ?_)
    refine wpAny_passesOwn hp (thn (hb _ s6 σ6 H6 _ I6 q6) fun f s7 q7 => ?_)
    have again : ∀ {σ7 : St} {H7 : Hp}, Inv X (pins ++ pinsAt fp s5.heap) σ7 H7 s7 → N σ7 H7 → ∃ m, m < n ∧ ∃ i σ' H', Inv X pins σ' H' s7 ∧ tn i s7.heap ∧ (∀ b ∈ fp, H' b = none) ∧ W i m σ' H' := fun {σ7 H7} I7 n7 => by
      obtain ⟨m', hm, w7⟩ := hN σ7 H7 n7
      refine ⟨m', hm, i + 1, σ7, H7, I7.unpinned, T.keep _ _ _ st5 fun b hb o e => (I7.pin (b, o) (List.mem_append_right _ (List.mem_append_right _ (mem_pinsAt hb e)))).1, fun b hb => ?_, w7⟩
      obtain ⟨o, e, d⟩ := T.obj _ _ st5 b hb
      exact (I7.pin (b, o) (List.mem_append_right _ (List.mem_append_right _ (mem_pinsAt hb e)))).2.1
    cases f with
    | next => obtain ⟨σ7, H7, I7, n7⟩ := q7; exact again I7 n7
    | cont => obtain ⟨σ7, H7, I7, n7⟩ := q7; exact again I7 n7
    | brk => obtain ⟨σ7, H7, I7, q7⟩ := q7; exact ⟨σ7, H7, I7.unpinned, q7⟩
    | ret v => obtain ⟨x7, σ7, H7, I7, r7, q7⟩ := q7; exact ⟨x7, σ7, H7, I7.unpinned, r7, q7⟩
end

/-! ### the forms one uses -/
/-- over a list that the body leaves as it is -/
theorem for_list {K : PySem.W.Frag} {a : Addr} {xs : List V} {g : TG} {tb : TS} {D : Ends} {σ : St} {H : Hp} (Pv : Nat → St → Hp → Prop) (h0 : Pv 0 σ H) (hl : ∀ i σ H, i ≤ xs.length → Pv i σ H → SqL K H a xs)
    (hs : ∀ i x σ H, xs[i]? = some x → Pv i σ H → g x σ H fun σ2 H2 => tb { D with nx := Pv (i + 1), ct := Pv (i + 1), bk := D.nx } σ2 H2) (hd : ∀ σ H, Pv xs.length σ H → D.nx σ H) :
    ∃ W : Nat → Nat → St → Hp → Prop, (∃ m, W 0 m σ H) ∧ ∀ i m σ H, W i m σ H →
      ((Itl K a).stop i H ∧ D.nx σ H) ∨ ((Itl K a).go i H ∧ ∃ N : St → Hp → Prop, (∀ σ' H', N σ' H' → ∃ m', m' < m ∧ W (i + 1) m' σ' H') ∧ ∀ x H', (Itl K a).yld i H x H' → g x σ H' fun σ2 H2 => tb { D with nx := N, ct := N, bk := D.nx } σ2 H2) := by
  refine ⟨fun i m σ H => m = xs.length - i ∧ i ≤ xs.length ∧ Pv i σ H, ⟨xs.length, by simp, Nat.zero_le _, h0⟩, ?_⟩
  rintro i m σ H ⟨rfl, hi, p⟩
  have q := hl i σ H hi p
  by_cases hlt : i < xs.length
  · refine .inr ⟨⟨xs, xs[i], q, by simp [hlt]⟩, Pv (i + 1), fun σ' H' p' => ⟨xs.length - (i + 1), by omega, rfl, hlt, p'⟩, fun x H' y => ?_⟩
    obtain ⟨e, y⟩ := y
    subst e
    exact hs i x σ _ (y xs q) p
  · have e : i = xs.length := by omega
    subst e
    exact .inl ⟨⟨xs, q, Nat.le_refl _⟩, hd σ H p⟩
theorem for_range {lo : Int} {n : Nat} {g : TG} {tb : TS} {D : Ends} {σ : St} {H : Hp} (Pv : Nat → St → Hp → Prop) (h0 : Pv 0 σ H)
    (hs : ∀ i σ H, i < n → Pv i σ H → g (.int (lo + i)) σ H fun σ2 H2 => tb { D with nx := Pv (i + 1), ct := Pv (i + 1), bk := D.nx } σ2 H2) (hd : ∀ σ H, Pv n σ H → D.nx σ H) :
    ∃ W : Nat → Nat → St → Hp → Prop, (∃ m, W 0 m σ H) ∧ ∀ i m σ H, W i m σ H →
      ((Itr lo n).stop i H ∧ D.nx σ H) ∨ ((Itr lo n).go i H ∧ ∃ N : St → Hp → Prop, (∀ σ' H', N σ' H' → ∃ m', m' < m ∧ W (i + 1) m' σ' H') ∧ ∀ x H', (Itr lo n).yld i H x H' → g x σ H' fun σ2 H2 => tb { D with nx := N, ct := N, bk := D.nx } σ2 H2) := by
  refine ⟨fun i m σ H => m = n - i ∧ i ≤ n ∧ Pv i σ H, ⟨n, by simp, Nat.zero_le _, h0⟩, ?_⟩
  rintro i m σ H ⟨rfl, hi, p⟩
  by_cases hlt : i < n
  · refine .inr ⟨hlt, Pv (i + 1), fun σ' H' p' => ⟨n - (i + 1), by omega, rfl, hlt, p'⟩, fun x H' y => ?_⟩
    obtain ⟨e, y⟩ := y
    subst e y
    exact hs i σ _ hlt p
  · have e : i = n := by omega
    subst e
    exact .inl ⟨Nat.le_refl _, hd σ H p⟩
end L2

namespace L2
open PySem PySem.Spec PyProof.Rows

abbrev R2 := V → V → Hp → VK → Prop
/-- a two-place operation on values: f is binaryOp op, inplaceOp op or compareOp op -/
def OpR (X : Cx) (f : Value → Value → Sem Value) (r : R2) : Prop :=
  ∀ (pins : List (Addr × Obj)) (s : Shared) (σ : St) (H : Hp) (x y : V) (v u : Value) (Q : VK), Inv X pins σ H s → RelV x v → RelV y u → r x y H Q →
    wpAny (model X.prog X.w) X.A (f v u) (EP X pins σ Q) X.xe s
/-- a call of a value that is known (a builtin, a type) with values -/
def CallR (X : Cx) (f : Value) (r : List V → Hp → VK → Prop) : Prop :=
  ∀ (pins : List (Addr × Obj)) (s : Shared) (σ : St) (H : Hp) (xs : List V) (us : List Value) (Q : VK), Inv X pins σ H s → Vals xs us → r xs H Q →
    wpAny (model X.prog X.w) X.A (call f us) (EP X pins σ Q) X.xe s
def tOp (r : R2) (ta tb : TE) : TE := fun σ H Q => ta σ H fun x H1 => tb σ H1 fun y H2 => r x y H2 Q
def tUn (r : V → Hp → VK → Prop) (ta : TE) : TE := fun σ H Q => ta σ H fun x H1 => r x H1 Q
/-- ints in, under C, and a value out -/
def rI (C : Int → Int → Prop) (g : Int → Int → V) : R2 := fun x y H Q => ∃ i j, x = .int i ∧ y = .int j ∧ C i j ∧ Q (g i j) H
def rI0 (g : Int → Int → V) : R2 := fun x y H Q => ∃ i j, x = .int i ∧ y = .int j ∧ Q (g i j) H
def rU (g : Int → V) : V → Hp → VK → Prop := fun x H Q => ∃ i, x = .int i ∧ Q (g i) H

section
variable {X : Cx} {a b c : Expr} {ta tb tc : TE} {pos : Pos}

theorem binT (ha : PE X a ta) (hb : PE X b tb) {pins : List (Addr × Obj)} {s : Shared} {σ : St} {H : Hp} {R : V → V → Hp → Prop} (I : Inv X pins σ H s)
    (h : ta σ H fun x H1 => tb σ H1 fun y H2 => R x y H2) {Q : Value → Shared → Prop} {f : Value → Value → Sem Value}
    (hf : ∀ v u s2 x y H2, Inv X pins σ H2 s2 → RelV x v → RelV y u → R x y H2 → wpAny (model X.prog X.w) X.A (f v u) Q X.xe s2) :
    wpAny (model X.prog X.w) X.A (eval a X.env) (fun v s₁ => wpAny (model X.prog X.w) X.A (eval b X.env) (fun u s₂ => wpAny (model X.prog X.w) X.A (f v u) Q X.xe s₂) X.xe s₁) X.xe s := by
  refine thn (ha pins s σ H _ I h) fun v s1 ⟨x, H1, I1, r1, q1⟩ => ?_
  refine thn (hb pins s1 σ H1 _ I1 q1) fun u s2 ⟨y, H2, I2, r2, q2⟩ => ?_
  exact hf v u s2 x y H2 I2 r1 r2 q2

theorem pe_op {op : Operator} {r : R2} (ho : OpR X (binaryOp op) r) (ha : PE X a ta) (hb : PE X b tb) : PE X (.BinOp a op b pos) (tOp r ta tb) := by
  intro pins s σ H Q I h
  exact wpAny_BinOp (binT ha hb I h fun v u s2 x y H2 I2 rx ry q => ho pins s2 σ H2 x y v u Q I2 rx ry q)
/-! ### ints -/
theorem opI {f : Value → Value → Sem Value} {C : Int → Int → Prop} {g : Int → Int → Int}
    (rule : ∀ (i j : Int) (t u : Tok) (s : Shared) (Q : Value → Shared → Prop) (E : Value → Shared → Prop), C i j → Q (.int (g i j) s.toks) { s with toks := s.toks + 1 } → wpAny (model X.prog X.w) X.A (f (.int i t) (.int j u)) Q E s) :
    OpR X f (rI C fun i j => .int (g i j)) := by
  intro pins s σ H x y v u Q I rx ry h
  obtain ⟨i, j, rfl, rfl, hc, q⟩ := h
  obtain ⟨t, rfl⟩ := rx
  obtain ⟨t', rfl⟩ := ry
  exact rule i j t t' s _ _ hc ⟨.int (g i j), H, I.tok _, ⟨_, rfl⟩, q⟩
theorem opI0 {f : Value → Value → Sem Value} {g : Int → Int → Int}
    (rule : ∀ (i j : Int) (t u : Tok) (s : Shared) (Q : Value → Shared → Prop) (E : Value → Shared → Prop), Q (.int (g i j) s.toks) { s with toks := s.toks + 1 } → wpAny (model X.prog X.w) X.A (f (.int i t) (.int j u)) Q E s) :
    OpR X f (rI0 fun i j => .int (g i j)) := by
  intro pins s σ H x y v u Q I rx ry h
  obtain ⟨i, j, rfl, rfl, q⟩ := h
  obtain ⟨t, rfl⟩ := rx
  obtain ⟨t', rfl⟩ := ry
  exact rule i j t t' s _ _ ⟨.int (g i j), H, I.tok _, ⟨_, rfl⟩, q⟩
theorem opB0 {f : Value → Value → Sem Value} {g : Int → Int → Bool}
    (rule : ∀ (i j : Int) (t u : Tok) (s : Shared) (Q : Value → Shared → Prop) (E : Value → Shared → Prop), Q (.bool (g i j)) s → wpAny (model X.prog X.w) X.A (f (.int i t) (.int j u)) Q E s) :
    OpR X f (rI0 fun i j => .bl (g i j)) := by
  intro pins s σ H x y v u Q I rx ry h
  obtain ⟨i, j, rfl, rfl, q⟩ := h
  obtain ⟨t, rfl⟩ := rx
  obtain ⟨t', rfl⟩ := ry
  exact rule i j t t' s _ _ ⟨.bl (g i j), H, I, rfl, q⟩

def CDiv (i j : Int) : Prop := 0 < j ∧ j < 1073741824
def CDivN (i j : Int) : Prop := j ≠ 0 ∧ j.natAbs < 1073741824
def CPow (i j : Int) : Prop := 0 ≤ j ∧ j ≤ 1000000 ∧ i.natAbs < 2 ^ 64
def CMul (i j : Int) : Prop := (-(2 ^ 64) < i ∧ i < 2 ^ 64) ∨ (-(2 ^ 64) < j ∧ j < 2 ^ 64)
theorem op_add : OpR X (binaryOp .Add) (rI0 fun i j => .int (i + j)) := opI0 fun _ _ _ _ _ _ _ q => add_int q
theorem op_sub : OpR X (binaryOp .Sub) (rI0 fun i j => .int (i - j)) := opI0 fun _ _ _ _ _ _ _ q => sub_int q
/-- // by a positive divisor -/
theorem op_fdiv : OpR X (binaryOp .FloorDiv) (rI CDiv fun i j => .int (i / j)) := opI fun i j _ _ _ _ _ hc q => by
  have h1 : (0 : Int) < j := hc.1
  have h2 : j < 1073741824 := hc.2
  exact floordiv_int (by omega) (by rw [Int.fdiv_eq_ediv_of_nonneg i (by omega)]; exact q) (.inl (PyProof.noPylong_small (by omega)))
/-- % by a positive divisor of any size -/
theorem op_mod : OpR X (binaryOp .Mod) (rI (fun _ j => 0 < j) fun i j => .int (i % j)) := opI fun i j _ _ _ _ _ hc q => by
  have h1 : (0 : Int) < j := hc
  exact mod_int' (by omega) (by rw [Int.fmod_eq_emod_of_nonneg i (by omega)]; exact q)
theorem op_pow : OpR X (binaryOp .Pow) (rI CPow fun i j => .int (i ^ j.toNat)) := opI fun _ _ _ _ _ _ _ hc q => pow_int_small hc.1 hc.2.1 hc.2.2 q
/-! ### bools among ints: n += (a < b) -/
end

/-! ### comparisons -/
/-- the scalars that == tells apart as data does -/
def scal : V → V → Bool
  | .non, .non => true | .non, .int _ => true | .int _, .non => true | .non, .bl _ => true | .bl _, .non => true | .non, .str _ => true | .str _, .non => true
  | .int _, .int _ => true | .bl _, .bl _ => true | .str _, .str _ => true | .byt _, .byt _ => true
  | .int _, .str _ => true | .str _, .int _ => true | .bl _, .str _ => true | .str _, .bl _ => true
  | _, _ => false
def rEq : R2 := fun x y H Q => scal x y = true ∧ Q (.bl (decide (x = y))) H
def rNe : R2 := fun x y H Q => scal x y = true ∧ Q (.bl (!decide (x = y))) H

theorem dec_int {i j : Int} : decide (V.int i = V.int j) = (i == j) := by
  rw [Bool.eq_iff_iff]
  simp
theorem dec_bl {i j : Bool} : decide (V.bl i = V.bl j) = (i == j) := by
  rw [Bool.eq_iff_iff]
  simp
theorem dec_str {i j : Str} : decide (V.str i = V.str j) = (i == j) := by
  rw [Bool.eq_iff_iff]
  simp
theorem dec_byt {i j : Array UInt8} : decide (V.byt i = V.byt j) = (i.toList == j.toList) := by
  rw [Bool.eq_iff_iff]
  cases i
  cases j
  simp

section
variable {X : Cx} {a b c : Expr} {ta tb tc : TE} {pos : Pos}
theorem fin_bl {pins : List (Addr × Obj)} {σ : St} {H : Hp} {s : Shared} {Q : VK} {k k' : Bool} (I : Inv X pins σ H s) (q : Q (.bl k) H) (e : k = k') : EP X pins σ Q (.bool k') s := by
  subst e
  exact ⟨.bl k, H, I, rfl, q⟩
theorem op_eq : OpR X (compareOp .Eq) rEq := by
  intro pins s σ H x y v u Q I rx ry h
  obtain ⟨hs, q⟩ := h
  cases x with
  | non =>
    cases rx
    cases y with
    | non => cases ry; exact PySem.EqNone.eq_none_none (fin_bl I q (by simp))
    | bl j => cases ry; exact PySem.EqNone.eq_none_bool (fin_bl I q (by simp))
    | int j => obtain ⟨t', rfl⟩ := ry; exact PySem.EqNone.eq_none_int (fin_bl I q (by simp))
    | str j => obtain ⟨t', rfl⟩ := ry; exact PySem.EqNone.eq_none_str (fin_bl I q (by simp))
    | _ => exact absurd (show false = true from hs) Bool.false_ne_true
  | bl i =>
    cases rx
    cases y with
    | non => cases ry; exact PySem.EqNone.eq_bool_none (fin_bl I q (by simp))
    | bl j => cases ry; exact eq_bool (fin_bl I q dec_bl)
    | str j => obtain ⟨t', rfl⟩ := ry; exact PySem.EqMixed.eq_bool_str (fin_bl I q (by simp))
    | _ => exact absurd (show false = true from hs) Bool.false_ne_true
  | int i =>
    obtain ⟨t, rfl⟩ := rx
    cases y with
    | non => cases ry; exact PySem.EqNone.eq_int_none (fin_bl I q (by simp))
    | int j => obtain ⟨t', rfl⟩ := ry; exact eq_int (fin_bl I q dec_int)
    | str j => obtain ⟨t', rfl⟩ := ry; exact PySem.EqMixed.eq_int_str (fin_bl I q (by simp))
    | _ => exact absurd (show false = true from hs) Bool.false_ne_true
  | str i =>
    obtain ⟨t, rfl⟩ := rx
    cases y with
    | non => cases ry; exact PySem.EqNone.eq_str_none (fin_bl I q (by simp))
    | bl j => cases ry; exact PySem.EqMixed.eq_str_bool (fin_bl I q (by simp))
    | int j => obtain ⟨t', rfl⟩ := ry; exact PySem.EqMixed.eq_str_int (fin_bl I q (by simp))
    | str j => obtain ⟨t', rfl⟩ := ry; exact eq_str (fin_bl I q dec_str)
    | _ => exact absurd (show false = true from hs) Bool.false_ne_true
  | byt i =>
    obtain ⟨t, rfl⟩ := rx
    cases y with
    | byt j => obtain ⟨t', rfl⟩ := ry; exact PySem.W.eq_bytes (fin_bl I q dec_byt)
    | _ => exact absurd (show false = true from hs) Bool.false_ne_true
  | _ => cases y <;> exact absurd (show false = true from hs) Bool.false_ne_true
theorem op_ne : OpR X (compareOp .NotEq) rNe := by
  intro pins s σ H x y v u Q I rx ry h
  obtain ⟨hs, q⟩ := h
  cases x with
  | non =>
    cases rx
    cases y with
    | non => cases ry; exact PySem.EqNone.ne_none_none (fin_bl I q (by simp))
    | bl j => cases ry; exact PySem.EqNone.ne_none_bool (fin_bl I q (by simp))
    | int j => obtain ⟨t', rfl⟩ := ry; exact PySem.EqNone.ne_none_int (fin_bl I q (by simp))
    | str j => obtain ⟨t', rfl⟩ := ry; exact PySem.EqNone.ne_none_str (fin_bl I q (by simp))
    | _ => exact absurd (show false = true from hs) Bool.false_ne_true
  | bl i =>
    cases rx
    cases y with
    | non => cases ry; exact PySem.EqNone.ne_bool_none (fin_bl I q (by simp))
    | bl j => cases ry; exact ne_bool (fin_bl I q (congrArg not dec_bl))
    | str j => obtain ⟨t', rfl⟩ := ry; exact PySem.EqMixed.ne_bool_str (fin_bl I q (by simp))
    | _ => exact absurd (show false = true from hs) Bool.false_ne_true
  | int i =>
    obtain ⟨t, rfl⟩ := rx
    cases y with
    | non => cases ry; exact PySem.EqNone.ne_int_none (fin_bl I q (by simp))
    | int j => obtain ⟨t', rfl⟩ := ry; exact ne_int (fin_bl I q (congrArg not dec_int))
    | str j => obtain ⟨t', rfl⟩ := ry; exact PySem.EqMixed.ne_int_str (fin_bl I q (by simp))
    | _ => exact absurd (show false = true from hs) Bool.false_ne_true
  | str i =>
    obtain ⟨t, rfl⟩ := rx
    cases y with
    | non => cases ry; exact PySem.EqNone.ne_str_none (fin_bl I q (by simp))
    | bl j => cases ry; exact PySem.EqMixed.ne_str_bool (fin_bl I q (by simp))
    | int j => obtain ⟨t', rfl⟩ := ry; exact PySem.EqMixed.ne_str_int (fin_bl I q (by simp))
    | str j => obtain ⟨t', rfl⟩ := ry; exact ne_str (fin_bl I q (congrArg not dec_str))
    | _ => exact absurd (show false = true from hs) Bool.false_ne_true
  | byt i =>
    obtain ⟨t, rfl⟩ := rx
    cases y with
    | byt j => obtain ⟨t', rfl⟩ := ry; exact PySem.W.ne_bytes (fin_bl I q (congrArg not dec_byt))
    | _ => exact absurd (show false = true from hs) Bool.false_ne_true
  | _ => cases y <;> exact absurd (show false = true from hs) Bool.false_ne_true

theorem op_lt : OpR X (compareOp .Lt) (rI0 fun i j => .bl (decide (i < j))) := opB0 fun _ _ _ _ _ _ _ q => lt_int q
theorem op_gt : OpR X (compareOp .Gt) (rI0 fun i j => .bl (decide (j < i))) := opB0 fun _ _ _ _ _ _ _ q => gt_int q
/-- is None, is not None: the right side a value none -/
theorem op_isN : OpR X (compareOp .Is) (fun x y H Q => y = .non ∧ Q (.bl (decide (x = .non))) H) := by
  intro pins s σ H x y v u Q I rx ry h
  obtain ⟨rfl, q⟩ := h
  cases ry
  refine is_none_gen (fin_bl I q ?_)
  cases x <;> first
    | (cases rx; rfl)
    | (obtain ⟨t, rfl⟩ := rx; rfl)
theorem op_notN : OpR X (compareOp .IsNot) (fun x y H Q => y = .non ∧ Q (.bl (!decide (x = .non))) H) := by
  intro pins s σ H x y v u Q I rx ry h
  obtain ⟨rfl, q⟩ := h
  cases ry
  refine isnot_none_gen (fin_bl I q ?_)
  cases x <;> first
    | (cases rx; rfl)
    | (obtain ⟨t, rfl⟩ := rx; rfl)

/-- two rules for one operation: by cases -/
theorem OpR.or {f : Value → Value → Sem Value} {r r' : R2} (h : OpR X f r) (h' : OpR X f r') : OpR X f (fun x y H Q => r x y H Q ∨ r' x y H Q) := by
  intro pins s σ H x y v u Q I rx ry q
  rcases q with q | q
  · exact h pins s σ H x y v u Q I rx ry q
  · exact h' pins s σ H x y v u Q I rx ry q

theorem nomark (b : Expr) {op : CmpOp} (h : op ≠ .In := by decide) (h2 : op ≠ .NotIn := by decide) : behindInMarks op b = false := by
  have e1 : (op == CmpOp.In) = false := by cases op <;> first | rfl | exact absurd rfl h
  have e2 : (op == CmpOp.NotIn) = false := by cases op <;> first | rfl | exact absurd rfl h2
  cases b <;> simp [behindInMarks, e1, e2]
/-- a comparison as a value; hm: nomark b, or (for in, not in) by with_unfolding_all rfl -/
theorem pe_cmpR {op : CmpOp} {r : R2} (ho : OpR X (compareOp op) r) (ha : PE X a ta) (hb : PE X b tb) (hm : behindInMarks op b = false) : PE X (.Compare a [op] [b] pos) (tOp r ta tb) := by
  intro pins s σ H Q I h
  exact wpAny_Compare1 (binT ha hb I h fun v u s2 x y H2 I2 rx ry q => ho pins s2 σ H2 x y v u Q I2 rx ry q) hm
/-- a reading of a value as a test -/
def tTest (t : TE) : TT := fun σ H Q => t σ H fun x H' => ∃ k, x = .bl k ∧ Q k H'
theorem pt_cmpR {op : CmpOp} {r : R2} (ho : OpR X (compareOp op) r) (ha : PE X a ta) (hb : PE X b tb) (hm : behindInMarks op b = false) : PT X (.Compare a [op] [b] pos) (tTest (tOp r ta tb)) := by
  intro pins s σ H Q I h
  refine wpAny_isTrue_Compare1 (thn (ha pins s σ H _ I h) fun v s1 ⟨x, H1, I1, r1, q1⟩ => thn (hb pins s1 σ H1 _ I1 q1) fun u s2 ⟨y, H2, I2, r2, q2⟩ =>
    thn (ho pins s2 σ H2 x y v u _ I2 r1 r2 q2) fun c s3 ⟨z, H3, I3, r3, k, e, q3⟩ => ?_) hm
  subst e
  cases r3
  exact wpAny_truthy_bool ⟨H3, I3, q3⟩
/-! ### truth -/
theorem line63 : (sizeLine : Nat) < 2 ^ 63 := by rw [sizeLine_eq]; decide
/-! ### strs and bytes -/
/-! ### scalar builtins, by CallR -/
theorem vals1 {x : V} {us : List Value} (r : Vals [x] us) : ∃ u, us = [u] ∧ RelV x u := by
  cases r with
  | cons r1 r2 => cases r2; exact ⟨_, rfl, r1⟩
theorem call_str_int : CallR X (.type "str") (fun xs H Q => ∃ i, xs = [.int i] ∧ i.natAbs.log2 < 1920 ∧ Q (.str (toString i)) H) := by
  intro pins s σ H xs us Q I r h
  obtain ⟨i, rfl, hz, q⟩ := h
  obtain ⟨u, rfl, t, rfl⟩ := vals1 r
  exact PySem.P.str_of_int hz ⟨.str _, H, I.tok _, ⟨_, rfl⟩, q⟩
end
end L2

namespace L2
open PySem PySem.Spec PyProof.Rows

/-! ### an instance, its attributes a map -/
structure ObjM (h : Heap) (x dx C : Addr) (mA : Str → Option Value) : Prop where
  obj : h.get? x = some (PySem.W.instObj C dx)
  ns : h.Ns1 dx mA
  ne : dx ≠ x

theorem lookIn_ns {h : Heap} {dx : Addr} {mA : Str → Option Value} (n : h.Ns1 dx mA) : ∃ od, h.get? dx = some od ∧ ∀ name, PySem.W.lookIn name od = some (mA name) := by
  obtain ⟨o, es, ep, ho, hd, hk, _, hm⟩ := n
  refine ⟨o, ho, fun name => ?_⟩
  have e := hm name
  unfold nsFind findBy at e
  rw [← Array.find?_toList] at e
  unfold PySem.W.lookIn
  rw [hd]
  dsimp only
  split
  · rename_i y q
    rw [q] at e
    exact congrArg some e
  · rename_i q
    rw [q] at e
    have a : es.toList.any (·.refKey) = false := by
      rw [List.any_eq_false]
      intro y hy
      obtain ⟨z, t, hkey⟩ := hk y (Array.mem_toList_iff.mp hy)
      simp [DictEntry.refKey, hkey]
    have a' : ¬ es.toList.any (·.refKey) = true := by rw [a]; exact Bool.false_ne_true
    rw [if_neg a']
    exact congrArg some e

theorem ObjM.look {h : Heap} {x dx C : Addr} {mA : Str → Option Value} (I : ObjM h x dx C mA) : ∃ od, PySem.W.InstAt h x (PySem.W.instObj C dx) C (some od) ∧ ∀ name, PySem.W.lookIn name od = some (mA name) :=
  let ⟨od, ho, hl⟩ := lookIn_ns I.ns
  ⟨od, ⟨I.obj, rfl, rfl, ho⟩, hl⟩

section
variable {prog : Program} {w : World} {A : Around} {E : Value → Shared → Prop} {s : Shared} {K : PySem.W.Frag} {x dx C f : Addr} {mA : Str → Option Value} {name : Str} {v : Value}

theorem get_map {expr : Bool} {Q : Value → Shared → Prop} (X : K.In s.heap) (I : ObjM s.heap x dx C mA) (hg : PySem.W.plainGet K C name = true) (hh : PySem.W.hasDictIn K C = true)
    (ha : PySem.W.findIn K (.ref C) name = some none) (hv : mA name = some v) (hv' : PySem.W.handedIn v = true) (h : Q v { s with toks := s.toks + 1 }) :
    wpAny (model prog w) A (getAttr (.ref x) name expr) Q E s := by
  obtain ⟨od, J, hl⟩ := I.look
  exact PySem.W.get_value X J (PySem.W.plainGet_of hg).1 (PySem.W.findObj_own hh ha rfl (by rw [hl, hv])) hv' h

theorem get_meth {pl : Sem Bool} {Q : Value × List Value → Shared → Prop} (X : K.In s.heap) (I : ObjM s.heap x dx C mA) (hg : PySem.W.plainGet K C name = true)
    (hf : PySem.W.findIn K (.ref C) name = some (some (.ref f))) (ht : PySem.W.isFn K (.ref f) = true) (hv : mA name = none) (h : Q (.ref f, [.ref x]) s) :
    wpAny (model prog w) A (getMethod (.ref x) name pl) Q E s := by
  obtain ⟨od, J, hl⟩ := I.look
  exact PySem.W.method_fn X J (PySem.W.plainGet_of hg).1 (PySem.W.plainGet_of hg).2 hf (beq_iff_eq.mp ht) (by show (PySem.W.lookIn name od).map (·.isSome) = some false; rw [hl, hv]; rfl) h

theorem set_map {ns : List Str} {Q : Unit → Shared → Prop} (X : K.In s.heap) (I : ObjM s.heap x dx C mA)
    (hs : PySem.W.findIn K (.ref C) "__setattr__" = some (some (.builtin "object.__setattr__"))) (hp : PySem.W.plainOver K C = true) (ht : PySem.W.takerIn K C name = some none) (hh : PySem.W.hasDictIn K C = true)
    (hw : PySem.Within mA ns) (hsz : ns.length ≤ sizeLine)
    (h : ∀ h', ObjM h' x dx C (fun y => if y = name then some v else mA y) → Heap.SameBut dx s.heap h' → Q () { s with heap := h', toks := s.toks + 2 }) :
    wpAny (model prog w) A (setAttr (.ref x) name v) Q E s := by
  obtain ⟨od, J, hl⟩ := I.look
  refine PySem.W.set_plain X J hs (PySem.W.osa_open (s := { s with toks := s.toks + 1 }) (r := none) X J hp ht fun b => ?_)
  obtain ⟨cd, hc, hd'⟩ := PySem.W.any_some hh
  have hx : s.heap.get? x = some ⟨.ref C, some dx, .plain, #[]⟩ := I.obj
  refine wpAny_bind (wpAny_pure (wpAny_bind (wpAny_bind (wpAny_loadPart hx (wpAny_bind (PySem.W.Looks.here (s := { s with toks := s.toks + 1 }) (PySem.W.looks_clsIn X hc) ?_))))))
  rw [hd']
  refine wpAny_pure (a := some dx) (wpAny_bind (wpAny_pure (wpAny_bind ?_)))
  refine wpAny_nsSet1 (s := { s with toks := s.toks + 1 }) I.ns fun h' hn2 hs2 => ?_
  obtain ⟨oD, esD, epD, hoD, hdD, hcD⟩ := hn2.count (PySem.Within.cons name v hw)
  refine wpAny_bind (wpAny_lookBehind hoD (by rw [hdD]; exact pastItsLine_dict (Nat.le_trans hcD (by rw [List.length_cons]; omega))) ?_)
  exact wpAny_pure (h _ ⟨(hs2.2 _ (Ne.symm I.ne)).trans I.obj, hn2, I.ne⟩ hs2)

/-- C(..): the dict at the heap's end, the instance behind it; then its __init__ -/
theorem make_map {R : Result → Shared → Prop} {vs : List Value} {kw : List (Str × Value)} (X : K.In s.heap) (hm : PySem.W.makesIn K C = true)
    (hi : PySem.W.findIn K (.ref C) "__init__" = some (some (.ref f))) (hf : PySem.W.typeIn K (.ref f) = some (.type "function"))
    (h : codeAny (model prog w) (A.under (.builtin "type.__call__" ⟨.ref C :: vs, kw⟩)) (.call (.ref f) ⟨.ref (s.heap.objs.size + 1) :: vs, kw⟩) (PySem.W.InitBack (s.heap.objs.size + 1) R)
      { s with heap := (s.heap.push PySem.W.emptyDict).push (PySem.W.instObj C s.heap.objs.size) }) :
    codeAny (model prog w) A (.call (.ref C) ⟨vs, kw⟩) R s := by
  obtain ⟨hh, g, d, t, os⟩ := s
  exact PySem.W.make_core (PySem.W.makes_of X hm) (PySem.W.looks_findIn X hi) (fun self => PySem.W.bind_fn X self hf) (.inl rfl) h
end

/-! ### the attributes as a list of pairs -/
def putF (f : Str) (v : V) : List (Str × V) → List (Str × V)
  | [] => [(f, v)]
  | (g, x) :: r => if g = f then (g, v) :: r else (g, x) :: putF f v r
theorem lookup_putF (f g : Str) (v : V) : ∀ fs : List (Str × V), (putF f v fs).lookup g = if g = f then some v else fs.lookup g
  | [] => by
    show List.lookup g [(f, v)] = _
    by_cases h : g = f
    · have hb : (g == f) = true := beq_iff_eq.mpr h
      simp only [List.lookup, hb, if_pos h]
    · have hb : (g == f) = false := beq_eq_false_iff_ne.mpr h
      simp only [List.lookup, hb, if_neg h]
  | (k, x) :: r => by
    have ih := lookup_putF f g v r
    rw [show putF f v ((k, x) :: r) = (if k = f then (k, v) :: r else (k, x) :: putF f v r) from rfl]
    by_cases hk : k = f
    · rw [if_pos hk]
      by_cases h : g = k
      · have hb : (g == k) = true := beq_iff_eq.mpr h
        simp only [List.lookup, hb, if_pos (h.trans hk)]
      · have hb : (g == k) = false := beq_eq_false_iff_ne.mpr h
        simp only [List.lookup, hb, if_neg (fun e : g = f => h (e.trans hk.symm))]
    · rw [if_neg hk]
      by_cases h : g = k
      · have hb : (g == k) = true := beq_iff_eq.mpr h
        simp only [List.lookup, hb, if_neg (fun e : g = f => hk (h.symm.trans e))]
      · have hb : (g == k) = false := beq_eq_false_iff_ne.mpr h
        simp only [List.lookup, hb]
        exact ih
theorem keys_putF (f : Str) (v : V) : ∀ fs : List (Str × V), f ∈ (putF f v fs).map (·.1) ∧ ∀ g, g ∈ fs.map (·.1) → g ∈ (putF f v fs).map (·.1)
  | [] => ⟨by simp [putF], fun g h => by simp at h⟩
  | (k, x) :: r => by
    obtain ⟨i1, i2⟩ := keys_putF f v r
    rw [show putF f v ((k, x) :: r) = (if k = f then (k, v) :: r else (k, x) :: putF f v r) from rfl]
    by_cases hk : k = f
    · rw [if_pos hk]
      subst hk
      exact ⟨by simp, fun g h => by simpa using h⟩
    · rw [if_neg hk]
      refine ⟨?_, fun g h => ?_⟩
      · rw [List.map_cons]
        exact List.mem_cons_of_mem _ i1
      · rw [List.map_cons] at h ⊢
        rcases List.mem_cons.mp h with e | e
        · exact List.mem_cons.mpr (.inl e)
        · exact List.mem_cons_of_mem _ (i2 g e)
theorem length_putF (f : Str) (v : V) : ∀ fs : List (Str × V), (putF f v fs).length ≤ fs.length + 1
  | [] => by simp [putF]
  | (k, x) :: r => by
    have ih := length_putF f v r
    rw [show putF f v ((k, x) :: r) = (if k = f then (k, v) :: r else (k, x) :: putF f v r) from rfl]
    by_cases hk : k = f
    · rw [if_pos hk, List.length_cons, List.length_cons]; omega
    · rw [if_neg hk, List.length_cons, List.length_cons]; omega

theorem RelO.some_of {v : V} {o : Option Value} (r : RelO (some v) o) : ∃ u, o = some u ∧ RelV v u := by
  cases o with
  | none => exact (show False from r).elim
  | some u => exact ⟨u, rfl, r⟩
theorem RelO.none_of {o : Option Value} (r : RelO none o) : o = none := by
  cases o with
  | none => rfl
  | some u => exact (show False from r).elim
theorem handed_of {v : V} {u : Value} (r : RelV v u) : PySem.W.handedIn u = true := by
  cases v with
  | non => cases (show u = Value.none from r); rfl
  | bl b => cases (show u = Value.bool b from r); rfl
  | int i => obtain ⟨t, e⟩ := (show ∃ t, u = Value.int i t from r); cases e; rfl
  | str x => obtain ⟨t, e⟩ := (show ∃ t, u = Value.str x t from r); cases e; rfl
  | byt b => obtain ⟨t, e⟩ := (show ∃ t, u = Value.bytes b t from r); cases e; rfl
  | flt b => obtain ⟨t, e⟩ := (show ∃ t, u = Value.float b t from r); cases e; rfl
  | ref a => cases (show u = Value.ref a from r); rfl
  | ty n => cases (show u = Value.type n from r); rfl

section
variable {P : Program} {w : World} {H H' : Hp} {h h' : Heap} {a C dx : Addr} {fs fs' : List (Str × V)}
theorem ins_get (hok : HOk P w H h) (e : H a = some (.ins C dx fs)) : ∃ mA, ObjM h a dx C mA ∧ (∀ f, RelO (fs.lookup f) (mA f)) ∧ PySem.Within mA (fs.map (·.1)) ∧ fs.length ≤ 1000 ∧ H dx = some (.own a) := by
  obtain ⟨d, z, ne, ob, mA, n, r, q⟩ := (show ObjOk P w H h a (.ins C dx fs) from hok a _ e)
  exact ⟨mA, ⟨ob, n, ne⟩, r, q, z, d⟩
end

/-! ### what of the text a class must have -/
structure Cls (K : PySem.W.Frag) (C : Addr) : Prop where
  pg : PySem.W.plainGet K C Str.empty = true
  hd : PySem.W.hasDictIn K C = true
  po : PySem.W.plainOver K C = true
  sa : PySem.W.findIn K (.ref C) "__setattr__" = some (some (.builtin "object.__setattr__"))
theorem Cls.get {K : PySem.W.Frag} {C : Addr} (c : Cls K C) (f : Str) : PySem.W.plainGet K C f = true := c.pg
/-- no class of it has the name -/
def NoAttr (K : PySem.W.Frag) (C : Addr) (f : Str) : Prop := PySem.W.findIn K (.ref C) f = some none
theorem NoAttr.taker {K : PySem.W.Frag} {C : Addr} {f : Str} (n : NoAttr K C f) : PySem.W.takerIn K C f = some none := by
  unfold PySem.W.takerIn
  rw [show PySem.W.findIn K (.ref C) f = some none from n]
  rfl
/-- a method: a plain def of the class or of one above it -/
structure Meth (K : PySem.W.Frag) (C : Addr) (m : Str) (f : Addr) : Prop where
  at_ : PySem.W.findIn K (.ref C) m = some (some (.ref f))
  fn : PySem.W.isFn K (.ref f) = true
  kp : PySem.W.keepIn K (.ref f) = true

section
variable {X : Cx} {pins : List (Addr × Obj)} {σ : St} {H : Hp} {s : Shared} {a C dx : Addr} {fs : List (Str × V)} {f : Str} {v : V} {A : Around} {E : Value → Shared → Prop}

theorem getattr_ok {b : Bool} {Q : Value → Shared → Prop} (I : Inv X pins σ H s) (e : H a = some (.ins C dx fs)) (c : Cls X.K C) (n : NoAttr X.K C f) (l : fs.lookup f = some v)
    (h : ∀ u s', Inv X pins σ H s' → RelV v u → Q u s') : wpAny (model X.prog X.w) A (getAttr (.ref a) f b) Q E s := by
  obtain ⟨mA, O, r, _, _, _⟩ := ins_get I.hok e
  obtain ⟨u, hu, ru⟩ := RelO.some_of (v := v) (o := mA f) (by rw [← l]; exact r f)
  exact get_map I.kIn O (c.get f) c.hd n hu (handed_of ru) (h u _ (I.tok _) ru)

theorem getmeth_ok {m : Str} {g : Addr} {pl : Sem Bool} {Q : Value × List Value → Shared → Prop} (I : Inv X pins σ H s) (e : H a = some (.ins C dx fs)) (c : Cls X.K C) (k : Meth X.K C m g) (l : fs.lookup m = none)
    (h : Q (.ref g, [.ref a]) s) : wpAny (model X.prog X.w) A (getMethod (.ref a) m pl) Q E s := by
  obtain ⟨mA, O, r, _, _, _⟩ := ins_get I.hok e
  have hn : mA m = none := RelO.none_of (by rw [← l]; exact r m)
  exact get_meth I.kIn O (c.get m) k.at_ k.fn hn h

theorem setattr_ok {y : V} {u : Value} {Q : Unit → Shared → Prop} (I : Inv X pins σ H s) (e : H a = some (.ins C dx fs)) (c : Cls X.K C) (n : NoAttr X.K C f) (hl : fs.length < 1000) (ry : RelV y u)
    (h : ∀ s', Inv X pins σ (upd H a (.ins C dx (putF f y fs))) s' → Q () s') : wpAny (model X.prog X.w) A (setAttr (.ref a) f u) Q E s := by
  obtain ⟨mA, O, r, wi, _, ho⟩ := ins_get I.hok e
  have hz : (fs.map (·.1)).length ≤ sizeLine := by rw [List.length_map, sizeLine_eq]; omega
  refine set_map I.kIn O c.sa c.po n.taker c.hd wi hz fun h' O' sb => h _ ?_
  have hd : ∃ o, h'.get? dx = some o := let ⟨o, _, _, e', _⟩ := O'.ns; ⟨o, e'⟩
  refine I.write (x := a) (e := dx) (by rw [e]; exact True.intro) (.inr ho) (fun b q hb z => (sb.2 b hb).trans z) hd ?_
  refine ⟨by rw [upd_ne O.ne]; exact ho, ?_, O.ne, O'.obj, _, O'.ns, fun g => ?_, fun g hg => ?_⟩
  · have := length_putF f y fs; omega
  · show RelO ((putF f y fs).lookup g) (if g = f then some u else mA g)
    rw [lookup_putF]
    by_cases q : g = f
    · rw [if_pos q, if_pos q]; exact ry
    · rw [if_neg q, if_neg q]; exact r g
  · by_cases q : g = f
    · rw [q]; exact (keys_putF f y fs).1
    · refine (keys_putF f y fs).2 g (wi g fun z => hg ?_)
      show (if g = f then some u else mA g) = none
      rw [if_neg q]; exact z

/-- a new instance, tracked, without attributes -/
theorem Inv.made (I : Inv X pins σ H s) : Inv X pins σ (upd (upd H s.heap.objs.size (.own (s.heap.objs.size + 1))) (s.heap.objs.size + 1) (.ins C s.heap.objs.size []))
    { s with heap := (s.heap.push PySem.W.emptyDict).push (PySem.W.instObj C s.heap.objs.size) } := by
  have e1 : (s.heap.push PySem.W.emptyDict).get? s.heap.objs.size = some PySem.W.emptyDict := Heap.get?_push_size s.heap rfl
  have e2 : ((s.heap.push PySem.W.emptyDict).push (PySem.W.instObj C s.heap.objs.size)).get? (s.heap.objs.size + 1) = some (PySem.W.instObj C s.heap.objs.size) := by
    have := Heap.get?_push_size (s.heap.push PySem.W.emptyDict) (o := PySem.W.instObj C s.heap.objs.size) rfl
    rwa [Heap.size_push] at this
  have e3 : (s.heap.push PySem.W.emptyDict).Ns s.heap.objs.size (fun _ => none) := ⟨PySem.W.emptyDict, #[], _, e1, rfl, (fun e he => absurd he (by simp)), fun _ => rfl⟩
  have I1 := I.laid (a := s.heap.objs.size) (o := .own (s.heap.objs.size + 1)) (h' := s.heap.push PySem.W.emptyDict) (t' := s.toks) (fun b u q => Heap.get?_push_of_some _ q) (Nat.le_refl _) ⟨_, e1⟩
  refine I1.laid (a := s.heap.objs.size + 1) (o := .ins C s.heap.objs.size []) (t' := s.toks) (fun b u q => Heap.get?_push_of_some _ q) (Nat.le_of_eq (Heap.size_push _ _)) ?_
  have ne : s.heap.objs.size ≠ s.heap.objs.size + 1 := Nat.ne_of_lt (Nat.lt_succ_self _)
  refine ⟨by rw [upd_ne ne, upd_same], Nat.zero_le _, ne, e2, fun _ => none, (Heap.Ns1.of_empty e3).at fun o q => Heap.get?_push_of_some _ q, fun _ => True.intro, fun y hy => absurd rfl hy⟩

/-- e.f where nothing but the object is asked: through attributeBase (super) and the last hold -/
theorem attr_of {prog : Program} {w : World} {env : Env} {e : Expr} {f : Str} {pos : Pos} {s : Shared} {Q : Value → Shared → Prop} (hb : attributeBase e f env (eval e env) = eval e env)
    (h : wpAny (model prog w) A (eval e env) (fun o s₁ => wpAny (model prog w) A (getAttr o f true) Q E s₁) E s) : wpAny (model prog w) A (eval (.Attribute e f pos) env) Q E s :=
  Attribute_any_ h (by rw [arm_eval_Attribute, hb])
end

/-! ### readings and rules -/
section
variable {X : Cx} {o e value : Expr} {f : Str} {pos pos' tpos : Pos} {ta tv : TE}
/-- what is between an instance and its method: the tree of a method call -/
theorem methcall_of {pl : Sem Bool} {m : Str} {apos : Pos} {args : List Expr} {pins : List (Addr × Obj)} {s : Shared} {σ : St} {H : Hp} {Q : Value → Shared → Prop} {te : TE} (he : PE X e te) (I : Inv X pins σ H s)
    (h : te σ H fun x H1 => ∃ a C dx fs g, x = .ref a ∧ H1 a = some (.ins C dx fs) ∧ Cls X.K C ∧ Meth X.K C m g ∧ fs.lookup m = none ∧
      ∀ s1, Inv X pins σ H1 s1 → wpAny (model X.prog X.w) X.A (callWith pos (.ref g) [.ref a] (backTo pos (starEach args X.env)) (backToKw pos (keywordEach [] X.env))) Q X.xe s1)
    (ht : eval (.Call (.Attribute e m apos) args [] pos) X.env = (do
      let ov ← eval e X.env
      standAt apos.atName
      let (f, first) ← holding [ov] (getMethod ov m pl)
      callWith pos f first (backTo pos (starEach args X.env)) (backToKw pos (keywordEach [] X.env)))) :
    wpAny (model X.prog X.w) X.A (eval (.Call (.Attribute e m apos) args [] pos) X.env) Q X.xe s := by
  refine PySem.W.methodCall_KW (pl := pl) (thn (he pins s σ H _ I h) fun u s1 ⟨x, H1, I1, rx, a, C, dx, fs, g, ex, ea, c, k, l, q⟩ => ?_) ht
  subst ex
  obtain rfl : u = Value.ref a := rx
  exact getmeth_ok I1 ea c k l (q s1 I1)
end

/-! ### isinstance -/
section
variable {X : Cx} {pins : List (Addr × Obj)} {σ : St} {H : Hp} {s : Shared} {A : Around} {E : Value → Shared → Prop} {Q : Value → Shared → Prop} {c : Value} {b : Bool}
/-- the type of a value, as the fragment's deciders take it; for an instance its class -/
inductive TyOf (K : PySem.W.Frag) (H : Hp) : V → Value → Prop where
  | non : TyOf K H .non (.type "NoneType")
  | bl (x : Bool) : TyOf K H (.bl x) (.type "bool")
  | int (i : Int) : TyOf K H (.int i) (.type "int")
  | str (x : Str) : TyOf K H (.str x) (.type "str")
  | flt (x : UInt64) : TyOf K H (.flt x) (.type "float")
  | lst {a : Addr} {xs : List V} (e : H a = some (.lst xs)) : TyOf K H (.ref a) (.type "list")
  | frz {a : Addr} {o : Obj} {xs : List V} (e : H a = some (.frz o (.lst xs))) : TyOf K H (.ref a) (.type "list")
  | tup {a : Addr} {xs : List V} (e : H a = some (.tup xs)) : TyOf K H (.ref a) (.type "tuple")
  | dK {a : Addr} {kvs : List (Key × V)} (e : H a = some (.dK kvs)) : TyOf K H (.ref a) (.type "dict")
  | dT {a : Addr} {kvs : List (List Key × V)} (e : H a = some (.dT kvs)) : TyOf K H (.ref a) (.type "dict")
  | ins {a C dx : Addr} {fs : List (Str × V)} (e : H a = some (.ins C dx fs)) (cl : Cls K C) (ha : PySem.W.findIn K (.ref C) "__class__" = some (some (.builtin "object.__class__")))
      (hn : PySem.W.specialIn K (.builtin "object.__class__") "__get__" = some (some (.builtin "getset_descriptor.__get__"))) (htk : PySem.W.takesIn K (.builtin "object.__class__") = some true)
      (hm : PySem.W.mroIn K C (.type "object") = some true) : TyOf K H (.ref a) (.ref C)
/-- isinstance(x, c) for one class c, a built-in or an own one: kitOne's answer -/
theorem isinst_ok {x : V} {u t : Value} (I : Inv X pins σ H s) (rx : RelV x u) (ty : TyOf X.K H x t) (e : PySem.W.kitOne X.K t c = some b) (h : ∀ tk, Q (.bool b) { s with toks := tk }) :
    wpAny (model X.prog X.w) A (call (.builtin "isinstance") [u, c]) Q E s := by
  cases ty with
  | non => cases (show u = Value.none from rx); exact PySem.W.kia_one PySem.W.kitx_none I.kIn True.intro e (fun z => nomatch z) h
  | bl y => cases (show u = Value.bool y from rx); exact PySem.W.kia_one PySem.W.kitx_bool I.kIn True.intro e (fun z => nomatch z) h
  | int i => obtain ⟨t, q⟩ := (show ∃ t, u = Value.int i t from rx); cases q; exact PySem.W.kia_one PySem.W.kitx_int I.kIn True.intro e (fun z => nomatch z) h
  | str y => obtain ⟨t, q⟩ := (show ∃ t, u = Value.str y t from rx); cases q; exact PySem.W.kia_one PySem.W.kitx_str I.kIn True.intro e (fun z => nomatch z) h
  | flt y => obtain ⟨t, q⟩ := (show ∃ t, u = Value.float y t from rx); cases q; exact PySem.W.kia_one PySem.W.kitx_float I.kIn True.intro e (fun z => nomatch z) h
  | @lst a xs ea =>
    cases (show u = Value.ref a from rx)
    obtain ⟨_, _, n, _, h1⟩ := (show ObjOk X.prog X.w H s.heap a (.lst xs) from I.hok a _ ea)
    exact PySem.W.kia_one PySem.W.kitx_list I.kIn ⟨_, h1, rfl⟩ e (fun z => nomatch z) h
  | @frz a ob xs ea =>
    cases (show u = Value.ref a from rx)
    obtain ⟨_, _, _, n, _, h1⟩ := (show ObjOk X.prog X.w H s.heap a (.frz ob (.lst xs)) from I.hok a _ ea)
    exact PySem.W.kia_one PySem.W.kitx_list I.kIn ⟨_, h1, rfl⟩ e (fun z => nomatch z) h
  | @tup a xs ea =>
    cases (show u = Value.ref a from rx)
    obtain ⟨_, _, _, p⟩ := (show ObjOk X.prog X.w H s.heap a (.tup xs) from I.hok a _ ea)
    obtain ⟨o, h1, h2, _⟩ := p
    exact PySem.W.kia_one PySem.W.kitx_tuple I.kIn ⟨o, h1, h2⟩ e (fun z => nomatch z) h
  | @dK a kvs ea =>
    cases (show u = Value.ref a from rx)
    obtain ⟨_, _, vs, _, p⟩ := (show ObjOk X.prog X.w H s.heap a (.dK kvs) from I.hok a _ ea)
    obtain ⟨o, es, ep, h1, h2, _⟩ := p
    exact PySem.W.kia_one PySem.W.kitx_dict I.kIn ⟨o, h1, h2.1⟩ e (fun z => nomatch z) h
  | @dT a kvs ea =>
    cases (show u = Value.ref a from rx)
    obtain ⟨_, _, xs, _, o, es, ep, h1, h2, _⟩ := (show ObjOk X.prog X.w H s.heap a (.dT kvs) from I.hok a _ ea)
    exact PySem.W.kia_one PySem.W.kitx_dict I.kIn ⟨o, h1, h2.1⟩ e (fun z => nomatch z) h
  | @ins a C dx fs ea cl ha hn htk hm =>
    cases (show u = Value.ref a from rx)
    obtain ⟨mA, O, _⟩ := ins_get I.hok ea
    obtain ⟨od, J, _⟩ := O.look
    exact PySem.W.kia_one (PySem.W.kitx_own (cl.get _) cl.hd ha hn htk hm) I.kIn J e (fun z => nomatch z) h
end
end L2

namespace L2
open PySem PySem.Spec PyProof.Rows

/-! ### room -/
structure Room (k : Nat) (A : Around) : Prop where
  hd : A.handled = none
  dp : A.depth + 3 * k + 5 < recursionLimit
  un : A.units + 16 * k + 200 < cLine
theorem Room.mono {j k : Nat} {A : Around} (r : Room k A) (h : j ≤ k) : Room j A := ⟨r.hd, by have := r.dp; omega, by have := r.un; omega⟩
theorem Room.deeper {k : Nat} {A : Around} (r : Room (k + 1) A) (env : Env) : Room k (A.deeper env) :=
  ⟨r.hd, by have := r.dp; show A.depth + 1 + 3 * k + 5 < _; omega, by have := r.un; show A.units + 3 + 16 * k + 200 < _; omega⟩
theorem make_depth {A : Around} {C : Addr} {us : List Value} {kw : List (Str × Value)} : (A.under (.builtin "type.__call__" ⟨.ref C :: us, kw⟩)).depth = A.depth + 1 := by
  first | rfl | simp [Around.under, Code.weight, Code.isCreation, Code.isGuard, Code.isCaller, Code.frames, Code.isFrame, guardIds]
theorem make_units {A : Around} {C : Addr} {us : List Value} {kw : List (Str × Value)} : (A.under (.builtin "type.__call__" ⟨.ref C :: us, kw⟩)).units = A.units + 1 := by
  first | rfl | simp [Around.under, Code.cUnits, Code.frames, Code.isFrame]
theorem Room.make {k : Nat} {A : Around} (r : Room (k + 1) A) (C : Addr) (us : List Value) (kw : List (Str × Value)) : Room k (A.under (.builtin "type.__call__" ⟨.ref C :: us, kw⟩)) :=
  ⟨r.hd, by have := r.dp; rw [make_depth]; omega, by have := r.un; rw [make_units]; omega⟩
theorem Room.depth {k : Nat} {A : Around} (r : Room k A) : A.depth < recursionLimit := by have := r.dp; omega
theorem Room.units {k : Nat} {A : Around} (r : Room k A) : A.units + 64 < cLine := by have := r.un; omega
/-! ### argument lists and displays -/
def tNil : TA := fun _ H Q => Q [] H
def tCons (ta : TE) (tr : TA) : TA := fun σ H Q => ta σ H fun x H1 => tr σ H1 fun xs H2 => Q (x :: xs) H2
section
variable {X : Cx} {e : Expr} {es : List Expr} {te : TE} {t : TA} {pos : Pos}
theorem pa_nil : PA X [] tNil := fun _ _ _ _ H Q I h => Calls.spliced_nil ⟨[], H, I, .nil, h⟩
theorem pa_cons (ha : PE X e te) (hr : PA X es t) (hs : starEach (e :: es) X.env = (false, eval e X.env) :: starEach es X.env := by rfl) : PA X (e :: es) (tCons te t) := by
  intro pos pins s σ H Q I h
  rw [hs]
  show wpAny _ _ (spliced ((false, eval e X.env) :: backTo pos (starEach es X.env))) _ _ s
  refine Calls.spliced_cons (thn (ha pins s σ H _ I h) fun u s1 ⟨x, H1, I1, r1, q1⟩ => ?_)
  exact thn (hr pos pins s1 σ H1 _ I1 q1) fun us s2 ⟨xs, H2, I2, r2, q2⟩ => ⟨x :: xs, H2, I2, .cons r1 r2, q2⟩

/-- a tuple, a list of written items -/
def tTup (t : TA) : TE := fun σ H Q => t σ H fun xs H1 => xs.length ≤ sizeLine ∧ ∀ p, H1 p = none → Q (.ref p) (upd H1 p (.tup xs))
def tLst (t : TA) : TE := fun σ H Q => t σ H fun xs H1 => xs.length ≤ sizeLine ∧ ∀ p, H1 p = none → Q (.ref p) (upd H1 p (.lst xs))
theorem pe_tup {x1} (h : PA X es t) : PE X (.Tuple es x1 pos) (tTup t) := by
  intro pins s σ H Q I hq
  refine wpAny_Tuple_spliced (thn (h pos pins s σ H _ I hq) fun us s1 ⟨xs, H1, I1, r, z, q⟩ => ⟨by rw [← r.length]; exact z, ?_⟩)
  have hf : H1 s1.heap.objs.size = none := I1.hok.fresh (Nat.le_refl _)
  refine ⟨.ref s1.heap.objs.size, upd H1 s1.heap.objs.size (.tup xs), I1.laid (t' := s1.toks) (fun b u e => Heap.get?_push_of_some _ e) (Nat.le_refl _) ?_, rfl, q _ hf⟩
  exact ⟨z, us, r, ⟨_, Heap.get?_push_size _ rfl, rfl, _, rfl⟩⟩
theorem pe_lst (h : PA X es t) : PE X (.List es pos) (tLst t) := by
  intro pins s σ H Q I hq
  refine wpAny_List_spliced (thn (h pos pins s σ H _ I hq) fun us s1 ⟨xs, H1, I1, r, z, q⟩ => ⟨by rw [← r.length]; exact z, ?_⟩)
  have hf : H1 s1.heap.objs.size = none := I1.hok.fresh (Nat.le_refl _)
  refine ⟨.ref s1.heap.objs.size, upd H1 s1.heap.objs.size (.lst xs), I1.laid (t' := s1.toks) (fun b u e => Heap.get?_push_of_some _ e) (Nat.le_refl _) ?_, rfl, q _ hf⟩
  exact ⟨z, us, 0, r, Heap.get?_push_size _ rfl⟩
end

/-! ### what a def promises -/
/-- a def's promise: the bound arguments in the parameters' order, the heap, the wanted end, the wanted exception -/
abbrev Sp := List V → Hp → VK → XK → Prop
/-- how an exception lies behind a call (file 08 gives it): the callers' frames, abstract heap and state ahead of the call, the wish, the exception, the state -/
abbrev CXT := List Env → Hp → Shared → XK → Value → Shared → Prop

/-- the state at a call -/
structure Env0 (P : Program) (w : World) (K : PySem.W.Frag) (mg : Str → Option Value) (base : Heap) (A : Around) (outer : List Env) (s : Shared) (H : Hp) : Prop where
  frames : A.frames = some outer
  mod : Mod K mg base
  bs : ∀ b o, base.get? b = some o → s.heap.get? b = some o ∧ H b = none
  bsz : base.objs.size ≤ s.heap.objs.size
  funs : s.heap.FunFrames base outer
  frf : ∀ b ∈ frs outer, H b = none
  hok : HOk P w H s.heap
  bare : AllBare s.gens
/-- a call's end -/
def CE (outer : List Env) (P : Program) (w : World) (H : Hp) (s : Shared) (Q : VK) (u : Value) (s' : Shared) : Prop :=
  ∃ v H', s'.os = s.os ∧ AllBare s'.gens ∧ Un (frs outer) [] H H' s.heap s'.heap ∧ HOk P w H' s'.heap ∧ RelV v u ∧ Q v H'
def CR (CX : CXT) (outer : List Env) (P : Program) (w : World) (H : Hp) (s : Shared) (Q : VK) (E : XK) (r : Result) (s' : Shared) : Prop :=
  match r with
  | .ok (.ret u) => CE outer P w H s Q u s'
  | .ok _ => False
  | .error e => CX outer H s E e s'
structure FnOk (P : Program) (w : World) (K : PySem.W.Frag) (mg : Str → Option Value) (base : Heap) (CX : CXT) (k : Nat) (f : Addr) (fd : FuncData) (ps : List Str) (sp : Sp) : Prop where
  len : ∀ vs H Q E, sp vs H Q E → vs.length = ps.length
  run : ∀ (A : Around) (outer : List Env) (s : Shared) (H : Hp) (args : Args) (us : List Value) (vs : List V) (Q : VK) (E : XK), Room k A → Env0 P w K mg base A outer s H → BindsTo s fd args (ps.zip us) → Vals vs us → sp vs H Q E →
    codeAny (model P w) A (.call (.ref f) args) (CR CX outer P w H s Q E) s
theorem FnOk.mono {P : Program} {w : World} {K : PySem.W.Frag} {mg : Str → Option Value} {base : Heap} {CX : CXT} {j k : Nat} {f : Addr} {fd : FuncData} {ps : List Str} {sp : Sp} (F : FnOk P w K mg base CX j f fd ps sp) (h : j ≤ k) :
    FnOk P w K mg base CX k f fd ps sp := ⟨F.len, fun A outer s H args us vs Q E hr => F.run A outer s H args us vs Q E (hr.mono h)⟩
/-- a weaker promise -/
theorem FnOk.imp {P : Program} {w : World} {K : PySem.W.Frag} {mg : Str → Option Value} {base : Heap} {CX : CXT} {k : Nat} {f : Addr} {fd : FuncData} {ps : List Str} {sp sp' : Sp} (F : FnOk P w K mg base CX k f fd ps sp)
    (h : ∀ vs H Q E, sp' vs H Q E → sp vs H Q E) : FnOk P w K mg base CX k f fd ps sp' :=
  ⟨fun vs H Q E q => F.len vs H Q E (h _ _ _ _ q), fun A outer s H args us vs Q E hr he hb hv hs => F.run A outer s H args us vs Q E hr he hb hv (h _ _ _ _ hs)⟩

theorem Env0.make {P : Program} {w : World} {K : PySem.W.Frag} {mg : Str → Option Value} {base : Heap} {A : Around} {outer : List Env} {s : Shared} {H : Hp} (e : Env0 P w K mg base A outer s H) (C : Addr) (us : List Value) (kw : List (Str × Value)) :
    Env0 P w K mg base (A.under (.builtin "type.__call__" ⟨.ref C :: us, kw⟩)) outer s H := ⟨by first | exact e.frames | (simpa [Around.under, Code.envs, Code.isFrame, pushEnvs] using e.frames), e.mod, e.bs, e.bsz, e.funs, e.frf, e.hok, e.bare⟩
section
variable {X : Cx} {pins : List (Addr × Obj)} {σ : St} {H : Hp} {s s' : Shared}
/-- from a body: what a callee wants -/
theorem Inv.env0 (I : Inv X pins σ H s) : Env0 X.prog X.w X.K X.mg X.base X.A X.stack s H :=
  ⟨I.ok.frames, I.ok.mod, I.bs, Nat.le_trans I.ok.bsz I.sz, I.stack, I.stkFree, I.hok, I.bare⟩
/-- behind a call -/
theorem Inv.after {Q : VK} {u : Value} (I : Inv X pins σ H s) (h : CE X.stack X.prog X.w H s Q u s') : EP X pins σ Q u s' := by
  obtain ⟨v, H', os, bare, un, hok, r, q⟩ := h
  obtain ⟨hh, g, d, t, os'⟩ := s'
  obtain rfl : os' = s.os := os
  exact ⟨v, H', I.call (h' := hh) (g' := g) (d' := d) (t' := t) (ch := []) un hok bare (fun b z => absurd z (by simp)), r, q⟩
end

/-! ### calls -/
/-- f(..): the written arguments, then the defaults dvs; E: what is wanted of an exception -/
def tCall (sp : Sp) (dvs : List V) (E : XK) (t : TA) : TE := fun σ H Q => t σ H fun vs H1 => sp (vs ++ dvs) H1 Q E
/-- o.m(..) of an instance of the class at C -/
def tMeth (C : Addr) (m : Str) (sp : Sp) (dvs : List V) (E : XK) (ta : TE) (t : TA) : TE := fun σ H Q => ta σ H fun x H1 => ∃ a dx fs, x = .ref a ∧ H1 a = some (.ins C dx fs) ∧ fs.lookup m = none ∧
  t σ H1 fun vs H2 => sp (x :: (vs ++ dvs)) H2 Q E
/-- C(..): a new instance and its dict, then __init__ -/
def tMake (C : Addr) (sp : Sp) (dvs : List V) (E : XK) (t : TA) : TE := fun σ H Q => t σ H fun vs H1 => ∀ x dx, H1 x = none → H1 dx = none → dx ≠ x →
  sp (.ref x :: (vs ++ dvs)) (upd (upd H1 dx (.own x)) x (.ins C dx [])) (fun v H2 => v = .non ∧ Q (.ref x) H2) E

/-- how the parameters are bound: us the positional arguments, kw the keywords' values by name, ds the defaults that fill up -/
def Binds (K : PySem.W.Frag) (fd : FuncData) (ps : List Str) (ds : List Value) : Prop :=
  ∀ (s : Shared) (us : List Value), K.In s.heap → (us ++ ds).length = ps.length → BindsTo s fd ⟨us, []⟩ (ps.zip (us ++ ds))
/-- every parameter is given -/
theorem Binds.all {K : PySem.W.Frag} {fd : FuncData} {ps : List Str} (h : ∀ us : List Value, us.length = ps.length → bindArgs fd ⟨us, []⟩ = pure (ps.zip us)) : Binds K fd ps [] := fun s us _ hl => by
  rw [List.append_nil] at hl ⊢
  exact .of_eq (h us hl)

/-- an exception of a callee reaches what this body wants of exceptions -/
def Passes (CX : CXT) (X : Cx) (E : XK) : Prop := ∀ (pins : List (Addr × Obj)) (σ : St) (H : Hp) (s : Shared) (e : Value) (s' : Shared), Inv X pins σ H s → CX X.stack H s E e s' → X.xe e s'

section
variable {X : Cx} {CX : CXT} {k : Nat} {f C : Addr} {fd : FuncData} {ps : List Str} {sp : Sp} {dvs : List V} {ds : List Value} {E : XK} {x m : Str} {p pos apos : Pos} {e o : Expr} {es : List Expr} {ta : TE} {t : TA}

/-- the callee runs -/
theorem run_fn {pins : List (Addr × Obj)} {σ : St} {H : Hp} {s : Shared} {Q : VK} {us : List Value} {vs : List V} (F : FnOk X.prog X.w X.K X.mg X.base CX k f fd ps sp) (hr : Room k X.A) (hb : Binds X.K fd ps ds) (hd : Vals dvs ds) (hx : Passes CX X E)
    (I : Inv X pins σ H s) (r : Vals vs us) (h : sp (vs ++ dvs) H Q E) : wpAny (model X.prog X.w) X.A (call (.ref f) us) (EP X pins σ Q) X.xe s := by
  have r2 : Vals (vs ++ dvs) (us ++ ds) := r.append hd
  have hl : (us ++ ds).length = ps.length := by rw [← r2.length]; exact F.len _ _ _ _ h
  refine wpAny_call (codeAny_mono (F.run X.A X.stack s H ⟨us, []⟩ (us ++ ds) (vs ++ dvs) Q E hr I.env0 (hb s us I.kIn hl) r2 h) fun r s' hq => ?_)
  cases r with
  | error e => exact hx pins σ H s e s' I hq
  | ok fl =>
    cases fl with
    | ret u => exact I.after hq
    | next => exact False.elim hq
    | brk => exact False.elim hq
    | cont => exact False.elim hq

theorem pe_call (F : FnOk X.prog X.w X.K X.mg X.base CX k f fd ps sp) (hr : Room k X.A) (hg : Gl X x) (hm : X.mg x = some (.ref f)) (hk : PySem.W.keepIn X.K (.ref f) = true) (hb : Binds X.K fd ps ds) (hd : Vals dvs ds) (hx : Passes CX X E)
    (ha : PA X (e :: es) t) (hdb : (x == ("__debug__" : Str)) = false := by decide) (he : starEach (e :: es) X.env = (false, eval e X.env) :: starEach es X.env := by rfl) (hpl : (backTo pos (starEach es X.env)).any (·.1) = false := by rfl) :
    PE X (.Call (.Name x p) (e :: es) [] pos) (tCall sp dvs E t) := by
  intro pins s σ H Q I h
  refine wpAny_Call_Name_kw (ld_glob I hg hm ?_ hdb)
  refine PySem.W.callWith_K (h₀ := X.base) I.ok.mod.kin hk (thn (ha pos pins s σ H _ I h) fun us s1 ⟨vs, H1, I1, r, q⟩ => ⟨I1.kIn, ?_⟩) he hpl
  exact run_fn F hr hb hd hx I1 r q
/-- o.m(e, ..) -/
theorem pe_meth {pl : Sem Bool} (he : PE X o ta) (c : Cls X.K C) (hm : Meth X.K C m f) (F : FnOk X.prog X.w X.K X.mg X.base CX k f fd ps sp) (hr : Room k X.A) (hb : Binds X.K fd ps ds) (hd : Vals dvs ds) (hx : Passes CX X E) (ha : PA X (e :: es) t)
    (hst : starEach (e :: es) X.env = (false, eval e X.env) :: starEach es X.env := by rfl) (hpl : (backTo pos (starEach es X.env)).any (·.1) = false := by rfl)
    (ht : eval (.Call (.Attribute o m apos) (e :: es) [] pos) X.env = (do
      let ov ← eval o X.env
      standAt apos.atName
      let (f, first) ← holding [ov] (getMethod ov m pl)
      callWith pos f first (backTo pos (starEach (e :: es) X.env)) (backToKw pos (keywordEach [] X.env))) := by rfl) :
    PE X (.Call (.Attribute o m apos) (e :: es) [] pos) (tMeth C m sp dvs E ta t) := by
  intro pins s σ H Q I h
  refine PySem.W.methodCall_KW (pl := pl) (thn (he pins s σ H _ I h) fun u s1 ⟨x, H1, I1, rx, a, dx, fs, ex, ea, l, q⟩ => ?_) ht
  subst ex
  obtain rfl : u = Value.ref a := rx
  refine getmeth_ok I1 ea c hm l ?_
  refine PySem.W.callWith_K (first := [.ref a]) (h₀ := X.base) I.ok.mod.kin hm.kp (thn (ha pos pins s1 σ H1 _ I1 q) fun us s2 ⟨vs, H2, I2, r, q2⟩ => ⟨I2.kIn, ?_⟩) hst hpl
  exact run_fn (us := .ref a :: us) (vs := .ref a :: vs) F hr hb hd hx I2 (.cons rfl r) q2
/-- o.m() -/
theorem pe_meth0 {pl : Sem Bool} (he : PE X o ta) (c : Cls X.K C) (hm : Meth X.K C m f) (F : FnOk X.prog X.w X.K X.mg X.base CX k f fd ps sp) (hr : Room k X.A) (hb : Binds X.K fd ps ds) (hd : Vals dvs ds) (hx : Passes CX X E)
    (ht : eval (.Call (.Attribute o m apos) [] [] pos) X.env = (do
      let ov ← eval o X.env
      standAt apos.atName
      let (f, first) ← holding [ov] (getMethod ov m pl)
      callWith pos f first (backTo pos (starEach [] X.env)) (backToKw pos (keywordEach [] X.env))) := by rfl) :
    PE X (.Call (.Attribute o m apos) [] [] pos) (tMeth C m sp dvs E ta tNil) := by
  intro pins s σ H Q I h
  refine PySem.W.methodCall_KW (pl := pl) (thn (he pins s σ H _ I h) fun u s1 ⟨x, H1, I1, rx, a, dx, fs, ex, ea, l, q⟩ => ?_) ht
  subst ex
  obtain rfl : u = Value.ref a := rx
  refine getmeth_ok I1 ea c hm l ?_
  exact PySem.W.callWith_K0 (first := [.ref a]) I1.kIn hm.kp (run_fn (us := [.ref a]) (vs := [.ref a]) F hr hb hd hx I1 (.cons rfl .nil) q)

/-- what a class must have to be made -/
structure Mk (K : PySem.W.Frag) (C f : Addr) : Prop where
  makes : PySem.W.makesIn K C = true
  init : PySem.W.findIn K (.ref C) "__init__" = some (some (.ref f))
  fn : PySem.W.isFn K (.ref f) = true
  kp : PySem.W.keepIn K (.ref C) = true

theorem run_make {pins : List (Addr × Obj)} {σ : St} {H : Hp} {s : Shared} {Q : VK} {us : List Value} {vs : List V} (M : Mk X.K C f) (F : FnOk X.prog X.w X.K X.mg X.base CX k f fd ps sp) (hr : Room (k + 1) X.A) (hb : Binds X.K fd ps ds) (hd : Vals dvs ds)
    (hx : Passes CX X E) (I : Inv X pins σ H s) (r : Vals vs us)
    (h : ∀ x dx, H x = none → H dx = none → dx ≠ x → sp (.ref x :: (vs ++ dvs)) (upd (upd H dx (.own x)) x (.ins C dx [])) (fun v H2 => v = .non ∧ Q (.ref x) H2) E) :
    wpAny (model X.prog X.w) X.A (call (.ref C) us) (EP X pins σ Q) X.xe s := by
  have hq := h (s.heap.objs.size + 1) s.heap.objs.size (I.hok.fresh (Nat.le_succ _)) (I.hok.fresh (Nat.le_refl _)) (Nat.ne_of_lt (Nat.lt_succ_self _))
  have I2 := Inv.made (C := C) I
  have r2 : Vals (V.ref (s.heap.objs.size + 1) :: (vs ++ dvs)) (Value.ref (s.heap.objs.size + 1) :: (us ++ ds)) := .cons rfl (r.append hd)
  have hl : (Value.ref (s.heap.objs.size + 1) :: us ++ ds).length = ps.length := by
    have e := r2.length
    rw [F.len _ _ _ _ hq] at e
    exact e.symm
  refine wpAny_call (make_map (f := f) I.kIn M.makes M.init (beq_iff_eq.mp M.fn) (codeAny_mono (F.run _ X.stack _ _ ⟨Value.ref (s.heap.objs.size + 1) :: us, []⟩ (Value.ref (s.heap.objs.size + 1) :: (us ++ ds)) _ _ E (hr.make C us [])
    (I2.env0.make C us []) (hb _ (Value.ref (s.heap.objs.size + 1) :: us) I2.kIn hl) r2 hq) fun r s' hq' => ?_))
  cases r with
  | error e => exact hx pins σ _ _ e s' I2 hq'
  | ok fl =>
    cases fl with
    | ret u =>
      obtain ⟨v, H', I3, rv, ev, q3⟩ := I2.after hq'
      subst ev
      exact ⟨rv, ⟨V.ref (s.heap.objs.size + 1), H', I3, rfl, q3⟩⟩
    | next => exact False.elim hq'
    | brk => exact False.elim hq'
    | cont => exact False.elim hq'
theorem pe_make (M : Mk X.K C f) (F : FnOk X.prog X.w X.K X.mg X.base CX k f fd ps sp) (hr : Room (k + 1) X.A) (hg : Gl X x) (hm : X.mg x = some (.ref C)) (hb : Binds X.K fd ps ds) (hd : Vals dvs ds) (hx : Passes CX X E)
    (ha : PA X (e :: es) t) (hdb : (x == ("__debug__" : Str)) = false := by decide) (he : starEach (e :: es) X.env = (false, eval e X.env) :: starEach es X.env := by rfl) (hpl : (backTo pos (starEach es X.env)).any (·.1) = false := by rfl) :
    PE X (.Call (.Name x p) (e :: es) [] pos) (tMake C sp dvs E t) := by
  intro pins s σ H Q I h
  refine wpAny_Call_Name_kw (ld_glob I hg hm ?_ hdb)
  refine PySem.W.callWith_K (h₀ := X.base) I.ok.mod.kin M.kp (thn (ha pos pins s σ H _ I h) fun us s1 ⟨vs, H1, I1, r, q⟩ => ⟨I1.kIn, ?_⟩) he hpl
  exact run_make M F hr hb hd hx I1 r q
theorem pe_make0 (M : Mk X.K C f) (F : FnOk X.prog X.w X.K X.mg X.base CX k f fd ps sp) (hr : Room (k + 1) X.A) (hg : Gl X x) (hm : X.mg x = some (.ref C)) (hb : Binds X.K fd ps ds) (hd : Vals dvs ds) (hx : Passes CX X E)
    (hdb : (x == ("__debug__" : Str)) = false := by decide) : PE X (.Call (.Name x p) [] [] pos) (tMake C sp dvs E tNil) := by
  intro pins s σ H Q I h
  refine wpAny_Call_Name_kw (ld_glob I hg hm ?_ hdb)
  exact PySem.W.callWith_K0 I.kIn M.kp (run_make (us := []) M F hr hb hd hx I .nil h)
end

/-! ### keywords -/
section
variable {X : Cx} {CX : CXT} {k : Nat} {f C : Addr} {fd : FuncData} {ps ks : List Str} {sp : Sp} {E : XK} {x m : Str} {p pos apos kpos : Pos} {e o : Expr} {es : List Expr} {kws : List Keyword} {te ta : TE} {t tk : TA} {nm : Option Str}
variable {g : List Value → List Value → List Value} {gV : List V → List V → List V}
end

/-! ### a def's body keeps its promise -/
/-- names: the parameters first -/
structure FnScope (N P : List Str) (sc : Scope) : Prop where
  kind : sc.kind = .function
  co : sc.isCoroutine = false
  gen : sc.isGenerator = false
  nd : N.Nodup
  pre : N.take P.length = P
  par : ∀ x ∈ P, sc.names.lookup x = some .local ∨ sc.names.lookup x = some .cell
  nofree : ∀ y ∈ sc.names, y.2 ≠ .free

theorem bindL_out {kindOf : Str → Option NameKind} {x : Str} : ∀ {binds : List (Str × Value)} {m : Str → Option Value}, (∀ v, (x, v) ∉ binds) → bindL kindOf binds m x = m x
  | [], _, _ => rfl
  | (n, v) :: r, m, h => by
    unfold bindL
    rw [bindL_out fun w hw => h w (List.mem_cons_of_mem _ hw)]
    split
    · have : x ≠ n := by rintro rfl; exact h v List.mem_cons_self
      simp [this]
    · rfl
theorem bindC_out {kindOf : Str → Option NameKind} {x : Str} : ∀ {binds : List (Str × Value)} {m : Str → Option Value}, (∀ v, (x, v) ∉ binds) → bindC kindOf binds m x = m x
  | [], _, _ => rfl
  | (n, v) :: r, m, h => by
    unfold bindC
    rw [bindC_out fun w hw => h w (List.mem_cons_of_mem _ hw)]
    split
    · rfl
    · have : x ≠ n := by rintro rfl; exact h v List.mem_cons_self
      simp [this]
theorem bindL_get {kindOf : Str → Option NameKind} {x : Str} {v : Value} : ∀ {P : List Str} {vs : List Value} {i : Nat} {m : Str → Option Value}, P.Nodup → P[i]? = some x → vs[i]? = some v → kindOf x = some .local →
    bindL kindOf (P.zip vs) m x = some v
  | [], _, _, _, _, h, _, _ => by simp at h
  | _ :: _, [], _, _, _, _, h, _ => by simp at h
  | p :: P, w :: vs, 0, m, nd, h1, h2, hk => by
    simp at h1 h2; subst h1; subst h2
    show bindL kindOf ((p, w) :: P.zip vs) m p = _
    unfold bindL
    rw [bindL_out fun v hv => (List.nodup_cons.mp nd).1 (List.of_mem_zip hv).1, if_pos hk]
    simp
  | p :: P, w :: vs, i + 1, m, nd, h1, h2, hk => by
    show bindL kindOf ((p, w) :: P.zip vs) m x = _
    unfold bindL
    exact bindL_get (i := i) (List.nodup_cons.mp nd).2 (by simpa using h1) (by simpa using h2) hk
theorem bindC_get {kindOf : Str → Option NameKind} {x : Str} {v : Value} : ∀ {P : List Str} {vs : List Value} {i : Nat} {m : Str → Option Value}, P.Nodup → P[i]? = some x → vs[i]? = some v → kindOf x ≠ some .local →
    bindC kindOf (P.zip vs) m x = some v
  | [], _, _, _, _, h, _, _ => by simp at h
  | _ :: _, [], _, _, _, _, h, _ => by simp at h
  | p :: P, w :: vs, 0, m, nd, h1, h2, hk => by
    simp at h1 h2; subst h1; subst h2
    show bindC kindOf ((p, w) :: P.zip vs) m p = _
    unfold bindC
    rw [bindC_out fun v hv => (List.nodup_cons.mp nd).1 (List.of_mem_zip hv).1, if_neg hk]
    simp
  | p :: P, w :: vs, i + 1, m, nd, h1, h2, hk => by
    show bindC kindOf ((p, w) :: P.zip vs) m x = _
    unfold bindC
    exact bindC_get (i := i) (List.nodup_cons.mp nd).2 (by simpa using h1) (by simpa using h2) hk

/-- the names' values at the entry -/
def start (N : List Str) (vs : List V) : St := vs.map some ++ List.replicate (N.length - vs.length) none

/-- the context of a def's body, at its entry; an exception leaves the frame, then lies as CX says -/
def cxOf (CX : CXT) (P : Program) (w : World) (K : PySem.W.Frag) (mg : Str → Option Value) (base : Heap) (N : List Str) (qual : Str) (scope : Scope) (f : Addr) (cd : Value) (A : Around) (outer : List Env) (s : Shared) (H : Hp) (E : XK) : Cx where
  prog := P
  w := w
  K := K
  mg := mg
  base := base
  A := A.deeper (envOfC qual scope s.heap.objs.size f cd)
  N := N
  s₀ := s
  H₀ := H
  env := envOfC qual scope s.heap.objs.size f cd
  outer := outer
  stack := envOfC qual scope s.heap.objs.size f cd :: outer
  ex := []
  calm := true
  fn := fun _ => true
  pn := []
  xe := fun e s' => wpAny (model P w) (A.deeper (envOfC qual scope s.heap.objs.size f cd)) (leaving (envOfC qual scope s.heap.objs.size f cd) e) (fun _ s'' => CX outer H s E e s'') (fun e' s'' => CX outer H s E e' s'') s'

theorem cell_has {sc : Scope} {n : Nat} {x : Str} (h : sc.names.lookup x = some .cell) : ∃ c, (cellsFrom n sc.names []).lookup x = some c := by
  have q := PySem.W.cellsFrom_some sc.names n [] (.inl h)
  exact Option.isSome_iff_exists.mp q

theorem inv_start {CX : CXT} {P : Program} {w : World} {K : PySem.W.Frag} {mg : Str → Option Value} {base : Heap} {N ps : List Str} {qual : Str} {scope : Scope} {f : Addr} {cd : Value} {A : Around} {outer : List Env} {s s1 : Shared} {H : Hp} {E : XK} {us : List Value} {vs : List V}
    (S : FnScope N ps scope) (hd : A.handled = none) (e0 : Env0 P w K mg base A outer s H) (hl : vs.length = ps.length) (r : Vals vs us)
    (x : InCallC s s.heap.objs.size (bindL (envOfC qual scope s.heap.objs.size f cd).kindOf (ps.zip us) fun _ => none) (cellsFrom (s.heap.objs.size + 1) scope.names []) (bindC (envOfC qual scope s.heap.objs.size f cd).kindOf (ps.zip us) fun _ => none) s1) :
    Inv (cxOf CX P w K mg base N qual scope f cd A outer s H E) [] (start N vs) H s1 := by
  have hpl : ps.length ≤ N.length := by have := congrArg List.length S.pre; rw [List.length_take] at this; omega
  obtain ⟨h1, tk, rfl, hk⟩ := x.done
  have noA : ∀ b : Addr, b ∉ (cxOf CX P w K mg base N qual scope f cd A outer s H E).ex := fun b z => absurd (show b ∈ ([] : List Addr) from z) (by simp)
  refine ⟨⟨e0.mod, S.kind, rfl, rfl, Nat.le_refl _, fun y z c h1 h2 => ?_, fun y hy => ?_, fun y c _ h => ?_, fun _ => hd, Around.frames_deeper e0.frames, .inr ⟨rfl, rfl⟩, fun b z => absurd z (noA b), e0.bs, e0.bsz, fun b _ _ => noA b, fun b z => absurd z (noA b), e0.funs, e0.frf⟩,
    rfl, e0.bare, Un.kept hk, ⟨_, x.toInCall.ns, fun i y v h1 h2 h3 => ?_⟩, fun y c h => ⟨_, x.cell y c h⟩, e0.hok.fresh (Nat.le_refl _), fun y c h => ?_, fun p hp => absurd (show p ∈ ([] : List (Addr × Obj)) from hp) (by simp), e0.hok.kept hk, ?_⟩
  · exact name_of_addr x.apart (PySem.mem_of_lookup h1) (PySem.mem_of_lookup h2)
  · have hy : scope.names.lookup y = some .cell ∨ scope.names.lookup y = some .free := hy
    rcases hy with hy | hy
    · exact cell_has hy
    · exact absurd rfl (S.nofree _ (PySem.mem_of_lookup hy))
  · exact Nat.le_of_lt (x.above y c (PySem.mem_of_lookup h))
  · have hi : i < vs.length := by
      unfold start at h2
      by_cases hi : i < vs.length
      · exact hi
      · rw [List.getElem?_append_right (by simpa using hi)] at h2
        rw [List.getElem?_replicate] at h2
        split at h2 <;> cases h2
    have ha : vs[i]? = some v := by
      unfold start at h2
      rw [List.getElem?_append_left (by simpa using hi), List.getElem?_map] at h2
      cases e : vs[i]? with
      | none => rw [e] at h2; cases h2
      | some a => rw [e] at h2; cases h2; rfl
    obtain ⟨u, hu, rv⟩ := r.get ha
    have hp : ps[i]? = some y := by
      rw [← S.pre, List.getElem?_take_of_lt (by omega)]; exact h1
    have ndP : ps.Nodup := by rw [← S.pre]; exact S.nd.sublist (List.take_sublist _ _)
    refine ⟨u, rv, ?_⟩
    rcases S.par y (List.mem_of_getElem? hp) with k | k
    · exact .inl ⟨k, bindL_get ndP hp hu k⟩
    · obtain ⟨c, e⟩ := cell_has (n := s.heap.objs.size + 1) k
      refine .inr ⟨.inl k, c, e, ?_⟩
      have q := x.cell y c e
      rw [bindC_get ndP hp hu (by show scope.names.lookup y ≠ _; rw [k]; decide)] at q
      exact q
  · exact e0.hok.fresh (Nat.le_of_lt (x.above y c (PySem.mem_of_lookup h)))
  · unfold start
    show _ = N.length
    rw [List.length_append, List.length_map, List.length_replicate]
    omega

/-- THE RULE: a def (or a method) of the text, by its body. The body's reading t is chosen for each entry; it is run at the parameters' values -/
theorem fn_of {CX : CXT} {P : Program} {w : World} {K : PySem.W.Frag} {mg : Str → Option Value} {base : Heap} {k : Nat} {f : Addr} {name qual : Str} {params : Arguments} {body : List Stmt} {scope : Scope} {dV kV doc pm cdv ct oc : Value} {an od : Option Addr}
    {osl : Array (Option Value)} {N ps : List Str} {sp : Sp} (lk : K.lookup f = some ⟨oc, od, .func (PySem.W.fnOf name qual params body scope dV kV doc pm an cdv ct), osl⟩) (hcd : PySem.W.codeIn K cdv qual = true) (S : FnScope N ps scope)
    (len : ∀ vs H Q E, sp vs H Q E → vs.length = ps.length)
    (hbody : ∀ (A : Around) (outer : List Env) (s : Shared) (H : Hp) (vs : List V) (Q : VK) (E : XK), Room k (A.deeper (envOfC qual scope s.heap.objs.size f cdv)) → sp vs H Q E →
      ∃ t, PSs (cxOf CX P w K mg base N qual scope f cdv A outer s H E) body t ∧ t { nx := fun _ H' => Q .non H', rt := Q } (start N vs) H) :
    FnOk P w K mg base CX (k + 1) f (PySem.W.fnOf name qual params body scope dV kV doc pm an cdv ct) ps sp := by
  refine ⟨len, fun A outer s H args us vs Q E hr e0 hb r hsp => ?_⟩
  have hl := len _ _ _ _ hsp
  have KX : K.In s.heap := e0.mod.kin.keeps fun b o e => (e0.bs b o e).1
  have lim : s.heap.NoLimit := e0.mod.nolimit.keeps fun b o e => (e0.bs b o e).1
  have hkind : ∀ y ∈ ps.zip us, scope.names.lookup y.1 = some .local ∨ (scope.names.lookup y.1 = some .cell ∧ ((cellsFrom (s.heap.objs.size + 1) scope.names []).lookup y.1).isSome = true) := fun ⟨n, v⟩ hy => by
    rcases S.par n (List.of_mem_zip hy).1 with q | q
    · exact .inl q
    · exact .inr ⟨q, PySem.W.cellsFrom_some _ _ _ (.inl q)⟩
  refine codeAny_call_function hr.depth (KX _ _ lk) rfl S.co S.gen rfl (PySem.W.codeRec_of KX hcd) (hb _ _ _ _ ?_)
  refine wpAny_newFunctionEnv_cells S.kind hkind fun env he s1 x => ?_
  subst he
  refine ⟨lim.keeps x.toInCall.keep, codeAny_func ?_⟩
  obtain ⟨t, ht, hq⟩ := hbody A outer s H vs Q E (hr.deeper _) hsp
  have I : Inv (cxOf CX P w K mg base N qual scope f cdv A outer s H E) [] (start N vs) H s1 := inv_start S hr.hd e0 hl r x
  refine wpAny_mono (ht [] s1 (start N vs) H _ I hq) (fun fl s' hs => ?_) fun e s' hs => hs
  have fin : ∀ {σ' : St} {H' : Hp} {v : V} {u : Value}, Inv (cxOf CX P w K mg base N qual scope f cdv A outer s H E) [] σ' H' s' → RelV v u → Q v H' → CE outer P w H s Q u s' :=
    fun {σ' H' v u} J rv q => ⟨v, H', J.os, J.bare, J.base, J.hok, rv, q⟩
  cases fl with
  | ret u =>
    obtain ⟨v, σ', H', J, rv, q⟩ := hs
    exact fin J rv q
  | next =>
    obtain ⟨σ', H', J, q⟩ := hs
    exact fin (v := V.non) (u := Value.none) J rfl q
  | brk =>
    obtain ⟨_, _, _, q⟩ := hs
    exact False.elim q
  | cont =>
    obtain ⟨_, _, _, q⟩ := hs
    exact False.elim q
end L2

namespace L2
open PySem PySem.Spec PyProof.Rows
section
variable {X : Cx} {x : Str} {p pos : Pos} {e : Expr} {es : List Expr} {t : TA} {id T : String} {r : List V → Hp → VK → Prop}

def tCB (r : List V → Hp → VK → Prop) (t : TA) : TE := fun σ H Q => t σ H fun vs H1 => r vs H1 Q
/-- f(e, ..), f a built-in function -/
theorem pe_callB (hc : CallR X (.builtin id) r) (hg : Gl X x) (hm : X.mg x = none) (hv : bootBuiltins x = some (.builtin id)) (ha : PA X (e :: es) t) (hn : x ≠ "__name__" := by decide) (hdb : (x == ("__debug__" : Str)) = false := by decide)
    (he : starEach (e :: es) X.env = (false, eval e X.env) :: starEach es X.env := by rfl) (hpl : (backTo pos (starEach es X.env)).any (·.1) = false := by rfl) : PE X (.Call (.Name x p) (e :: es) [] pos) (tCB r t) := by
  intro pins s σ H Q I h
  refine wpAny_Call_Name_kw (ld_blt I hg hm hv ?_ hn hdb)
  exact PyProof.Rows.callWith_builtin1 (thn (ha pos pins s σ H _ I h) fun us s1 ⟨vs, H1, I1, r1, q1⟩ => hc pins s1 σ H1 vs us Q I1 r1 q1) he hpl
/-- T(e, ..), T a built-in type -/
theorem pe_callTy (hc : CallR X (.type T) r) (hg : Gl X x) (hm : X.mg x = none) (hv : bootBuiltins x = some (.type T)) (ha : PA X (e :: es) t) (hn : x ≠ "__name__" := by decide) (hdb : (x == ("__debug__" : Str)) = false := by decide)
    (he : starEach (e :: es) X.env = (false, eval e X.env) :: starEach es X.env := by rfl) (hpl : (backTo pos (starEach es X.env)).any (·.1) = false := by rfl) : PE X (.Call (.Name x p) (e :: es) [] pos) (tCB r t) := by
  intro pins s σ H Q I h
  refine wpAny_Call_Name_kw (ld_blt I hg hm hv ?_ hn hdb)
  exact PyProof.Rows.callWith_type1 (thn (ha pos pins s σ H _ I h) fun us s1 ⟨vs, H1, I1, r1, q1⟩ => hc pins s1 σ H1 vs us Q I1 r1 q1) he hpl
end
end L2

namespace L2
open PySem PySem.Spec PyProof.Rows

/-! ### lists of pairs as tables -/
section
variable {κ : Type} [DecidableEq κ]
def valV (kvs : List (κ × V)) (k : κ) : Option V := (kvs.find? fun kv => decide (kv.1 = k)).map (·.2)
/-- in its place, or at the end -/
def putK (kvs : List (κ × V)) (k : κ) (v : V) : List (κ × V) :=
  if (kvs.any fun kv => decide (kv.1 = k)) = true then kvs.map (fun kv => if kv.1 = k then (kv.1, v) else kv) else kvs ++ [(k, v)]
def dropK (kvs : List (κ × V)) (k : κ) : List (κ × V) := kvs.filter fun kv => decide (kv.1 ≠ k)

theorem valV_pos {p : κ × V} {r : List (κ × V)} {k : κ} (e : p.1 = k) : valV (p :: r) k = some p.2 := by simp [valV, List.find?_cons, e]
theorem valV_neg {p : κ × V} {r : List (κ × V)} {k : κ} (e : ¬ p.1 = k) : valV (p :: r) k = valV r k := by simp [valV, List.find?_cons, e]
theorem valV_any (k : κ) : ∀ kvs : List (κ × V), (kvs.any fun kv => decide (kv.1 = k)) = (valV kvs k).isSome
  | [] => rfl
  | p :: r => by
    rw [List.any_cons]
    by_cases e : p.1 = k
    · simp only [valV_pos e, decide_eq_true e, Bool.true_or, Option.isSome_some]
    · rw [valV_neg e, decide_eq_false e, Bool.false_or]; exact valV_any k r
theorem RelO.getD {o : Option V} {u : Option Value} {d : V} {d' : Value} (r : RelO o u) (rd : RelV d d') : RelV (o.getD d) (u.getD d') := by
  cases o with
  | none => cases u with
    | none => exact rd
    | some _ => exact (show False from r).elim
  | some _ => cases u with
    | none => exact (show False from r).elim
    | some _ => exact r

/-- raw tables of the same keys -/
theorem KV.val {kvs : List (κ × V)} {vs : List (κ × Value)} (r : KV kvs vs) (k : κ) : RelO (valV kvs k) (valueAt vs k) := by
  unfold KV at r
  induction r with
  | nil => exact True.intro
  | @cons p q ps qs h t ih =>
    obtain ⟨h1, h2⟩ := h
    by_cases e : p.1 = k
    · have e' : q.1 = k := h1.symm.trans e
      have b : valueAt (q :: qs) k = some q.2 := by simp [valueAt, List.find?_cons, e']
      rw [valV_pos e, b]; exact h2
    · have e' : ¬ q.1 = k := fun z => e (h1.trans z)
      have b : valueAt (q :: qs) k = valueAt qs k := by simp [valueAt, List.find?_cons, e']
      rw [valV_neg e, b]; exact ih
theorem KV.any {kvs : List (κ × V)} {vs : List (κ × Value)} (r : KV kvs vs) (k : κ) : (kvs.any fun kv => decide (kv.1 = k)) = vs.any fun kv => decide (kv.1 = k) := by
  unfold KV at r
  induction r with
  | nil => rfl
  | cons h t ih => rw [List.any_cons, List.any_cons, ih, h.1]
theorem KV.drop {kvs : List (κ × V)} {vs : List (κ × Value)} (r : KV kvs vs) (k : κ) : KV (dropK kvs k) (without vs k) := by
  unfold KV at r ⊢
  unfold dropK without
  induction r with
  | nil => exact .nil
  | @cons p q ps qs h t ih =>
    obtain ⟨h1, h2⟩ := h
    rw [List.filter_cons, List.filter_cons]
    by_cases e : p.1 = k
    · have a : ¬ decide (p.1 ≠ k) = true := by simp [e]
      have b : ¬ decide (q.1 ≠ k) = true := by simp [h1.symm.trans e]
      rw [if_neg a, if_neg b]; exact ih
    · have e' : ¬ q.1 = k := fun z => e (h1.trans z)
      have a : decide (p.1 ≠ k) = true := by simp [e]
      have b : decide (q.1 ≠ k) = true := by simp [e']
      rw [if_pos a, if_pos b]; exact .cons ⟨h1, h2⟩ ih
theorem KV.keys {kvs : List (κ × V)} {vs : List (κ × Value)} (r : KV kvs vs) : kvs.map (·.1) = vs.map (·.1) := by
  unfold KV at r
  induction r with
  | nil => rfl
  | cons h t ih => rw [List.map_cons, List.map_cons, ih, h.1]
theorem KV.length {kvs : List (κ × V)} {vs : List (κ × Value)} (r : KV kvs vs) : kvs.length = vs.length := Paired.length r
theorem dropK_le (kvs : List (κ × V)) (k : κ) : (dropK kvs k).length ≤ kvs.length := List.length_filter_le _ _
end


/-! ### a tracked dict, its keys ints and texts or tuples of these -/
theorem kV_is {P : Program} {w : World} {k : Key} {u : Value} (r : RelV (kV k) u) : (mixKind P w).is k u = true := by
  cases k with
  | inl i => obtain ⟨t, e⟩ := (show ∃ t, u = Value.int i t from r); subst e; exact mixKind_int P w i t
  | inr x => obtain ⟨t, e⟩ := (show ∃ t, u = Value.str x t from r); subst e; exact mixKind_str P w x t
theorem items_are {P : Program} {w : World} : ∀ {ks : List Key} {us : List Value}, Vals (ks.map kV) us → ItemsAre (mixKind P w) ks us
  | [], _, r => by rw [List.map_nil] at r; cases r; exact .nil
  | k :: ks, _, r => by
    rw [List.map_cons] at r
    cases r with
    | cons h t => exact .cons (kV_is h) (items_are t)

/-- raw entries of a dict with tuple keys -/
abbrev KT (H : Hp) : List (List Key × V) → List (List Key × Addr × Value) → Prop := Paired fun p q => p.1 = q.1 ∧ H q.2.1 = some (.tup (p.1.map kV)) ∧ RelV p.2 q.2.2
theorem KT.val {H : Hp} {kvs : List (List Key × V)} {xs : List (List Key × Addr × Value)} (r : KT H kvs xs) (k : List Key) : RelO (valV kvs k) ((atKey xs k).map (·.2)) := by
  induction r with
  | nil => exact True.intro
  | @cons p q ps qs h t ih =>
    obtain ⟨h1, _, h2⟩ := h
    by_cases e : p.1 = k
    · have e' : q.1 = k := h1.symm.trans e
      have b : atKey (q :: qs) k = some q.2 := by simp [atKey, List.find?_cons, e']
      rw [valV_pos e, b]; exact h2
    · have e' : ¬ q.1 = k := fun z => e (h1.trans z)
      have b : atKey (q :: qs) k = atKey qs k := by simp [atKey, List.find?_cons, e']
      rw [valV_neg e, b]; exact ih
section
variable {P : Program} {w : World} {H : Hp} {h : Heap} {a : Addr}
theorem rd_of {u : HO} (ok : HOk P w H h) (e : Rd H a u) : ObjOk P w H h a u := e.ok ok
theorem dk_rd {kvs : List (Key × V)} (ok : HOk P w H h) (e : Rd H a (.dK kvs)) : kvs.length ≤ sizeLine ∧ (a == sysModules) = false ∧ ∃ vs, KV kvs vs ∧ h.DictOf (mixKind P w) a vs :=
  show ObjOk P w H h a (.dK kvs) from rd_of ok e
theorem dk_of {kvs : List (Key × V)} (ok : HOk P w H h) (e : H a = some (.dK kvs)) : kvs.length ≤ sizeLine ∧ (a == sysModules) = false ∧ ∃ vs, KV kvs vs ∧ h.DictOf (mixKind P w) a vs := dk_rd ok (.inl e)
/-- a tracked tuple of ints and texts is a key -/
theorem key_of {ks : List Key} (ok : HOk P w H h) (e : H a = some (.tup (ks.map kV))) : (tupleKind (mixKind P w)).is h ks a := by
  obtain ⟨_, its, r, o, h1, h2, n, h3⟩ := (show ObjOk P w H h a (.tup (ks.map kV)) from ok a _ e)
  exact ⟨o, its.toArray, n, h1, h2, h3, by simpa using items_are r⟩
theorem dt_rd {kvs : List (List Key × V)} (ok : HOk P w H h) (e : Rd H a (.dT kvs)) : kvs.length ≤ sizeLine ∧ (a == sysModules) = false ∧
    ∃ xs, KT H kvs xs ∧ h.DictOfH (tupleKind (mixKind P w)) a xs := by
  obtain ⟨z, y, xs, r, o, es, ep, h1, h2, h3, h4, h5⟩ := (show ObjOk P w H h a (.dT kvs) from rd_of ok e)
  refine ⟨z, y, xs, r, o, es, ep, h1, h2, h3, h4, fun x hx => ?_, h5⟩
  have all : ∀ {l : List (List Key × V)} {m : List (List Key × Addr × Value)}, KT H l m → ∀ x ∈ m, (tupleKind (mixKind P w)).is h x.1 x.2.1 := by
    intro l m q
    induction q with
    | nil => intro x hx; exact nomatch hx
    | @cons p q ps qs hq t ih =>
      intro x hx
      rcases List.mem_cons.mp hx with e | hx
      · subst e
        exact key_of ok (by rw [← hq.1]; exact hq.2.1)
      · exact ih x hx
  exact all r x hx
end

/-- what the dict at a holds at the key y -/
def DGet (H : Hp) (a : Addr) (y : V) (r : Option V) : Prop :=
  (∃ kvs k, Rd H a (.dK kvs) ∧ y = kV k ∧ r = valV kvs k) ∨ ∃ kvs k b, Rd H a (.dT kvs) ∧ y = .ref b ∧ H b = some (.tup (k.map kV)) ∧ r = valV kvs k
/-- the heap behind a[y] = v -/
def DPut (H : Hp) (a : Addr) (y v : V) (H' : Hp) : Prop :=
  (∃ kvs k, H a = some (.dK kvs) ∧ y = kV k ∧ kvs.length < sizeLine ∧ H' = upd H a (.dK (putK kvs k v))) ∨
  ∃ kvs k b, H a = some (.dT kvs) ∧ y = .ref b ∧ H b = some (.tup (k.map kV)) ∧ kvs.length < sizeLine ∧ H' = upd H a (.dT (putK kvs k v))
theorem DGet.k {H : Hp} {a : Addr} {kvs : List (Key × V)} {k : Key} (e : H a = some (.dK kvs)) : DGet H a (kV k) (valV kvs k) := .inl ⟨kvs, k, .inl e, rfl, rfl⟩
theorem DGet.t {H : Hp} {a b : Addr} {kvs : List (List Key × V)} {k : List Key} (e : H a = some (.dT kvs)) (eb : H b = some (.tup (k.map kV))) : DGet H a (.ref b) (valV kvs k) := .inr ⟨kvs, k, b, .inl e, rfl, eb, rfl⟩
theorem DPut.k {H : Hp} {a : Addr} {kvs : List (Key × V)} {k : Key} {v : V} (e : H a = some (.dK kvs)) (hl : kvs.length < sizeLine) : DPut H a (kV k) v (upd H a (.dK (putK kvs k v))) := .inl ⟨kvs, k, e, rfl, hl, rfl⟩
theorem DPut.t {H : Hp} {a b : Addr} {kvs : List (List Key × V)} {k : List Key} {v : V} (e : H a = some (.dT kvs)) (eb : H b = some (.tup (k.map kV))) (hl : kvs.length < sizeLine) :
    DPut H a (.ref b) v (upd H a (.dT (putK kvs k v))) := .inr ⟨kvs, k, b, e, rfl, eb, hl, rfl⟩


section
variable {X : Cx} {pins : List (Addr × Obj)} {σ : St} {H : Hp} {s : Shared} {a : Addr} {y v : V} {u r : Value} {o : Option V} {A : Around} {E : Value → Shared → Prop}

theorem Inv.big (I : Inv X pins σ H s) : sysModules < s.heap.objs.size := by
  have h : mainGlobals < s.heap.objs.size := (I.mod.glob.keeps I.bk).lt
  exact Nat.lt_trans (by decide) h

end

section
variable {X : Cx} {pins : List (Addr × Obj)} {σ : St} {H : Hp} {s : Shared} {a : Addr} {kvs : List (Key × V)} {k : Key} {u : Value} {A : Around} {E : Value → Shared → Prop}
/-- len(d) -/
theorem d_len {Q : Value → Shared → Prop} (I : Inv X pins σ H s) (e : Rd H a (.dK kvs)) (h : ∀ t s', Inv X pins σ H s' → Q (.int kvs.length t) s') : wpAny (model X.prog X.w) A (call (.builtin "len") [.ref a]) Q E s := by
  obtain ⟨z, hd, vs, rel, dd⟩ := dk_rd I.hok e
  refine call_len_dict hd dd (by rw [← rel.length]; rw [sizeLine_eq] at z; omega) ?_
  rw [← rel.length]
  exact h _ _ (I.tok _)
end


/-! ### readings and rules -/
/-- d[y] -/
def tDGet (td ty : TE) : TE := fun σ H Q => td σ H fun x H1 => ty σ H1 fun y H2 => ∃ a v, x = .ref a ∧ DGet H2 a y (some v) ∧ Q v H2
/-- y in d, y not in d -/
def tDIn (ty td : TE) : TE := fun σ H Q => ty σ H fun y H1 => td σ H1 fun x H2 => ∃ a o, x = .ref a ∧ DGet H2 a y o ∧ Q (.bl o.isSome) H2
def tDNotIn (ty td : TE) : TE := fun σ H Q => ty σ H fun y H1 => td σ H1 fun x H2 => ∃ a o, x = .ref a ∧ DGet H2 a y o ∧ Q (.bl (!o.isSome)) H2
/-- d[y] = v -/
def sDPut (td ty tv : TE) : TS := fun D σ H => tv σ H fun v H1 => td σ H1 fun x H2 => ty σ H2 fun y H3 => ∃ a H4, x = .ref a ∧ DPut H3 a y v H4 ∧ D.nx σ H4
section
variable {X : Cx} {o i e value : Expr} {pos pos' tpos : Pos} {td ty tv : TE}
end


/-! ### displays -/
theorem dk_empty {P : Program} {w : World} {H : Hp} (h : Heap) (hb : sysModules < h.objs.size) : ObjOk P w H (h.push { cls := .type "dict", data := .dict #[] }) h.objs.size (.dK []) :=
  ⟨Nat.zero_le _, beq_eq_false_iff_ne.mpr (Ne.symm (Nat.ne_of_lt hb)), [], .nil, Heap.DictOf.new h⟩
/-- {}, to be a dict of the kind that is wanted -/
def tDNewK : TE := fun _ H Q => ∀ p, H p = none → Q (.ref p) (upd H p (.dK []))
section
variable {X : Cx} {pos : Pos}
theorem pe_dnewK : PE X (.Dict [] [] pos) tDNewK := fun pins s σ H Q I h =>
  wpAny_Dict_empty ⟨.ref s.heap.objs.size, _, I.laid (a := s.heap.objs.size) (o := .dK []) (t' := s.toks) (fun _ _ q => Heap.get?_push_of_some _ q) (Nat.le_refl _) (dk_empty s.heap I.big), rfl, h _ (I.hok.fresh (Nat.le_refl _))⟩
end

/-! ### methods -/
/-- a method call o.m(e) of a built-in, with one argument: what must be seen of the text -/
structure M1 (X : Cx) (o : Expr) (m : Str) (apos : Pos) (e : Expr) (cpos : Pos) : Prop where
  base : attributeBase o m X.env (eval o X.env) = eval o X.env
  few : ((backTo cpos (starEach [e] X.env)).all (fun x => !x.1) && (backToKw cpos (keywordEach [] X.env)).all (fun x => x.1.isSome)
    && decide (([e] : List Expr).length + ([] : List Keyword).length + (if ([] : List Keyword).isEmpty then 0 else 1) < 30)) = true
  line : (apos.endLine == cpos.line) = true
  trees : backTo cpos (starEach [e] X.env) = [(false, eval e X.env)]
structure M2 (X : Cx) (o : Expr) (m : Str) (apos : Pos) (e f : Expr) (cpos : Pos) : Prop where
  base : attributeBase o m X.env (eval o X.env) = eval o X.env
  few : ((backTo cpos (starEach [e, f] X.env)).all (fun x => !x.1) && (backToKw cpos (keywordEach [] X.env)).all (fun x => x.1.isSome)
    && decide (([e, f] : List Expr).length + ([] : List Keyword).length + (if ([] : List Keyword).isEmpty then 0 else 1) < 30)) = true
  line : (apos.endLine == cpos.line) = true
  trees : backTo cpos (starEach [e, f] X.env) = [(false, eval e X.env), (false, eval f X.env)]

/-- a is a dict, whatever its keys -/
def IsD (H : Hp) (a : Addr) : Prop := (∃ kvs, Rd H a (.dK kvs)) ∨ ∃ kvs, Rd H a (.dT kvs)
theorem isD_at {X : Cx} {pins : List (Addr × Obj)} {σ : St} {H : Hp} {s : Shared} {a : Addr} (I : Inv X pins σ H s) (d : IsD H a) :
    s.TypeIs (.ref a) "dict" ∧ (∀ b, Value.ref a = .ref b → ∃ ob, s.heap.get? b = some ob ∧ ob.dict = none) ∧ (a == sysModules) = false := by
  rcases d with ⟨kvs, e⟩ | ⟨kvs, e⟩
  · obtain ⟨_, hd, vs, _, dd⟩ := dk_rd I.hok e
    refine ⟨dd.typeIs, fun b q => ?_, hd⟩
    cases q
    obtain ⟨ob, _, _, h1, h2, _⟩ := dd
    exact ⟨ob, h1, h2.2.1⟩
  · obtain ⟨_, hd, xs, _, dd⟩ := dt_rd I.hok e
    refine ⟨dd.typeIs, fun b q => ?_, hd⟩
    cases q
    obtain ⟨ob, _, _, h1, h2, _⟩ := dd
    exact ⟨ob, h1, h2.2.1⟩

section
variable {X : Cx} {pins : List (Addr × Obj)} {σ : St} {H : Hp} {s : Shared} {a : Addr} {y d : V} {u r : Value} {o : Option V} {A : Around} {E : Value → Shared → Prop}
/-- d.get(y, x) -/
theorem d_get2 {Q : Value → Shared → Prop} (hu : A.units + 1 < cLine) (I : Inv X pins σ H s) (g : DGet H a y o) (ry : RelV y u) (rd : RelV d r) (h : ∀ w' s', Inv X pins σ H s' → RelV (o.getD d) w' → Q w' s') :
    wpAny (model X.prog X.w) A (call (.builtin "dict.get") [.ref a, u, r]) Q E s := by
  rcases g with ⟨kvs, k, e, ey, l⟩ | ⟨kvs, k, b, e, ey, eb, l⟩
  · subst ey
    obtain ⟨z, hd, vs, rel, dd⟩ := dk_rd I.hok e
    refine call_meetsIn PySem.F.slot_dict_get dd.typeIs PySem.F.entry_dict_get (PySem.F.args_dict_get_3 _ _ _) (meets_dict_get_default (mixKind X.prog X.w) a (kV_is ry) hd r) ⟨_, dd.mapOf, h _ _ (I.tok _) ?_⟩
    rw [l]
    exact (rel.val k).getD rd
  · subst ey
    cases (show u = Value.ref b from ry)
    obtain ⟨z, hd, xs, rel, dd⟩ := dt_rd I.hok e
    refine call_meetsIn PySem.F.slot_dict_get dd.typeIs PySem.F.entry_dict_get (PySem.F.args_dict_get_3 _ _ _) (meetsH_dict_get_default (tupleKind (mixKind X.prog X.w)) a b hd r) ⟨tupleKind_room_in1 hu, k, xs, key_of I.hok eb, dd, h _ _ (I.tok _) ?_⟩
    rw [l]
    exact (rel.val k).getD rd
end

def tDGet2 (td ty tx : TE) : TE := fun σ H Q => td σ H fun x H1 => ∃ a, x = .ref a ∧ IsD H1 a ∧ ty σ H1 fun y H2 => tx σ H2 fun z H3 => ∃ o, DGet H3 a y o ∧ Q (o.getD z) H3
section
variable {X : Cx} {o e f : Expr} {apos cpos : Pos} {td ty tx : TE}
theorem pe_dget2 (hu : X.A.units + 1 < cLine) (ho : PE X o td) (he : PE X e ty) (hf : PE X f tx) (m : M2 X o "get" apos e f cpos) : PE X (.Call (.Attribute o "get" apos) [e, f] [] cpos) (tDGet2 td ty tx) := by
  intro pins s σ H Q I h
  refine wpAny_Call_method m.base m.few m.line PySem.F.plainAttrs_dict PySem.F.slot_dict_get PySem.F.type_dict_get (thn (ho pins s σ H _ I h) fun u s1 ⟨x, H1, I1, rx, a, ex, d, q1⟩ => ?_)
  subst ex
  obtain rfl : u = Value.ref a := rx
  obtain ⟨t1, t2, _⟩ := isD_at I1 d
  refine ⟨t1, t2, ?_⟩
  rw [m.trees]
  refine Calls.callWith_builtin rfl (Calls.evalArgs_plain (Calls.spliced_cons (thn (he pins s1 σ H1 _ I1 q1) fun iv s2 ⟨y, H2, I2, ry, q2⟩ =>
    Calls.spliced_cons (thn (hf pins s2 σ H2 _ I2 q2) fun fv s3 ⟨z, H3, I3, rz, ov, g, q3⟩ => Calls.spliced_nil ?_))))
  exact d_get2 hu I3 g ry rz fun w' s4 I4 rw' => ⟨_, H3, I4, rw', q3⟩
end

/-! ### dict(d): a copy -/
section
variable {X : Cx} {pins : List (Addr × Obj)} {σ : St} {H : Hp} {s : Shared} {a : Addr} {kvs : List (Key × V)} {A : Around} {E : Value → Shared → Prop}
end


section
variable {X : Cx} {pins : List (Addr × Obj)} {σ : St} {H : Hp} {s : Shared} {a : Addr} {y : V} {u : Value} {A : Around} {E : Value → Shared → Prop}
end
end L2

namespace HT
open PySem PyProof.Rows

section
open PySem.SeqAt
open PySem.AutoSeq1 (wpAny_loadPart')
open PySem.MeetsSeq PySem.MeetsSeq2 PySem.MeetsSeq3

end

section
variable {prog : Program} {w : World} {A : Around} {E : Value → Shared → Prop} {s : Shared}

/-! ### t[a:b], not the whole -/
/-- a slice's bound as a place among n (d where it is left out) -/
def sIx (n d : Nat) : Option Int → Nat
  | none => d
  | some v => if v < 0 then (v + (n : Int)).toNat else min v.toNat n
end
end HT

namespace L2
open PySem PySem.Spec PyProof.Rows

/-! ### the parts of a slice -/
abbrev TO := St → Hp → (Option Int → Hp → Prop) → Prop
def tNoPart : TO := fun _ H Q => Q none H
def tPart (t : TE) : TO := fun σ H Q => t σ H fun x H1 => ∃ i, x = .int i ∧ Q (some i) H1

section
variable {X : Cx} {e : Expr} {te : TE} {lo hi : Option Expr} {tl th : TO} {pos p2 : Pos}

/-- what a slice of a value is, by values: the slice object stands at sl -/
def SlR (X : Cx) (r : V → Option Int → Option Int → Hp → VK → Prop) : Prop :=
  ∀ (pins : List (Addr × Obj)) (s : Shared) (σ : St) (H : Hp) (x : V) (v vl vu : Value) (lo hi : Option Int) (sl : Addr) (Q : VK), Inv X pins σ H s → RelV x v → s.heap.IsSliceOf sl vl vu .none → IsPart vl lo → IsPart vu hi → r x lo hi H Q →
    ∃ T id, typeLookup (.type T) "__getitem__" = pure (some (.builtin id)) ∧ s.TypeIs v T ∧ wpAny (model X.prog X.w) X.A (getItem v (.ref sl)) (EP X pins σ Q) X.xe s
theorem SlR.or {r r' : V → Option Int → Option Int → Hp → VK → Prop} (h : SlR X r) (h' : SlR X r') : SlR X (fun x lo hi H Q => r x lo hi H Q ∨ r' x lo hi H Q) := by
  intro pins s σ H x v vl vu lo hi sl Q I rx hs pl pu q
  rcases q with q | q
  · exact h pins s σ H x v vl vu lo hi sl Q I rx hs pl pu q
  · exact h' pins s σ H x v vl vu lo hi sl Q I rx hs pl pu q
def tSl (r : V → Option Int → Option Int → Hp → VK → Prop) (te : TE) (tl th : TO) : TE := fun σ H Q => te σ H fun x H1 => tl σ H1 fun l H2 => th σ H2 fun u H3 => r x l u H3 Q
/-- the items of xs[lo:hi] -/
def cutV (xs : List V) (lo hi : Option Int) : List V := (xs.drop (HT.sIx xs.length 0 lo)).take (HT.sIx xs.length xs.length hi - HT.sIx xs.length 0 lo)
theorem cutV_length (xs : List V) (lo hi : Option Int) : (cutV xs lo hi).length ≤ xs.length := by
  unfold cutV
  rw [List.length_take, List.length_drop]
  omega
/-- t[lo:hi], not the whole of it (the whole would be t itself) -/
def rSlT (K : PySem.W.Frag) : V → Option Int → Option Int → Hp → VK → Prop := fun x lo hi H Q => ∃ a xs, x = .ref a ∧ SqT K H a xs ∧
  ¬ (HT.sIx xs.length 0 lo = 0 ∧ HT.sIx xs.length xs.length hi = xs.length) ∧ ∀ p, H p = none → Q (.ref p) (upd H p (.tup (cutV xs lo hi)))
/-! ### t < u, t + u -/
end
end L2

namespace L2
open PySem PySem.Spec PyProof.Rows

/-! ### places -/
/-- the place that an index of any sign means -/
def ixN (n : Nat) (i : Int) : Option Nat := if 0 ≤ i then (if i < n then some i.toNat else none) else if -(n : Int) ≤ i then some (i + n).toNat else none
def atI {α : Type} (xs : List α) (i : Int) : Option α := (ixN xs.length i).bind fun j => xs[j]?
theorem ixN_seq {n : Nat} {i : Int} {j : Nat} (h : ixN n i = some j) : seqIndex? i n = some j ∧ j < n ∧ -(n : Int) ≤ i ∧ i < n := by
  unfold ixN at h
  by_cases h0 : 0 ≤ i
  · rw [if_pos h0] at h
    by_cases h1 : i < n
    · rw [if_pos h1] at h
      have e : i.toNat = j := Option.some.inj h
      exact ⟨by rw [seqIndex_of h0 h1, e], by omega, by omega, h1⟩
    · rw [if_neg h1] at h; cases h
  · rw [if_neg h0] at h
    by_cases h1 : -(n : Int) ≤ i
    · rw [if_pos h1] at h
      have e : (i + n).toNat = j := Option.some.inj h
      exact ⟨by rw [seqIndex_neg (by omega) h1, e], by omega, h1, by omega⟩
    · rw [if_neg h1] at h; cases h
theorem atI_get {α : Type} {xs : List α} {i : Int} {v : α} (h : atI xs i = some v) : ∃ j, seqIndex? i xs.length = some j ∧ xs[j]? = some v ∧ j < xs.length ∧ -(xs.length : Int) ≤ i ∧ i < xs.length := by
  unfold atI at h
  cases e : ixN xs.length i with
  | none => rw [e] at h; cases h
  | some j =>
    rw [e] at h
    obtain ⟨h1, h2, h3, h4⟩ := ixN_seq e
    exact ⟨j, h1, h, h2, h3, h4⟩
theorem atI_nat {α : Type} {xs : List α} {j : Nat} {v : α} (h : xs[j]? = some v) : atI xs (j : Int) = some v := by
  have hj : j < xs.length := (List.getElem?_eq_some_iff.mp h).1
  have e : ixN xs.length (j : Int) = some j := by
    unfold ixN
    rw [if_pos (by omega), if_pos (by omega)]; simp
  unfold atI; rw [e]; exact h
/-! ### what may be subscripted -/
/-- what stands as an index of a plain subscript -/
def PlainIx (b : Expr) : Prop := ∀ o i, subscripted b false o i = operate [o, i] (getItem o i)
/-- a subscript by values -/
def IxR (X : Cx) (r : R2) : Prop :=
  ∀ (value slice : Expr) (pins : List (Addr × Obj)) (s : Shared) (σ : St) (H : Hp) (x y : V) (v u : Value) (Q : VK), Inv X pins σ H s → RelV x v → RelV y u → r x y H Q →
    subscripted slice false v u = operate [v, u] (getItem v u) → wpAny (model X.prog X.w) X.A (subscriptTail value slice v u) (EP X pins σ Q) X.xe s
/-- a call of a builtin's method by values: the receiver, the arguments -/
def MtR (X : Cx) (id : String) (r : V → List V → Hp → VK → Prop) : Prop :=
  ∀ (pins : List (Addr × Obj)) (s : Shared) (σ : St) (H : Hp) (x : V) (xs : List V) (v : Value) (us : List Value) (Q : VK), Inv X pins σ H s → RelV x v → Vals xs us → r x xs H Q →
    wpAny (model X.prog X.w) X.A (call (.builtin id) (v :: us)) (EP X pins σ Q) X.xe s
section
variable {X : Cx} {a b : Expr} {ta tb : TE} {pos : Pos}
theorem IxR.or {r r' : R2} (h : IxR X r) (h' : IxR X r') : IxR X (fun x y H Q => r x y H Q ∨ r' x y H Q) := by
  intro value slice pins s σ H x y v u Q I rx ry q hs
  rcases q with q | q
  · exact h value slice pins s σ H x y v u Q I rx ry q hs
  · exact h' value slice pins s σ H x y v u Q I rx ry q hs
theorem MtR.or {id : String} {r r' : V → List V → Hp → VK → Prop} (h : MtR X id r) (h' : MtR X id r') : MtR X id (fun x xs H Q => r x xs H Q ∨ r' x xs H Q) := by
  intro pins s σ H x xs v us Q I rx rs q
  rcases q with q | q
  · exact h pins s σ H x xs v us Q I rx rs q
  · exact h' pins s σ H x xs v us Q I rx rs q
/-- a[b] -/
theorem pe_ix {r : R2} (hr : IxR X r) (ha : PE X a ta) (hb : PE X b tb) (hs : PlainIx b) : PE X (.Subscript a b pos) (tOp r ta tb) := by
  intro pins s σ H Q I h
  exact Subscript_ (binT ha hb I h fun v u s2 x y H2 I2 rx ry q => hr a b pins s2 σ H2 x y v u Q I2 rx ry q (hs _ _))

def rIxL (K : PySem.W.Frag) : R2 := fun x y H Q => ∃ p xs i v, x = .ref p ∧ y = .int i ∧ SqL K H p xs ∧ atI xs i = some v ∧ Q v H
def rIxT (K : PySem.W.Frag) : R2 := fun x y H Q => ∃ p xs i v, x = .ref p ∧ y = .int i ∧ SqT K H p xs ∧ atI xs i = some v ∧ Q v H
theorem ix_list : IxR X (rIxL X.K) := by
  intro value slice pins s σ H x y v u Q I rx ry h hs
  obtain ⟨p, xs, i, z, rfl, rfl, hq, he, q⟩ := h
  cases rx
  obtain ⟨t, rfl⟩ := ry
  obtain ⟨its, r, pl, hz⟩ := I.list hq
  obtain ⟨j, h1, h2, h3, h4, h5⟩ := atI_get he
  obtain ⟨w, ew, rw'⟩ := r.get h2
  have hl := r.length
  have hn := line63
  have fin : EP X pins σ Q w s := ⟨z, H, I, rw', q⟩
  by_cases h0 : 0 ≤ i
  · have hj : i.toNat = j := by
      rw [seqIndex_of h0 h5] at h1
      exact Option.some.inj h1
    exact item_listR pl.isList h0 (by omega) (by rw [hj]; simpa using ew) fin hs
  · have hj : (i + (its.toArray.size : Int)).toNat = j := by
      rw [seqIndex_neg (by omega) h4] at h1
      rw [List.size_toArray, ← hl]
      exact Option.some.inj h1
    exact subscriptTail_builtinR (x := w) pl.isList.typeIs slot_list_getitem.lookup
      (wpAny_getItem_list_neg (Q := fun r s' => r = w ∧ EP X pins σ Q r s') pl.isList (by omega) (by rw [List.size_toArray] <;> omega) (by omega) (by rw [hj]; simpa using ew) ⟨rfl, fin⟩) hs
theorem ix_tup : IxR X (rIxT X.K) := by
  intro value slice pins s σ H x y v u Q I rx ry h hs
  obtain ⟨p, xs, i, z, rfl, rfl, hq, he, q⟩ := h
  cases rx
  obtain ⟨t, rfl⟩ := ry
  obtain ⟨its, r, pl, hz⟩ := I.tuple hq
  obtain ⟨j, h1, h2, h3, h4, h5⟩ := atI_get he
  obtain ⟨w, ew, rw'⟩ := r.get h2
  have hl := r.length
  have hn := line63
  have fin : EP X pins σ Q w s := ⟨z, H, I, rw', q⟩
  exact subscriptTail_builtinR (x := w) pl.typeIs slot_tuple_getitem.lookup
    (getItem_tuple (j := j) (Q := fun r s' => r = w ∧ EP X pins σ Q r s') pl (by omega) (by omega) (by rw [List.size_toArray, ← hl]; exact h1) (by simpa using ew) ⟨rfl, fin⟩) hs
/-! ### xs[i] = v, any sign -/
/-- the list's object behind a store -/
theorem mapSeq_set (its : List Value) (n j : Nat) (u : Value) : Obj.mapSeq (·.setIfInBounds j u) { cls := .type "list", data := .seq its.toArray n } = { cls := .type "list", data := .seq (its.set j u).toArray n } := by
  simp [Obj.mapSeq]
theorem Inv.lst {pins : List (Addr × Obj)} {σ : St} {H : Hp} {s : Shared} {p : Addr} {xs : List V} (I : Inv X pins σ H s) (h : H p = some (.lst xs)) :
    ∃ (its : List Value) (n : Nat), Vals xs its ∧ s.heap.get? p = some { cls := .type "list", data := .seq its.toArray n } ∧ xs.length ≤ sizeLine := by
  obtain ⟨z, its, n, r, e⟩ := I.hok p _ h
  exact ⟨its, n, r, e, z⟩
/-- the list at p is written by an update of its object -/
theorem Inv.lstUpd {pins : List (Addr × Obj)} {σ : St} {H : Hp} {s : Shared} {p : Addr} {xs ys : List V} {its its' : List Value} {n n' : Nat} {f : Obj → Obj} (I : Inv X pins σ H s) (h : H p = some (.lst xs))
    (ho : s.heap.get? p = some { cls := .type "list", data := .seq its.toArray n }) (hf : f { cls := .type "list", data := .seq its.toArray n } = { cls := .type "list", data := .seq its'.toArray n' }) (r : Vals ys its') (hz : ys.length ≤ sizeLine) (t : Nat) :
    Inv X pins σ (upd H p (.lst ys)) { s with heap := s.heap.update p f, toks := t } := by
  have e : (s.heap.update p f).get? p = some { cls := .type "list", data := .seq its'.toArray n' } := by
    rw [Heap.get?_update_self f ho (by rw [hf] <;> rfl), hf]
  refine I.write (x := p) (e := p) (by rw [h]; trivial) (.inl rfl) (fun b u hb q => (Heap.get?_update_other _ _ (Ne.symm hb)).trans q) ⟨_, e⟩ ?_
  exact ⟨hz, its', n', r, e⟩
def rSetL : V → V → V → Hp → (Hp → Prop) → Prop := fun o i v H Q => ∃ p xs k j, o = .ref p ∧ i = .int k ∧ H p = some (.lst xs) ∧ ixN xs.length k = some j ∧ Q (upd H p (.lst (xs.set j v)))
theorem set_list : PSet X rSetL := by
  intro pins s σ H o i v ov iv u Q I ro ri rv h
  obtain ⟨p, xs, k, j, rfl, rfl, hp, hj, q⟩ := h
  cases ro
  obtain ⟨t, rfl⟩ := ri
  obtain ⟨its, n, r, ho, hz⟩ := I.lst hp
  obtain ⟨h1, h2, h3, h4⟩ := ixN_seq hj
  have hl := r.length
  have hn := line63
  have I' : Inv X pins σ (upd H p (.lst (xs.set j v))) { s with heap := s.heap.update p (Obj.mapSeq (·.setIfInBounds j u)) } :=
    I.lstUpd hp ho (mapSeq_set its n j u) (r.set rv j) (by rw [List.length_set]; exact hz) s.toks
  by_cases h0 : 0 ≤ k
  · have hk : k.toNat = j := by
      rw [seqIndex_of h0 h4] at h1
      exact Option.some.inj h1
    exact PySem.W.ki_setAt ho h0 (by omega) (by rw [List.size_toArray, ← hl]; exact h4) (by rw [hk]; exact ⟨_, I', q⟩)
  · have hk : (k + (its.toArray.size : Int)).toNat = j := by
      rw [seqIndex_neg (by omega) h3] at h1
      rw [List.size_toArray, ← hl]
      exact Option.some.inj h1
    exact PySem.W.ki_setBack ho (by omega) (by rw [List.size_toArray, ← hl]; exact h3) (by omega) (by rw [hk]; exact ⟨_, I', q⟩)

/-! ### slices -/
theorem slice_bounds (lo hi : Option Int) (n : Nat) : (sliceBounds lo hi none n).1 = ((HT.sIx n 0 lo : Nat) : Int) ∧ (sliceBounds lo hi none n).2.1 = ((HT.sIx n n hi : Nat) : Int) ∧ (sliceBounds lo hi none n).2.2 = 1 := by
  refine ⟨?_, ?_, rfl⟩
  · cases lo with
    | none => simp [sliceBounds, HT.sIx]
    | some i =>
      simp only [sliceBounds, HT.sIx, Option.getD_none, show (1 : Int) > 0 by decide, if_true]
      by_cases h : i < 0
      · simp only [h, if_true] <;> omega
      · simp only [h, if_false] <;> omega
  · cases hi with
    | none => simp [sliceBounds, HT.sIx]
    | some i =>
      simp only [sliceBounds, HT.sIx, Option.getD_none, show (1 : Int) > 0 by decide, if_true]
      by_cases h : i < 0
      · simp only [h, if_true] <;> omega
      · simp only [h, if_false] <;> omega
theorem slicePick_cut (its : List Value) (lo hi : Option Int) : slicePick its.toArray lo hi none = ((its.drop (HT.sIx its.length 0 lo)).take (HT.sIx its.length its.length hi - HT.sIx its.length 0 lo)).toArray := by
  obtain ⟨h1, h2, h3⟩ := slice_bounds lo hi its.toArray.size
  unfold slicePick
  rw [h1, h2, h3]
  simp only [sliceRange_one, pick_run, List.size_toArray] <;> rfl
/-- xs[lo:hi] of a list: a new list -/
def rSlL (K : PySem.W.Frag) : V → Option Int → Option Int → Hp → VK → Prop := fun x lo hi H Q => ∃ a xs, x = .ref a ∧ SqL K H a xs ∧ ∀ p, H p = none → Q (.ref p) (upd H p (.lst (cutV xs lo hi)))
theorem sl_list : SlR X (rSlL X.K) := by
  intro pins s σ H x v vl vu lo hi sl Q I rx hs pl pu h
  obtain ⟨a, xs, rfl, hx, q⟩ := h
  cases rx
  obtain ⟨its, r, ht, hz⟩ := I.list hx
  have hlen := r.length
  refine ⟨"list", _, slot_list_getitem.lookup, ht.isList.typeIs, ?_⟩
  refine wpAny_getItem_list_slice ht.isList hs pl pu .none (by simp) ?_ (by rw [List.size_toArray] <;> omega)
  rw [slicePick_cut, ← hlen]
  refine ⟨.ref s.heap.objs.size, _, I.laid (t' := s.toks) (o := .lst (cutV xs lo hi)) (fun b ob q => Heap.get?_push_of_some _ q) (Nat.le_refl _) ?_, rfl, q _ (I.hok.fresh (Nat.le_refl _))⟩
  exact ⟨Nat.le_trans (cutV_length xs lo hi) hz, _, 0, (r.drop (HT.sIx xs.length 0 lo)).take (HT.sIx xs.length xs.length hi - HT.sIx xs.length 0 lo), Heap.get?_push_size _ rfl⟩

/-! ### in, not in: flat items -/
/-! ### len, list(x), tuple(x) of any list or tuple that is read -/
theorem call_len_seq : CallR X (.builtin "len") (fun xs H Q => ∃ p ys, xs = [.ref p] ∧ (SqL X.K H p ys ∨ SqT X.K H p ys) ∧ Q (.int ys.length) H) := by
  intro pins s σ H xs us Q I r h
  obtain ⟨p, ys, rfl, hq, q⟩ := h
  obtain ⟨u, rfl, rx⟩ := vals1 r
  cases rx
  have hn := line63
  rcases hq with hq | hq
  · obtain ⟨its, r', pl, hz⟩ := I.list hq
    have hlen := r'.length
    exact Calls.call_len_list pl.isList (by simp only [List.size_toArray] <;> omega) ⟨.int ys.length, H, I.tok _, ⟨s.toks + 1, by rw [List.size_toArray, hlen]⟩, q⟩
  · obtain ⟨its, r', pl, hz⟩ := I.tuple hq
    have hlen := r'.length
    exact len_tuple pl (by simp only [List.size_toArray] <;> omega) ⟨.int ys.length, H, I.tok _, ⟨s.toks + 1, by rw [List.size_toArray, hlen]⟩, q⟩
theorem CallR.or {f : Value} {r r' : List V → Hp → VK → Prop} (h : CallR X f r) (h' : CallR X f r') : CallR X f (fun xs H Q => r xs H Q ∨ r' xs H Q) := by
  intro pins s σ H xs us Q I rs q
  rcases q with q | q
  · exact h pins s σ H xs us Q I rs q
  · exact h' pins s σ H xs us Q I rs q
theorem call_list_of : CallR X (.type "list") (fun xs H Q => ∃ p ys, xs = [.ref p] ∧ (SqL X.K H p ys ∨ SqT X.K H p ys) ∧ ∀ l, H l = none → Q (.ref l) (upd H l (.lst ys))) := by
  intro pins s σ H xs us Q I r h
  obtain ⟨p, ys, rfl, hq, q⟩ := h
  obtain ⟨u, rfl, rx⟩ := vals1 r
  cases rx
  have fin : ∀ (its : List Value), Vals ys its → ys.length ≤ sizeLine → ∀ (h' : Heap) (c' : Nat), (∀ b o', s.heap.get? b = some o' → h'.get? b = some o') →
      h'.get? s.heap.objs.size = some { cls := .type "list", dict := none, data := .seq its.toArray c', slots := #[] } → EP X pins σ Q (.ref s.heap.objs.size) { s with heap := h' } := fun its r' hz h' c' kp e =>
    ⟨.ref s.heap.objs.size, _, I.laid (t' := s.toks) kp (Nat.le_refl _) (show ObjOk X.prog X.w _ h' _ (.lst ys) from ⟨hz, its, c', r', e⟩), rfl, q _ (I.hok.fresh (Nat.le_refl _))⟩
  rcases hq with hq | hq
  · obtain ⟨its, r', pl, hz⟩ := I.list hq
    have hlen := r'.length
    obtain ⟨o, ho, hc, n, hd⟩ := pl.isList
    exact call_list_seq p (.inl rfl) ho hc hd (fun h' c' kp e => fin its r' hz h' c' kp e) (by simp only [List.size_toArray] <;> omega)
  · obtain ⟨its, r', pl, hz⟩ := I.tuple hq
    have hlen := r'.length
    obtain ⟨o, ho, hc, n, hd⟩ := pl
    exact call_list_seq p (.inr rfl) ho hc hd (fun h' c' kp e => fin its r' hz h' c' kp e) (by simp only [List.size_toArray] <;> omega)
/-! ### the call of a builtin's method: o.m(..) -/
/-- the value is of that builtin type -/
def tyV (K : PySem.W.Frag) (T : String) (x : V) (H : Hp) : Prop := match x with
  | .str _ => T = "str"
  | .int _ => T = "int"
  | .ref p => (T = "list" ∧ ∃ xs, SqL K H p xs) ∨ (T = "tuple" ∧ ∃ o, K.lookup p = some o ∧ o.cls = .type "tuple" ∧ o.dict = none) ∨
      (T = "dict" ∧ ((∃ kvs, H p = some (.dK kvs)) ∨ ∃ kvs, H p = some (.dT kvs))) ∨ (T = "set" ∧ ∃ S n, H p = some (.set S n))
  | _ => False
theorem tyV_is {pins : List (Addr × Obj)} {σ : St} {H : Hp} {s : Shared} {T : String} {x : V} {v : Value} (I : Inv X pins σ H s) (r : RelV x v) (ty : tyV X.K T x H) :
    s.TypeIs v T ∧ ∀ a, v = .ref a → ∃ ob, s.heap.get? a = some ob ∧ ob.dict = none := by
  cases x with
  | str z =>
    obtain ⟨t, rfl⟩ := r
    cases (show T = "str" from ty)
    exact ⟨typeIs_str s z t, fun _ e => nomatch e⟩
  | int i =>
    obtain ⟨t, rfl⟩ := r
    cases (show T = "int" from ty)
    exact ⟨typeIs_int s i t, fun _ e => nomatch e⟩
  | ref p =>
    cases r
    rcases ty with ⟨rfl, xs, hq⟩ | ⟨rfl, o, hk, hc, hd⟩ | ⟨rfl, hk⟩ | ⟨rfl, S, n, hk⟩
    · obtain ⟨its, _, pl, _⟩ := I.list hq
      refine ⟨pl.isList.typeIs, fun a e => ?_⟩
      cases e
      obtain ⟨o, n, e, c, hd, _⟩ := pl
      exact ⟨o, e, hd⟩
    · refine ⟨⟨o, I.kIn p o hk, hc⟩, fun a e => ?_⟩
      cases e
      exact ⟨o, I.kIn _ o hk, hd⟩
    · have z : ∃ o, s.heap.get? p = some o ∧ o.ExactDict := by
        rcases hk with ⟨kvs, hk⟩ | ⟨kvs, hk⟩
        · obtain ⟨_, _, _, _, o, _, _, e, ex, _⟩ := I.hok p _ hk
          exact ⟨o, e, ex⟩
        · obtain ⟨_, _, _, _, o, _, _, e, ex, _⟩ := I.hok p _ hk
          exact ⟨o, e, ex⟩
      obtain ⟨o, e, ex⟩ := z
      refine ⟨⟨o, e, ex.1⟩, fun a e2 => ?_⟩
      cases e2
      exact ⟨o, e, ex.2.1⟩
    · obtain ⟨o, _, _, _, e, ex, _⟩ := I.hok p _ hk
      refine ⟨⟨o, e, ex.1⟩, fun a e2 => ?_⟩
      cases e2
      exact ⟨o, e, ex.2.1⟩
  | _ => exact False.elim ty
def tBM0 (K : PySem.W.Frag) (T : String) (r : V → List V → Hp → VK → Prop) (to : TE) : TE := fun σ H Q => to σ H fun x H1 => tyV K T x H1 ∧ r x [] H1 Q
def tBM (K : PySem.W.Frag) (T : String) (r : V → List V → Hp → VK → Prop) (to : TE) (t : TA) : TE := fun σ H Q => to σ H fun x H1 => tyV K T x H1 ∧ t σ H1 fun xs H2 => r x xs H2 Q
variable {o e : Expr} {es : List Expr} {to : TE} {t : TA} {name : Str} {apos cpos : Pos} {T id : String} {r : V → List V → Hp → VK → Prop}
theorem pe_bm (pa : PlainAttrs T) (slot : Slot T name id) (hty : typeOf (.builtin id) = pure (.type "method_descriptor")) (hm : MtR X id r) (ho : PE X o to) (ha : PA X (e :: es) t)
    (hbase : attributeBase o name X.env (eval o X.env) = eval o X.env := by rfl)
    (hfew : ((backTo cpos (starEach (e :: es) X.env)).all (fun x => !x.1) && (backToKw cpos (keywordEach [] X.env)).all (fun x => x.1.isSome)
      && decide ((e :: es).length + ([] : List Keyword).length + (if ([] : List Keyword).isEmpty then 0 else 1) < 30)) = true := by rfl)
    (hline : (apos.endLine == cpos.line) = true := by rfl) (hs : starEach (e :: es) X.env = (false, eval e X.env) :: starEach es X.env := by rfl) (hplain : (backTo cpos (starEach es X.env)).any (·.1) = false := by rfl) :
    PE X (.Call (.Attribute o name apos) (e :: es) [] cpos) (tBM X.K T r to t) := by
  intro pins s σ H Q I h
  refine wpAny_Call_method_late hbase hfew hline rfl (thn (ho pins s σ H _ I h) fun v s1 ⟨x, H1, I1, r1, ty, q1⟩ => ?_)
  obtain ⟨h1, h2⟩ := tyV_is I1 r1 ty
  refine ⟨T, id, pa, slot, hty, h1, h2, ?_⟩
  have hA := ha cpos pins s1 σ H1 _ I1 q1
  rw [hs] at hA ⊢
  refine Calls.callWith_builtin (by show (false || (backTo cpos (starEach es X.env)).any (·.1)) = false; rw [hplain] <;> rfl) (Calls.evalArgs_plain ?_)
  exact thn hA fun us s2 ⟨vs, H2, I2, r2, q2⟩ => hm pins s2 σ H2 x vs v us Q I2 r1 r2 q2
/- xs.append(e), list.index on a module's tuple .. are MtR facts of 06m -/
end
end L2

namespace L2
open PySem PySem.Spec PyProof.Rows

def MtM (X : Cx) (id : String) (r : V → List V → Hp → VK → Prop) : Prop :=
  ∀ (pins : List (Addr × Obj)) (s : Shared) (σ : St) (H : Hp) (x : V) (xs : List V) (v : Value) (us : List Value) (Q : VK), Inv X pins σ H s → RelV x v → Vals xs us → r x xs H Q →
    wpAny (model X.prog X.w) X.A (call (.builtin id) (v :: us)) (EP X pins σ Q) X.xe s

/-! ### lists of values -/
theorem Vals.one : ∀ {x : V} {us : List Value}, Vals [x] us → ∃ u, us = [u] ∧ RelV x u
  | _, _, .cons r .nil => ⟨_, rfl, r⟩
theorem Vals.two : ∀ {x y : V} {us : List Value}, Vals [x, y] us → ∃ u v, us = [u, v] ∧ RelV x u ∧ RelV y v
  | _, _, _, .cons r (.cons q .nil) => ⟨_, _, rfl, r, q⟩
theorem Vals.rep {xs : List V} {us : List Value} (h : Vals xs us) : ∀ k : Nat, Vals (List.replicate k xs).flatten (List.replicate k us).flatten
  | 0 => .nil
  | k + 1 => by
    rw [List.replicate_succ, List.replicate_succ, List.flatten_cons, List.flatten_cons]
    exact Vals.append h (Vals.rep h k)
theorem foldl_rep (its : List Value) : ∀ (k : Nat) (acc : List Value),
    List.foldl (fun x1 x2 => x1 ++ x2) acc.toArray (List.replicate k its.toArray) = (acc ++ (List.replicate k its).flatten).toArray
  | 0, acc => by simp
  | k + 1, acc => by
    have e : acc.toArray ++ its.toArray = (acc ++ its).toArray := by simp
    have e2 : (acc ++ its) ++ (List.replicate k its).flatten = acc ++ (List.replicate (k + 1) its).flatten := by
      rw [List.replicate_succ, List.flatten_cons, List.append_assoc]
    rw [← e2, ← foldl_rep its k (acc ++ its), ← e, List.replicate_succ, List.foldl_cons]

section
variable {X : Cx} {pins : List (Addr × Obj)} {σ : St} {H : Hp} {s : Shared} {l b : Addr} {xs ys zs : List V}

/-! ### the two steps: a tracked list is rewritten, a new list is laid -/
theorem Inv.lset {its its' : List Value} {n : Nat} {f : Array Value → Array Value} {t' : Nat} (I : Inv X pins σ H s) (hH : H l = some (.lst xs))
    (e : s.heap.get? l = some { cls := .type "list", data := .seq its.toArray n }) (hf : f its.toArray = its'.toArray) (hv : Vals ys its') (hz : ys.length ≤ sizeLine) :
    Inv X pins σ (upd H l (.lst ys)) { s with heap := s.heap.update l (Obj.mapSeq f), toks := t' } := by
  have q := PySem.IsL.update e f
  rw [hf] at q
  refine I.write (x := l) (e := l) (by rw [hH]; exact trivial) (.inl rfl) (fun b' u hb hu => (Heap.get?_update_other s.heap (Obj.mapSeq f) (Ne.symm hb)).trans hu) ⟨_, q⟩ ?_
  exact ⟨hz, its', _, hv, q⟩
theorem Inv.lnew {its : List Value} {t' : Nat} (I : Inv X pins σ H s) (hv : Vals ys its) (hz : ys.length ≤ sizeLine) :
    Inv X pins σ (upd H s.heap.objs.size (.lst ys)) { s with heap := s.heap.push { cls := .type "list", data := .seq its.toArray }, toks := t' } :=
  I.laid (fun _ _ q => Heap.get?_push_of_some _ q) (Nat.le_refl _) ⟨hz, its, 0, hv, Heap.get?_push_size _ rfl⟩
theorem Inv.fresh (I : Inv X pins σ H s) : H s.heap.objs.size = none := I.hok.fresh (Nat.le_refl _)
theorem Inv.lstM (I : Inv X pins σ H s) (hH : H l = some (.lst xs)) : xs.length ≤ sizeLine ∧ ∃ (its : List Value) (n : Nat), Vals xs its ∧ xs.length = its.length ∧ s.heap.get? l = some { cls := .type "list", data := .seq its.toArray n } := by
  obtain ⟨z, its, n, r, e⟩ := I.hok l _ hH
  exact ⟨z, its, n, r, r.length, e⟩

theorem notLongL {n : Nat} (h : n ≤ sizeLine) : Builtin.List.listTooLong n = false := by
  unfold Builtin.List.listTooLong
  exact decide_eq_false (by omega)
end

section
variable {X : Cx}

/-! ### methods -/
def rAppend : V → List V → Hp → VK → Prop := fun x vs H Q => ∃ l xs y, x = .ref l ∧ vs = [y] ∧ H l = some (.lst xs) ∧ xs.length < sizeLine ∧ Q .non (upd H l (.lst (xs ++ [y])))
theorem mt_append : MtM X "list.append" rAppend := by
  intro pins s σ H x vs v us Q I rx rv h
  obtain ⟨l, xs, y, rfl, rfl, hH, hz, q⟩ := h
  cases rx
  obtain ⟨u, rfl, ru⟩ := rv.one
  obtain ⟨z, its, n, r, hl, e⟩ := I.lstM hH
  refine call_meets F.slot_list_append ⟨_, e, rfl⟩ F.entry_list_append (F.args_list_append_2 _ _) (PySem.list_append l its.toArray n u (by rw [List.size_toArray]; omega)) ⟨e, ?_⟩
  refine ⟨.non, _, I.lset (its' := its ++ [u]) hH e (by simp) (r.append (.cons ru .nil)) ?_, rfl, q⟩
  rw [List.length_append, List.length_singleton]
  omega

/-! ### list + list, list += list, list * int -/
def rCat : R2 := fun x y H Q => ∃ l b xs zs, x = .ref l ∧ y = .ref b ∧ H l = some (.lst xs) ∧ H b = some (.lst zs) ∧ xs.length + zs.length ≤ sizeLine ∧ ∀ p, H p = none → Q (.ref p) (upd H p (.lst (xs ++ zs)))
/-- a list times an int (a negative one is nothing) -/
def rRep : R2 := fun x y H Q => ∃ l k xs, x = .ref l ∧ y = .int k ∧ H l = some (.lst xs) ∧ -(2 ^ 63) ≤ k ∧ k < 2 ^ 63 ∧ xs.length * k.toNat ≤ sizeLine ∧
  ∀ p, H p = none → Q (.ref p) (upd H p (.lst (List.replicate k.toNat xs).flatten))
theorem len_rep {α : Type} (xs : List α) (k : Nat) : (List.replicate k xs).flatten.length = k * xs.length := by
  induction k with
  | zero => simp
  | succ k ih => rw [List.replicate_succ, List.flatten_cons, List.length_append, ih, Nat.succ_mul, Nat.add_comm]
theorem op_rep : OpR X (binaryOp .Mult) rRep := by
  intro pins s σ H x y v u Q I rx ry h
  obtain ⟨l, k, xs, rfl, rfl, hH, h1, h2, hz, q⟩ := h
  cases rx
  obtain ⟨t, rfl⟩ := ry
  obtain ⟨z, its, n, r, hl, e⟩ := I.lstM hH
  have hlen : its.toArray.size * k.toNat ≤ sizeLine := by rw [List.size_toArray, ← hl]; exact hz
  have hcap : ¬ its.toArray.size * k.toNat > (2 ^ 63 - 1) / 8 := by
    have : (sizeLine : Nat) ≤ (2 ^ 63 - 1) / 8 := by decide
    omega
  have hfit : ¬ (!Builtin.List.listFitsIndex k) = true := by
    rw [fitsIndex_both h1 h2]
    exact Bool.false_ne_true
  have hlong : ¬ Builtin.List.listTooLong (its.toArray.size * k.toNat) = true := by
    rw [notLongL hlen]
    exact Bool.false_ne_true
  have hnew : List.foldl (fun x1 x2 => x1 ++ x2) #[] (List.replicate (if its.toArray.isEmpty = true then 0 else k.toNat) its.toArray) = (List.replicate k.toNat its).flatten.toArray := by
    have f0 : ∀ m : Nat, List.foldl (fun x1 x2 => x1 ++ x2) #[] (List.replicate m its.toArray) = (List.replicate m its).flatten.toArray := fun m => by
      have := foldl_rep its m []
      rw [List.nil_append] at this
      exact this
    rw [f0]
    cases its with
    | nil => simp
    | cons a r' => rw [if_neg (by simp)]
  refine wpAny_binaryOp_repeat_ref (T := "list") (U := "int") (by decide) ⟨_, e, rfl⟩ (fun s' => typeIs_int s' k t) noFill_list_mul F.fills_int_mul F.slot_int_rmul repeat_list F.slot_int_index.lookup
    (call_meets F.slot_int_rmul (typeIs_int s k t) F.entry_int_rmul (F.args_int_rmul_2 _ _) (int___rmul___int_list k t l its.toArray n)
      ⟨e, rfl, ⟨_, e, rfl⟩, call_meets F.slot_list_mul ⟨_, e, rfl⟩ F.entry_list_mul (F.args_list_mul_2 _ _) (AutoListH.list___mul___list_int_3 l its.toArray n k t hfit hcap hlong) ⟨e, ?_⟩⟩)
  rw [hnew]
  exact ⟨.ref _, _, I.lnew (t' := s.toks) (r.rep k.toNat) (by rw [len_rep, Nat.mul_comm]; exact hz), rfl, q _ I.fresh⟩

/-! ### del xs[i] -/
end

/-! ### xs[a:b] = ys -/
section
variable {prog : Program} {w : World} {A : Around} {E : Value → Shared → Prop} {s : Shared}
end

section
variable {X : Cx}
end
end L2

namespace Att
open PySem PySem.W PySem.Calls PyProof.Rows

/-! ### the script -/
theorem ints_of_wellAll {P : Params} {h : Heap} : ∀ (ns : List Int) (vs : List Value), WellAll P h vs (ns.map WData.int) → IntsAre vs ns := by
  intro ns
  induction ns with
  | nil =>
    intro vs w
    rw [List.map_nil] at w
    cases w
    exact .nil
  | cons n ns ih =>
    intro vs w
    rw [List.map_cons] at w
    cases w with
    | cons a b =>
      cases a
      exact .cons _ _ (ih _ b)

theorem script_of {l : OpenLaw} {n : Nat} (hn : l.most = some n) {P : Params} {h : Heap} {args : List WData} {vals : List Value}
    (hpre : l.row.toRowW.claim.pre args = true) (hwl : WellAll P h vals args) :
    ∃ a vs ns, vals = [Value.ref a] ∧ args = [WData.list (ns.map WData.int)] ∧ h.get? a = some { cls := .type "list", data := .seq vs.toArray } ∧ IntsAre vs ns ∧ ns.length ≤ n := by
  have hsh : WShape.hasAll [] args [.list .int] = true := (pre_splitW hpre).1
  have hc : l.pre.holds [] { args := args } = true := (pre_splitW hpre).2
  obtain ⟨d, r, rfl, h1, h2⟩ := hasAllW_cons hsh
  obtain rfl := hasAllW_nil h2
  obtain ⟨xs, rfl, h3⟩ := hasW_list h1
  obtain ⟨ns, rfl⟩ := items_int h3
  have hlen : ns.length ≤ n := by
    unfold OpenLaw.pre at hc
    have h4 : (WTm.not (.lt (.lit (.int (n : Int))) (.len (.arg 0)))).holds [] { args := [.list (ns.map .int)] } = true := by
      have h4 := (holds_andW hc).1
      rw [hn] at h4
      exact h4
    have h5 := condW_of h4 (w_not (w_lt w_lit (w_len_list (w_arg rfl))))
    rw [List.length_map] at h5
    refine Nat.le_of_not_lt fun q => ?_
    have q' : (n : Int) < ((ns.length : Nat) : Int) := by omega
    first
      | (rw [decide_eq_true q'] at h5; exact absurd h5 (by decide))
      | (simp at h5; omega)
  cases hwl with
  | cons w1 w2 =>
    cases w2
    cases w1 with
    | list ho hall => exact ⟨_, _, ns, rfl, rfl, ho, ints_of_wellAll ns _ hall, hlen⟩

theorem post_true (l : OpenLaw) (args : List WData) : l.row.toRowW.claim.post args (.bool true) args = true :=
  postW_of (r := l.row.toRowW) (X := (true == true))
    (show WShape.has [] (.bool true) .bool = true by first | rfl | decide | simp [WShape.has, WShape.arms, WShape.armsAll])
    (show (WTm.eq .res (.lit (.bool true))).value [] { args := args, res := some (.bool true), after := args } = some (.bool (true == true)) from w_eq_bool (w_res rfl) w_lit) rfl

/-! ### the attachment: holds_open's last premise (the goal 'hc' behind k_head) from a wpAny of the law's body -/
/-! ### rules over ANY heap (no ledger) from facts about the written part K: the library's own take a ledger (News) for what they write -/
section
variable {prog : Program} {w : World} {A : Around} {E : Value → Shared → Prop} {s : Shared} {K : Frag}

/-! the whole heap as the ledger: makes every rule that writes through a ledger a rule over any heap -/
def ledger (h : Heap) (L d : Addr) : List (Addr × Obj) := (List.range h.objs.size).filterMap fun a => if a = L ∨ a = d then none else (h.get? a).map fun o => (a, o)
end
end Att

namespace L2
open PySem PySem.Spec PyProof.Rows

theorem vals_ints : ∀ {vs : List Value} {ns : List Int}, IntsAre vs ns → Vals (ns.map V.int) vs
  | _, _, .nil => .nil
  | _, _, .cons n t h => .cons ⟨t, rfl⟩ (vals_ints h)

/-- nothing is tracked but the script, known to the object (or it is an object of the module) -/
def Only (H : Hp) : Prop := ∀ b, H b = none ∨ ∃ o xs, H b = some (.frz o (.lst xs))

/-- THE HEAD: the law's promise, at the heap behind the top. F, the promise of the law's def, may use that base is part of the heap (so K.In base, base.Ns mainGlobals mg stand in Mod) -/
theorem law_call {P : Program} {w : World} {K : PySem.W.Frag} {mg mb : Str → Option Value} {CX : CXT} {k : Nat} {fa a : Addr} {fd : FuncData} {x : Str} {sp : Sp} {s₁ : Shared} {vs : List Value} {ns : List Int}
    (KX : K.In s₁.heap) (hns : s₁.heap.Ns mainGlobals mg) (hb : s₁.heap.Ns builtinsNs mb) (hbb : ∀ x : Str, x ≠ "__name__" → mb x = bootBuiltins x) (hlim : s₁.heap.NoLimit) (hg : s₁.gens = #[])
    (ha : s₁.heap.get? a = some { cls := .type "list", data := .seq vs.toArray }) (hi : IntsAre vs ns) (hl : ns.length ≤ sizeLine) (hr : Room k callerA)
    (F : ∀ base : Heap, K.In base → base.Ns mainGlobals mg → FnOk P w K mg base CX k fa fd [x] sp) (hbind : ∀ (s : Shared) (u : Value), BindsTo s fd ⟨[u], []⟩ [(x, u)])
    (hsp : ∀ H : Hp, Only H → SqL K H a (ns.map V.int) → sp [.ref a] H (fun v _ => v = .bl true) fun _ _ _ => False)
    (hCX : ∀ H e s', CX [] H s₁ (fun _ _ _ => False) e s' → False) :
    codeAny (model P w) callerA (.call (.ref fa) ⟨[.ref a], []⟩) (fun r s' => r = .ok (.ret (.bool true)) ∧ OldK s₁.heap s'.heap ∧ s'.os = s₁.os ∧ AllBare s'.gens) s₁ := by
  have rv := vals_ints hi
  have lenV := hi.length
  -- from an abstract heap in which nothing but the script may be tracked
  have core : ∀ H : Hp, Only H → SqL K H a (ns.map V.int) → HOk P w H s₁.heap → (∀ b, H b ≠ none → b = a) → (H a ≠ none → K.lookup a = none) →
      codeAny (model P w) callerA (.call (.ref fa) ⟨[.ref a], []⟩) (fun r s' => r = .ok (.ret (.bool true)) ∧ OldK s₁.heap s'.heap ∧ s'.os = s₁.os ∧ AllBare s'.gens) s₁ := by
    intro H hO hS hok hA hK
    have base_of : ∀ {b : Addr} {o : Obj}, s₁.heap.get? b = some o → H b = none → (hidT s₁.heap H).get? b = some o := fun e n => hidT_get e n
    have noA : ∀ {b : Addr} {o : Obj} {es : Array DictEntry} {ep : Nat}, s₁.heap.get? b = some o → o.data = .dict es ep → H b = none := fun {b o es ep} e d => by
      cases q : H b with
      | none => rfl
      | some u =>
        have e' : b = a := hA b (by rw [q]; simp)
        subst e'
        rw [ha] at e; cases e
        have d' : Data.seq vs.toArray _ = Data.dict es ep := d
        cases d'
    have nsK : ∀ {b : Addr} {m : Str → Option Value}, s₁.heap.Ns b m → (hidT s₁.heap H).Ns b m := fun {b m} ⟨o, es, ep, e, d, r⟩ => ⟨o, es, ep, base_of e (noA e d), d, r⟩
    have hKb : K.In (hidT s₁.heap H) := fun b o e => base_of (KX b o e) (by
      cases q : H b with
      | none => rfl
      | some u =>
        have e' : b = a := hA b (by rw [q]; simp)
        subst e'
        rw [hK (by rw [q]; simp)] at e; cases e)
    have hM : Mod K mg (hidT s₁.heap H) := ⟨hKb, nsK hns, ⟨mb, nsK hb, hbb⟩, let ⟨mc, h1, h2⟩ := hlim; ⟨mc, nsK h1, h2⟩⟩
    have e0 : Env0 P w K mg (hidT s₁.heap H) callerA [] s₁ H := ⟨rfl, hM, fun b o e => of_hidT e, Nat.le_of_eq (hidT_size _ _), trivial, fun b hb => absurd (show b ∈ ([] : List Addr) from hb) (by simp), hok, .of_eq hg⟩
    refine codeAny_mono ((F _ hKb (nsK hns)).run callerA [] s₁ H ⟨[.ref a], []⟩ [.ref a] [.ref a] _ _ hr e0 (hbind s₁ (.ref a)) (.cons rfl .nil) (hsp H hO hS)) fun r s' h => ?_
    cases r with
    | error e => exact (hCX H e s' h).elim
    | ok fl =>
      cases fl with
      | next => exact False.elim h
      | brk => exact False.elim h
      | cont => exact False.elim h
      | ret u =>
        obtain ⟨v, H', os, bare, un, hok', r', q⟩ := h
        have q' : v = .bl true := q
        subst q'
        obtain rfl : u = Value.bool true := r'
        refine ⟨rfl, OldK.of_keep fun b o e => ?_, os, bare⟩
        cases q : H b with
        | none => exact un.keep b o e q (by intro z; exact absurd (show b ∈ ([] : List Addr) from z) (by simp)) (by simp)
        | some u =>
          rcases hO b with z | ⟨ob, xs, z⟩
          · rw [q] at z; cases z
          · have z2 := un.frzs b ob _ z
            obtain ⟨e1, _⟩ := hok b _ z
            obtain ⟨e2, _⟩ := hok' b _ z2
            rw [e] at e1; cases e1
            exact e2
  cases hk : K.lookup a with
  | some o =>
    -- the script is one of the module's own objects
    have e := KX a o hk
    rw [ha] at e
    cases e
    refine core (fun _ => none) (fun _ => .inl rfl) (.inr ⟨_, vs.toArray, _, hk, rfl, rfl, rfl, by rw [List.size_toArray, lenV]; exact hl, by simpa using rv⟩) (fun b u z => by have z' : (none : Option HO) = some u := z; cases z') (fun b z => absurd rfl z) fun z => absurd rfl z
  | none =>
    refine core (fun b => if b = a then some (.frz { cls := .type "list", data := .seq vs.toArray } (.lst (ns.map V.int))) else none) (fun b => ?_) (.inl (.inr ⟨{ cls := .type "list", data := .seq vs.toArray }, if_pos rfl⟩)) (fun b u z => ?_) (fun b z => ?_) fun _ => hk
    · by_cases hb : b = a
      · exact .inr ⟨_, _, if_pos hb⟩
      · exact .inl (if_neg hb)
    · by_cases hb : b = a
      · have z' := (if_pos hb).symm.trans z
        cases z'
        subst hb
        exact ⟨ha, by rw [List.length_map]; exact hl, vs, _, rv, ha⟩
      · have z' := (if_neg hb).symm.trans z
        cases z'
    · by_cases hb : b = a
      · exact hb
      · exact absurd (if_neg hb) z
end L2

namespace L2
open PySem PySem.Spec PyProof.Rows

abbrev KOf {K : PySem.W.Frag} {h : Heap} (_ : K.In h) : PySem.W.Frag := K

end L2

/- THE LAST THEOREM (shape; LID, My.* are yours):
   My.Adr: a structure of the addresses that your layer names (classes, functions); My.Txt K t: a structure (Prop) of the equations over K;
   My.txt_mk : {K} {implicit addresses ..} (e1 : nsIn K mainGlobals "law" = some (some (.ref f))) (e2 : K.lookup f = some ⟨oc, od, .func (fnOf "law" "law" params body scope dV kV doc pm an cdv ct), sl⟩) (e3 : codeIn K cdv "law" = true) .. : ∃ t, My.Txt K t

set_option maxRecDepth 100000 in
set_option maxHeartbeats 0 in
theorem PySem.Challenge.cw_LID_holds : PySem.Challenge.rw_LID.Holds := by
  w_on; o_law; k_head; (case hw => w_witness2)
  k_fill
  refine L2.walk_of (l := PySem.Challenge.rw_LID) (n := 63) (k := 40) (x := "script") (CX := fun w => ..) (sp := fun _ => My.sp_law) rfl (by decide) rfl ⟨rfl, by decide, by decide⟩ (fun w h Y => PySem.W.kIn_of Y) ?F ?S ?C
  case F =>
    intro w mg fa h KX G hmg
    have T : ∃ t, My.Txt (L2.KOf KX) t := by
      dsimp only [L2.KOf]                          -- K must stand as «<heap const> w.params» for k_is
      refine' My.txt_mk ?e1 ?e2 ?e3 ..
      (case e1 => PySem.W.k_is)                    -- in the order: a name -> its address -> its object -> its parts
      (case e2 => PySem.W.k_is)
      ..
    obtain ⟨t, T⟩ := T
    have e0 := hmg.symm.trans (PySem.W.mg_of KX G T.law)
    cases e0                                       -- fa is the law's own address
    exact ⟨_, fun s u => .of_eq rfl, fun base kb nb => My.law_fn T kb nb⟩     -- if «.of_eq rfl» comes too early: refine' ⟨_, ?b, fun base kb nb => My.law_fn T kb nb⟩; exact fun s u => .of_eq rfl
  case S => exact fun w H a ns hl hO hS => ..
  case C => exact ..
(the tactic k_is has no namespace: write k_is) -/

/-! SHORT WORDS over the layer: a def of the text, its body, what a loop and a test want. -/
namespace L2
open PySem PySem.Spec PyProof.Rows

/-! ### the text by places -/
/-- the j-th statement of a class's body -/
def inClass (s : Stmt) (j : Nat) : Stmt := match s with
  | .ClassDef _ _ _ body _ _ _ _ _ _ _ => body.getD j (.Pass ⟨0, 0, 0, 0⟩)
  | _ => .Pass ⟨0, 0, 0, 0⟩
def defArgs (s : Stmt) : Arguments := match s with
  | .FunctionDef _ a _ _ _ _ _ _ _ _ => a
  | _ => { posonlyargs := [], args := [], vararg := none, kwonlyargs := [], kw_defaults := [], kwarg := none, defaults := [] }
def defBody (s : Stmt) : List Stmt := match s with
  | .FunctionDef _ _ b _ _ _ _ _ _ _ => b
  | _ => []
def defScope (s : Stmt) : Scope := match s with
  | .FunctionDef _ _ _ _ _ _ sc _ _ _ => sc
  | _ => { kind := .function, names := [], isGenerator := false, isCoroutine := false }

/-! ### no exception leaves a def -/
abbrev E0 : XK := fun _ _ _ => False
/-! ### a def (or method) of the text as it stands behind the top -/
structure Fun (K : PySem.W.Frag) (x qual : Str) (st : Stmt) (f : Addr) (fd : FuncData) : Prop where
  ex : ∃ (oc : Value) (od : Option Addr) (kV doc pm : Value) (an : Option Addr) (cdv ct : Value) (osl : Array (Option Value)),
    fd = PySem.W.fnOf x qual (defArgs st) (defBody st) (defScope st) .none kV doc pm an cdv ct ∧ K.lookup f = some ⟨oc, od, .func fd, osl⟩ ∧ PySem.W.codeIn K cdv qual = true
  kp : PySem.W.keepIn K (.ref f) = true
section
variable {P : Program} {w : World} {K : PySem.W.Frag} {mg : Str → Option Value} {base : Heap}
/-- how its arguments bind (no defaults): h is «fun _ _ _ _ _ _ us hl => match us, hl with | [_, _], _ => rfl», one _ a parameter -/
theorem Fun.binds {x qual : Str} {st : Stmt} {f : Addr} {fd : FuncData} {ps : List Str} (F : Fun K x qual st f fd)
    (h : ∀ (kV doc pm : Value) (an : Option Addr) (cdv ct : Value) (us : List Value), us.length = ps.length → bindArgs (PySem.W.fnOf x qual (defArgs st) (defBody st) (defScope st) .none kV doc pm an cdv ct) ⟨us, []⟩ = pure (ps.zip us)) : Binds K fd ps [] := by
  obtain ⟨oc, od, kV, doc, pm, an, cdv, ct, osl, rfl, lk, hcd⟩ := F.ex
  exact .all (h kV doc pm an cdv ct)
theorem fun_mk {x qual : Str} {st : Stmt} {f : Addr} {oc : Value} {od an : Option Addr} {osl : Array (Option Value)} {kV doc pm cdv ct : Value} (l : K.lookup f = some ⟨oc, od, .func (PySem.W.fnOf x qual (defArgs st) (defBody st) (defScope st) .none kV doc pm an cdv ct), osl⟩)
    (c : PySem.W.codeIn K cdv qual = true) (k : PySem.W.keepIn K (.ref f) = true) : Fun K x qual st f (PySem.W.fnOf x qual (defArgs st) (defBody st) (defScope st) .none kV doc pm an cdv ct) := ⟨⟨oc, od, kV, doc, pm, an, cdv, ct, osl, rfl, l, c⟩, k⟩
end
/-! ### expressions in short: the name that stands in the i-th slot -/
section
variable {X : Cx}
theorem pv (i : Nat) {x : Str} {pos : Pos} (hN : X.N[i]? = some x := by rfl) (hv : Vis X.env.scope x := by first | exact Or.inl rfl | exact Or.inr (Or.inl rfl) | exact Or.inr (Or.inr rfl)) (hd : (x == ("__debug__" : Str)) = false := by decide)
    (hcd : (x == ("__classdict__" : Str)) = false := by decide) : PE X (.Name x pos) (tVar i) := pe_var hN hv hd hcd
/-- len of a dict -/
theorem call_lenD : CallR X (.builtin "len") (fun xs H Q => ∃ a kvs, xs = [V.ref a] ∧ H a = some (.dK kvs) ∧ Q (.int kvs.length) H) := by
  intro pins s σ H xs us Q I r h
  obtain ⟨a, kvs, rfl, ha, q⟩ := h
  obtain ⟨u, rfl, ru⟩ := vals1 r
  cases ru
  exact d_len I (.inl ha) fun t s' I' => ⟨.int kvs.length, H, I', ⟨t, rfl⟩, q⟩
end

/-! ### tests -/
theorem iteF {A B : Prop} (h : B) : if false = true then A else B := by
  rw [if_neg Bool.false_ne_true]
  exact h
theorem iteT {A B : Prop} (h : A) : if true = true then A else B := by
  rw [if_pos rfl]
  exact h
theorem ite2 {c A B : Prop} [Decidable c] (h1 : c → A) (h2 : ¬ c → B) : if c then A else B := by
  by_cases h : c
  · rw [if_pos h]
    exact h1 h
  · rw [if_neg h]
    exact h2 h
/-! ### heaps -/
/-- all that was tracked is as it was -/
def Same (H H' : Hp) : Prop := ∀ b o, H b = some o → H' b = some o
theorem Same.trans {H H1 H2 : Hp} (a : Same H H1) (b : Same H1 H2) : Same H H2 := fun c o h => b c o (a c o h)
theorem Same.free {H H' : Hp} (e : Same H H') {l : Addr} (h : H' l = Option.none) : H l = Option.none := by
  cases q : H l with
  | none => rfl
  | some o =>
    rw [e l o q] at h
    cases h
theorem Same.seq {K : PySem.W.Frag} {H H' : Hp} {a : Addr} {xs : List V} (e : Same H H') (h : SqL K H a xs) : SqL K H' a xs := by
  rcases h with (h | ⟨o, h⟩) | h
  · exact .inl (.inl (e _ _ h))
  · exact .inl (.inr ⟨o, e _ _ h⟩)
  · exact .inr h

/-! ### a dict's pairs: keys that differ -/
section
variable {κ : Type} [DecidableEq κ]
theorem valV_not {kvs : List (κ × V)} {k : κ} (h : valV kvs k = none) : ¬ k ∈ kvs.map (·.1) := by
  intro m
  obtain ⟨p, hp, e⟩ := List.mem_map.mp m
  have q : (kvs.any fun kv => decide (kv.1 = k)) = true := List.any_eq_true.mpr ⟨p, hp, decide_eq_true e⟩
  rw [valV_any, h] at q
  exact absurd q (by simp)
theorem valV_in {kvs : List (κ × V)} {k : κ} {v : V} (h : valV kvs k = some v) : k ∈ kvs.map (·.1) := by
  have q : (kvs.any fun kv => decide (kv.1 = k)) = true := by
    rw [valV_any, h]
    all_goals rfl
  obtain ⟨p, hp, e⟩ := List.any_eq_true.mp q
  exact List.mem_map.mpr ⟨p, hp, of_decide_eq_true e⟩
theorem dropK_pos {p : κ × V} {r : List (κ × V)} {k : κ} (e : p.1 = k) : dropK (p :: r) k = dropK r k := by
  unfold dropK
  rw [List.filter_cons, if_neg (by simp [e])]
theorem dropK_neg {p : κ × V} {r : List (κ × V)} {k : κ} (e : ¬ p.1 = k) : dropK (p :: r) k = p :: dropK r k := by
  unfold dropK
  rw [List.filter_cons, if_pos (by simp [e])]
theorem dropK_mem {kvs : List (κ × V)} {k : κ} {p : κ × V} (h : p ∈ dropK kvs k) : p ∈ kvs := (List.mem_filter.mp h).1
theorem nd_dropK : ∀ {kvs : List (κ × V)} {k : κ}, (kvs.map (·.1)).Nodup → ((dropK kvs k).map (·.1)).Nodup
  | [], _, _ => List.nodup_nil
  | p :: r, k, h => by
    have h : (p.1 :: r.map (·.1)).Nodup := h
    obtain ⟨h1, h2⟩ := List.nodup_cons.mp h
    by_cases e : p.1 = k
    · rw [dropK_pos e]
      exact nd_dropK h2
    · rw [dropK_neg e]
      show (p.1 :: (dropK r k).map (·.1)).Nodup
      refine List.nodup_cons.mpr ⟨fun m => h1 ?_, nd_dropK h2⟩
      obtain ⟨q, hq, eq⟩ := List.mem_map.mp m
      exact List.mem_map.mpr ⟨q, dropK_mem hq, eq⟩
end
end L2
set_option Elab.async false
set_option linter.all false
set_option maxRecDepth 100000
namespace L2
open PySem PySem.Spec PyProof.Rows

/-! ### refusals: how an exception lies behind a call -/
/-- the exception at ea, of the class cls, is on its way through the frames l; B: what stays through it all -/
structure FlyAt (P : Program) (w : World) (l : List Env) (H : Hp) (h0 : Heap) (H' : Hp) (h : Heap) (ea : Addr) (cls : Value) : Prop where
  un : Un (frs l) [] H H' h0 h
  hok : HOk P w H' h
  new : h0.get? ea = none
  fly : ∃ B a0, Heap.FlyingW B l ea cls a0 h ∧ (∀ b u o, H' b = some u → h.get? b = some o → B.get? b = some o) ∧ ∀ b o o', h0.get? b = some o → h.get? b = some o' → b ∉ frs l → B.get? b = some o'
def CXR (P : Program) (w : World) : CXT := fun outer H s E e s' => ∃ (H' : Hp) (ea : Addr) (cls : Value), e = .ref ea ∧ s'.os = s.os ∧ AllBare s'.gens ∧ FlyAt P w outer H s.heap H' s'.heap ea cls ∧ E cls none H'
theorem passR0 {P : Program} {w : World} {X : Cx} : Passes (CXR P w) X E0 := fun _ _ _ _ _ _ _ ⟨_, _, _, _, _, _, _, h⟩ => h.elim

/-! ### a def of the module, found by its name -/
/-- the def st stands under the name x -/
def Def (K : PySem.W.Frag) (mg : Str → Option Value) (x : Str) (st : Stmt) : Prop := ∃ f fd, mg x = some (.ref f) ∧ Fun K x x st f fd
/-- .. and keeps the promise sp -/
structure FnD (P : Program) (w : World) (K : PySem.W.Frag) (mg : Str → Option Value) (base : Heap) (k : Nat) (x : Str) (ps : List Str) (sp : Sp) : Prop where
  ex : ∃ f fd, mg x = some (.ref f) ∧ PySem.W.keepIn K (.ref f) = true ∧ Binds K fd ps [] ∧ FnOk P w K mg base (CXR P w) k f fd ps sp
theorem FnD.mono {P : Program} {w : World} {K : PySem.W.Frag} {mg : Str → Option Value} {base : Heap} {j k : Nat} {x : Str} {ps : List Str} {sp : Sp} (F : FnD P w K mg base j x ps sp) (h : j ≤ k) : FnD P w K mg base k x ps sp := by
  obtain ⟨f, fd, h1, h2, h3, h4⟩ := F.ex
  exact ⟨f, fd, h1, h2, h3, h4.mono h⟩
section
variable {P : Program} {w : World} {K : PySem.W.Frag} {mg : Str → Option Value} {base : Heap}
theorem Fun.okN {x qual : Str} {st : Stmt} {f : Addr} {fd : FuncData} {N ps : List Str} {k : Nat} {sp : Sp} (F : Fun K x qual st f fd) (S : FnScope N ps (defScope st)) (len : ∀ vs H Q E, sp vs H Q E → vs.length = ps.length)
    (hbody : ∀ (cdv : Value) (A : Around) (outer : List Env) (s : Shared) (H : Hp) (vs : List V) (Q : VK) (E : XK), Room k (A.deeper (envOfC qual (defScope st) s.heap.objs.size f cdv)) → sp vs H Q E →
      ∃ t, PSs (cxOf (CXR P w) P w K mg base N qual (defScope st) f cdv A outer s H E).nox (defBody st) t ∧ t { nx := fun _ H' => Q .non H', rt := Q } (start N vs) H) : FnOk P w K mg base (CXR P w) (k + 1) f fd ps sp := by
  obtain ⟨oc, od, kV, doc, pm, an, cdv, ct, osl, rfl, lk, hcd⟩ := F.ex
  refine fn_of lk hcd S len fun A outer s H vs Q E hr hsp => ?_
  obtain ⟨t, h, q⟩ := hbody cdv A outer s H vs Q E hr hsp
  exact ⟨t, h.nox, q⟩
/-- a def that refuses nothing -/
theorem Def.ok {x : Str} {st : Stmt} {N ps : List Str} {k : Nat} {sp : Sp} (D : Def K mg x st) (S : FnScope N ps (defScope st)) (len : ∀ vs H Q E, sp vs H Q E → vs.length = ps.length)
    (hb : ∀ (kV doc pm : Value) (an : Option Addr) (cdv ct : Value) (us : List Value), us.length = ps.length → bindArgs (PySem.W.fnOf x x (defArgs st) (defBody st) (defScope st) .none kV doc pm an cdv ct) ⟨us, []⟩ = pure (ps.zip us))
    (hbody : ∀ (f : Addr) (cdv : Value) (A : Around) (outer : List Env) (s : Shared) (H : Hp) (vs : List V) (Q : VK) (E : XK), Room k (A.deeper (envOfC x (defScope st) s.heap.objs.size f cdv)) → sp vs H Q E →
      ∃ t, PSs (cxOf (CXR P w) P w K mg base N x (defScope st) f cdv A outer s H E).nox (defBody st) t ∧ t { nx := fun _ H' => Q .non H', rt := Q } (start N vs) H) : FnD P w K mg base (k + 1) x ps sp := by
  obtain ⟨f, fd, hm, F⟩ := D
  refine ⟨f, fd, hm, F.kp, F.binds hb, ?_⟩
  obtain ⟨oc, od, kV, doc, pm, an, cdv, ct, osl, rfl, lk, hcd⟩ := F.ex
  refine fn_of lk hcd S len fun A outer s H vs Q E hr hsp => ?_
  obtain ⟨t, h, q⟩ := hbody f cdv A outer s H vs Q E hr hsp
  exact ⟨t, h.nox, q⟩
end
section
variable {X : Cx} {k : Nat} {ps : List Str} {sp : Sp} {E : XK} {x : Str} {p pos : Pos} {e : Expr} {es : List Expr} {t : TA}
/-- f(e, ..): a def of the module -/
theorem pe_callD (F : FnD X.prog X.w X.K X.mg X.base k x ps sp) (hr : Room k X.A) (hg : Gl X x) (hx : Passes (CXR X.prog X.w) X E) (ha : PA X (e :: es) t)
    (hdb : (x == ("__debug__" : Str)) = false := by decide) (he : starEach (e :: es) X.env = (false, eval e X.env) :: starEach es X.env := by rfl) (hpl : (backTo pos (starEach es X.env)).any (·.1) = false := by rfl) :
    PE X (.Call (.Name x p) (e :: es) [] pos) (tCall sp [] E t) := by
  obtain ⟨f, fd, h1, h2, h3, h4⟩ := F.ex
  exact pe_call h4 hr hg h1 h2 h3 .nil hx ha hdb he hpl
end
section
variable {X : Cx}
/-- isinstance(x, c), c a class (built in, or a class of the module) -/
def rIsi (K : PySem.W.Frag) : List V → Hp → VK → Prop := fun xs H Q => ∃ x c t b, xs = [x, c] ∧ TyOf K H x t ∧ ((∃ n, c = .ty n ∧ PySem.W.kitOne K t (.type n) = some b) ∨ ∃ a, c = .ref a ∧ PySem.W.kitOne K t (.ref a) = some b) ∧ Q (.bl b) H
theorem call_isi : CallR X (.builtin "isinstance") (rIsi X.K) := by
  intro pins s σ H xs us Q I r h
  obtain ⟨x, c, t, b, rfl, ty, hc, q⟩ := h
  obtain ⟨u, v, rfl, ru, rv⟩ := Vals.two r
  rcases hc with ⟨n, rfl, e⟩ | ⟨a, rfl, e⟩
  · cases (show v = Value.type n from rv)
    exact isinst_ok I ru ty e fun tk => ⟨.bl b, H, I.tok tk, rfl, q⟩
  · cases (show v = Value.ref a from rv)
    exact isinst_ok I ru ty e fun tk => ⟨.bl b, H, I.tok tk, rfl, q⟩
end
theorem bt_isinstance : bootBuiltins "isinstance" = some (.builtin "isinstance") := by decide +kernel
theorem bt_len : bootBuiltins "len" = some (.builtin "len") := by decide +kernel
theorem bt_int : bootBuiltins "int" = some (.type "int") := by decide +kernel
theorem bt_bool : bootBuiltins "bool" = some (.type "bool") := by decide +kernel
theorem bt_str : bootBuiltins "str" = some (.type "str") := by decide +kernel
theorem bt_list : bootBuiltins "list" = some (.type "list") := by decide +kernel
theorem bt_sorted : bootBuiltins "sorted" = some (.builtin "sorted") := by decide +kernel
theorem bt_ValueError : bootBuiltins "ValueError" = some (.type "ValueError") := by decide +kernel
/-- the built-in names that the module doesn't lay over -/
structure Blt (mg : Str → Option Value) : Prop where
  isinstance : mg "isinstance" = none
  len : mg "len" = none
  int : mg "int" = none
  bool : mg "bool" = none
  str : mg "str" = none
  list : mg "list" = none
  tuple : mg "tuple" = none
  dict : mg "dict" = none
  range : mg "range" = none
  sorted : mg "sorted" = none
  min : mg "min" = none
  max : mg "max" = none
  all : mg "all" = none
  any : mg "any" = none
  enumerate : mg "enumerate" = none
  sum : mg "sum" = none
  ValueError : mg "ValueError" = none
theorem blt_mk {K : PySem.W.Frag} {h : Heap} {mg : Str → Option Value} (X : K.In h) (G : h.Ns mainGlobals mg)
    (z0 : PySem.W.nsIn K mainGlobals "isinstance" = some none)
    (z1 : PySem.W.nsIn K mainGlobals "len" = some none)
    (z2 : PySem.W.nsIn K mainGlobals "int" = some none)
    (z3 : PySem.W.nsIn K mainGlobals "bool" = some none)
    (z4 : PySem.W.nsIn K mainGlobals "str" = some none)
    (z5 : PySem.W.nsIn K mainGlobals "list" = some none)
    (z6 : PySem.W.nsIn K mainGlobals "tuple" = some none)
    (z7 : PySem.W.nsIn K mainGlobals "dict" = some none)
    (z8 : PySem.W.nsIn K mainGlobals "range" = some none)
    (z9 : PySem.W.nsIn K mainGlobals "sorted" = some none)
    (z10 : PySem.W.nsIn K mainGlobals "min" = some none)
    (z11 : PySem.W.nsIn K mainGlobals "max" = some none)
    (z12 : PySem.W.nsIn K mainGlobals "all" = some none)
    (z13 : PySem.W.nsIn K mainGlobals "any" = some none)
    (z14 : PySem.W.nsIn K mainGlobals "enumerate" = some none)
    (z15 : PySem.W.nsIn K mainGlobals "sum" = some none)
    (z16 : PySem.W.nsIn K mainGlobals "ValueError" = some none)
    : Blt mg := ⟨PySem.W.mg_none_of X G z0, PySem.W.mg_none_of X G z1, PySem.W.mg_none_of X G z2, PySem.W.mg_none_of X G z3, PySem.W.mg_none_of X G z4, PySem.W.mg_none_of X G z5, PySem.W.mg_none_of X G z6, PySem.W.mg_none_of X G z7, PySem.W.mg_none_of X G z8, PySem.W.mg_none_of X G z9, PySem.W.mg_none_of X G z10, PySem.W.mg_none_of X G z11, PySem.W.mg_none_of X G z12, PySem.W.mg_none_of X G z13, PySem.W.mg_none_of X G z14, PySem.W.mg_none_of X G z15, PySem.W.mg_none_of X G z16⟩
/-- a name of the module that holds an int -/
def MgInt (mg : Str → Option Value) (x : Str) (n : Int) : Prop := ∃ t, mg x = some (.int n t)
theorem mgInt_mk {K : PySem.W.Frag} {h : Heap} {mg : Str → Option Value} {x : Str} {n : Int} {t : Tok} (X : K.In h) (G : h.Ns mainGlobals mg) (z : PySem.W.nsIn K mainGlobals x = some (some (.int n t))) : MgInt mg x n := ⟨t, PySem.W.mg_of X G z⟩
theorem pe_gint {X : Cx} {x : Str} {n : Int} {pos : Pos} (h : MgInt X.mg x n) (hg : Gl X x) (hd : (x == ("__debug__" : Str)) = false := by decide) : PE X (.Name x pos) (tC (.int n)) := by
  obtain ⟨t, h⟩ := h
  exact pe_glob hg h ⟨t, rfl⟩ hd
theorem def_mk {K : PySem.W.Frag} {h : Heap} {mg : Str → Option Value} {x : Str} {st : Stmt} {f : Addr} {oc : Value} {od an : Option Addr} {osl : Array (Option Value)} {kV doc pm cdv ct : Value} (X : K.In h) (G : h.Ns mainGlobals mg)
    (a : PySem.W.nsIn K mainGlobals x = some (some (.ref f))) (l : K.lookup f = some ⟨oc, od, .func (PySem.W.fnOf x x (defArgs st) (defBody st) (defScope st) .none kV doc pm an cdv ct), osl⟩)
    (c : PySem.W.codeIn K cdv x = true) (k : PySem.W.keepIn K (.ref f) = true) : Def K mg x st := ⟨f, _, PySem.W.mg_of X G a, fun_mk l c k⟩
theorem law_F {P : Program} {w : World} {K : PySem.W.Frag} {mg : Str → Option Value} {st : Stmt} {fa : Addr} {k : Nat} {sp : Sp} {x : Str} (D : Def K mg "law" st) (hmg : mg "law" = some (.ref fa))
    (hb : ∀ (kV doc pm : Value) (an : Option Addr) (cdv ct u : Value), bindArgs (PySem.W.fnOf "law" "law" (defArgs st) (defBody st) (defScope st) .none kV doc pm an cdv ct) ⟨[u], []⟩ = pure [(x, u)])
    (ok : ∀ (base : Heap) (f : Addr) (fd : FuncData), Fun K "law" "law" st f fd → FnOk P w K mg base (CXR P w) k f fd [x] sp) :
    ∃ fd : FuncData, (∀ (s : Shared) (u : Value), BindsTo s fd ⟨[u], []⟩ [(x, u)]) ∧ ∀ base : Heap, K.In base → base.Ns mainGlobals mg → FnOk P w K mg base (CXR P w) k fa fd [x] sp := by
  obtain ⟨f, fd, hm, F⟩ := D
  rw [hm] at hmg
  cases hmg
  obtain ⟨oc, od, kV, doc, pm, an, cdv, ct, osl, rfl, lk, hcd⟩ := id F.ex
  exact ⟨_, fun s u => .of_eq (hb kV doc pm an cdv ct u), fun base _ _ => ok base _ _ F⟩
end L2
set_option Elab.async false
set_option linter.all false
set_option maxRecDepth 100000
namespace L2
open PySem PySem.Spec PyProof.Rows
theorem cxOf_K {CX : CXT} {P : Program} {w : World} {K : PySem.W.Frag} {mg : Str → Option Value} {base : Heap} {N : List Str} {qual : Str} {scope : Scope} {f : Addr} {cd : Value} {A : Around} {outer : List Env} {s : Shared} {H : Hp} {E : XK} : (cxOf CX P w K mg base N qual scope f cd A outer s H E).K = K := rfl
/-! ### reading a block part by part: the rest behind a letter -/
/-- an equation that no rewriting uses -/
def Is {α : Sort _} (a b : α) : Prop := a = b
theorem Is.eq {α : Sort _} {a b : α} (h : Is a b) : a = b := h
theorem Is.rfl {α : Sort _} {a : α} : Is a a := Eq.refl a
theorem seqI {t u : TS} {D : Ends} {σ : St} {H : Hp} (h : ∀ M, Is M (u D) → t { D with nx := M } σ H) : tSeq t u D σ H := h _ Is.rfl
/-- a loop over a list that is known when it begins -/
def LoopL (K : PySem.W.Frag) (a : Addr) (g : TG) (tb : TS) (D : Ends) (σ : St) (H : Hp) : Prop :=
  ∃ W : Nat → Nat → St → Hp → Prop, (∃ m, W 0 m σ H) ∧ ∀ i m σ H, W i m σ H →
      ((Itl K a).stop i H ∧ D.nx σ H) ∨ ((Itl K a).go i H ∧ ∃ N : St → Hp → Prop, (∀ σ' H', N σ' H' → ∃ m', m' < m ∧ W (i + 1) m' σ' H') ∧ ∀ x H', (Itl K a).yld i H x H' → g x σ H' fun σ2 H2 => tb { D with nx := N, ct := N, bk := D.nx } σ2 H2)
theorem forL {K : PySem.W.Frag} {tl : TE} {g : TG} {tb : TS} {D : Ends} {σ : St} {H : Hp}
    (h : ∀ L, Is L (fun a H1 => LoopL K a g tb D σ H1) → tl σ H fun x H1 => ∃ a, x = .ref a ∧ (∃ xs, SqL K H1 a xs) ∧ L a H1) : tFor (iList K tl) g tb D σ H := h _ Is.rfl
theorem loopL {K : PySem.W.Frag} {a : Addr} {g : TG} {tb : TS} {D : Ends} {σ : St} {H : Hp} (xs : List V) (Pv : Nat → St → Hp → Prop) (h0 : Pv 0 σ H) (hl : ∀ i σ H, i ≤ xs.length → Pv i σ H → SqL K H a xs)
    (hs : ∀ i x σ H, xs[i]? = some x → Pv i σ H → g x σ H fun σ2 H2 => tb { D with nx := Pv (i + 1), ct := Pv (i + 1), bk := D.nx } σ2 H2) (hd : ∀ σ H, Pv xs.length σ H → D.nx σ H) : LoopL K a g tb D σ H := for_list Pv h0 hl hs hd
def LoopR (lo : Int) (n : Nat) (g : TG) (tb : TS) (D : Ends) (σ : St) (H : Hp) : Prop :=
  ∃ W : Nat → Nat → St → Hp → Prop, (∃ m, W 0 m σ H) ∧ ∀ i m σ H, W i m σ H →
      ((Itr lo n).stop i H ∧ D.nx σ H) ∨ ((Itr lo n).go i H ∧ ∃ N : St → Hp → Prop, (∀ σ' H', N σ' H' → ∃ m', m' < m ∧ W (i + 1) m' σ' H') ∧ ∀ x H', (Itr lo n).yld i H x H' → g x σ H' fun σ2 H2 => tb { D with nx := N, ct := N, bk := D.nx } σ2 H2)
theorem forR1 {ta : TA} {g : TG} {tb : TS} {D : Ends} {σ : St} {H : Hp}
    (h : ∀ L, Is L (fun n H1 => LoopR 0 n g tb D σ H1) → ta σ H fun vs H1 => ∃ j : Int, vs = [.int j] ∧ -(2 ^ 62) ≤ j ∧ j < 2 ^ 62 ∧ L j.toNat H1) : tFor (iRng1 ta) g tb D σ H := h _ Is.rfl
theorem forR2 {ta : TA} {g : TG} {tb : TS} {D : Ends} {σ : St} {H : Hp}
    (h : ∀ L, Is L (fun i n H1 => LoopR i n g tb D σ H1) → ta σ H fun vs H1 => ∃ i j : Int, vs = [.int i, .int j] ∧ (-(2 ^ 62) ≤ i ∧ i < 2 ^ 62 ∧ -(2 ^ 62) ≤ j ∧ j < 2 ^ 62) ∧ L i (j - i).toNat H1) : tFor (iRng2 ta) g tb D σ H := h _ Is.rfl
theorem loopR {lo : Int} {n : Nat} {g : TG} {tb : TS} {D : Ends} {σ : St} {H : Hp} (Pv : Nat → St → Hp → Prop) (h0 : Pv 0 σ H)
    (hs : ∀ i σ H, i < n → Pv i σ H → g (.int (lo + i)) σ H fun σ2 H2 => tb { D with nx := Pv (i + 1), ct := Pv (i + 1), bk := D.nx } σ2 H2) (hd : ∀ σ H, Pv n σ H → D.nx σ H) : LoopR lo n g tb D σ H := for_range Pv h0 hs hd
theorem iteD {c : Prop} [Decidable c] {A B : Prop} (h1 : c → A) (h2 : ¬ c → B) : if decide c = true then A else B := by
  by_cases h : c
  · rw [decide_eq_true h]; exact iteT (h1 h)
  · rw [decide_eq_false h]; exact iteF (h2 h)
theorem same_upd {H : Hp} {a : Addr} {o : HO} (h : H a = none) : Same H (upd H a o) := fun b o' e => by rw [upd_ne (ne_of_none e h)]; exact e
end L2
local macro_rules | `(tactic| walk_at "rd") => `(tactic| simp only [L2.tSeq, L2.tAsg])
set_option Elab.async false
set_option linter.all false
set_option maxRecDepth 100000
namespace L2
open PySem PySem.Spec PyProof.Rows
section
variable {X : Cx}
/-! ### items, where the list or tuple is one that is tracked -/
def rIxA : R2 := fun x y H Q => ∃ p i, x = .ref p ∧ y = .int i ∧ ((∃ xs, H p = some (.lst xs) ∧ ∃ v, atI xs i = some v ∧ Q v H) ∨ (∃ xs, H p = some (.tup xs) ∧ ∃ v, atI xs i = some v ∧ Q v H))
theorem ix_any : IxR X rIxA := by
  intro value slice pins s σ H x y v u Q I rx ry h hs
  obtain ⟨p, i, e1, e2, ⟨xs, hp, z, ha, q⟩ | ⟨xs, hp, z, ha, q⟩⟩ := h
  · exact ix_list value slice pins s σ H x y v u Q I rx ry ⟨p, xs, i, z, e1, e2, SqL.of hp, ha, q⟩ hs
  · exact ix_tup value slice pins s σ H x y v u Q I rx ry ⟨p, xs, i, z, e1, e2, SqT.of hp, ha, q⟩ hs
/-- len of what is tracked: a list, a tuple, a dict -/
def rLenA : List V → Hp → VK → Prop := fun xs H Q => ∃ p, xs = [.ref p] ∧ ((∃ ys, H p = some (.lst ys) ∧ Q (.int ys.length) H) ∨ (∃ ys, H p = some (.tup ys) ∧ Q (.int ys.length) H) ∨ (∃ kvs, H p = some (.dK kvs) ∧ Q (.int kvs.length) H))
theorem call_lenA : CallR X (.builtin "len") rLenA := by
  intro pins s σ H xs us Q I r h
  obtain ⟨p, e1, ⟨ys, hp, q⟩ | ⟨ys, hp, q⟩ | ⟨kvs, hp, q⟩⟩ := h
  · exact call_len_seq pins s σ H xs us Q I r ⟨p, ys, e1, .inl (SqL.of hp), q⟩
  · exact call_len_seq pins s σ H xs us Q I r ⟨p, ys, e1, .inr (SqT.of hp), q⟩
  · exact call_lenD pins s σ H xs us Q I r ⟨p, kvs, e1, hp, q⟩
theorem atI_0 {α : Type} {x : α} {xs : List α} : atI (x :: xs) 0 = some x := atI_nat (j := 0) rfl
theorem atI_1 {α : Type} {x y : α} {xs : List α} : atI (x :: y :: xs) 1 = some y := atI_nat (j := 1) rfl
theorem atI_2 {α : Type} {x y z : α} {xs : List α} : atI (x :: y :: z :: xs) 2 = some z := atI_nat (j := 2) rfl
theorem atI_3 {α : Type} {x y z t : α} {xs : List α} : atI (x :: y :: z :: t :: xs) 3 = some t := atI_nat (j := 3) rfl
theorem atI_4 {α : Type} {x y z t r : α} {xs : List α} : atI (x :: y :: z :: t :: r :: xs) 4 = some r := atI_nat (j := 4) rfl
/-- isinstance of plain values by built-in types, reckoned -/
def isiT (t n : String) : Option Bool := PySem.W.kitOne [] (.type t) (.type n)
/-- the kind of a value by what is tracked -/
def tyN (H : Hp) : V → Option String
  | .non => some "NoneType"
  | .bl _ => some "bool"
  | .int _ => some "int"
  | .str _ => some "str"
  | .ref a => match H a with
    | some (.lst _) => some "list"
    | some (.tup _) => some "tuple"
    | some (.dK _) => some "dict"
    | _ => none
  | _ => none
theorem tyN_ok {K : PySem.W.Frag} {H : Hp} {x : V} {t : String} (h : tyN H x = some t) : TyOf K H x (.type t) := by
  cases x with
  | non => cases h; exact .non
  | bl b => cases h; exact .bl b
  | int i => cases h; exact .int i
  | str i => cases h; exact .str i
  | ref a =>
    unfold tyN at h
    cases e : H a with
    | none => simp only [e] at h; cases h
    | some o =>
      simp only [e] at h
      cases o with
      | lst xs => cases h; exact .lst e
      | tup xs => cases h; exact .tup e
      | dK xs => cases h; exact .dK e
      | _ => cases h
  | _ => cases h
theorem kit_ty (K : PySem.W.Frag) (t n : String) : PySem.W.kitOne K (.type t) (.type n) = isiT t n := by
  unfold isiT PySem.W.kitOne PySem.W.kitCls PySem.W.subIn
  rfl
def rIsiN : List V → Hp → VK → Prop := fun xs H Q => ∃ x n t b, xs = [x, .ty n] ∧ tyN H x = some t ∧ isiT t n = some b ∧ Q (.bl b) H
theorem call_isiN : CallR X (.builtin "isinstance") rIsiN := by
  intro pins s σ H xs us Q I r h
  obtain ⟨x, n, t, b, e1, e2, e3, q⟩ := h
  exact call_isi pins s σ H xs us Q I r ⟨x, .ty n, .type t, b, e1, tyN_ok e2, .inl ⟨n, rfl, by rw [kit_ty]; exact e3⟩, q⟩
theorem isi_int_int : isiT "int" "int" = some true := rfl
theorem isi_int_bool : isiT "int" "bool" = some false := rfl
theorem isi_bool_int : isiT "bool" "int" = some true := rfl
theorem isi_bool_bool : isiT "bool" "bool" = some true := rfl
theorem isi_none_int : isiT "NoneType" "int" = some false := rfl
theorem isi_none_bool : isiT "NoneType" "bool" = some false := rfl
theorem isi_str_int : isiT "str" "int" = some false := rfl
theorem isi_str_bool : isiT "str" "bool" = some false := rfl
theorem isi_list_int : isiT "list" "int" = some false := rfl
theorem isi_list_bool : isiT "list" "bool" = some false := rfl
theorem isi_tuple_int : isiT "tuple" "int" = some false := rfl
theorem isi_tuple_bool : isiT "tuple" "bool" = some false := rfl
theorem isi_list_list : isiT "list" "list" = some true := rfl
theorem isi_tuple_tuple : isiT "tuple" "tuple" = some true := rfl
theorem isi_tuple_list : isiT "tuple" "list" = some false := rfl
theorem isi_list_tuple : isiT "list" "tuple" = some false := rfl
theorem isi_none_list : isiT "NoneType" "list" = some false := rfl
theorem isi_none_tuple : isiT "NoneType" "tuple" = some false := rfl
theorem isi_str_list : isiT "str" "list" = some false := rfl
theorem isi_int_list : isiT "int" "list" = some false := rfl
theorem isi_bool_list : isiT "bool" "list" = some false := rfl
theorem isi_int_tuple : isiT "int" "tuple" = some false := rfl
theorem isi_bool_tuple : isiT "bool" "tuple" = some false := rfl
theorem isi_str_str : isiT "str" "str" = some true := rfl
/-! ### a list grows by one -/
end
section
variable {X : Cx} {o e : Expr} {to : TE} {t : TA} {apos pos : Pos}
end
/-! ### new objects, the heap behind a letter -/
end L2
set_option Elab.async false
set_option linter.all false
set_option maxRecDepth 100000
namespace L2
open PySem PySem.Spec PyProof.Rows

/-! ### refusals: raised, passed on, caught -/
theorem ObjOk.there {P : Program} {w : World} {H : Hp} {h : Heap} {a : Addr} {o : HO} (x : ObjOk P w H h a o) : ∃ u, h.get? a = some u := by
  cases o with
  | lst xs => obtain ⟨_, _, _, _, e⟩ := x; exact ⟨_, e⟩
  | tup xs => obtain ⟨_, _, _, o, e, _⟩ := x; exact ⟨_, e⟩
  | dK kvs => obtain ⟨_, _, _, _, o, _, _, e, _⟩ := x; exact ⟨_, e⟩
  | dT kvs => obtain ⟨_, _, _, _, o, _, _, e, _⟩ := x; exact ⟨_, e⟩
  | set S n => obtain ⟨o, _, _, _, e, _⟩ := x; exact ⟨_, e⟩
  | ins C dx fs => obtain ⟨_, _, _, e, _⟩ := x; exact ⟨_, e⟩
  | own y => obtain ⟨_, e⟩ := x; exact ⟨_, e⟩
  | xd fs => obtain ⟨_, ⟨_, _, _, e, _⟩, _⟩ := x; exact ⟨_, e⟩
  | rng lo hi => obtain ⟨_, _, _, e⟩ := x; exact ⟨_, e⟩
  | frz ob u => obtain ⟨e, _⟩ := x; exact ⟨_, e⟩
  | tbl ps => exact ⟨_, (show h.get? a = some _ from x)⟩
  | met f y => exact ⟨_, (show h.get? a = some _ from x)⟩
  | ext φ => obtain ⟨_, ⟨_, e⟩, _⟩ := x; exact ⟨_, e⟩

theorem fly_un {P : Program} {w : World} {l : List Env} {H H' : Hp} {h0 h h2 B : Heap} (un : Un (frs l) [] H H' h0 h) (hok : HOk P w H' h) (fr : h.FunFrames B l)
    (tr : ∀ b u o, H' b = some u → h.get? b = some o → B.get? b = some o) (kp : ∀ b o o', h0.get? b = some o → h.get? b = some o' → b ∉ frs l → B.get? b = some o') (st : B.StaysIn h2) (sm : h.UpToSlots h2) :
    Un (frs l) [] H H' h0 h2 ∧ HOk P w H' h2 := by
  refine ⟨⟨fun b o q n hb hx => ?_, fun b o q n hb hx => ?_, un.free, fun b o q hx => ?_, un.tups, un.frzs, un.tbls⟩, fun a o e => ?_⟩
  · exact st b o (kp b o o q (un.keep b o q n hb hx) hb)
  · obtain ⟨sl, e⟩ := un.slot b o q n hb hx
    obtain ⟨_, o', ho', hd⟩ := fr.mem hb
    rw [e] at ho'; cases ho'
    obtain ⟨sl', e'⟩ := sm b _ e hd
    exact ⟨sl', e'⟩
  · obtain ⟨o', e⟩ := un.there b o q hx
    by_cases hb : b ∈ frs l
    · obtain ⟨_, o2, ho2, hd⟩ := fr.mem hb
      obtain ⟨sl', e'⟩ := sm b _ ho2 hd
      exact ⟨_, e'⟩
    · exact ⟨o', st b o' (kp b o o' q e hb)⟩
  · refine (hok a o e).stay (fun b u hb q => ?_) (fun _ q => q) fun _ _ q => q
    rcases hb with rfl | hb
    · exact st b u (tr b _ u e q)
    · exact st b u (tr b _ u hb q)

theorem un_down {fs fs' : List Addr} {L : Addr} {H H1 H2 : Hp} {h h1 h2 : Heap} (a : Un fs [] H H1 h h1) (b : Un fs' [] H1 H2 h1 h2) (hL : h.get? L = none) (sub : ∀ x ∈ fs', x = L ∨ x ∈ fs) : Un fs [] H H2 h h2 where
  keep := fun c ob q n hc hx => b.keep c ob (a.keep c ob q n hc hx) (a.free c ob q n hx) (fun z => (sub c z).elim (fun e => by rw [e, hL] at q; cases q) hc) hx
  slot := fun c ob q n hc hx => by
    obtain ⟨sl, e1⟩ := a.slot c ob q n hc hx
    obtain ⟨sl', e2⟩ := b.any e1 (a.free c ob q n hx) hx
    exact ⟨sl', e2⟩
  free := fun c ob q n hx => by
    obtain ⟨o', e1⟩ := a.there c ob q hx
    exact b.free c o' e1 (a.free c ob q n hx) hx
  there := fun c ob q hx => by
    obtain ⟨o', e1⟩ := a.there c ob q hx
    exact b.there c o' e1 hx
  tups := fun c xs q => b.tups c xs (a.tups c xs q)
  frzs := fun c ob xs q => b.frzs c ob xs (a.frzs c ob xs q)
  tbls := fun c ps q => by
    obtain ⟨m1, e1⟩ := a.tbls c ps q
    obtain ⟨m2, e2⟩ := b.tbls c _ e1
    exact ⟨m1 ++ m2, by rw [e2, Array.append_assoc]⟩

section
variable {P : Program} {w : World} {K : PySem.W.Frag} {mg : Str → Option Value} {base : Heap} {N : List Str} {qual : Str} {scope : Scope} {f : Addr} {cd : Value} {A : Around} {outer : List Env} {s : Shared} {H : Hp} {E : XK}
/-- the body's context, a def that may refuse -/
abbrev cxR (P : Program) (w : World) (K : PySem.W.Frag) (mg : Str → Option Value) (base : Heap) (N : List Str) (qual : Str) (scope : Scope) (f : Addr) (cd : Value) (A : Around) (outer : List Env) (s : Shared) (H : Hp) (E : XK) : Cx :=
  cxOf (CXR P w) P w K mg base N qual scope f cd A outer s H E
theorem frs_cons {L : Addr} {env : Env} {l : List Env} (h : env.frame = some L) : frs (env :: l) = L :: frs l := by unfold frs; rw [List.filterMap_cons, h]
/-- what a callee refuses, this def refuses too -/
theorem passR : Passes (CXR P w) (cxR P w K mg base N qual scope f cd A outer s H E) E := by
  intro pins σ H1 s1 e s' I h
  obtain ⟨H', ea, cls, rfl, os, bare, fl, hE⟩ := h
  obtain ⟨B, a0, hfl, tr, kp⟩ := fl.fly
  have fr := hfl.2.2.1
  show wpAny _ _ (leaving _ _) _ _ s'
  refine wpAny_leaves_onW (I.ok.frames) (L := s.heap.objs.size) rfl hfl fun h2 hfl2 sm => ?_
  obtain ⟨un2, hok2⟩ := fly_un fl.un fl.hok fr tr kp hfl2.1 sm
  have hfs : frs (envOfC qual scope s.heap.objs.size f cd :: outer) = s.heap.objs.size :: frs outer := frs_cons rfl
  have hL : s.heap.get? s.heap.objs.size = none := Heap.get?_none_of_le (Nat.le_refl _)
  have sub : ∀ x ∈ frs (envOfC qual scope s.heap.objs.size f cd :: outer), x = s.heap.objs.size ∨ x ∈ frs outer := fun x hx => by rw [hfs] at hx; exact List.mem_cons.mp hx
  refine ⟨H', ea, cls, rfl, os.trans I.os, bare, ⟨un_down I.base un2 hL sub, hok2, ?_, B, a0, hfl2, fun b u o e q => ?_, fun b o o2 q q2 hb => ?_⟩, hE⟩
  · cases q : s.heap.get? ea with
    | none => rfl
    | some o =>
      obtain ⟨o', e⟩ := I.base.there ea o q (by intro z; cases z)
      rw [fl.new] at e; cases e
  · obtain ⟨o', e'⟩ := (fl.hok b u e).there
    have h1 := tr b u o' e e'
    have h2' := hfl2.1 b o' h1
    rw [q] at h2'; cases h2'; exact h1
  · obtain ⟨o1, e1⟩ := I.base.there b o q (by intro z; cases z)
    obtain ⟨o', e'⟩ := fl.un.there b o1 e1 (by intro z; cases z)
    have nb : b ∉ frs (envOfC qual scope s.heap.objs.size f cd :: outer) := fun z => (sub b z).elim (fun e => by rw [e, hL] at q; cases q) hb
    have h1 := kp b o1 o' e1 e' nb
    have h2' := hfl2.1 b o' h1
    rw [q2] at h2'; cases h2'; exact h1
/-- an exception made here leaves -/
theorem raise_leaves {pins : List (Addr × Obj)} {σ : St} {H1 : Hp} {s2 : Shared} {h' : Heap} {e C : Addr} {vs : List Value} (I : Inv (cxR P w K mg base N qual scope f cd A outer s H E) pins σ H1 s2)
    (hx : Heap.MadeExcOf s2.heap h' e (.ref C) vs) (hE : E (.ref C) none H1) : (cxR P w K mg base N qual scope f cd A outer s H E).xe (.ref e) { s2 with heap := h' } := by
  have hfs : frs (envOfC qual scope s.heap.objs.size f cd :: outer) = s.heap.objs.size :: frs outer := frs_cons rfl
  have hL : s.heap.get? s.heap.objs.size = none := Heap.get?_none_of_le (Nat.le_refl _)
  have sub : ∀ x ∈ frs (envOfC qual scope s.heap.objs.size f cd :: outer), x = s.heap.objs.size ∨ x ∈ frs outer := fun x hx => by rw [hfs] at hx; exact List.mem_cons.mp hx
  have hin : ∀ env ∈ (envOfC qual scope s.heap.objs.size f cd :: outer), ∀ b, env.frame = some b → b ∈ (envOfC qual scope s.heap.objs.size f cd :: outer).filterMap (·.frame) := fun env he b hb => List.mem_filterMap.mpr ⟨env, he, hb⟩
  have fr0 : s2.heap.FunFrames (PySem.W.hideAll s2.heap (frs (envOfC qual scope s.heap.objs.size f cd :: outer))) (envOfC qual scope s.heap.objs.size f cd :: outer) := PySem.W.funFrames_hide I.stack hin
  have kB : ∀ b o, s2.heap.get? b = some o → b ∉ frs (envOfC qual scope s.heap.objs.size f cd :: outer) → (PySem.W.hideAll s2.heap (frs (envOfC qual scope s.heap.objs.size f cd :: outer))).get? b = some o := fun b o q hb => PySem.W.hideAll_get _ q hb
  show wpAny _ _ (leaving _ _) _ _ _
  refine wpAny_leaves_madeW (s := { s2 with heap := h' }) (base := PySem.W.hideAll s2.heap (frs (envOfC qual scope s.heap.objs.size f cd :: outer))) (h := s2.heap) I.ok.frames (L := s.heap.objs.size) rfl (fun b o q => PySem.W.of_hideAll _ q) fr0 hx fun h2 t hfl2 _ _ sm => ?_
  have nfr : ∀ b u, H1 b = some u → b ∉ frs (envOfC qual scope s.heap.objs.size f cd :: outer) := fun b u q z => by rw [I.stkFree b z] at q; cases q
  have tr : ∀ b u o, H1 b = some u → h'.get? b = some o → (PySem.W.hideAll s2.heap (frs (envOfC qual scope s.heap.objs.size f cd :: outer))).get? b = some o := fun b u o q qo => by
    obtain ⟨o', e'⟩ := (I.hok b u q).there
    have := hx.keeps b o' e'
    rw [qo] at this; cases this
    exact kB b _ e' (nfr b u q)
  have kp : ∀ b o o', s2.heap.get? b = some o → h'.get? b = some o' → b ∉ frs (envOfC qual scope s.heap.objs.size f cd :: outer) → (PySem.W.hideAll s2.heap (frs (envOfC qual scope s.heap.objs.size f cd :: outer))).get? b = some o' := fun b o o' q q' hb => by
    have := hx.keeps b o q
    rw [q'] at this; cases this
    exact kB b _ q hb
  obtain ⟨un2, hok2⟩ := fly_un (l := envOfC qual scope s.heap.objs.size f cd :: outer) (H := H1) (H' := H1) (h0 := s2.heap) (Un.kept hx.keeps) (I.hok.kept hx.keeps) (fr0.of_keeps fun b o q _ => ⟨o, hx.keeps b o q, rfl⟩) tr kp hfl2.1 sm
  refine ⟨H1, e, .ref C, rfl, I.os, I.bare, ⟨un_down I.base un2 hL sub, hok2, ?_, _, _, hfl2, fun b u o q qo => ?_, fun b o o2 q q2 hb => ?_⟩, hE⟩
  · cases q : s.heap.get? e with
    | none => rfl
    | some o =>
      obtain ⟨o', e'⟩ := I.base.there e o q (by intro z; cases z)
      rw [hx.new] at e'; cases e'
  · obtain ⟨o', e'⟩ := (I.hok b u q).there
    have h1 := kB b o' e' (nfr b u q)
    have h2' := hfl2.1 b o' h1
    rw [qo] at h2'; cases h2'; exact h1
  · obtain ⟨o1, e1⟩ := I.base.there b o q (by intro z; cases z)
    have nb : b ∉ frs (envOfC qual scope s.heap.objs.size f cd :: outer) := fun z => (sub b z).elim (fun e => by rw [e, hL] at q; cases q) hb
    have h1 := kB b o1 e1 nb
    have h2' := hfl2.1 b o1 h1
    rw [q2] at h2'; cases h2'; exact h1
end
/-- an error class of the module, under ValueError -/
structure Exc (K : PySem.W.Frag) (mg : Str → Option Value) (x : Str) (C : Addr) : Prop where
  mgC : mg x = some (.ref C)
  ex : PySem.W.excIn K C [.type "ValueError", .type "Exception", .type "BaseException", .type "object"] "ValueError.__new__" = true
theorem Exc.own {K : PySem.W.Frag} {mg : Str → Option Value} {x : Str} {C : Addr} {h : Heap} (O : Exc K mg x C) (X : K.In h) : OwnCls x C [.type "ValueError", .type "Exception", .type "BaseException", .type "object"] "ValueError.__new__" mg h := by
  refine ⟨O.mgC, ?_⟩
  have q := O.ex
  unfold PySem.W.excIn at q
  split at q
  · rename_i dd cd sl ho
    split at q
    · rename_i C' bm k0 k1 k2 k3 n k5 hm hs
      simp only [Bool.and_eq_true, beq_iff_eq, Bool.not_eq_true'] at q
      obtain ⟨⟨⟨⟨⟨rfl, rfl⟩, hdel⟩, ht⟩, hok⟩, hni⟩ := q
      obtain ⟨nm, bs, mro, ns, qn, hd, sn, sub, ab, col, del⟩ := cd
      dsimp only at hm hdel hok hni
      subst hm hdel
      have hsl : sl = #[k0, k1, k2, k3, some (.builtin "ValueError.__new__"), k5] := by
        obtain ⟨l⟩ := sl
        simp only at hs
        rw [hs]
      subst hsl
      exact ⟨bm, ns, nm, qn, bs, hd, sn, sub, ab, col, dd, k0, k1, k2, k3, k5, _, X _ _ ho, .of_isNs (PySem.W.isNs_of_in X hok), PySem.W.nsMap_none_of_in X hok hni, PySem.W.tail_of_in X ht⟩
    · cases q
  · cases q
theorem exc_mk {K : PySem.W.Frag} {h : Heap} {mg : Str → Option Value} {x : Str} {C : Addr} (X : K.In h) (G : h.Ns mainGlobals mg) (a : PySem.W.nsIn K mainGlobals x = some (some (.ref C)))
    (q : PySem.W.excIn K C [.type "ValueError", .type "Exception", .type "BaseException", .type "object"] "ValueError.__new__" = true) : Exc K mg x C := ⟨PySem.W.mg_of X G a, q⟩
section
variable {P : Program} {w : World} {K : PySem.W.Frag} {mg : Str → Option Value} {base : Heap} {N : List Str} {qual : Str} {scope : Scope} {f : Addr} {cd : Value} {A : Around} {outer : List Env} {s : Shared} {H : Hp} {E : XK}
/-- raise C('..') -/
def tRaise (E : XK) (C : Addr) (ta : TA) : TS := fun _ σ H => ta σ H fun vs H1 => vs.length ≤ sizeLine ∧ E (.ref C) none H1
theorem ps_raise {x : Str} {C : Addr} {e₀ : Expr} {np cpos pos : Pos} {ta : TA} (O : Exc K mg x C) (hg : Gl (cxR P w K mg base N qual scope f cd A outer s H E) x) (ha : PA (cxR P w K mg base N qual scope f cd A outer s H E) [e₀] ta)
    (hd : (x == ("__debug__" : Str)) = false := by decide) (he : starEach [e₀] (cxR P w K mg base N qual scope f cd A outer s H E).env = [(false, eval e₀ (cxR P w K mg base N qual scope f cd A outer s H E).env)] := by rfl) :
    PS (cxR P w K mg base N qual scope f cd A outer s H E) (.Raise (some (.Call (.Name x np) [e₀] [] cpos)) none pos) (tRaise E C ta) := by
  intro pins s1 σ H1 D I h
  have own := O.own I.mod.kin
  obtain ⟨tl, NN, nm, q, bs, hdct, sn, sub, ab, col, dd, k0, k1, k2, k3, k5, mN, hC, hN, hni, T⟩ := own.obj
  refine wpAny_Raise_call_subT (C := C) (nm := nm) (q := q) (N := NN) (bs := bs) (bm := tl) (hdct := hdct) (sn := sn) (sub := sub) (ab := ab) (col := col) (dd := dd) (k0 := k0) (k1 := k1) (k2 := k2) (k3 := k3) (k5 := k5)
    PySem.F.excBase_ValueError (mN := mN) (T.hasType PySem.F.excBase_ValueError.hasBase) (I.ok.hd rfl) (by rw [he]; rfl) hni (ld_glob I hg O.mgC ⟨rfl, ?_⟩ hd)
  rw [he]
  have ha' := ha cpos pins s1 σ H1 _ I h
  rw [he] at ha'
  refine Calls.evalArgs_plain (wpAny_mono ha' (fun us s2 hq => ?_) fun _ _ y => y)
  obtain ⟨vs, H2, I2, r, hl, hE⟩ := hq
  exact ⟨rfl, by rw [← r.length]; exact hl, I2.bk _ _ hC, hN.keeps I2.bk, T.keeps I2.bk, fun h' e hx => raise_leaves I2 hx hE⟩
end
end L2
set_option Elab.async false
set_option linter.all false
set_option maxRecDepth 100000
namespace L2
open PySem PySem.Spec PyProof.Rows
/-! ### try .. except C as n -/
/-- within the suite of an except -/
abbrev Cx.caught (X : Cx) (ea : Addr) : Cx := { X with A := X.A.mark (some (.ref ea)), calm := false }
def IsExc (ea : Addr) (cls : Value) : Heap → Prop := fun h => ∃ o, h.get? ea = some o ∧ o.cls = cls
section
variable {X : Cx} {pins : List (Addr × Obj)} {σ : St} {H : Hp} {s : Shared}
theorem Inv.caught (I : Inv X pins σ H s) (ea : Addr) : Inv (X.caught ea) pins σ H s :=
  ⟨⟨I.ok.mod, I.ok.kind, I.ok.glob, I.ok.blt, I.ok.above, I.ok.inj, I.ok.has, I.ok.cab, (fun z => nomatch z), I.ok.frames, I.ok.stk, I.ok.exf, I.ok.bs, I.ok.bsz, I.ok.noex, I.ok.exfs, I.ok.funs, I.ok.frf⟩, I.os, I.bare, I.base, I.loc, I.cell, I.free, I.freeC, I.pin, I.hok, I.len⟩
theorem Inv.uncaught {ea : Addr} (I : Inv (X.caught ea) pins σ H s) (ok : X.Ok) : Inv X pins σ H s := ⟨ok, I.os, I.bare, I.base, I.loc, I.cell, I.free, I.freeC, I.pin, I.hok, I.len⟩
/-- an object that was not tracked, made behind the entry, is tracked from now on -/
theorem Inv.track {ea : Addr} {o : HO} (I : Inv X pins σ H s) (hn : H ea = none) (h0 : X.s₀.heap.get? ea = none) (hL : ea ≠ X.env.locals) (hc : ∀ x c, X.env.cells.lookup x = some c → c ≠ ea) (hp : ∀ p ∈ X.pn ++ pins, p.1 ≠ ea)
    (new : ObjOk X.prog X.w (upd H ea o) s.heap ea o) : Inv X pins σ (upd H ea o) s := by
  have nn : ∀ b u, H b = some u → b ≠ ea := fun b u q z => by rw [z, hn] at q; cases q
  refine ⟨I.ok, I.os, I.bare, ⟨I.base.keep, I.base.slot, fun b ob q n hx => ?_, I.base.there, fun b xs q => ?_, fun b ob u q => ?_, fun b ps q => ?_⟩, I.loc, I.cell, ?_, fun x c e => ?_, fun p hp' => ?_, fun b u q => ?_, I.len⟩
  · rw [upd_ne (fun z => by rw [z, h0] at q; cases q)]; exact I.base.free b ob q n hx
  · have := I.base.tups b xs q
    rw [upd_ne (nn b _ this)]; exact this
  · have := I.base.frzs b ob u q
    rw [upd_ne (nn b _ this)]; exact this
  · obtain ⟨m, e⟩ := I.base.tbls b ps q
    exact ⟨m, by rw [upd_ne (nn b _ e)]; exact e⟩
  · rw [upd_ne (Ne.symm hL)]; exact I.free
  · rw [upd_ne (hc x c e)]; exact I.freeC x c e
  · obtain ⟨a, b, c, d, e⟩ := I.pin p hp'
    exact ⟨a, by rw [upd_ne (hp p hp')]; exact b, c, d, e⟩
  · by_cases hb : b = ea
    · subst hb; rw [upd_same] at q; cases q; exact new
    · rw [upd_ne hb] at q
      refine (I.hok b u q).stay (fun _ _ _ r => r) (fun c r => by rw [upd_ne (nn c _ r)]; exact r) fun c xs r => by rw [upd_ne (nn c _ r)]; exact r
/-- the name of an except clause goes -/
theorem unbind_ok {M : Model} {A : Around} {E : Value → Shared → Prop} {i : Nat} {x : Str} {pos : Pos} {Q : Unit → Shared → Prop} (I : Inv X pins σ H s) (hN : X.N.Nodup) (hi : X.N[i]? = some x) (hk : X.env.scope.names.lookup x = some .local)
    (h : ∀ s', Inv X pins (σ.set i none) H s' → Q () s') : wpAny M A (do bindName X.env x .none; unbindBehindTheSuite X.env x pos) Q E s := by
  obtain ⟨m, hn, hl⟩ := id I.loc
  have hcls : (X.env.scope.kind == .class || (X.env.scope.kind == .module && X.env.locals != X.env.globals)) = false := by rw [I.ok.kind]; rfl
  have hiσ : i < σ.length := by rw [I.len]; exact (List.getElem?_eq_some_iff.mp hi).1
  have cne := I.cne
  refine wpAny_nameGoes_keeps hk hn hcls fun h' v hn' hs => ?_
  obtain ⟨oL, _, _, hoL, _⟩ := id hn
  have tracked : HOk X.prog X.w H h' := fun b ob e => by
    refine (I.hok b ob e).stay (fun c w' hc q => (hs.2 c ?_).trans q) (fun _ q => q) fun _ _ q => q
    rintro rfl
    rcases hc with rfl | hc
    · rw [I.free] at e; cases e
    · rw [I.free] at hc; cases hc
  refine h _ ⟨I.ok, I.os, I.bare, ⟨fun b o e n hb hx => ?_, fun b o e n hb hx => ?_, I.base.free, fun b o e hx => ?_, I.base.tups, I.base.frzs, I.base.tbls⟩, ⟨_, hn', fun j y v' e1 e2 e3 => ?_⟩, fun y c e => ?_, I.free, I.freeC, fun p hp => ?_, tracked, by simpa using I.len⟩
  · exact (hs.2 b (Nat.ne_of_lt (Nat.lt_of_lt_of_le (Heap.lt_size e) I.ok.above))).trans (I.base.keep b o e n hb hx)
  · obtain ⟨sl, e1⟩ := I.base.slot b o e n hb hx
    exact ⟨sl, (hs.2 b (Nat.ne_of_lt (Nat.lt_of_lt_of_le (Heap.lt_size e) I.ok.above))).trans e1⟩
  · obtain ⟨o', e1⟩ := I.base.there b o e hx
    exact ⟨o', (hs.2 b (Nat.ne_of_lt (Nat.lt_of_lt_of_le (Heap.lt_size e) I.ok.above))).trans e1⟩
  · by_cases hj : j = i
    · subst hj
      rw [List.getElem?_set_self hiσ] at e2
      cases e2
    · rw [List.getElem?_set_ne (Ne.symm hj)] at e2
      obtain ⟨u', r', q⟩ := hl j y v' e1 e2 e3
      refine ⟨u', r', ?_⟩
      rcases q with ⟨k, e⟩ | ⟨k, c, e, z⟩
      · refine .inl ⟨k, ?_⟩
        have : y ≠ x := fun e => hj (nodup_ix hN e1 (e ▸ hi))
        simp [this, e]
      · exact .inr ⟨k, c, e, z.sameBut hs (cne y c e)⟩
  · obtain ⟨w', z⟩ := I.cell y c e
    exact ⟨w', z.sameBut hs (cne y c e)⟩
  · obtain ⟨e, n, ne, nf, d⟩ := I.pin p hp
    exact ⟨(hs.2 p.1 ne).trans e, n, ne, nf, d⟩
end
/-- what a try's body raises: as a callee's refusal lies, the names as at the entry -/
abbrev XR (X : Cx) (pins : List (Addr × Obj)) (σ : St) (E : XK) : Value → Shared → Prop := fun e s' => ∃ H1 s1, Inv X pins σ H1 s1 ∧ CXR X.prog X.w X.stack H1 s1 E e s'
def PEX (X : Cx) (e : Expr) (t : XK → TE) : Prop :=
  ∀ (E : XK) (pins : List (Addr × Obj)) (s : Shared) (σ : St) (H : Hp) (Q : VK), Inv X pins σ H s → t E σ H Q → wpAny (model X.prog X.w) X.A (eval e X.env) (EP X pins σ Q) (XR X pins σ E) s
def PSX (X : Cx) (st : Stmt) (t : XK → TS) : Prop :=
  ∀ (E : XK) (pins : List (Addr × Obj)) (s : Shared) (σ : St) (H : Hp) (D : Ends), Inv X pins σ H s → t E D σ H → wpAny (model X.prog X.w) X.A (exec st X.env) (SP X pins D) (XR X pins σ E) s
def PSXs (X : Cx) (st : List Stmt) (t : XK → TS) : Prop :=
  ∀ (E : XK) (pins : List (Addr × Obj)) (s : Shared) (σ : St) (H : Hp) (D : Ends), Inv X pins σ H s → t E D σ H → wpAny (model X.prog X.w) X.A (execs st X.env) (SP X pins D) (XR X pins σ E) s
section
variable {X : Cx}
theorem psxs_one {st : Stmt} {t : XK → TS} (h1 : PSX X st t) : PSXs X [st] t := by
  intro E pins s σ H D I h
  refine wpAny_execs_cons (thn (h1 E pins s σ H D I h) fun f s1 q => ?_)
  cases f with
  | next =>
    obtain ⟨σ', H', I', q'⟩ := q
    exact wpAny_execs_nil ⟨σ', H', I', q'⟩
  | _ => exact q
theorem psx_expr {e : Expr} {te : XK → TE} {pos : Pos} (he : PEX X e te) (hs : swapsWith e none pos.line X.env = pure false := by rfl) : PSX X (.Expr e pos) fun E => tDrop (te E) := by
  intro E pins s σ H D I h
  exact wpAny_Expr_any (thn (he E pins s σ H _ I h) fun v s1 ⟨x', H1, I1, r, q⟩ => ⟨_, _, I1, q⟩) I.quiet hs
end
end L2
set_option Elab.async false
set_option linter.all false
set_option maxRecDepth 100000
namespace PySem.W
open PySem PySem.Spec PySem.Calls PyProof.Rows Builtin Builtin.ObjectAttr Builtin.Getset_descriptor
section
variable {prog : Program} {w : World} {A : Around} {E : Value → Shared → Prop} {s : Shared} {K : Frag} {x C : Addr} {R : Result → Shared → Prop}
theorem xc_get {tp : Value} (X : K.In s.heap) (L0 : ∀ M, Looks M s.heap (typeOf (.ref x)) (.ref C)) (hm : mroIn K C (.type "object") = some true)
    (h : R (.ok (.ret (.ref C))) s) : codeAny (model prog w) A (.call (.builtin "getset_descriptor.__get__") ⟨[.builtin "object.__class__", .ref x, tp], []⟩) R s := by
  obtain ⟨hh, g, dr, t, os⟩ := s
  have L0 := L0 (model prog w)
  have L1 := looks_mroIn (M := model prog w) X hm
  refine codeAny_call_builtin KF.slot_gs.plain KF.entry_gs (KF.slot_gs.check _ _ _ _ _ _ _ _ KF.type_class (KF.args_gs _ _ _) ?_)
  unfold Builtin.«getset_descriptor.__get__» descrGet
  rw [dga_obj]
  refine wpAny_bind (wpAny_pure ?_)
  unfold descrGetter descrCheckInstance descrNameAndClass isInstance
  simp only [KF.owner_class]
  repeat lk
  refine ⟨Code.quiet_builtin _ (by decide +kernel), codeAny_builtin KF.entry_class ?_⟩
  unfold Builtin.«object.__class__» shownTypeOf
  repeat lk
  exact h
theorem xc_find {M : Model} {h : Heap} {a g : Value} {name : Str} (X : K.In h) (ha : findIn K (.ref C) name = some (some a)) (hg : specialIn K a "__get__" = some (some g)) (hd : takesIn K a = some true) : Looks M h (find (.ref x) (.ref C) name) (.bind g a) := by
  have L1 := looks_findIn (M := M) X ha
  have L2 : Looks M h (getOf (some a)) (some g) := looks_specialIn X hg
  refine L1.andThen (L2.andThen ?_)
  have L3 := looks_takesIn (M := M) X hd
  exact (show Looks M h (dataDescriptor? (some a) (some g)) (some (g, a)) from L3.andThen .now).andThen (Looks.tag .now)
theorem xc_check {M : Model} {nameV : Value} {Q : Unit → Shared → Prop} (X : K.In s.heap) (L0 : ∀ M, Looks M s.heap (typeOf (.ref x)) (.ref C)) (hb : subIn K (.ref C) (.type "BaseException") = some true) (hq : Q () s) :
    wpAny M A (checkBuiltinCall "BaseException.__getattribute__" ⟨[.ref x, nameV], []⟩) Q E s := by
  have hk : builtinKind "BaseException.__getattribute__" = some .slot := by decide +kernel
  have hsplit : splitId "BaseException.__getattribute__" = some ("BaseException", "__getattribute__") := by decide +kernel
  have ha := F.args_bexc_ga (.ref x) nameV
  have L0 := L0 M
  have L1 : Looks M s.heap (isSubtype (.ref C) (.type "BaseException")) true := looks_subIn X hb
  obtain ⟨hh, g, dr, t, os⟩ := s
  simp only [checkBuiltinCall, hk, hsplit]
  refine wpAny_bind ?_
  unfold isInstance
  repeat (any_goals (first | assumption | with_reducible refine Looks.at (by assumption) ?_ | wp_step))
  all_goals exact hq
theorem xc_class {Q : Option Value → Shared → Prop} (X : K.In s.heap) (L0 : ∀ M h, (∀ b o, s.heap.get? b = some o → h.get? b = some o) → Looks M h (typeOf (.ref x)) (.ref C))
    (h1 : findIn K (.ref C) "__getattribute__" = some (some (.builtin "BaseException.__getattribute__"))) (h2 : findIn K (.ref C) "__getattr__" = some none) (h3 : findIn K (.ref C) "__class__" = some (some (.builtin "object.__class__")))
    (h4 : specialIn K (.builtin "object.__class__") "__get__" = some (some (.builtin "getset_descriptor.__get__"))) (h5 : takesIn K (.builtin "object.__class__") = some true) (h6 : mroIn K C (.type "object") = some true) (h7 : subIn K (.ref C) (.type "BaseException") = some true)
    (h : Q (some (.ref C)) { s with toks := s.toks + 1 }) : wpAny (model prog w) A (getAttr? (.ref x) "__class__") Q E s := by
  obtain ⟨hh, g, dr, t, os⟩ := s
  have LT := L0 (model prog w) hh fun _ _ e => e
  have L1 := looks_findIn (M := model prog w) X h1
  have L2 := looks_findIn (M := model prog w) X h2
  have L3 : Looks (model prog w) hh (find (.ref x) (.ref C) "__class__") (.bind (.builtin "getset_descriptor.__get__") (.builtin "object.__class__")) := xc_find X h3 h4 h5
  have hx2 : (Value.builtin "BaseException.__getattribute__" == Value.builtin "object.__getattribute__") = false := by decide +kernel
  unfold getAttr? getAttrBy? getAttrBy
  refine wpAny_bind (wpAny_mkText (wpAny_bind (wpAny_attempt (wpAny_holding (wpAny_bind (LT.at (wpAny_bind (L1.at ?_))))))))
  dsimp only
  rw [if_neg (by rw [hx2]; simp)]
  unfold getAttrByItsOwn hookBefore
  rw [if_pos (by rfl)]
  refine wpAny_bind (L2.at ?_)
  refine wpAny_bind (wpAny_attempt (wpAny_holding ?_))
  unfold callGetattribute
  rw [if_neg (by simp)]
  unfold boundAndCalled
  have ga : Slot "ValueError" "__getattribute__" "BaseException.__getattribute__" := PySem.F.attr_ValueError.ga
  have f3 := ga.bind (.ref x)
  refine wpAny_bind (wpAny_of_eq f3 ?_)
  show wpAny _ _ (call (.builtin "BaseException.__getattribute__") [.ref x, _]) _ _ _
  refine wpAny_call (codeAny_call_builtin ga.plain F.entry_bexc_ga (xc_check X (fun M => L0 M hh fun _ _ e => e) h7 ?_))
  repeat (any_goals (first | assumption | with_reducible refine Looks.at (by assumption) ?_ | wp_step))
  refine xc_get X (fun M => L0 M hh fun _ _ e => e) h6 ?_
  repeat (any_goals (first | assumption | with_reducible refine Looks.at (by assumption) ?_ | wp_step))
/-- an error class, what isinstance asks of it -/
structure ExcI (K : Frag) (C : Addr) : Prop where
  c0 : hasDictIn K C = true
  c1 : findIn K (.ref C) "__getattribute__" = some (some (.builtin "BaseException.__getattribute__"))
  c2 : findIn K (.ref C) "__getattr__" = some none
  c3 : findIn K (.ref C) "__class__" = some (some (.builtin "object.__class__"))
  c4 : specialIn K (.builtin "object.__class__") "__get__" = some (some (.builtin "getset_descriptor.__get__"))
  c5 : takesIn K (.builtin "object.__class__") = some true
  c6 : mroIn K C (.type "object") = some true
  c7 : subIn K (.ref C) (.type "BaseException") = some true
theorem kitx_exc (Z : ExcI K C) : KitX K (.ref x) (.ref C) (L2.IsExc x (.ref C)) where
  ty := fun _ _ _ ⟨o, e, c⟩ => c ▸ (Looks.ld e).andThen .now
  it := fun _ _ X _ => by
    obtain ⟨cdD, hcD, _⟩ := any_some Z.c0
    unfold clsIn at hcD
    split at hcD
    · rename_i c' d' cd' sl' ho
      intro A' Q' E' s' k q
      unfold isType loadHead
      exact wpAny_bind (wpAny_loadPart (k _ _ (X _ _ ho)) (wpAny_pure q))
    · cases hcD
  ne := fun h tp dd its n sl X htp => by
    obtain ⟨cdD, hcD, _⟩ := any_some Z.c0
    refine Bool.eq_false_iff.mpr fun q => ?_
    have e : C = tp := Value.ref.inj (beq_iff_eq.mp q)
    subst e
    unfold clsIn at hcD
    split at hcD
    · rename_i c' d' cd' sl' ho
      have z := (X _ _ ho).symm.trans htp
      cases z
    · cases hcD
  ca := fun {prog w A E Q s} X I k => xc_class X (fun M h kk => by
    obtain ⟨o, e, c⟩ := I
    exact c ▸ (Looks.ld (kk _ _ e)).andThen .now) Z.c1 Z.c2 Z.c3 Z.c4 Z.c5 Z.c6 Z.c7 k
end
end PySem.W
set_option Elab.async false
set_option linter.all false
set_option maxRecDepth 100000
namespace L2
open PySem PySem.Spec PyProof.Rows
section
variable {X : Cx}
/-- try: body / except x as n: suite -/
def tTry (K : PySem.W.Frag) (C : Addr) (i : Nat) (tb : XK → TS) (ts : TS) : TS := fun D σ H =>
  tb (fun cls _ H' => PySem.W.exmOne K cls (.ref C) = some true ∧ ∀ ea, H' ea = none →
    ts { nx := fun σ2 H2 => D.nx (σ2.set i none) H2, rt := D.rt, bk := fun σ2 H2 => D.bk (σ2.set i none) H2, ct := fun σ2 H2 => D.ct (σ2.set i none) H2 } (σ.set i (some (.ref ea))) (upd H' ea (.ext (IsExc ea cls)))) D σ H
/-- .. except x: suite -/
def tTry0 (K : PySem.W.Frag) (C : Addr) (tb : XK → TS) (ts : TS) : TS := fun D σ H =>
  tb (fun cls _ H' => PySem.W.exmOne K cls (.ref C) = some true ∧ ts D σ H') D σ H
theorem inv_at {pins : List (Addr × Obj)} {σ : St} {H1 H' : Hp} {s1 s' : Shared} {h6 B : Heap} {ea : Addr} {cls a0 : Value} (I : Inv X pins σ H1 s1) (os : s'.os = s1.os) (bare : AllBare s'.gens) (fl : FlyAt X.prog X.w X.stack H1 s1.heap H' s'.heap ea cls)
    (hfl : Heap.FlyingW B X.stack ea cls a0 s'.heap) (tr : ∀ b u o, H' b = some u → s'.heap.get? b = some o → B.get? b = some o) (kp : ∀ b o o', s1.heap.get? b = some o → s'.heap.get? b = some o' → b ∉ frs X.stack → B.get? b = some o')
    (h6l : Heap.FlyingW B X.stack ea cls a0 h6) (sm : s'.heap.UpToSlots h6) : Inv X pins σ H' { s' with heap := h6 } := by
  obtain ⟨un2, hok2⟩ := fly_un fl.un fl.hok hfl.2.2.1 tr kp h6l.1 sm
  exact I.call' (s' := { s' with heap := h6 }) (ch := []) os un2 hok2 bare (fun _ z => nomatch z)
theorem ps_try {body : List Stmt} {b₀ : Stmt} {suite : List Stmt} {x n : Str} {C : Addr} {i : Nat} {tb : XK → TS} {ts : TS} {np hpos pos : Pos} (hst : X.stack = X.env :: X.outer) (hf : X.env.frame = some X.env.locals) (hex : X.ex = []) (hb : PSXs X body tb) (hg : Gl X x) (hm : X.mg x = some (.ref C))
    (hN : X.N.Nodup) (hi : X.N[i]? = some n) (hk : X.env.scope.names.lookup n = some .local) (hs : ∀ ea, PSs (X.caught ea).nox (b₀ :: suite) ts) (hd : (x == ("__debug__" : Str)) = false := by decide) :
    PS X (.Try body [.ExceptHandler (some (.Name x np)) (some n) (b₀ :: suite) hpos] [] [] pos) (tTry X.K C i tb ts) := by
  intro pins s σ H D I h
  refine wpAny_Try_except (wpAny_mono (hb _ pins s σ H D I h) (fun f s1 q => ?_) fun e s' q => ?_)
  · cases f with
    | next => exact wpAny_execs_nil q
    | _ => exact q
  · obtain ⟨H1, s1, I1, H', ea, cls, rfl, os, bare, fl, hmt, k⟩ := q
    obtain ⟨B, a0, hfl, tr, kp⟩ := id fl.fly
    have up : ∀ {h6 : Heap}, Heap.FlyingW B (X.env :: X.outer) ea cls a0 h6 → s'.heap.UpToSlots h6 → Inv X pins σ H' { s' with heap := h6 } := fun z sm => inv_at I1 os bare fl hfl tr kp (by rw [hst]; exact z) sm
    have hfl' : Heap.FlyingW B (X.env :: X.outer) ea cls a0 s'.heap := by rw [← hst]; exact hfl
    refine wpAny_looks_onW (by rw [I1.ok.frames, hst]) hf hfl' fun h4 hh4 sm4 => ?_
    refine wpAny_landsW hh4 fun h5 hfl5 sm5 => ?_
    have I5 := up hfl5 (sm4.trans sm5)
    have hea : H' ea = none := by
      cases q : H' ea with
      | none => rfl
      | some u =>
        obtain ⟨o, e⟩ := (fl.hok ea u q).there
        have := tr ea u o q e
        rw [hfl.2.1] at this; cases this
    refine wpAny_handleBy_cons (codeAny_handlers_test (ld_glob (X := X.caught ea) (I5.caught ea) hg hm ?_ hd)) (by intro q; cases q)
    have LT : PySem.W.Looks (model X.prog X.w) h5 (typeOf (.ref ea)) cls := by
      obtain ⟨ob, e, c⟩ := hfl5.there
      exact c ▸ (PySem.W.Looks.ld e).andThen .now
    refine (PySem.W.exm_one I5.kIn LT hmt).here ?_
    refine codeAny_handlers_suite_as ?_
    refine lands_againW hfl5 fun h6 hfl6 sm6 => ?_
    have I6 := up hfl6 ((sm4.trans sm5).trans sm6)
    have e0 : ∀ b o, s1.heap.get? b = some o → b ≠ ea := fun b o e z => by rw [z, fl.new] at e; cases e
    have I7 : Inv X pins σ (upd H' ea (.ext (IsExc ea cls))) { s' with heap := h6 } := by
      refine I6.track hea ?_ ?_ (fun y c e => ?_) (fun p hp => ?_) ?_
      · cases q : X.s₀.heap.get? ea with
        | none => rfl
        | some o =>
          obtain ⟨o', e⟩ := I1.base.there ea o q (by rw [hex]; intro z; cases z)
          rw [fl.new] at e; cases e
      · obtain ⟨m, ⟨o, _, _, e, _⟩, _⟩ := I1.loc
        exact (e0 _ o e).symm
      · obtain ⟨v, o, ho, _⟩ := I1.cell y c e
        exact e0 c o ho
      · exact e0 _ _ (I1.pin p hp).1
      · obtain ⟨ob, e, c⟩ := hfl6.there
        exact ⟨⟨ob, e, c⟩, ⟨ob, e⟩, fun h1 h2 ⟨o1, e1, c1⟩ kk => ⟨o1, kk o1 e1, c1⟩⟩
    refine store_ok (X := X) I7 hN hi (Or.inl hk) (v := .ref ea) rfl (fun s8 I8 => ?_) (Or.inr hk)
    refine wpAny_mono (hs ea pins s8 _ _ _ ((I8.caught ea).wish _) (k ea hea)) (fun f s9 q9 => ?_) fun _ _ z => z.elim
    cases f with
    | next =>
      obtain ⟨σ', H9, I9, q'⟩ := q9
      exact unbind_ok (I9.unwish.uncaught I.ok) hN hi hk fun s10 I10 => ⟨_, _, I10, q'⟩
    | brk =>
      obtain ⟨σ', H9, I9, q'⟩ := q9
      exact unbind_ok (I9.unwish.uncaught I.ok) hN hi hk fun s10 I10 => ⟨_, _, I10, q'⟩
    | cont =>
      obtain ⟨σ', H9, I9, q'⟩ := q9
      exact unbind_ok (I9.unwish.uncaught I.ok) hN hi hk fun s10 I10 => ⟨_, _, I10, q'⟩
    | ret u =>
      obtain ⟨v, σ', H9, I9, r, q'⟩ := q9
      exact unbind_ok (I9.unwish.uncaught I.ok) hN hi hk fun s10 I10 => ⟨_, _, _, I10, r, q'⟩
end
/-! ### a call within a try -/
section
variable {X : Cx} {k : Nat} {f C : Addr} {fd : FuncData} {ps : List Str} {sp : Sp} {x m : Str} {p pos apos : Pos} {e o : Expr} {es : List Expr} {ta : TE} {t : TA}
theorem run_fnX {E : XK} {pins : List (Addr × Obj)} {σ : St} {H : Hp} {s : Shared} {Q : VK} {us : List Value} {vs : List V} (F : FnOk X.prog X.w X.K X.mg X.base (CXR X.prog X.w) k f fd ps sp) (hr : Room k X.A) (hb : Binds X.K fd ps [])
    (I : Inv X pins σ H s) (r : Vals vs us) (h : sp vs H Q E) : wpAny (model X.prog X.w) X.A (call (.ref f) us) (EP X pins σ Q) (XR X pins σ E) s := by
  have hl : (us ++ []).length = ps.length := by rw [List.append_nil, ← r.length]; exact F.len _ _ _ _ h
  refine wpAny_call (codeAny_mono (F.run X.A X.stack s H ⟨us, []⟩ us vs Q E hr I.env0 (by have := hb s us I.kIn hl; rw [List.append_nil] at this; exact this) r h) fun r s' hq => ?_)
  cases r with
  | error e => exact ⟨H, s, I, hq⟩
  | ok fl =>
    cases fl with
    | ret u => exact I.after hq
    | next => exact False.elim hq
    | brk => exact False.elim hq
    | cont => exact False.elim hq
theorem pex_callD (F : FnD X.prog X.w X.K X.mg X.base k x ps sp) (hr : Room k X.A) (hg : Gl X x) (ha : PA X.nox (e :: es) t)
    (hdb : (x == ("__debug__" : Str)) = false := by decide) (he : starEach (e :: es) X.env = (false, eval e X.env) :: starEach es X.env := by rfl) (hpl : (backTo pos (starEach es X.env)).any (·.1) = false := by rfl) :
    PEX X (.Call (.Name x p) (e :: es) [] pos) fun E => tCall sp [] E t := by
  obtain ⟨f, fd, h1, h2, h3, h4⟩ := F.ex
  intro E pins s σ H Q I h
  refine wpAny_Call_Name_kw (ld_glob I hg h1 ?_ hdb)
  refine PySem.W.callWith_K (h₀ := X.base) I.ok.mod.kin h2 (wpAny_mono (ha pos pins s σ H _ (I.wish _) h) (fun us s1 ⟨vs, H1, I1, r, q⟩ => ⟨I1.kIn, ?_⟩) fun _ _ z => z.elim) he hpl
  have q' : sp (vs ++ []) H1 Q E := q
  rw [List.append_nil] at q'
  exact run_fnX h4 hr h3 I1.unwish r q'
end
/-! ### isinstance of a caught exception -/
def rIsiX (K : PySem.W.Frag) : List V → Hp → VK → Prop := fun xs H Q => ∃ ea C c b, xs = [.ref ea, c] ∧ H ea = some (.ext (IsExc ea (.ref C))) ∧ PySem.W.ExcI K C ∧
  ((∃ n, c = .ty n ∧ PySem.W.kitOne K (.ref C) (.type n) = some b) ∨ (∃ d, c = .ref d ∧ PySem.W.kitOne K (.ref C) (.ref d) = some b) ∨ ∃ (d : Addr) (ds : List Addr), c = .ref d ∧ H d = some (.tup (ds.map V.ref)) ∧ PySem.W.kitAny K (.ref C) (ds.map Value.ref) = some b) ∧ Q (.bl b) H
theorem vals_refs : ∀ {ds : List Addr} {us : List Value}, Vals (ds.map V.ref) us → us = ds.map Value.ref
  | [], _, .nil => rfl
  | _ :: _, _, .cons r t => by rw [vals_refs t, show _ = Value.ref _ from r]; rfl
theorem call_isiX {X : Cx} : CallR X (.builtin "isinstance") (rIsiX X.K) := by
  intro pins s σ H xs us Q I r h
  obtain ⟨ea, C, c, b, rfl, he, Z, hc, q⟩ := h
  obtain ⟨u, v, rfl, ru, rv⟩ := Vals.two r
  cases (show u = Value.ref ea from ru)
  have ob : IsExc ea (.ref C) s.heap := (I.hok ea _ he).1
  have kx := PySem.W.kitx_exc (x := ea) Z
  rcases hc with ⟨n, rfl, e⟩ | ⟨d, rfl, e⟩ | ⟨d, ds, rfl, hd, e⟩
  · cases (show v = Value.type n from rv)
    exact PySem.W.kia_one kx I.kIn ob e (fun z => nomatch z) fun tk => ⟨.bl b, H, I.tok tk, rfl, q⟩
  · cases (show v = Value.ref d from rv)
    exact PySem.W.kia_one kx I.kIn ob e (fun z => nomatch z) fun tk => ⟨.bl b, H, I.tok tk, rfl, q⟩
  · cases (show v = Value.ref d from rv)
    obtain ⟨_, its, rr, o, h1, h2, n, h3⟩ := (show ObjOk X.prog X.w H s.heap d (.tup (ds.map V.ref)) from I.hok d _ hd)
    have e2 := vals_refs rr
    subst e2
    obtain ⟨oc, od, oda, osl⟩ := o
    cases h2
    cases h3
    exact PySem.W.kia_tup kx I.kIn ob h1 e (fun z => nomatch z) fun tk => ⟨.bl b, H, I.tok tk, rfl, q⟩
end L2
set_option Elab.async false
set_option linter.all false
set_option maxRecDepth 100000
namespace L2
open PySem PySem.Spec PyProof.Rows
/-! ### comprehensions -/
def closOf (cells : List (Str × Addr)) : List (Str × NameKind) → List (Str × Addr) → List (Str × Addr)
  | [], cs => cs
  | (n, k) :: r, cs => closOf cells r (if k == .free then (n, (cells.lookup n).getD 0) :: cs else cs)
theorem closureFor_eq {scope : Scope} {env : Env} (h : ∀ y ∈ scope.names, y.2 = .free → ∃ c, env.cells.lookup y.1 = some c) : closureFor scope env = pure (closOf env.cells scope.names []) := by
  simp only [closureFor]
  have all : ∀ (l : List (Str × NameKind)) (cs : List (Str × Addr)), (∀ y ∈ l, y.2 = .free → ∃ c, env.cells.lookup y.1 = some c) →
      (forIn l cs fun (x : Str × NameKind) (r : List (Str × Addr)) => match x with
        | (name, kind) => if (kind == NameKind.free) = true then do
            let __do_lift ← cellOf env name
            pure (ForInStep.yield ((name, __do_lift) :: r))
          else pure (ForInStep.yield r)) = (pure (closOf env.cells l cs) : Sem (List (Str × Addr))) := by
    intro l
    induction l with
    | nil => intro cs _; rfl
    | cons y r ih =>
      intro cs hy
      obtain ⟨n, k⟩ := y
      rw [List.forIn_cons]
      have hr : ∀ y ∈ r, y.2 = .free → ∃ c, env.cells.lookup y.1 = some c := fun y hm => hy y (List.mem_cons_of_mem _ hm)
      by_cases hk : k = .free
      · subst hk
        obtain ⟨c, hc⟩ := hy (n, .free) List.mem_cons_self rfl
        have hc' : env.cells.lookup n = some c := hc
        have e1 : cellOf env n = pure c := by unfold cellOf; rw [hc']
        simp only [beq_self_eq_true, if_true, e1, pure_bind]
        rw [ih _ hr]
        simp only [closOf, beq_self_eq_true, if_true, hc', Option.getD_some]
      · have hb : (k == NameKind.free) = false := by simpa using hk
        simp only [hb, Bool.false_eq_true, if_false, pure_bind]
        rw [ih _ hr]
        simp only [closOf, hb, Bool.false_eq_true, if_false]
  first
    | (rw [all scope.names [] h]; rfl)
    | (have := all scope.names [] h; simp only [this, pure_bind])
theorem closOf_sub {cells : List (Str × Addr)} : ∀ (l : List (Str × NameKind)) (cs : List (Str × Addr)) {y : Str} {c : Addr}, (closOf cells l cs).lookup y = some c → ((y, .free) ∈ l ∧ c = (cells.lookup y).getD 0) ∨ cs.lookup y = some c
  | [], _, _, _, h => .inr h
  | (n, k) :: r, cs, y, c, h => by
    rw [closOf] at h
    rcases closOf_sub r _ h with ⟨a, b⟩ | q
    · exact .inl ⟨List.mem_cons_of_mem _ a, b⟩
    · by_cases hk : k = .free
      · subst hk
        simp only [beq_self_eq_true, if_true, List.lookup_cons] at q
        by_cases hy : y = n
        · subst hy
          simp only [beq_self_eq_true] at q
          cases q
          exact .inl ⟨List.mem_cons_self, rfl⟩
        · have : (y == n) = false := by simpa using hy
          simp only [this] at q
          exact .inr q
      · have hb : (k == NameKind.free) = false := by simpa using hk
        simp only [hb, Bool.false_eq_true, if_false] at q
        exact .inr q
theorem closOf_keeps {cells : List (Str × Addr)} : ∀ (l : List (Str × NameKind)) (cs : List (Str × Addr)) {y : Str}, (∃ c, cs.lookup y = some c) ∨ (y, NameKind.free) ∈ l → ∃ c, (closOf cells l cs).lookup y = some c
  | [], _, _, h => by
    rcases h with h | h
    · exact h
    · cases h
  | (n, k) :: r, cs, y, h => by
    rw [closOf]
    refine closOf_keeps r _ ?_
    rcases h with ⟨c, h⟩ | h
    · refine .inl ?_
      split
      · rw [List.lookup_cons]
        split
        · exact ⟨_, rfl⟩
        · exact ⟨c, h⟩
      · exact ⟨c, h⟩
    · rcases List.mem_cons.mp h with e | e
      · cases e
        refine .inl ⟨(List.lookup n cells).getD 0, ?_⟩
        simp only [beq_self_eq_true, if_true, List.lookup_cons]
      · exact .inr e
/-- a comprehension's scope within a def's -/
structure CompSc (scope es : Scope) (x : Str) (N : List Str) : Prop where
  kind : scope.kind = .function
  cell : ∀ y ∈ scope.names, y.2 ≠ .cell
  nms : ∀ y ∈ scope.names, y.2 = .local → scope.names.lookup y.1 = some .local
  loc : scope.names.lookup x = some .local
  noe : scope.names.lookup ("" : Str) = none
  fre : ∀ y ∈ scope.names, y.2 = .free → es.names.lookup y.1 = some .cell ∨ es.names.lookup y.1 = some .free
  only : ∀ y ∈ scope.names, y.2 = .local → y.1 = x ∨ y.1 ∉ N
  nd : (x :: N.map fun y => if y = x then ("" : Str) else y).Nodup
theorem lookup_mem {α β : Type} [BEq α] [LawfulBEq α] : ∀ {l : List (α × β)} {x : α} {v : β}, l.lookup x = some v → (x, v) ∈ l
  | (n, k) :: r, x, v, h => by
    rw [List.lookup_cons] at h
    split at h
    · rename_i e; cases h; rw [eq_of_beq e]; exact List.mem_cons_self
    · exact List.mem_cons_of_mem _ (lookup_mem h)
theorem relabel_lookup {scope : Scope} {env : Env} : ∀ {l : List (Str × NameKind)} {y : Str} {k : NameKind}, (l.map fun (p : Str × NameKind) => match p with | (n, k) => if (k == .free && env.scope.kind == .function && env.kindOf n == some .cell) then (n, NameKind.cell) else (n, k)).lookup y = some k →
    l.lookup y = some k ∨ (k = .cell ∧ l.lookup y = some .free)
  | [], _, _, h => by simp at h
  | (n, k0) :: r, y, k, h => by
    rw [List.map_cons, List.lookup_cons] at h
    rw [List.lookup_cons]
    dsimp only at h
    split at h
    · rename_i e
      split at e
      · rename_i hc
        dsimp only at e h
        cases h
        have : k0 = .free := by simp only [Bool.and_eq_true, beq_iff_eq] at hc; exact hc.1.1
        subst this
        rw [e, if_pos hc]
        exact .inr ⟨rfl, rfl⟩
      · rename_i hc
        dsimp only at e h
        rw [e]
        rw [if_neg hc] at h
        exact .inl h
    · rename_i e
      have e' : (y == n) = false := by
        split at e <;> exact e
      rw [e']
      exact relabel_lookup (scope := scope) h
/-- what is wanted behind a comprehension's block -/
def compPostX (M : Model) (A : Around) (E : Value → Shared → Prop) (use : Option (Value → Sem Unit)) (Q : Value → Shared → Prop) (acc : Value) (cenv : Env) (r : Result) (s' : Shared) : Prop :=
  match r, use with
  | .ok _, none => ∃ m, s'.heap.Ns cenv.locals m ∧ ∀ h', Heap.SameBut cenv.locals s'.heap h' → Q acc { s' with heap := h' }
  | .ok _, some u => wpAny M A (u acc) (fun _ s'' => ∃ m, s''.heap.Ns cenv.locals m ∧ ∀ h', Heap.SameBut cenv.locals s''.heap h' → Q .none { s'' with heap := h' }) E s'
  | .error x, _ => ∃ m, s'.heap.Ns cenv.locals m ∧ ∀ h', Heap.SameBut cenv.locals s'.heap h' → wpAny M A (passOn "comprehension.variables-let-go" x cenv : Sem Value) (fun _ _ => False) E { s' with heap := h' }
theorem wpAny_comprehensionX {M : Model} {A : Around} {E : Value → Shared → Prop} {s : Shared} {env : Env} {e : Expr} {scope : Scope} {pos : Pos} {newAcc first : Sem Value} {g : Comprehension} {gs : List Comprehension} {cl : List (Str × Addr)} {use : Option (Value → Sem Unit)}
    {Q : Value → Shared → Prop}
    (hcl : clausesOf e = g :: gs) (hs : ∀ x, foldedSetIterable g.iter env x = pure x) (hclos : closureFor scope env = pure cl)
    (hkind : scope.kind = .function) (hnames : ∀ x ∈ scope.names, x.2 = .local → scope.names.lookup x.1 = some .local)
    (h : wpAny M A first (fun x s₁ => wpAny M A (pyIter x) (fun it s₂ => wpAny M A newAcc (fun acc s₃ =>
      wpAny M A (newFunctionEnv scope env.globals cl [] env.qual none .none (some env)) (fun cenv s₄ =>
        codeAny M A (.compStart e 0 it acc { cenv with scope := relabel scope env }) (compPostX M A E use Q acc { cenv with scope := relabel scope env }) s₄) E s₃) E s₂) E s₁) E s) :
    wpAny M A (comprehension e scope env pos newAcc false first use) Q E s := by
  unfold comprehension
  rw [hclos, hcl]
  refine wpAny_bind (wpAny_mono h (fun x s₁ h₁ => wpAny_bind (wpAny_standAt (wpAny_bind (wpAny_of_eq (hs x) (wpAny_bind (wpAny_holding (wpAny_mono h₁ (fun it s₂ h₂ =>
    wpAny_standIf (wpAny_bind (wpAny_mono h₂ (fun acc s₃ h₃ => wpAny_bind (wpAny_pure (wpAny_bind (wpAny_mono h₃ (fun cenv s₄ h₄ => ?_) fun _ _ h' => h')))) fun _ _ h' => h')))
      fun _ _ h' => h'))))))) fun _ _ h' => h')
  dsimp only
  have hv : ∀ x ∈ (scope.names.filter fun x => (x.2 == .local || x.2 == .cell) && x.1 != (".0" : Str)).reverse, x.2 = .local →
      Env.kindOf { cenv with scope := relabel scope env } x.1 = some .local := fun x hx hl => lookup_relabel_local (hnames x (List.mem_filter.mp (List.mem_reverse.mp hx)).1 hl)
  have hv' : ∀ x ∈ (scope.names.filter fun x => (x.2 == .local || x.2 == .cell) && x.1 != (".0" : Str)).reverse.drop 1 ++ (scope.names.filter fun x => (x.2 == .local || x.2 == .cell) && x.1 != (".0" : Str)).reverse.take 1,
      x.2 = .local → Env.kindOf { cenv with scope := relabel scope env } x.1 = some .local := fun x hx hl => by
    rcases List.mem_append.mp hx with h1 | h1
    · exact hv x (List.mem_of_mem_drop h1) hl
    · exact hv x (List.mem_of_mem_take h1) hl
  refine wpAny_holding (wpAny_bind (wpAny_attempt (wpAny_holding (wpAny_run (codeAny_mono h₄ fun r s' hr => ?_)))))
  cases r with
  | ok f =>
    cases use with
    | none =>
      obtain ⟨m, hn, hr⟩ := hr
      exact wpAny_bind (wpAny_holding (wpAny_comp_letGo (cenv := { cenv with scope := relabel scope env }) hkind _ s' m hv hn fun h' m' _ hs' => wpAny_pure (hr h' hs')))
    | some u =>
      refine wpAny_bind (wpAny_rule (wpAny_bind (wpAny_holding (wpAny_mono hr (fun _ s'' hr' => ?_) fun _ _ h' => h'))))
      obtain ⟨m, hn, hr'⟩ := hr'
      exact wpAny_bind (wpAny_comp_letGo (cenv := { cenv with scope := relabel scope env }) hkind _ s'' m hv' hn fun h' m' _ hs' => wpAny_pure (hr' h' hs'))
  | error x =>
    have hr' : ∃ m, s'.heap.Ns cenv.locals m ∧ ∀ h', Heap.SameBut cenv.locals s'.heap h' → wpAny M A (passOn "comprehension.variables-let-go" x { cenv with scope := relabel scope env } : Sem Value) (fun _ _ => False) E { s' with heap := h' } := by cases use <;> exact hr
    obtain ⟨m, hn, hr⟩ := hr'
    exact wpAny_bind (wpAny_holding (wpAny_comp_letGo (cenv := { cenv with scope := relabel scope env }) hkind _ s' m hv hn fun h' m' _ hs' => wpAny_mono (hr h' hs') (fun _ _ f => f.elim) fun _ _ y => y))
/-- the context of a comprehension's block -/
def Cx.comp (X : Cx) (scope : Scope) (x : Str) (pins : List (Addr × Obj)) (fp : List Addr) (s3 : Shared) (H3 : Hp) (E : Value → Shared → Prop) : Cx where
  prog := X.prog
  w := X.w
  K := X.K
  mg := X.mg
  base := X.base
  A := X.A
  N := x :: X.N.map fun y => if y = x then ("" : Str) else y
  s₀ := s3
  H₀ := H3
  env := compEnvC scope (closOf X.env.cells scope.names []) s3.heap.objs.size X.env
  outer := X.stack
  stack := X.stack
  ex := fp
  fn := fun _ => false
  calm := X.calm
  pn := X.pn ++ pins
  xe := E
section
variable {X : Cx} {pins : List (Addr × Obj)} {σ : St} {H3 : Hp} {s3 : Shared} {scope : Scope} {x : Str} {fp : List Addr} {E : Value → Shared → Prop}
theorem comp_kind {y : Str} (h : (compEnvC scope (closOf X.env.cells scope.names []) s3.heap.objs.size X.env).kindOf y = some .cell ∨ (compEnvC scope (closOf X.env.cells scope.names []) s3.heap.objs.size X.env).kindOf y = some .free) (hc : ∀ y ∈ scope.names, y.2 ≠ .cell) : (y, NameKind.free) ∈ scope.names := by
  rcases h with h | h
  · rcases relabel_lookup (scope := scope) (env := X.env) h with q | ⟨_, q⟩
    · exact absurd rfl (hc _ (lookup_mem q))
    · exact lookup_mem q
  · rcases relabel_lookup (scope := scope) (env := X.env) h with q | ⟨z, _⟩
    · exact lookup_mem q
    · cases z
theorem clos_cell (ok : X.Ok) (S : CompSc scope X.env.scope x X.N) {y : Str} {c : Addr} (h : (closOf X.env.cells scope.names []).lookup y = some c) : (y, NameKind.free) ∈ scope.names ∧ X.env.cells.lookup y = some c := by
  rcases closOf_sub scope.names [] h with ⟨a, b⟩ | q
  · obtain ⟨c', e⟩ := ok.has y (S.fre _ a rfl)
    rw [e] at b
    exact ⟨a, by rw [e, b]; rfl⟩
  · simp at q
theorem comp_ok (I : Inv X pins σ H3 s3) (S : CompSc scope X.env.scope x X.N) (hfp : ∀ b ∈ fp, FpOk X pins H3 b) (hfo : ∀ b ∈ fp, ∃ o, s3.heap.get? b = some o) : (X.comp scope x pins fp s3 H3 E).Ok where
  mod := I.ok.mod
  kind := S.kind
  glob := I.ok.glob
  blt := I.ok.blt
  above := Nat.le_refl _
  inj := fun y z c h1 h2 => I.ok.inj y z c (clos_cell I.ok S h1).2 (clos_cell I.ok S h2).2
  has := fun y h => closOf_keeps scope.names [] (.inr (comp_kind h S.cell))
  cab := fun _ _ h => nomatch h
  hd := I.ok.hd
  frames := I.ok.frames
  stk := .inl rfl
  exf := fun b hb => by
    obtain ⟨o, e⟩ := hfo b hb
    refine ⟨Nat.ne_of_lt (Heap.lt_size e), fun y c h => ?_⟩
    exact (hfp b hb).2.2.2.2.1 y c (clos_cell I.ok S h).2
  bs := I.bs
  bsz := Nat.le_trans I.ok.bsz I.sz
  noex := fun b o e hb => by
    rcases (hfp b hb).2.2.2.1 with z | z
    · exact I.ok.noex b o e z
    · exact absurd (Nat.lt_of_lt_of_le (Heap.lt_size e) (Nat.le_trans I.ok.bsz z)) (Nat.lt_irrefl _)
  exfs := fun b hb z => by
    rcases List.mem_cons.mp (I.stkSub b z) with q | q
    · exact (hfp b hb).2.1 q
    · exact (hfp b hb).2.2.1 q
  funs := I.stack
  frf := I.stkFree
/-- the block's first state -/
theorem comp_start {s4 : Shared} (I : Inv X pins σ H3 s3) (S : CompSc scope X.env.scope x X.N) (hfp : ∀ b ∈ fp, FpOk X pins H3 b) (hfo : ∀ b ∈ fp, ∃ o, s3.heap.get? b = some o) {m : Str → Option Value} (hn : s4.heap.Ns s3.heap.objs.size m) (kk : ∀ b o, s3.heap.get? b = some o → s4.heap.get? b = some o)
    (os : s4.os = s3.os) (bare : AllBare s4.gens) : Inv (X.comp scope x pins fp s3 H3 E) [] (none :: σ) H3 s4 := by
  refine ⟨comp_ok I S hfp hfo, os, bare, Un.kept kk, ⟨m, hn, fun i y v h1 h2 h3 => ?_⟩, fun y c h => ?_, I.hok.fresh (Nat.le_refl _), fun y c h => I.freeC y c (clos_cell I.ok S h).2, fun p hp => ?_, I.hok.kept kk, ?_⟩
  · cases i with
    | zero => cases h2
    | succ i =>
      have h1' : (X.N.map fun y => if y = x then ("" : Str) else y)[i]? = some y := h1
      have h2' : σ[i]? = some (some v) := h2
      rw [List.getElem?_map] at h1'
      cases hN : X.N[i]? with
      | none => rw [hN] at h1'; cases h1'
      | some z =>
        rw [hN] at h1'
        have h1'' : (if z = x then ("" : Str) else z) = y := Option.some.inj h1'
        have vis : ∀ y, Vis (relabel scope X.env) y → y ≠ ("" : Str) := fun y hv e => by
          subst e
          have no : ∀ k, (relabel scope X.env).names.lookup ("" : Str) = some k → False := fun k h => by
            rcases relabel_lookup (scope := scope) (env := X.env) h with q | ⟨_, q⟩ <;> (rw [S.noe] at q; cases q)
          rcases hv with q | q | q <;> exact no _ q
        have hz : z ≠ x := fun e => by rw [if_pos e] at h1''; exact vis y h3 h1''.symm
        rw [if_neg hz] at h1''
        subst h1''
        -- z is seen by the block, and is no local of it: it is free there
        have hf : (z, NameKind.free) ∈ scope.names ∨ (relabel scope X.env).names.lookup z = some .local := by
          rcases h3 with q | q | q
          · exact .inr q
          · exact .inl (comp_kind (X := X) (s3 := s3) (.inl q) S.cell)
          · exact .inl (comp_kind (X := X) (s3 := s3) (.inr q) S.cell)
        have hfr : (z, NameKind.free) ∈ scope.names := by
          rcases hf with q | q
          · exact q
          · rcases relabel_lookup (scope := scope) (env := X.env) q with q | ⟨e, _⟩
            · rcases S.only _ (lookup_mem q) rfl with e | e
              · exact absurd e hz
              · exact absurd (List.mem_of_getElem? hN) e
            · cases e
        have hnl : (relabel scope X.env).names.lookup z ≠ some .local := fun q => by
          rcases relabel_lookup (scope := scope) (env := X.env) q with q | ⟨e, _⟩
          · rcases S.only _ (lookup_mem q) rfl with e | e
            · exact absurd e hz
            · exact absurd (List.mem_of_getElem? hN) e
          · cases e
        have hk := S.fre _ hfr rfl
        obtain ⟨m0, hn0, hl0⟩ := I.loc
        obtain ⟨u, r, l⟩ := hl0 i z v hN h2' (hk.elim (fun q => .inr (.inl q)) fun q => .inr (.inr q))
        refine ⟨u, r, .inr ⟨?_, ?_⟩⟩
        · rcases h3 with q | q | q
          · exact absurd q hnl
          · exact .inl q
          · exact .inr q
        · rcases l with ⟨k, _⟩ | ⟨_, c, e, hc⟩
          · have k' : X.env.scope.names.lookup z = some .local := k
            rcases hk with q | q <;> (rw [show List.lookup z X.env.scope.names = _ from k'] at q; cases q)
          · obtain ⟨c', e'⟩ := closOf_keeps (cells := X.env.cells) scope.names [] (.inr hfr)
            have := (clos_cell I.ok S e').2
            rw [e] at this; cases this
            obtain ⟨o, ho, hd⟩ := hc
            exact ⟨c, e', o, kk _ _ ho, hd⟩
  · obtain ⟨v, o, ho, hd⟩ := I.cell y c (clos_cell I.ok S h).2
    exact ⟨v, o, kk _ _ ho, hd⟩
  · have hp' : p ∈ X.pn ++ pins := by simpa [Cx.comp] using hp
    obtain ⟨a, b, c, d, e⟩ := I.pin p hp'
    refine ⟨kk _ _ a, b, Nat.ne_of_lt (Heap.lt_size a), fun z => ?_, e⟩
    rcases List.mem_cons.mp (I.stkSub _ z) with q | q
    · exact c q
    · exact d q
  · show (none :: σ).length = (x :: X.N.map fun y => if y = x then ("" : Str) else y).length
    rw [List.length_cons, List.length_cons, List.length_map, I.len]
end
end L2
set_option Elab.async false
set_option linter.all false
set_option maxRecDepth 100000
namespace L2
open PySem PySem.Spec PyProof.Rows
theorem fly_unX {P : Program} {w : World} {l : List Env} {ex : List Addr} {H H' : Hp} {h0 h h2 B : Heap} (un : Un (frs l) ex H H' h0 h) (hok : HOk P w H' h) (fr : h.FunFrames B l)
    (tr : ∀ b u o, H' b = some u → h.get? b = some o → B.get? b = some o) (kp : ∀ b o o', h0.get? b = some o → h.get? b = some o' → b ∉ frs l → b ∉ ex → B.get? b = some o') (st : B.StaysIn h2)
    (sm : ∀ b ∈ frs l, ∀ o, h.get? b = some o → (∀ vs, o.data ≠ .fields vs) → ∃ sl, h2.get? b = some { o with slots := sl }) : Un (frs l) ex H H' h0 h2 ∧ HOk P w H' h2 := by
  refine ⟨⟨fun b o q n hb hx => ?_, fun b o q n hb hx => ?_, un.free, fun b o q hx => ?_, un.tups, un.frzs, un.tbls⟩, fun a o e => ?_⟩
  · exact st b o (kp b o o q (un.keep b o q n hb hx) hb hx)
  · obtain ⟨sl, e⟩ := un.slot b o q n hb hx
    obtain ⟨_, o', ho', hd⟩ := fr.mem hb
    rw [e] at ho'; cases ho'
    obtain ⟨sl', e'⟩ := sm b hb _ e hd
    exact ⟨sl', e'⟩
  · obtain ⟨o', e⟩ := un.there b o q hx
    by_cases hb : b ∈ frs l
    · obtain ⟨_, o2, ho2, hd⟩ := fr.mem hb
      obtain ⟨sl', e'⟩ := sm b hb _ ho2 hd
      exact ⟨_, e'⟩
    · exact ⟨o', st b o' (kp b o o' q e hb hx)⟩
  · refine (hok a o e).stay (fun b u hb q => ?_) (fun _ q => q) fun _ _ q => q
    rcases hb with rfl | hb
    · exact st b u (tr b _ u e q)
    · exact st b u (tr b _ u hb q)
/-- an exception that this frame has noted already -/
def HXR (X : Cx) (E : XK) : Value → Shared → Prop := fun e s'' => ∃ (pins : List (Addr × Obj)) (σ : St) (H' : Hp) (ea : Addr) (cls a0 : Value) (B : Heap), Inv X pins σ H' s'' ∧ e = .ref ea ∧ X.s₀.heap.get? ea = none ∧ Heap.HeldW B X.stack ea cls a0 X.env.locals s''.heap ∧
  (∀ b u o, H' b = some u → s''.heap.get? b = some o → B.get? b = some o) ∧ (∀ b o o', X.s₀.heap.get? b = some o → s''.heap.get? b = some o' → b ∉ frs X.stack → B.get? b = some o') ∧ E cls none H'
section
variable {P : Program} {w : World} {K : PySem.W.Frag} {mg : Str → Option Value} {base : Heap} {N : List Str} {qual : Str} {scope : Scope} {f : Addr} {cd : Value} {A : Around} {outer : List Env} {s : Shared} {H : Hp} {E : XK}
theorem passH : ∀ e s', HXR (cxR P w K mg base N qual scope f cd A outer s H E) E e s' → (cxR P w K mg base N qual scope f cd A outer s H E).xe e s' := by
  rintro e s' ⟨pins, σ, H', ea, cls, a0, B, I, rfl, new, hh, tr, kp, hE⟩
  have hfs : frs (envOfC qual scope s.heap.objs.size f cd :: outer) = s.heap.objs.size :: frs outer := frs_cons rfl
  have hL : s.heap.get? s.heap.objs.size = none := Heap.get?_none_of_le (Nat.le_refl _)
  have sub : ∀ x ∈ frs (envOfC qual scope s.heap.objs.size f cd :: outer), x = s.heap.objs.size ∨ x ∈ frs outer := fun x hx => by rw [hfs] at hx; exact List.mem_cons.mp hx
  show wpAny _ _ (leaving _ _) _ _ s'
  unfold leaving
  refine wpAny_bind (wpAny_noteFrame_againW (L := s.heap.objs.size) rfl hh.2.2.2 ?_)
  refine wpAny_landsW hh fun h2 hfl2 sm => ?_
  have fr : s'.heap.FunFrames B outer := hh.2.2.1.2.2
  have kp' : ∀ b o o', s.heap.get? b = some o → s'.heap.get? b = some o' → b ∉ frs outer → B.get? b = some o' := fun b o o' q q' hb => kp b o o' q q' fun z => (sub b z).elim (fun e => by rw [e, hL] at q; cases q) hb
  obtain ⟨un2, hok2⟩ := fly_un (l := outer) I.base I.hok fr tr kp' hfl2.1 sm
  obtain ⟨k1, k2, ⟨_, _, k3⟩, k4⟩ := hfl2
  refine ⟨H', ea, cls, rfl, I.os, I.bare, ⟨un2, hok2, new, B, a0, ⟨k1, k2, k3, k4⟩, fun b u o e q => ?_, fun b o o2 q q2 hb => ?_⟩, hE⟩
  · obtain ⟨o', e'⟩ := (I.hok b u e).there
    have h1 := tr b u o' e e'
    have h2' := k1 b o' h1
    rw [q] at h2'; cases h2'; exact h1
  · obtain ⟨o1, e1⟩ := I.base.there b o q (by intro z; cases z)
    have h1 := kp' b o o1 q e1 hb
    have h2' := k1 b o1 h1
    rw [q2] at h2'; cases h2'; exact h1
end
theorem funFrames_same {C : Addr} {h h' base : Heap} (hs : Heap.SameBut C h h') : ∀ {l : List Env}, (∀ b ∈ frs l, b ≠ C) → h.FunFrames base l → h'.FunFrames base l
  | [], _, _ => trivial
  | env :: l, hc, ⟨hk, ⟨L, o, hf, hn, ho, hd⟩, hr⟩ => ⟨hk, ⟨L, o, hf, hn, (hs.2 L (hc L (by rw [frs_cons hf]; exact List.mem_cons_self))).trans ho, hd⟩, funFrames_same hs (fun b hb => hc b (by rw [frs_cons hf]; exact List.mem_cons_of_mem _ hb)) hr⟩
theorem setFlight_held {M : Model} {A : Around} {E : Value → Shared → Prop} {s : Shared} {base : Heap} {l : List Env} {e L : Addr} {cls a0 : Value} {Q : Unit → Shared → Prop} (R : Heap.HeldW base l e cls a0 L s.heap)
    (h : ∀ h', Heap.HeldW base l e cls a0 L h' → s.heap.UpToSlots h' → Q () { s with heap := h' }) : wpAny M A (setFlight (.ref e) (some L)) Q E s := by
  obtain ⟨hkb, hen, hl, oe, vs, T, oT, ts, he, hcls, hd, h1, hnT, hTe, hT, hdT, h3⟩ := R
  have hsz3 : 3 < ts.size := (Array.getElem?_eq_some_iff.mp h3).1
  have other : ∀ b, b ≠ T → (s.heap.update T (Obj.mapFields (·.setIfInBounds 3 ((some L).elim Value.none fun f => rawInt f)))).get? b = s.heap.get? b :=
    fun b hb => Heap.get?_update_other _ _ (Ne.symm hb)
  have noRecord : ∀ b o, s.heap.get? b = some o → (∀ vs, o.data ≠ .fields vs) → b ≠ T := fun b o hb hnf q => by
    rw [q, hT] at hb; injection hb with hb; subst hb; exact hnf ts hdT
  unfold setFlight
  refine wpAny_bind (wpAny_field he hd h1 ?_)
  rw [if_pos (show (Value.ref T != Value.none) = true from by simp)]
  refine wpAny_setField hT hdT hsz3 (h _ ⟨fun b o hbo => (other b fun q => by rw [q, hnT] at hbo; cases hbo).trans (hkb b o hbo), hen,
    hl.of_keeps fun b o hb hnf => ⟨o, (other b (noRecord b o hb hnf)).trans hb, rfl⟩, ?_⟩ fun b o hb hnf => ⟨o.slots, (other b (noRecord b o hb hnf)).trans hb⟩)
  exact ⟨oe, vs, T, _, _, (other e (Ne.symm hTe)).trans he, hcls, hd, h1, hnT, hTe, Heap.get?_update_self _ hT (Obj.isFreed_of_fields (Obj.data_mapFields hdT _)), Obj.data_mapFields hdT _, by simp [hsz3]⟩
theorem passOn_held {α : Type} {M : Model} {A : Around} {E : Value → Shared → Prop} {s : Shared} {base : Heap} {l : List Env} {e L : Addr} {cls a0 : Value} {what : String} {env : Env} {Q : α → Shared → Prop} (hf : env.frame = some L) (R : Heap.HeldW base l e cls a0 L s.heap)
    (h : ∀ h', Heap.HeldW base l e cls a0 L h' → s.heap.UpToSlots h' → E (.ref e) { s with heap := h' }) : wpAny M A (PySem.passOn what (.ref e) env : Sem α) Q E s := by
  obtain ⟨_, _, _, oe, vs, T, oT, ts, he, hcls, hd, h1, _⟩ := id R
  unfold PySem.passOn
  refine wpAny_bind (wpAny_field he hd h1 ?_)
  rw [if_neg (show ¬ ((Value.ref T == Value.none) = true) from by simp), hf]
  first
    | exact wpAny_bind (wpAny_pure (wpAny_bind (setFlight_held R fun h' hh hs => wpAny_throw (h h' hh hs))))
    | exact wpAny_bind (setFlight_held R fun h' hh hs => wpAny_throw (h h' hh hs))
/-- the record where the block keeps its names turns: what is held stays so, over a base without it -/
theorem held_same {C L e : Addr} {h h' B : Heap} {l : List Env} {cls a0 : Value} {m : Str → Option Value} (R : Heap.HeldW B l e cls a0 L h) (hn : h.Ns C m) (hc : ∀ b ∈ frs l, b ≠ C) (hs : Heap.SameBut C h h') : Heap.HeldW (PySem.W.hideAll B [C]) l e cls a0 L h' := by
  have hB : (PySem.W.hideAll B [C]).StaysIn B := fun b o q => PySem.W.of_hideAll _ q
  obtain ⟨f1, f2, f3, oe, vs, T, oT, ts, a1, a2, a3, a4, a5, a6, a7, a8, a9⟩ := PySem.W.heldW_base hB R
  obtain ⟨oC, es, ep, hoC, hdC, _⟩ := hn
  have ne : e ≠ C := fun z => by rw [z, hoC] at a1; cases a1; rw [hdC] at a3; cases a3
  have nT : T ≠ C := fun z => by rw [z, hoC] at a7; cases a7; rw [hdC] at a8; cases a8
  refine ⟨fun b o q => ?_, f2, funFrames_same hs hc f3, oe, vs, T, oT, ts, (hs.2 e ne).trans a1, a2, a3, a4, a5, a6, (hs.2 T nT).trans a7, a8, a9⟩
  have nb : b ≠ C := fun z => by rw [z, PySem.W.hideAll_none _ (by simp)] at q; cases q
  exact (hs.2 b nb).trans (f1 b o q)
section
variable {X : Cx} {pins : List (Addr × Obj)} {σ : St} {H3 : Hp} {s3 : Shared} {scope : Scope} {x : Str} {fp : List Addr}
/-- the block's own wish of exceptions -/
abbrev XC (Xb : Cx) (E : XK) : Value → Shared → Prop := fun e s' => ∃ (pins' : List (Addr × Obj)) (σ' : St) (H1 : Hp) (s1 : Shared), Inv Xb pins' σ' H1 s1 ∧ CXR Xb.prog Xb.w Xb.stack H1 s1 E e s'
theorem passC {Xb : Cx} {E : XK} : Passes (CXR Xb.prog Xb.w) (Xb.wish (XC Xb E)) E := fun pins' σ' H1 s1 e s' I h => ⟨pins', σ', H1, s1, I.unwish, h⟩
theorem noteFrame_eq {e : Value} {env env' : Env} (h : env.frame = env'.frame) : noteFrame e env = noteFrame e env' := by
  unfold noteFrame PySem.frameOf
  rw [h]
/-- what leaves the block leaves the def -/
theorem comp_raised {E : XK} {Q : Value → Shared → Prop} {use : Option (Value → Sem Unit)} {acc : Value} {cenv : Env} {e : Value} {s' : Shared} (hst : X.stack = X.env :: X.outer) (hf : X.env.frame = some X.env.locals) (hex : X.ex = []) (I : Inv X pins σ H3 s3)
    (hfp : ∀ b ∈ fp, FpOk X pins H3 b) (hxh : ∀ e s, HXR X E e s → X.xe e s) (hcf : cenv.frame = X.env.frame) (hcl : cenv.locals = s3.heap.objs.size) (h : XC (X.comp scope x pins fp s3 H3 fun _ _ => False) E e s') :
    notedBy (model X.prog X.w) X.A cenv (fun x s'' => compPostX (model X.prog X.w) X.A X.xe use Q acc cenv (.error x) s'') e s' := by
  obtain ⟨pins', σ', H1, s1, Ib, H', ea, cls, rfl, os, bare, fl, hE⟩ := h
  have fl : FlyAt X.prog X.w X.stack H1 s1.heap H' s'.heap ea cls := fl
  have osb : s1.os = s3.os := Ib.os
  have unb : Un (frs X.stack) fp H3 H1 s3.heap s1.heap := Ib.base
  obtain ⟨B, a0, hfl, tr, kp⟩ := fl.fly
  have fr := hfl.2.2.1
  have hfl' : Heap.FlyingW B (X.env :: X.outer) ea cls a0 s'.heap := by rw [← hst]; exact hfl
  have nfr : ∀ b ∈ frs X.stack, b ≠ s3.heap.objs.size := fun b hb z => by
    obtain ⟨_, o, ho, _⟩ := I.stack.mem hb
    exact absurd (Heap.lt_size ho) (by rw [z]; exact Nat.lt_irrefl _)
  show wpAny _ _ (noteFrame _ cenv) _ _ _
  rw [noteFrame_eq hcf]
  refine wpAny_looks_onW (by rw [I.ok.frames, hst]) hf hfl' fun h4 hh4 sm4 => ?_
  obtain ⟨m1, hn1, _⟩ := Ib.loc
  have hn1 : s1.heap.Ns s3.heap.objs.size m1 := hn1
  obtain ⟨un4, hok4⟩ := fly_un fl.un fl.hok fr tr kp hh4.1 sm4
  have hC1 : H1 s3.heap.objs.size = none := Ib.free
  have hC' : H' s3.heap.objs.size = none := by
    obtain ⟨o, _, _, ho, _⟩ := hn1
    exact fl.un.free _ o ho hC1 (by intro z; cases z)
  have hn4 : h4.Ns s3.heap.objs.size m1 := hn1.at' fun o ho => un4.keep _ o ho hC1 (fun z => nfr _ z rfl) (by intro z; cases z)
  refine ⟨m1, by rw [hcl]; exact hn4, fun h' hs' => ?_⟩
  rw [hcl] at hs'
  have hh' : Heap.HeldW (PySem.W.hideAll B [s3.heap.objs.size]) X.stack ea cls a0 X.env.locals h' := held_same (by rw [hst]; exact hh4) hn4 nfr hs'
  refine passOn_held (s := { s' with heap := h' }) (hcf.trans hf) hh' fun h2 hh2 sm2 => ?_
  have hB : ∀ b o, B.get? b = some o → b ≠ s3.heap.objs.size → (PySem.W.hideAll B [s3.heap.objs.size]).get? b = some o := fun b o q n => PySem.W.hideAll_get _ q (by simpa using n)
  have tr' : ∀ b u o, H' b = some u → s'.heap.get? b = some o → (PySem.W.hideAll B [s3.heap.objs.size]).get? b = some o := fun b u o q qo => hB b o (tr b u o q qo) fun z => by rw [z, hC'] at q; cases q
  have kp' : ∀ b o o', s3.heap.get? b = some o → s'.heap.get? b = some o' → b ∉ frs X.stack → b ∉ fp → (PySem.W.hideAll B [s3.heap.objs.size]).get? b = some o' := fun b o o' q q' hb hx => by
    obtain ⟨o1, e1⟩ := unb.there b o q hx
    exact hB b o' (kp b o1 o' e1 q' hb) (Nat.ne_of_lt (Heap.lt_size q))
  have fr' : s'.heap.FunFrames (PySem.W.hideAll B [s3.heap.objs.size]) X.stack := PySem.W.funFrames_base (fun b o q => PySem.W.of_hideAll _ q) fr
  have sm' : ∀ b ∈ frs X.stack, ∀ o, s'.heap.get? b = some o → (∀ vs, o.data ≠ .fields vs) → ∃ sl, h2.get? b = some { o with slots := sl } := fun b hb o q hd => by
    obtain ⟨sl, e⟩ := sm4 b o q hd
    have e' : h'.get? b = some { o with slots := sl } := (hs'.2 b (nfr b hb)).trans e
    obtain ⟨sl2, e2⟩ := sm2 b _ e' hd
    exact ⟨sl2, e2⟩
  have unA : Un (frs X.stack) fp H3 H' s3.heap s'.heap := unb.trans (fl.un.mono (fun _ z => z) (fun _ z => nomatch z))
  obtain ⟨un2, hok2⟩ := fly_unX unA fl.hok fr' tr' kp' hh2.1 sm'
  have I2 : Inv X pins σ H' { s' with heap := h2 } := I.call' (s' := { s' with heap := h2 }) (ch := fp) (os.trans osb) un2 hok2 bare fun b hb => ⟨(hfp b hb).2.2.2.1, (hfp b hb).2.1, (hfp b hb).2.2.2.2.1, (hfp b hb).2.2.2.2.2⟩
  have nx : ∀ b o, X.s₀.heap.get? b = some o → b ∉ fp := fun b o q z => by
    rcases (hfp b z).2.2.2.1 with y | y
    · rw [hex] at y; cases y
    · exact absurd (Nat.lt_of_lt_of_le (Heap.lt_size q) y) (Nat.lt_irrefl _)
  have in3 : ∀ b o, X.s₀.heap.get? b = some o → ∃ o', s3.heap.get? b = some o' := fun b o q => I.base.there b o q (by rw [hex]; intro z; cases z)
  refine hxh _ _ ⟨pins, σ, H', ea, cls, a0, _, I2, rfl, ?_, hh2, fun b u o q qo => ?_, fun b o o2 q q2 hb => ?_, hE⟩
  · cases q : X.s₀.heap.get? ea with
    | none => rfl
    | some o =>
      obtain ⟨o3, e3⟩ := in3 ea o q
      obtain ⟨o1, e1⟩ := unb.there ea o3 e3 (nx ea o q)
      rw [fl.new] at e1; cases e1
  · obtain ⟨o', e'⟩ := (fl.hok b u q).there
    have h1 := tr' b u o' q e'
    have h2' := hh2.1 b o' h1
    rw [qo] at h2'; cases h2'; exact h1
  · obtain ⟨o3, e3⟩ := in3 b o q
    obtain ⟨o1, e1⟩ := unA.there b o3 e3 (nx b o q)
    have h1 := kp' b o3 o1 e3 e1 hb (nx b o q)
    have h2' := hh2.1 b o1 h1
    rw [q2] at h2'; cases h2'; exact h1
end
end L2
namespace L2
open PySem PySem.Spec PyProof.Rows
/-- [elt for x in .. if ..]: p the new list, W the invariant by the turn, a measure, what is gathered -/
def tComp (wi : TI) (tt : TT) (te : TE) : TE := fun σ H Q => wi σ H fun J H1 => ∀ p, H1 p = none → ∃ W : Nat → Nat → List V → Hp → Prop, (∃ m, W 0 m [] (upd H1 p (.lst []))) ∧ ∀ i m acc H2, W i m acc H2 →
  H2 p = some (.lst acc) ∧ ((J.stop i H2 ∧ Q (.ref p) H2) ∨ (J.go i H2 ∧ ∃ N : List V → Hp → Prop, (∀ acc' H', N acc' H' → ∃ m', m' < m ∧ W (i + 1) m' acc' H') ∧ ∀ x H3, J.yld i H2 x H3 → tt (some x :: σ) H3 fun b H4 =>
    if b = true then te (some x :: σ) H4 fun v H5 => H5 p = some (.lst acc) ∧ acc.length < sizeLine ∧ N (acc ++ [v]) (upd H5 p (.lst (acc ++ [v]))) else N acc H4))
def tYes : TT := fun _ H Q => Q true H
/-- the tests of a comprehension -/
def PTs (X : Cx) (ifs : List Expr) (t : TT) : Prop :=
  ∀ (pins : List (Addr × Obj)) (s : Shared) (σ : St) (H : Hp) (Q : Bool → Hp → Prop), Inv X pins σ H s → t σ H Q → wpAny (model X.prog X.w) X.A (forIn ifs true fun c r => if r = true then do let ok ← isTrue c X.env (eval c X.env); pure (ForInStep.yield ok) else pure (ForInStep.yield r)) (TP X pins σ Q) X.xe s
theorem pts_nil {X : Cx} : PTs X [] tYes := fun pins s σ H Q I h => wpAny_tests_nil ⟨H, I, h⟩
section
variable {X : Cx} {pins : List (Addr × Obj)} {σ : St} {H3 : Hp} {s3 : Shared} {scope : Scope} {x : Str} {fp : List Addr}
theorem comp_fp {E : Value → Shared → Prop} {H' : Hp} (I : Inv X pins σ H3 s3) (S : CompSc scope X.env.scope x X.N) (hfp : ∀ b ∈ fp, FpOk X pins H3 b) (hfo : ∀ b ∈ fp, ∃ o, s3.heap.get? b = some o) (hn : ∀ b ∈ fp, H' b = none) : ∀ b ∈ fp, FpOk (X.comp scope x pins fp s3 H3 E) [] H' b := fun b hb => by
  obtain ⟨o, e⟩ := hfo b hb
  refine ⟨hn b hb, Nat.ne_of_lt (Heap.lt_size e), fun z => ?_, .inl hb, fun y c h => (hfp b hb).2.2.2.2.1 y c (clos_cell I.ok S h).2, fun p hp => (hfp b hb).2.2.2.2.2 p (by simpa [Cx.comp] using hp)⟩
  rcases List.mem_cons.mp (I.stkSub b z) with q | q
  · exact (hfp b hb).2.1 q
  · exact (hfp b hb).2.2.1 q
/-- the block is left: the def's own state -/
theorem comp_left {E : Value → Shared → Prop} {pins' : List (Addr × Obj)} {σ' : St} {H' : Hp} {s' : Shared} (I : Inv X pins σ H3 s3) (hfp : ∀ b ∈ fp, FpOk X pins H3 b) (J : Inv (X.comp scope x pins fp s3 H3 E) pins' σ' H' s') : Inv X pins σ H' s' :=
  I.call' (ch := fp) J.os J.base J.hok J.bare fun b hb => ⟨(hfp b hb).2.2.2.1, (hfp b hb).2.1, (hfp b hb).2.2.2.2.1, (hfp b hb).2.2.2.2.2⟩
theorem comp_turned {E : Value → Shared → Prop} {H' : Hp} {σ'' : St} {s' s'' : Shared} {h' : Heap} (I : Inv X pins σ H3 s3) (J : Inv X pins σ'' H' s'') (hC : H' s3.heap.objs.size = none) (hs : Heap.SameBut s3.heap.objs.size s''.heap h') : Inv X pins σ'' H' { s'' with heap := h' } := by
  refine J.turned (t' := s''.toks) (fun b o hb e => (hs.2 b hb).trans e) hC (Nat.ne_of_gt I.lt) (.inr I.sz) (fun y c e z => ?_) fun p hp z => ?_
  · obtain ⟨v, q⟩ := I.cell y c e
    exact absurd q.lt (by rw [z]; exact Nat.lt_irrefl _)
  · exact absurd (Heap.lt_size (I.pin p hp).1) (by rw [z]; exact Nat.lt_irrefl _)
theorem compLoop_any {prog : Program} {w : World} {A : Around} {R : Result → Shared → Prop} {s : Shared} {elt target iter : Expr} {ifs : List Expr} {scope : Scope} {pos : Pos} {it acc : Value} {env : Env} (I : Nat → Shared → Prop)
    (turn : ∀ n s, I n s → wpAny (model prog w) A (pyNext it) (fun r s₁ => match r with
      | none => R (.ok .next) s₁
      | some v => wpAny (model prog w) A (letOwnedTupleGo target it v) (fun _ s₁' => wpAny (model prog w) A (assign target env v) (fun _ s₂ =>
          wpAny (model prog w) A (forIn ifs true fun c r => if r = true then do let ok ← isTrue c env (eval c env); pure (ForInStep.yield ok) else pure (ForInStep.yield r)) (fun ok s₃ =>
            if ok = true then wpAny (model prog w) A (eval elt env) (fun x s₄ =>
              wpAny (model prog w) A (call (.builtin "list.append") [acc, x]) (fun _ s₅ => ∃ m, m < n ∧ I m s₅) (notedBy (model prog w) A env fun e s' => R (.error e) s') s₄) (notedBy (model prog w) A env fun e s' => R (.error e) s') s₃
            else ∃ m, m < n ∧ I m s₃) (notedBy (model prog w) A env fun e s' => R (.error e) s') s₂) (notedBy (model prog w) A env fun e s' => R (.error e) s') s₁') (notedBy (model prog w) A env fun e s' => R (.error e) s') s₁) (notedBy (model prog w) A env fun e s' => R (.error e) s') s)
    (n : Nat) (h : I n s) :
    codeAny (model prog w) A (.compLoop (.ListComp elt [⟨target, iter, ifs, 0⟩] scope pos) 0 it acc env) R s := by
  refine codeAny_loop rfl I (fun n s hI => ?_) n h
  show wpAny _ A ((compTurn (.ListComp elt [⟨target, iter, ifs, 0⟩] scope pos) 0 it acc env).onRaise (fun x => do noteFrame x env; theTreesLotGoes x)) _ _ s
  refine wpAny_noted ?_
  rw [compTurn_list]
  refine wpAny_bind (wpAny_standAt (wpAny_bind (wpAny_mono (turn n s hI) (fun r s₁ h₁ => ?_) fun _ _ h' => h')))
  cases r with
  | none => exact wpAny_pure h₁
  | some v =>
    refine wpAny_bind (wpAny_mono h₁ (fun _ s₁' h₁' => ?_) fun _ _ h' => h')
    refine wpAny_bind (wpAny_mono h₁' (fun _ s₂ h₂ => wpAny_bind (wpAny_mono h₂ (fun ok s₃ h₃ => ?_) fun _ _ h' => h')) fun _ _ h' => h')
    cases ok with
    | false => exact wpAny_pure ⟨rfl, h₃⟩
    | true =>
      exact wpAny_bind (wpAny_bind (wpAny_mono h₃ (fun x s₄ h₄ => wpAny_bind (wpAny_mono h₄ (fun _ s₅ h₅ => wpAny_pure (wpAny_pure ⟨rfl, h₅⟩)) fun _ _ h' => h')) fun _ _ h' => h'))
/-- the whole block, over any end -/
theorem comp_block {E : XK} {use : Option (Value → Sem Unit)} {QQ : Value → Shared → Prop} {elt iter : Expr} {px : Pos} {ifs : List Expr} {pos : Pos} {tt : TT} {te : TE} {it : Addr} {tn : Nat → Heap → Prop} {J : It} {Q : VK} {H2 : Hp} {s2 : Shared}
    (hc : X.calm = true) (hst : X.stack = X.env :: X.outer) (hf : X.env.frame = some X.env.locals) (hex : X.ex = []) (hxh : ∀ e s, HXR X E e s → X.xe e s) (S : CompSc scope X.env.scope x X.N)
    (ht : ∀ (pins : List (Addr × Obj)) (fp : List Addr) (s3 : Shared) (H3 : Hp), PTs ((X.comp scope x pins fp s3 H3 fun _ _ => False).wish (XC (X.comp scope x pins fp s3 H3 fun _ _ => False) E)) ifs tt)
    (he : ∀ (pins : List (Addr × Obj)) (fp : List Addr) (s3 : Shared) (H3 : Hp), PE ((X.comp scope x pins fp s3 H3 fun _ _ => False).wish (XC (X.comp scope x pins fp s3 H3 fun _ _ => False) E)) elt te)
    (I2 : Inv X pins σ H2 s2) (T : Turn X.prog X.w X.K (.Name x px) J fp it tn) (st2 : tn 0 s2.heap) (f2 : ∀ b ∈ fp, FpOk X pins H2 b)
    (h : ∀ p, H2 p = none → ∃ W : Nat → Nat → List V → Hp → Prop, (∃ m, W 0 m [] (upd H2 p (.lst []))) ∧ ∀ i m acc H2, W i m acc H2 →
      H2 p = some (.lst acc) ∧ ((J.stop i H2 ∧ Q (.ref p) H2) ∨ (J.go i H2 ∧ ∃ N : List V → Hp → Prop, (∀ acc' H', N acc' H' → ∃ m', m' < m ∧ W (i + 1) m' acc' H') ∧ ∀ x H3, J.yld i H2 x H3 → tt (some x :: σ) H3 fun b H4 =>
        if b = true then te (some x :: σ) H4 fun v H5 => H5 p = some (.lst acc) ∧ acc.length < sizeLine ∧ N (acc ++ [v]) (upd H5 p (.lst (acc ++ [v]))) else N acc H4)))
    (fin : ∀ (s3 : Shared) (H3 : Hp) (p : Addr) (s' : Shared) (H' : Hp) (m : Str → Option Value), Inv X pins σ H3 s3 → Inv X pins σ H' s' → H' s3.heap.objs.size = none → s'.heap.Ns s3.heap.objs.size m → Q (.ref p) H' → ∀ cenv : Env, cenv.locals = s3.heap.objs.size → compPostX (model X.prog X.w) X.A X.xe use QQ (.ref p) cenv (.ok .next) s') :
    wpAny (model X.prog X.w) X.A (newList []) (fun acc s₃ => wpAny (model X.prog X.w) X.A (newFunctionEnv scope X.env.globals (closOf X.env.cells scope.names []) [] X.env.qual none .none (some X.env)) (fun cenv s₄ =>
      codeAny (model X.prog X.w) X.A (.compStart (.ListComp elt [⟨.Name x px, iter, ifs, 0⟩] scope pos) 0 (.ref it) acc { cenv with scope := relabel scope X.env }) (compPostX (model X.prog X.w) X.A X.xe use QQ acc { cenv with scope := relabel scope X.env }) s₄) X.xe s₃) X.xe s2 := by
  have hp : H2 s2.heap.objs.size = none := I2.hok.fresh (Nat.le_refl _)
  obtain ⟨W, ⟨m0, w0⟩, turn⟩ := h _ hp
  refine wpAny_newObj_type (wpAny_newFunctionEnv S.cell (by intro y hy; simp at hy) (fun h₁ hns₁ hsb₁ => ?_) S.kind)
  generalize hs3 : ({ s2 with heap := s2.heap.push { cls := .type "list", dict := none, data := .seq ([] : List Value).toArray } } : Shared) = s3
  have eh3 : s3.heap = s2.heap.push { cls := .type "list", dict := none, data := .seq ([] : List Value).toArray } := by rw [← hs3]
  have I3 : Inv X pins σ (upd H2 s2.heap.objs.size (.lst [])) s3 := by
    rw [← hs3]
    exact I2.laid (t' := s2.toks) (fun b o e => Heap.get?_push_of_some _ e) (Nat.le_refl _) ⟨by show 0 ≤ sizeLine; exact Nat.zero_le _, [], 0, .nil, Heap.get?_push_size _ rfl⟩
  have f3 : ∀ b ∈ fp, FpOk X pins (upd H2 s2.heap.objs.size (.lst [])) b := fun b hb => ⟨by
    obtain ⟨o, e, _⟩ := T.obj _ _ st2 b hb
    rw [upd_ne (Nat.ne_of_lt (Heap.lt_size e))]; exact (f2 b hb).1, (f2 b hb).2⟩
  have o3 : ∀ b ∈ fp, ∃ o, s3.heap.get? b = some o := fun b hb => by
    obtain ⟨o, e, _⟩ := T.obj _ _ st2 b hb
    exact ⟨o, by rw [eh3]; exact Heap.get?_push_of_some _ e⟩
  have hns₁ : h₁.Ns s3.heap.objs.size (fun x => ([] : List (Str × Value)).reverse.lookup x) := by rw [eh3]; exact hns₁
  have kk : ∀ b o, s3.heap.get? b = some o → h₁.get? b = some o := fun b o e => hsb₁.extBut b o (by
    have := Heap.lt_size e
    rw [eh3] at this
    exact Nat.ne_of_lt this) (Heap.get?_push_of_some _ (by rw [← eh3]; exact e))
  generalize hs4 : ({ s3 with heap := h₁, toks := s3.toks + ([] : List (Str × Value)).length } : Shared) = s4
  have eh4 : s4.heap = h₁ := by rw [← hs4]
  have I4 : Inv (X.comp scope x pins fp s3 (upd H2 s2.heap.objs.size (.lst [])) fun _ _ => False) [] (none :: σ) (upd H2 s2.heap.objs.size (.lst [])) s4 := comp_start I3 S f3 o3 (by rw [eh4]; exact hns₁) (by rw [eh4]; exact kk) (by rw [← hs4]) (by rw [← hs4]; exact I3.bare)
  have st4 : tn 0 s4.heap := T.keep _ _ _ st2 fun b hb o e => by rw [eh4]; exact kk b o (by rw [eh3]; exact Heap.get?_push_of_some _ e)
  have loop : codeAny (model X.prog X.w) X.A (.compLoop (.ListComp elt [⟨.Name x px, iter, ifs, 0⟩] scope pos) 0 (.ref it) (.ref s2.heap.objs.size) (compEnvC scope (closOf X.env.cells scope.names []) s3.heap.objs.size X.env))
      (compPostX (model X.prog X.w) X.A X.xe use QQ (.ref s2.heap.objs.size) (compEnvC scope (closOf X.env.cells scope.names []) s3.heap.objs.size X.env)) s4 := by
    have raised : ∀ e s', XC (X.comp scope x pins fp s3 (upd H2 s2.heap.objs.size (.lst [])) fun _ _ => False) E e s' → notedBy (model X.prog X.w) X.A (compEnvC scope (closOf X.env.cells scope.names []) s3.heap.objs.size X.env) (fun x s'' => compPostX (model X.prog X.w) X.A X.xe use QQ (.ref s2.heap.objs.size) (compEnvC scope (closOf X.env.cells scope.names []) s3.heap.objs.size X.env) (.error x) s'') e s' :=
      fun e s' h => comp_raised hst hf hex I3 f3 hxh rfl rfl h
    refine compLoop_any (fun n s' => ∃ i acc H' v0, Inv (X.comp scope x pins fp s3 (upd H2 s2.heap.objs.size (.lst [])) fun _ _ => False) [] (v0 :: σ) H' s' ∧ tn i s'.heap ∧ (∀ b ∈ fp, H' b = none) ∧ W i n acc H') ?_ m0 ⟨0, [], _, none, I4, st4, fun b hb => (f3 b hb).1, w0⟩
    rintro n s5 ⟨i, acc, H5, v0, I5, st5, fr5, w5⟩
    obtain ⟨hacc, hh⟩ := turn i n acc H5 w5
    rcases hh with ⟨stop, q⟩ | ⟨go, N, hN, step⟩
    · refine thn (T.done (X.comp scope x pins fp s3 (upd H2 s2.heap.objs.size (.lst [])) fun _ _ => False) rfl rfl rfl hc i [] s5 _ H5 _ I5 (comp_fp I3 S f3 o3 fr5) st5 stop) fun r s6 ⟨hr, I6⟩ => ?_
      subst hr
      obtain ⟨m6, hn6, _⟩ := id I6.loc
      exact fin s3 _ _ s6 H5 m6 I3 (comp_left I3 f3 I6) I6.free hn6 q _ rfl
    · refine thn (T.item (X.comp scope x pins fp s3 (upd H2 s2.heap.objs.size (.lst [])) fun _ _ => False) rfl rfl rfl hc i [] s5 _ H5 _ I5 (comp_fp I3 S f3 o3 fr5) st5 go) fun r s6 ⟨u, hr, h6⟩ => ?_
      subst hr
      refine thn h6 fun _ s7 ⟨y, H7, I7, r7, y7, st7, fr7⟩ => ?_
      have I7' := I7.pinned (comp_fp I3 S f3 o3 fr7) (T.obj _ _ st7)
      have again : ∀ {n' : List V} {v1 : Option V} {H9 : Hp} {s9 : Shared}, Inv (X.comp scope x pins fp s3 (upd H2 s2.heap.objs.size (.lst [])) fun _ _ => False) ([] ++ pinsAt fp s7.heap) (v1 :: σ) H9 s9 → N n' H9 → ∃ m, m < n ∧ ∃ i acc H' v0, Inv (X.comp scope x pins fp s3 (upd H2 s2.heap.objs.size (.lst [])) fun _ _ => False) [] (v0 :: σ) H' s9 ∧ tn i s9.heap ∧ (∀ b ∈ fp, H' b = none) ∧ W i m acc H' := fun {n' v1 H9 s9} I9 n9 => by
        obtain ⟨m', hm, w9⟩ := hN n' H9 n9
        refine ⟨m', hm, i + 1, n', H9, v1, I9.unpinned, T.keep _ _ _ st7 fun b hb o e => (I9.pin (b, o) (List.mem_append_right _ (List.mem_append_right _ (mem_pinsAt hb e)))).1, fun b hb => ?_, w9⟩
        obtain ⟨o, e, d⟩ := T.obj _ _ st7 b hb
        exact (I9.pin (b, o) (List.mem_append_right _ (List.mem_append_right _ (mem_pinsAt hb e)))).2.1
      refine wpAny_assign_Name (store_ok (X := X.comp scope x pins fp s3 (upd H2 s2.heap.objs.size (.lst [])) fun _ _ => False) (i := 0) I7' S.nd rfl (Or.inl (lookup_relabel_local S.loc)) r7 (fun s8 I8 => ?_) (Or.inr (lookup_relabel_local S.loc)))
      refine wpAny_mono (ht pins fp s3 _ _ s8 _ H7 _ (I8.wish _) (step y H7 y7)) (fun ok s9 ⟨H9, I9, q9⟩ => ?_) raised
      cases ok with
      | false =>
        rw [if_neg Bool.false_ne_true]
        have q9' : N acc H9 := by simpa using q9
        exact again I9.unwish q9'
      | true =>
        rw [if_pos rfl]
        have q9' : te (some y :: σ) H9 (fun v H5 => H5 s2.heap.objs.size = some (.lst acc) ∧ acc.length < sizeLine ∧ N (acc ++ [v]) (upd H5 s2.heap.objs.size (.lst (acc ++ [v])))) := q9
        refine wpAny_mono (he pins fp s3 _ _ s9 _ H9 _ I9 q9') (fun u10 s10 ⟨v, H10, I10, r10, ha, hl, n10⟩ => ?_) raised
        refine wpAny_mono (mt_append (X := (X.comp scope x pins fp s3 (upd H2 s2.heap.objs.size (.lst [])) fun _ _ => False).wish (XC (X.comp scope x pins fp s3 (upd H2 s2.heap.objs.size (.lst [])) fun _ _ => False) E)) _ s10 _ H10 (.ref s2.heap.objs.size) [v] (.ref s2.heap.objs.size) [u10] (fun w H' => w = .non ∧ H' = upd H10 s2.heap.objs.size (.lst (acc ++ [v]))) I10 rfl (.cons r10 .nil) ⟨_, acc, v, rfl, rfl, ha, hl, rfl, rfl⟩) (fun u11 s11 ⟨v11, H11, I11, r11, q11, e11⟩ => ?_) raised
        rw [e11] at I11
        exact again I11.unwish n10
  exact codeAny_compStart_list loop (T.self _ 0 _ _ _ st4 loop)
end
section
variable {X : Cx} {scope : Scope} {x : Str} {E : XK} {elt iter : Expr} {px pos : Pos} {ifs : List Expr} {wi : TI} {tt : TT} {te : TE}
abbrev Cx.blk (X : Cx) (scope : Scope) (x : Str) (pins : List (Addr × Obj)) (fp : List Addr) (s3 : Shared) (H3 : Hp) (E : XK) : Cx := (X.comp scope x pins fp s3 H3 fun _ _ => False).wish (XC (X.comp scope x pins fp s3 H3 fun _ _ => False) E)
/-- [elt for x in iter if ..], a value -/
theorem pe_comp (hc : X.calm = true) (hst : X.stack = X.env :: X.outer) (hf : X.env.frame = some X.env.locals) (hex : X.ex = []) (hxh : ∀ e s, HXR X E e s → X.xe e s) (S : CompSc scope X.env.scope x X.N) (hi : PI X (.Name x px) iter wi)
    (ht : ∀ pins fp s3 H3, PTs (X.blk scope x pins fp s3 H3 E) ifs tt) (he : ∀ pins fp s3 H3, PE (X.blk scope x pins fp s3 H3 E) elt te) (hs : ∀ x, foldedSetIterable iter X.env x = pure x := by intro _; rfl) :
    PE X (.ListComp elt [⟨.Name x px, iter, ifs, 0⟩] scope pos) (tComp wi tt te) := by
  intro pins s σ H Q I h
  rw [eval_ListComp]
  refine wpAny_comprehensionX (use := none) rfl hs (closureFor_eq fun y hy e => I.ok.has y.1 (S.fre y hy e)) S.kind S.nms (thn (hi pins s σ H _ I h) fun v s1 h1 => thn h1 fun itv s2 h2 => ?_)
  obtain ⟨it, fp, tn, J, H2, e, I2, T, st2, f2, hW⟩ := h2
  subst e
  refine comp_block hc hst hf hex hxh S ht he I2 T st2 f2 hW fun s3 H3 p s' H' m I3 I' hC hn q cenv hcl => ?_
  refine ⟨m, by rw [hcl]; exact hn, fun h' hs' => ⟨.ref p, H', comp_turned (E := X.xe) (s' := s') I3 I' hC (by rw [← hcl]; exact hs'), rfl, q⟩⟩
/-- y = [elt for x in iter if ..] -/
theorem ps_setComp {y : Str} {i : Nat} {py spos : Pos} (hc : X.calm = true) (hst : X.stack = X.env :: X.outer) (hf : X.env.frame = some X.env.locals) (hex : X.ex = []) (hxh : ∀ e s, HXR X E e s → X.xe e s) (S : CompSc scope X.env.scope x X.N) (hi : PI X (.Name x px) iter wi)
    (ht : ∀ pins fp s3 H3, PTs (X.blk scope x pins fp s3 H3 E) ifs tt) (he : ∀ pins fp s3 H3, PE (X.blk scope x pins fp s3 H3 E) elt te) (hN : X.N.Nodup) (hy : X.N[i]? = some y) (hl : Loc X.env.scope y)
    (hs : ∀ x, foldedSetIterable iter X.env x = pure x := by intro _; rfl) (hsw : swapsWith (.ListComp elt [⟨.Name x px, iter, ifs, 0⟩] scope pos) (some (.Name y py)) spos.line X.env = pure true := by rfl)
    (hfn : X.fn y = true ∨ X.env.scope.names.lookup y = some .local := by first | exact .inl rfl | exact .inr rfl | assumption) :
    PS X (.Assign [.Name y py] (.ListComp elt [⟨.Name x px, iter, ifs, 0⟩] scope pos) spos) (tAsg (tComp wi tt te) (gName i)) := by
  intro pins s σ H D I h
  rw [exec_Assign_Name_used _ _ _ _ hsw]
  refine wpAny_bind (wpAny_standAt (wpAny_bind ?_))
  show wpAny _ X.A (do let _ ← comprehension (.ListComp elt [⟨.Name x px, iter, ifs, 0⟩] scope pos) scope X.env _ (newList []) false (eval iter X.env) (some (assign (.Name y py) X.env))) _ _ s
  refine wpAny_bind (wpAny_mono (wpAny_comprehensionX (use := some (assign (.Name y py) X.env)) (Q := fun _ s' => SP X pins D .next s') rfl hs (closureFor_eq fun y hy e => I.ok.has y.1 (S.fre y hy e)) S.kind S.nms
    (thn (hi pins s σ H _ I h) fun v s1 h1 => thn h1 fun itv s2 h2 => ?_)) (fun _ s' hq => wpAny_pure (wpAny_pure hq)) fun _ _ e => e)
  obtain ⟨it, fp, tn, J, H2, e, I2, T, st2, f2, hW⟩ := h2
  subst e
  refine comp_block (Q := fun v H1 => gName i v σ H1 D.nx) hc hst hf hex hxh S ht he I2 T st2 f2 hW fun s3 H3 p s' H' m I3 I' hC hn q cenv hcl => ?_
  show wpAny _ X.A (assign (.Name y py) X.env (.ref p)) _ _ s'
  refine wpAny_assign_Name (store_ok2 I' hN hy hl (v := .ref p) rfl (fun s'' I'' hch => ?_) hfn)
  obtain ⟨a, hsb, ha⟩ := hch
  have neC : s3.heap.objs.size ≠ a := by
    rcases ha with rfl | ha
    · exact Nat.ne_of_gt I3.lt
    · obtain ⟨w, z⟩ := I3.cell y a ha
      exact Nat.ne_of_gt z.lt
  refine ⟨m, by rw [hcl]; exact hn.sameBut hsb neC, fun h' hs' => ⟨_, H', comp_turned (E := X.xe) (s' := s') I3 I'' hC (by rw [← hcl]; exact hs'), q⟩⟩
end
end L2
set_option Elab.async false
set_option linter.all false
set_option maxRecDepth 100000
namespace L2
open PySem PySem.Spec PyProof.Rows
/-! ### plain data in the heap, deep equality -/
mutual
inductive DatV (H : Hp) : V → PyData → Prop
  | non : DatV H .non .none
  | bl (b : Bool) : DatV H (.bl b) (.bool b)
  | int (i : Int) : DatV H (.int i) (.int i)
  | str (x : Str) : DatV H (.str x) (.str x)
  | lst {a : Addr} {xs : List V} {ds : List PyData} (e : H a = some (.lst xs)) (h : DatVs H xs ds) : DatV H (.ref a) (.list ds)
  | tup {a : Addr} {xs : List V} {ds : List PyData} (e : H a = some (.tup xs)) (h : DatVs H xs ds) : DatV H (.ref a) (.tuple ds)
inductive DatVs (H : Hp) : List V → List PyData → Prop
  | nil : DatVs H [] []
  | cons {x : V} {xs : List V} {d : PyData} {ds : List PyData} : DatV H x d → DatVs H xs ds → DatVs H (x :: xs) (d :: ds)
end
mutual
theorem DatV.reads {P : Program} {w : World} {H : Hp} {h : Heap} (ok : HOk P w H h) : ∀ {x : V} {d : PyData} {u : Value}, DatV H x d → RelV x u → ∃ as, Reads h u d as
  | _, _, _, .non, r => by cases r; exact ⟨_, .none⟩
  | _, _, _, .bl b, r => by cases r; exact ⟨_, .bool b⟩
  | _, _, _, .int i, r => by obtain ⟨t, rfl⟩ := r; exact ⟨_, .int i t⟩
  | _, _, _, .str x, r => by obtain ⟨t, rfl⟩ := r; exact ⟨_, .str x t⟩
  | _, _, _, .lst e hs, r => by
    cases r
    obtain ⟨_, its, n, rv, ho⟩ := (show ObjOk P w H h _ (.lst _) from ok _ _ e)
    obtain ⟨as, ra⟩ := DatVs.reads ok hs rv
    exact ⟨_, .list ho rfl rfl ra⟩
  | _, _, _, .tup e hs, r => by
    cases r
    obtain ⟨_, its, rv, o, ho, hc, n, hd⟩ := (show ObjOk P w H h _ (.tup _) from ok _ _ e)
    obtain ⟨as, ra⟩ := DatVs.reads ok hs rv
    exact ⟨_, .tuple ho hc hd ra⟩
theorem DatVs.reads {P : Program} {w : World} {H : Hp} {h : Heap} (ok : HOk P w H h) : ∀ {xs : List V} {ds : List PyData} {us : List Value}, DatVs H xs ds → Vals xs us → ∃ as, ReadsAll h us ds as
  | _, _, _, .nil, .nil => ⟨_, .nil⟩
  | _, _, _, .cons a b, .cons r t => by
    obtain ⟨_, ra⟩ := DatV.reads ok a r
    obtain ⟨_, rb⟩ := DatVs.reads ok b t
    exact ⟨_, .cons ra rb⟩
end
mutual
theorem DatV.mono {H H' : Hp} (k : ∀ a xs, H a = some (.lst xs) → H' a = some (.lst xs)) (k2 : ∀ a xs, H a = some (.tup xs) → H' a = some (.tup xs)) : ∀ {x : V} {d : PyData}, DatV H x d → DatV H' x d
  | _, _, .non => .non
  | _, _, .bl b => .bl b
  | _, _, .int i => .int i
  | _, _, .str x => .str x
  | _, _, .lst e hs => .lst (k _ _ e) (DatVs.mono k k2 hs)
  | _, _, .tup e hs => .tup (k2 _ _ e) (DatVs.mono k k2 hs)
theorem DatVs.mono {H H' : Hp} (k : ∀ a xs, H a = some (.lst xs) → H' a = some (.lst xs)) (k2 : ∀ a xs, H a = some (.tup xs) → H' a = some (.tup xs)) : ∀ {xs : List V} {ds : List PyData}, DatVs H xs ds → DatVs H' xs ds
  | _, _, .nil => .nil
  | _, _, .cons a b => .cons (DatV.mono k k2 a) (DatVs.mono k k2 b)
end
theorem DatV.same {H H' : Hp} (s : Same H H') {x : V} {d : PyData} (h : DatV H x d) : DatV H' x d := h.mono (fun _ _ e => s _ _ e) fun _ _ e => s _ _ e
theorem DatVs.same {H H' : Hp} (s : Same H H') {xs : List V} {ds : List PyData} (h : DatVs H xs ds) : DatVs H' xs ds := h.mono (fun _ _ e => s _ _ e) fun _ _ e => s _ _ e
theorem DatVs.ints {H : Hp} : ∀ (ns : List Int), DatVs H (ns.map V.int) (ns.map PyData.int)
  | [] => .nil
  | n :: r => .cons (.int n) (DatVs.ints r)
theorem DatVs.length {H : Hp} : ∀ {xs : List V} {ds : List PyData}, DatVs H xs ds → xs.length = ds.length
  | _, _, .nil => rfl
  | _, _, .cons _ b => by rw [List.length_cons, List.length_cons, DatVs.length b]
abbrev shaped := PySem.SeqAt.shaped
section
variable {X : Cx}
def rNeD : R2 := fun x y H Q => ∃ d e, DatV H x d ∧ DatV H y e ∧ shaped d = true ∧ shaped e = true ∧ Q (.bl (!PyData.eqv d e)) H
theorem op_neD (hu : X.A.units + 64 < cLine) : OpR X (compareOp .NotEq) rNeD := by
  intro pins s σ H x y u v Q I rx ry h
  obtain ⟨d, e, hd, he, sd, se, q⟩ := h
  obtain ⟨_, ra⟩ := hd.reads I.hok rx
  obtain ⟨_, rb⟩ := he.reads I.hok ry
  exact ne_dataH ra rb sd se hu ⟨.bl _, H, I, rfl, q⟩
end
theorem canLayAll_ints : ∀ (ns : List Int), PyData.canLayAll0 (ns.map PyData.int) = true
  | [] => by simp [PyData.canLayAll0]
  | n :: r => by simp [PyData.canLayAll0, PyData.canLay0, canLayAll_ints r]
theorem depthAll_ints : ∀ (ns : List Int), PyData.depthAll (ns.map PyData.int) ≤ 1
  | [] => by simp [PyData.depthAll]
  | n :: r => by have := depthAll_ints r; simp only [List.map_cons, PyData.depthAll, PyData.depth]; omega
theorem shaped_ints (ns : List Int) : shaped (.list (ns.map PyData.int)) = true := by
  have := depthAll_ints ns
  have e : PyData.depth (.list (ns.map PyData.int)) ≤ 64 := by simp only [PyData.depth]; omega
  show (PyData.canLay0 (.list (ns.map PyData.int)) && decide (PyData.depth (.list (ns.map PyData.int)) ≤ 64)) = true
  rw [decide_eq_true e]
  simp only [PyData.canLay0, canLayAll_ints, Bool.true_and]
theorem eqv_ints (ns ms : List Int) : PyData.eqv (.list (ns.map PyData.int)) (.list (ms.map PyData.int)) = decide (ns = ms) := by
  simp only [PyData.eqv]; exact PySem.W.ked_eqvAll ns ms
end L2
set_option Elab.async false
set_option linter.all false
set_option maxRecDepth 100000
namespace L2
open PySem PySem.Spec PyProof.Rows
/-! ### the law's head, with the script's bound -/
theorem bits_of_weight : ∀ (ns : List Int), ∀ n ∈ ns, Builtin.Int.intBits n ≤ PySem.W.WData.weightAll (ns.map PySem.W.WData.int)
  | m :: r, n, h => by
    simp only [List.map_cons, PySem.W.WData.weightAll]
    rcases List.mem_cons.mp h with rfl | h
    · have : PySem.W.WData.weight (.int n) = Builtin.Int.intBits n := by simp only [PySem.W.WData.weight, Builtin.Int.intBits]
      omega
    · have := bits_of_weight r n h
      omega
theorem bits_of_lay {ns : List Int} (h : PySem.W.WData.layableAll [.list (ns.map PySem.W.WData.int)] = true) : ∀ n ∈ ns, Builtin.Int.intBits n ≤ 1048576 := fun n hn => by
  have h1 : PySem.W.WData.layable (.list (ns.map PySem.W.WData.int)) = true := by simpa [PySem.W.WData.layableAll] using h
  unfold PySem.W.WData.layable at h1
  have h2 := of_decide_eq_true (Bool.and_eq_true_iff.mp h1).2
  have e : (2 : Nat) ^ 20 = 1048576 := by decide
  simp only [PySem.W.WData.weight, e] at h2
  exact Nat.le_trans (bits_of_weight ns n hn) h2
end L2
namespace Att
open PySem PySem.W PySem.Calls PyProof.Rows
theorem attach_callB {l : OpenLaw} {n : Nat} {q : Program} {loose : List Str} {XP : (Str → Option Value) → Heap → Prop} {YP : World → Heap → Prop} {d : DefRec}
    (hn : l.most = some n) (hdf : d.params.defaults = [])
    (call : ∀ (w : World) (s₀ s₁ : Shared) (mg mb : Str → Option Value) (fa : Addr) (o : Obj) (pm cd doc : Value) (a : Addr) (vs : List Value) (ns : List Int),
      Ground q loose [] XP w s₀ mg mb s₁.heap → YP w s₁.heap →
      s₁.heap.get? fa = some o → o.data = .func (docDef d.name d.params d.body d.scope pm cd doc) → s₁.heap.CodeRec cd d.name → mg d.name = some (.ref fa) →
      s₁.heap.get? a = some { cls := .type "list", data := .seq vs.toArray } → IntsAre vs ns → ns.length ≤ n → (∀ n ∈ ns, Builtin.Int.intBits n ≤ 1048576) → s₁.gens = #[] →
      codeAny (model l.prog w) callerA (.call (.ref fa) ⟨[.ref a], []⟩) (fun r s' => r = .ok (.ret (.bool true)) ∧ OldK s₁.heap s'.heap ∧ s'.os = s₁.os ∧ AllBare s'.gens) s₁) :
    WalkO q loose XP YP l.row.toRowW d [] (fun f vs => PySem.call f vs) := by
  intro w s₀ s₁ mg mb G Y fa o pm cd doc dV kV ho hd hcd hD hmg hg args vals as hpre hlay hrd hwl hlo
  obtain rfl : dV = .none := Dflts.none hD hdf
  obtain rfl : kV = .none := Dflts.noKw hD
  obtain ⟨a, vs, ns, rfl, rfl, hobj, hints, hlen⟩ := script_of hn hpre hwl
  refine enter_call (codeAny_mono (call w s₀ s₁ mg mb fa o pm cd doc a vs ns G Y ho (fd_plain hd) hcd hmg hobj hints hlen (L2.bits_of_lay hlay) hg) fun r s' hq => ?_)
  obtain ⟨rfl, h2, h3, h4⟩ := hq
  exact ⟨.inl ⟨.bool true, .bool true, [], rfl, fun _ => rfl, .bool true, post_true l _, fun _ => ⟨List.Pairwise.nil, fun _ hm => (nomatch hm)⟩⟩, h2, h3, h4⟩
end Att
namespace L2
open PySem PySem.Spec PyProof.Rows
/-- the law's promise: a list of at most 63 ints (of at most 2^20 bits) is handed in, True comes out -/
def spLawB (K : PySem.W.Frag) : Sp := fun vs H Q _ => ∃ (a : Addr) (ns : List Int), vs = [.ref a] ∧ SqL K H a (ns.map V.int) ∧ ns.length ≤ 63 ∧ (∀ n ∈ ns, Builtin.Int.intBits n ≤ 1048576) ∧ Only H ∧ ∀ H', Q (.bl true) H'
theorem law_walkB {l : PySem.W.OpenLaw} {q : Program} {loose : List Str} {XP : (Str → Option Value) → Heap → Prop} {YP : World → Heap → Prop} {d : DefRec} {K : Params → PySem.W.Frag} {k : Nat} {x : Str} (hn : l.most = some 63) (hdf : d.params.defaults = [])
    (hr : Room k callerA) (hY : ∀ (w : World) (h : Heap), YP w h → (K w.params).In h)
    (F : ∀ (w : World) (mg : Str → Option Value) (fa : Addr) (h : Heap), (K w.params).In h → h.Ns mainGlobals mg → mg d.name = some (.ref fa) →
      ∃ fd : FuncData, (∀ (s : Shared) (u : Value), BindsTo s fd ⟨[u], []⟩ [(x, u)]) ∧ ∀ base : Heap, (K w.params).In base → base.Ns mainGlobals mg → FnOk l.prog w (K w.params) mg base (CXR l.prog w) k fa fd [x] (spLawB (K w.params))) :
    PySem.W.WalkO q loose XP YP l.row.toRowW d [] (fun f vs => PySem.call f vs) := by
  refine Att.attach_callB hn hdf fun w s₀ s₁ mg mb fa o pm cd doc a vs ns G Y ho hd hcd hmg hobj hints hlen hbits hg => ?_
  have KX := hY w _ Y
  obtain ⟨fd, hb, hF⟩ := F w mg fa _ KX G.T.g hmg
  exact law_call KX G.T.g G.T.b G.T.builtins G.T.nolimit hg hobj hints (Nat.le_trans hlen (by decide)) hr hF hb (fun H hO hS => ⟨a, ns, rfl, hS, hlen, hbits, hO, fun _ => rfl⟩) fun H e s' ⟨_, _, _, _, _, _, _, z⟩ => z
end L2
set_option Elab.async false
set_option linter.all false
set_option maxRecDepth 100000
namespace L2
open PySem PySem.Spec PyProof.Rows
/-! ### short words: names, comprehensions -/
def compChk (scope es : Scope) (x : Str) (N : List Str) : Bool :=
  decide (scope.kind = .function) && (scope.names.all fun y => decide (y.2 ≠ .cell)) && (scope.names.all fun y => decide (y.2 ≠ .local) || decide (scope.names.lookup y.1 = some .local)) && decide (scope.names.lookup x = some .local) &&
  decide (scope.names.lookup ("" : Str) = none) && (scope.names.all fun y => decide (y.2 ≠ .free) || (decide (es.names.lookup y.1 = some .cell) || decide (es.names.lookup y.1 = some .free))) &&
  (scope.names.all fun y => decide (y.2 ≠ .local) || (decide (y.1 = x) || !N.contains y.1)) && decide (x :: N.map fun y => if y = x then ("" : Str) else y).Nodup
theorem compSc_of {scope es : Scope} {x : Str} {N : List Str} (h : compChk scope es x N = true) : CompSc scope es x N := by
  unfold compChk at h
  simp only [Bool.and_eq_true, decide_eq_true_eq, List.all_eq_true, Bool.or_eq_true, Bool.not_eq_true'] at h
  obtain ⟨⟨⟨⟨⟨⟨⟨h1, h2⟩, h3⟩, h4⟩, h5⟩, h6⟩, h7⟩, h8⟩ := h
  refine ⟨h1, h2, fun y hy e => (h3 y hy).resolve_left fun z => z e, h4, h5, fun y hy e => (h6 y hy).resolve_left fun z => z e, fun y hy e => ?_, h8⟩
  rcases (h7 y hy).resolve_left fun z => z e with q | q
  · exact .inl q
  · exact .inr fun m => by
      have : N.contains y.1 = true := List.contains_iff_mem.mpr m
      rw [q] at this; cases this
def visB (sc : Scope) (x : Str) : Bool := match sc.names.lookup x with
  | some .local => true
  | some .cell => true
  | some .free => true
  | _ => false
theorem vis_of {sc : Scope} {x : Str} (h : visB sc x = true) : Vis sc x := by
  unfold visB at h
  unfold Vis
  split at h <;> simp_all
section
variable {X : Cx}
/-- the name in the i-th slot, looked at by the kernel -/
theorem pk (i : Nat) {x : Str} {pos : Pos} (hN : X.N[i]? = some x := by kernel_rfl) (hv : visB X.env.scope x = true := by kernel_rfl) (hd : (x == ("__debug__" : Str)) = false := by decide)
    (hcd : (x == ("__classdict__" : Str)) = false := by decide) : PE X (.Name x pos) (tVar i) := pe_var hN (vis_of hv) hd hcd
theorem noH {X : Cx} : ∀ e s, HXR X E0 e s → X.xe e s := fun _ _ ⟨_, _, _, _, _, _, _, _, _, _, _, _, _, z⟩ => z.elim
end
section
variable {P : Program} {w : World} {K : PySem.W.Frag} {mg : Str → Option Value} {base : Heap}
/-- a def that may refuse -/
theorem Def.okR {x : Str} {st : Stmt} {N ps : List Str} {k : Nat} {sp : Sp} (D : Def K mg x st) (S : FnScope N ps (defScope st)) (len : ∀ vs H Q E, sp vs H Q E → vs.length = ps.length)
    (hb : ∀ (kV doc pm : Value) (an : Option Addr) (cdv ct : Value) (us : List Value), us.length = ps.length → bindArgs (PySem.W.fnOf x x (defArgs st) (defBody st) (defScope st) .none kV doc pm an cdv ct) ⟨us, []⟩ = pure (ps.zip us))
    (hbody : ∀ (f : Addr) (cdv : Value) (A : Around) (outer : List Env) (s : Shared) (H : Hp) (vs : List V) (Q : VK) (E : XK), Room k (A.deeper (envOfC x (defScope st) s.heap.objs.size f cdv)) → sp vs H Q E →
      ∃ t, PSs (cxR P w K mg base N x (defScope st) f cdv A outer s H E) (defBody st) t ∧ t { nx := fun _ H' => Q .non H', rt := Q } (start N vs) H) : FnD P w K mg base (k + 1) x ps sp := by
  obtain ⟨f, fd, hm, F⟩ := D
  refine ⟨f, fd, hm, F.kp, F.binds hb, ?_⟩
  obtain ⟨oc, od, kV, doc, pm, an, cdv, ct, osl, rfl, lk, hcd⟩ := F.ex
  exact fn_of lk hcd S len fun A outer s H vs Q E hr hsp => hbody _ cdv A outer s H vs Q E hr hsp
/-! ### classes of the module -/
/-- the class x at C -/
structure ClsD (K : PySem.W.Frag) (mg : Str → Option Value) (x : Str) (C : Addr) : Prop where
  cl : Cls K C
  mgC : mg x = some (.ref C)
/-- the def st is the method m of the class at C -/
def MDef (K : PySem.W.Frag) (C : Addr) (m qual : Str) (st : Stmt) : Prop := ∃ f fd, Meth K C m f ∧ Fun K m qual st f fd
structure MethD (P : Program) (w : World) (K : PySem.W.Frag) (mg : Str → Option Value) (base : Heap) (k : Nat) (C : Addr) (m : Str) (ps : List Str) (sp : Sp) : Prop where
  ex : ∃ f fd, Meth K C m f ∧ Binds K fd ps [] ∧ FnOk P w K mg base (CXR P w) k f fd ps sp
/-- the def st is the class's __init__ -/
def IDef (K : PySem.W.Frag) (C : Addr) (qual : Str) (st : Stmt) : Prop := ∃ f fd, Mk K C f ∧ Fun K "__init__" qual st f fd
structure InitD (P : Program) (w : World) (K : PySem.W.Frag) (mg : Str → Option Value) (base : Heap) (k : Nat) (C : Addr) (ps : List Str) (sp : Sp) : Prop where
  ex : ∃ f fd, Mk K C f ∧ Binds K fd ps [] ∧ FnOk P w K mg base (CXR P w) k f fd ps sp
theorem MethD.mono {C : Addr} {m : Str} {ps : List Str} {sp : Sp} {j k : Nat} (F : MethD P w K mg base j C m ps sp) (h : j ≤ k) : MethD P w K mg base k C m ps sp := by
  obtain ⟨f, fd, h1, h3, h4⟩ := F.ex
  exact ⟨f, fd, h1, h3, h4.mono h⟩
theorem MDef.okR {C : Addr} {m qual : Str} {st : Stmt} {N ps : List Str} {k : Nat} {sp : Sp} (D : MDef K C m qual st) (S : FnScope N ps (defScope st)) (len : ∀ vs H Q E, sp vs H Q E → vs.length = ps.length)
    (hb : ∀ (kV doc pm : Value) (an : Option Addr) (cdv ct : Value) (us : List Value), us.length = ps.length → bindArgs (PySem.W.fnOf m qual (defArgs st) (defBody st) (defScope st) .none kV doc pm an cdv ct) ⟨us, []⟩ = pure (ps.zip us))
    (hbody : ∀ (f : Addr) (cdv : Value) (A : Around) (outer : List Env) (s : Shared) (H : Hp) (vs : List V) (Q : VK) (E : XK), Room k (A.deeper (envOfC qual (defScope st) s.heap.objs.size f cdv)) → sp vs H Q E →
      ∃ t, PSs (cxR P w K mg base N qual (defScope st) f cdv A outer s H E) (defBody st) t ∧ t { nx := fun _ H' => Q .non H', rt := Q } (start N vs) H) : MethD P w K mg base (k + 1) C m ps sp := by
  obtain ⟨f, fd, hm, F⟩ := D
  refine ⟨f, fd, hm, F.binds hb, ?_⟩
  obtain ⟨oc, od, kV, doc, pm, an, cdv, ct, osl, rfl, lk, hcd⟩ := F.ex
  exact fn_of lk hcd S len fun A outer s H vs Q E hr hsp => hbody _ cdv A outer s H vs Q E hr hsp
theorem MDef.ok {C : Addr} {m qual : Str} {st : Stmt} {N ps : List Str} {k : Nat} {sp : Sp} (D : MDef K C m qual st) (S : FnScope N ps (defScope st)) (len : ∀ vs H Q E, sp vs H Q E → vs.length = ps.length)
    (hb : ∀ (kV doc pm : Value) (an : Option Addr) (cdv ct : Value) (us : List Value), us.length = ps.length → bindArgs (PySem.W.fnOf m qual (defArgs st) (defBody st) (defScope st) .none kV doc pm an cdv ct) ⟨us, []⟩ = pure (ps.zip us))
    (hbody : ∀ (f : Addr) (cdv : Value) (A : Around) (outer : List Env) (s : Shared) (H : Hp) (vs : List V) (Q : VK) (E : XK), Room k (A.deeper (envOfC qual (defScope st) s.heap.objs.size f cdv)) → sp vs H Q E →
      ∃ t, PSs (cxOf (CXR P w) P w K mg base N qual (defScope st) f cdv A outer s H E).nox (defBody st) t ∧ t { nx := fun _ H' => Q .non H', rt := Q } (start N vs) H) : MethD P w K mg base (k + 1) C m ps sp := by
  refine D.okR S len hb fun f cdv A outer s H vs Q E hr h => ?_
  obtain ⟨t, h, q⟩ := hbody f cdv A outer s H vs Q E hr h
  exact ⟨t, h.nox, q⟩
theorem IDef.okR {C : Addr} {qual : Str} {st : Stmt} {N ps : List Str} {k : Nat} {sp : Sp} (D : IDef K C qual st) (S : FnScope N ps (defScope st)) (len : ∀ vs H Q E, sp vs H Q E → vs.length = ps.length)
    (hb : ∀ (kV doc pm : Value) (an : Option Addr) (cdv ct : Value) (us : List Value), us.length = ps.length → bindArgs (PySem.W.fnOf "__init__" qual (defArgs st) (defBody st) (defScope st) .none kV doc pm an cdv ct) ⟨us, []⟩ = pure (ps.zip us))
    (hbody : ∀ (f : Addr) (cdv : Value) (A : Around) (outer : List Env) (s : Shared) (H : Hp) (vs : List V) (Q : VK) (E : XK), Room k (A.deeper (envOfC qual (defScope st) s.heap.objs.size f cdv)) → sp vs H Q E →
      ∃ t, PSs (cxR P w K mg base N qual (defScope st) f cdv A outer s H E) (defBody st) t ∧ t { nx := fun _ H' => Q .non H', rt := Q } (start N vs) H) : InitD P w K mg base (k + 1) C ps sp := by
  obtain ⟨f, fd, hm, F⟩ := D
  refine ⟨f, fd, hm, F.binds hb, ?_⟩
  obtain ⟨oc, od, kV, doc, pm, an, cdv, ct, osl, rfl, lk, hcd⟩ := F.ex
  exact fn_of lk hcd S len fun A outer s H vs Q E hr hsp => hbody _ cdv A outer s H vs Q E hr hsp
theorem IDef.ok {C : Addr} {qual : Str} {st : Stmt} {N ps : List Str} {k : Nat} {sp : Sp} (D : IDef K C qual st) (S : FnScope N ps (defScope st)) (len : ∀ vs H Q E, sp vs H Q E → vs.length = ps.length)
    (hb : ∀ (kV doc pm : Value) (an : Option Addr) (cdv ct : Value) (us : List Value), us.length = ps.length → bindArgs (PySem.W.fnOf "__init__" qual (defArgs st) (defBody st) (defScope st) .none kV doc pm an cdv ct) ⟨us, []⟩ = pure (ps.zip us))
    (hbody : ∀ (f : Addr) (cdv : Value) (A : Around) (outer : List Env) (s : Shared) (H : Hp) (vs : List V) (Q : VK) (E : XK), Room k (A.deeper (envOfC qual (defScope st) s.heap.objs.size f cdv)) → sp vs H Q E →
      ∃ t, PSs (cxOf (CXR P w) P w K mg base N qual (defScope st) f cdv A outer s H E).nox (defBody st) t ∧ t { nx := fun _ H' => Q .non H', rt := Q } (start N vs) H) : InitD P w K mg base (k + 1) C ps sp := by
  refine D.okR S len hb fun f cdv A outer s H vs Q E hr h => ?_
  obtain ⟨t, h, q⟩ := hbody f cdv A outer s H vs Q E hr h
  exact ⟨t, h.nox, q⟩
theorem cls_mk {h : Heap} {x : Str} {C : Addr} (X : K.In h) (G : h.Ns mainGlobals mg) (a : PySem.W.nsIn K mainGlobals x = some (some (.ref C))) (h1 : PySem.W.plainGet K C Str.empty = true) (h2 : PySem.W.hasDictIn K C = true) (h3 : PySem.W.plainOver K C = true)
    (h4 : PySem.W.findIn K (.ref C) "__setattr__" = some (some (.builtin "object.__setattr__"))) : ClsD K mg x C := ⟨⟨h1, h2, h3, h4⟩, PySem.W.mg_of X G a⟩
theorem mdef_mk {C f : Addr} {m qual : Str} {st : Stmt} {oc : Value} {od an : Option Addr} {osl : Array (Option Value)} {kV doc pm cdv ct : Value} (a : PySem.W.findIn K (.ref C) m = some (some (.ref f))) (fn : PySem.W.isFn K (.ref f) = true)
    (l : K.lookup f = some ⟨oc, od, .func (PySem.W.fnOf m qual (defArgs st) (defBody st) (defScope st) .none kV doc pm an cdv ct), osl⟩) (c : PySem.W.codeIn K cdv qual = true) (k : PySem.W.keepIn K (.ref f) = true) : MDef K C m qual st := ⟨f, _, ⟨a, fn, k⟩, fun_mk l c k⟩
theorem idef_mk {C f : Addr} {qual : Str} {st : Stmt} {oc : Value} {od an : Option Addr} {osl : Array (Option Value)} {kV doc pm cdv ct : Value} (m : PySem.W.makesIn K C = true) (a : PySem.W.findIn K (.ref C) "__init__" = some (some (.ref f))) (fn : PySem.W.isFn K (.ref f) = true) (kC : PySem.W.keepIn K (.ref C) = true)
    (l : K.lookup f = some ⟨oc, od, .func (PySem.W.fnOf "__init__" qual (defArgs st) (defBody st) (defScope st) .none kV doc pm an cdv ct), osl⟩) (c : PySem.W.codeIn K cdv qual = true) (k : PySem.W.keepIn K (.ref f) = true) : IDef K C qual st := ⟨f, _, ⟨m, a, fn, kC⟩, fun_mk l c k⟩
end
section
variable {X : Cx} {k : Nat} {C : Addr} {ps : List Str} {sp : Sp} {E : XK} {x m : Str} {p pos apos : Pos} {e o : Expr} {es : List Expr} {ta : TE} {t : TA}
/-- o.m(e, ..), o.m() -/
theorem pe_methD {pl : Sem Bool} (T : ClsD X.K X.mg x C) (F : MethD X.prog X.w X.K X.mg X.base k C m ps sp) (hr : Room k X.A) (hx : Passes (CXR X.prog X.w) X E) (he : PE X o ta) (ha : PA X (e :: es) t)
    (hst : starEach (e :: es) X.env = (false, eval e X.env) :: starEach es X.env := by rfl) (hpl : (backTo pos (starEach es X.env)).any (·.1) = false := by rfl)
    (ht : eval (.Call (.Attribute o m apos) (e :: es) [] pos) X.env = (do
      let ov ← eval o X.env
      standAt apos.atName
      let (f, first) ← holding [ov] (getMethod ov m pl)
      callWith pos f first (backTo pos (starEach (e :: es) X.env)) (backToKw pos (keywordEach [] X.env))) := by rfl) :
    PE X (.Call (.Attribute o m apos) (e :: es) [] pos) (tMeth C m sp [] E ta t) := by
  obtain ⟨f, fd, h1, h3, h4⟩ := F.ex
  exact pe_meth he T.cl h1 h4 hr h3 .nil hx ha hst hpl ht
theorem pe_methD0 {pl : Sem Bool} (T : ClsD X.K X.mg x C) (F : MethD X.prog X.w X.K X.mg X.base k C m ps sp) (hr : Room k X.A) (hx : Passes (CXR X.prog X.w) X E) (he : PE X o ta)
    (ht : eval (.Call (.Attribute o m apos) [] [] pos) X.env = (do
      let ov ← eval o X.env
      standAt apos.atName
      let (f, first) ← holding [ov] (getMethod ov m pl)
      callWith pos f first (backTo pos (starEach [] X.env)) (backToKw pos (keywordEach [] X.env))) := by rfl) :
    PE X (.Call (.Attribute o m apos) [] [] pos) (tMeth C m sp [] E ta tNil) := by
  obtain ⟨f, fd, h1, h3, h4⟩ := F.ex
  exact pe_meth0 he T.cl h1 h4 hr h3 .nil hx ht
theorem pe_makeD (T : ClsD X.K X.mg x C) (F : InitD X.prog X.w X.K X.mg X.base k C ps sp) (hr : Room (k + 1) X.A) (hg : Gl X x) (hx : Passes (CXR X.prog X.w) X E) (ha : PA X (e :: es) t)
    (hdb : (x == ("__debug__" : Str)) = false := by decide) (he : starEach (e :: es) X.env = (false, eval e X.env) :: starEach es X.env := by rfl) (hpl : (backTo pos (starEach es X.env)).any (·.1) = false := by rfl) :
    PE X (.Call (.Name x p) (e :: es) [] pos) (tMake C sp [] E t) := by
  obtain ⟨f, fd, h1, h3, h4⟩ := F.ex
  exact pe_make h1 h4 hr hg T.mgC h3 .nil hx ha hdb he hpl
theorem pe_makeD0 (T : ClsD X.K X.mg x C) (F : InitD X.prog X.w X.K X.mg X.base k C ps sp) (hr : Room (k + 1) X.A) (hg : Gl X x) (hx : Passes (CXR X.prog X.w) X E)
    (hdb : (x == ("__debug__" : Str)) = false := by decide) : PE X (.Call (.Name x p) [] [] pos) (tMake C sp [] E tNil) := by
  obtain ⟨f, fd, h1, h3, h4⟩ := F.ex
  exact pe_make0 h1 h4 hr hg T.mgC h3 .nil hx hdb
/-- o.f, o of the class at C -/
def tFldC (C : Addr) (ta : TE) (f : Str) : TE := fun σ H Q => ta σ H fun x H1 => ∃ a dx fs v, x = .ref a ∧ H1 a = some (.ins C dx fs) ∧ fs.lookup f = some v ∧ Q v H1
theorem pe_fldC {f : Str} (T : ClsD X.K X.mg x C) (na : NoAttr X.K C f) (he : PE X o ta) (hb : attributeBase o f X.env (eval o X.env) = eval o X.env := by rfl) : PE X (.Attribute o f pos) (tFldC C ta f) := by
  intro pins s σ H Q I h
  refine attr_of hb (thn (he pins s σ H _ I h) fun u s1 ⟨x, H1, I1, rx, a, dx, fs, v, ex, ea, l, q⟩ => ?_)
  subst ex
  obtain rfl : u = Value.ref a := rx
  exact getattr_ok I1 ea T.cl na l fun u' s2 I2 ru => ⟨v, H1, I2, ru, q⟩
def sFldC (C : Addr) (ta tv : TE) (f : Str) : TS := fun D σ H => tv σ H fun y H1 => ta σ H1 fun x H2 => ∃ a dx fs, x = .ref a ∧ H2 a = some (.ins C dx fs) ∧ fs.length < 1000 ∧ D.nx σ (upd H2 a (.ins C dx (putF f y fs)))
theorem ps_fldC {f : Str} {value : Expr} {tv : TE} {pos' : Pos} (T : ClsD X.K X.mg x C) (na : NoAttr X.K C f) (ha : PE X o ta) (hv : PE X value tv) (hs : swapsWith value (some (.Attribute o f pos')) pos.line X.env = pure false := by rfl) : PS X (.Assign [.Attribute o f pos'] value pos) (sFldC C ta tv f) := by
  intro pins s σ H D I h
  refine plainObj_wpAny_Assign_Attribute (thn (hv pins s σ H _ I h) fun u s1 ⟨y, H1, I1, ry, q⟩ => thn (ha pins s1 σ H1 _ I1 q) fun ov s2 ⟨x, H2, I2, rx, a, dx, fs, ex, ea, l, q2⟩ => ?_) hs
  subst ex
  obtain rfl : ov = Value.ref a := rx
  exact setattr_ok I2 ea T.cl na l ry fun s3 I3 => ⟨σ, _, I3, q2⟩
end
end L2
set_option Elab.async false
set_option linter.all false
set_option maxRecDepth 100000
namespace L2
open PySem PySem.Spec PyProof.Rows
/-- what stands under a global name -/
structure GlC (mg : Str → Option Value) (x : Str) (C : Addr) : Prop where
  mgC : mg x = some (.ref C)
theorem glc_mk {K : PySem.W.Frag} {h : Heap} {mg : Str → Option Value} {x : Str} {C : Addr} (X : K.In h) (G : h.Ns mainGlobals mg) (a : PySem.W.nsIn K mainGlobals x = some (some (.ref C))) : GlC mg x C := ⟨PySem.W.mg_of X G a⟩
theorem exci_mk {K : PySem.W.Frag} {C : Addr} (c0 : PySem.W.hasDictIn K C = true) (c1 : PySem.W.findIn K (.ref C) "__getattribute__" = some (some (.builtin "BaseException.__getattribute__"))) (c2 : PySem.W.findIn K (.ref C) "__getattr__" = some none)
    (c3 : PySem.W.findIn K (.ref C) "__class__" = some (some (.builtin "object.__class__"))) (c4 : PySem.W.specialIn K (.builtin "object.__class__") "__get__" = some (some (.builtin "getset_descriptor.__get__"))) (c5 : PySem.W.takesIn K (.builtin "object.__class__") = some true)
    (c6 : PySem.W.mroIn K C (.type "object") = some true) (c7 : PySem.W.subIn K (.ref C) (.type "BaseException") = some true) : PySem.W.ExcI K C := ⟨c0, c1, c2, c3, c4, c5, c6, c7⟩
theorem tyN_cases {H : Hp} {x : V} {t : String} (h : tyN H x = some t) : x = .non ∨ (∃ b, x = .bl b) ∨ (∃ n, x = .int n) ∨ (∃ s, x = .str s) ∨ (∃ a xs, x = .ref a ∧ H a = some (.lst xs)) ∨ (∃ a xs, x = .ref a ∧ H a = some (.tup xs)) ∨ ∃ a kvs, x = .ref a ∧ H a = some (.dK kvs) := by
  cases x with
  | non => exact .inl rfl
  | bl b => exact .inr (.inl ⟨b, rfl⟩)
  | int n => exact .inr (.inr (.inl ⟨n, rfl⟩))
  | str s => exact .inr (.inr (.inr (.inl ⟨s, rfl⟩)))
  | ref a =>
    unfold tyN at h
    cases e : H a with
    | none => simp only [e] at h; cases h
    | some o =>
      simp only [e] at h
      cases o with
      | lst xs => exact .inr (.inr (.inr (.inr (.inl ⟨a, xs, rfl, e⟩))))
      | tup xs => exact .inr (.inr (.inr (.inr (.inr (.inl ⟨a, xs, rfl, e⟩)))))
      | dK xs => exact .inr (.inr (.inr (.inr (.inr (.inr ⟨a, xs, rfl, e⟩)))))
      | _ => cases h
  | _ => cases h
theorem isi_dict_int : isiT "dict" "int" = some false := rfl
theorem isi_dict_bool : isiT "dict" "bool" = some false := rfl
theorem isi_dict_list : isiT "dict" "list" = some false := rfl
theorem isi_str_tuple : isiT "str" "tuple" = some false := rfl
theorem isi_int_str : isiT "int" "str" = some false := rfl
theorem isi_bool_str : isiT "bool" "str" = some false := rfl
theorem isi_none_str : isiT "NoneType" "str" = some false := rfl
theorem isi_list_str : isiT "list" "str" = some false := rfl
theorem isi_tuple_str : isiT "tuple" "str" = some false := rfl
theorem isi_dict_dict : isiT "dict" "dict" = some true := rfl
/-- is it a whole number that is no truth -/
def wholeB : V → Bool
  | .int _ => true
  | _ => false
theorem cpow_60 : CPow 10 60 = True := eq_true ⟨by decide, by decide, by decide⟩
theorem cpow_59 : CPow 10 59 = True := eq_true ⟨by decide, by decide, by decide⟩
theorem cpow_20 : CPow 10 20 = True := eq_true ⟨by decide, by decide, by decide⟩
theorem cpow_9 : CPow 10 9 = True := eq_true ⟨by decide, by decide, by decide⟩
theorem cpow_6 : CPow 10 6 = True := eq_true ⟨by decide, by decide, by decide⟩
/-! rules whose reading names the written part: given by name, for a context under a binder -/
section
variable {X : Cx} {K : PySem.W.Frag}
theorem call_isiXK (h : X.K = K) : CallR X (.builtin "isinstance") (rIsiX K) := by subst h; exact call_isiX
theorem ix_listK (h : X.K = K) : IxR X (rIxL K) := by subst h; exact ix_list
theorem call_len_seqK (h : X.K = K) : CallR X (.builtin "len") (fun xs H Q => ∃ p ys, xs = [.ref p] ∧ (SqL K H p ys ∨ SqT K H p ys) ∧ Q (.int ys.length) H) := by subst h; exact call_len_seq
theorem call_list_ofK (h : X.K = K) : CallR X (.type "list") (fun xs H Q => ∃ p ys, xs = [.ref p] ∧ (SqL K H p ys ∨ SqT K H p ys) ∧ ∀ l, H l = none → Q (.ref l) (upd H l (.lst ys))) := by subst h; exact call_list_of
end
theorem whole_int (n : Int) : wholeB (.int n) = true := rfl
theorem whole_non : wholeB .non = false := rfl
theorem whole_bl (b : Bool) : wholeB (.bl b) = false := rfl
theorem whole_str (s : Str) : wholeB (.str s) = false := rfl
theorem whole_ref (a : Addr) : wholeB (.ref a) = false := rfl
end L2
set_option Elab.async false
set_option linter.all false
set_option maxRecDepth 100000
namespace L2
open PySem PySem.Spec PyProof.Rows
/-! ### comprehensions, read: over a list, over a range -/
def CompJ (J : It) (tt : TT) (te : TE) (σ : St) (Q : VK) (H1 : Hp) : Prop := ∀ p, H1 p = none → ∃ W : Nat → Nat → List V → Hp → Prop, (∃ m, W 0 m [] (upd H1 p (.lst []))) ∧ ∀ i m acc H2, W i m acc H2 →
  H2 p = some (.lst acc) ∧ ((J.stop i H2 ∧ Q (.ref p) H2) ∨ (J.go i H2 ∧ ∃ N : List V → Hp → Prop, (∀ acc' H', N acc' H' → ∃ m', m' < m ∧ W (i + 1) m' acc' H') ∧ ∀ x H3, J.yld i H2 x H3 → tt (some x :: σ) H3 fun b H4 =>
    if b = true then te (some x :: σ) H4 fun v H5 => H5 p = some (.lst acc) ∧ acc.length < sizeLine ∧ N (acc ++ [v]) (upd H5 p (.lst (acc ++ [v]))) else N acc H4))
theorem compR1 {ta : TA} {tt : TT} {te : TE} {σ : St} {H : Hp} {Q : VK}
    (h : ∀ L, Is L (fun n H1 => CompJ (Itr 0 n) tt te σ Q H1) → ta σ H fun vs H1 => ∃ j : Int, vs = [.int j] ∧ -(2 ^ 62) ≤ j ∧ j < 2 ^ 62 ∧ L j.toNat H1) : tComp (iRng1 ta) tt te σ H Q := h _ Is.rfl
theorem compRange {lo : Int} {n : Nat} {tt : TT} {te : TE} {σ : St} {Q : VK} {H1 : Hp} (Pv : Addr → Nat → List V → Hp → Prop) (h0 : ∀ p, H1 p = none → Pv p 0 [] (upd H1 p (.lst [])))
    (hl : ∀ p i acc H, H1 p = none → Pv p i acc H → H p = some (.lst acc))
    (hs : ∀ p i acc H, H1 p = none → i < n → Pv p i acc H → tt (some (.int (lo + i)) :: σ) H fun b H4 => if b = true then te (some (.int (lo + i)) :: σ) H4 fun v H5 => H5 p = some (.lst acc) ∧ acc.length < sizeLine ∧ Pv p (i + 1) (acc ++ [v]) (upd H5 p (.lst (acc ++ [v]))) else Pv p (i + 1) acc H4)
    (hd : ∀ p acc H, H1 p = none → Pv p n acc H → Q (.ref p) H) : CompJ (Itr lo n) tt te σ Q H1 := by
  intro p hp
  refine ⟨fun i m acc H => Pv p i acc H ∧ i ≤ n ∧ m = n - i, ⟨_, h0 p hp, Nat.zero_le _, rfl⟩, ?_⟩
  rintro i m acc H2 ⟨hP, hi, rfl⟩
  refine ⟨hl p i acc H2 hp hP, ?_⟩
  by_cases e : i = n
  · subst e
    exact .inl ⟨Nat.le_refl _, hd p acc H2 hp hP⟩
  · have hlt : i < n := by omega
    refine .inr ⟨hlt, fun acc' H' => Pv p (i + 1) acc' H', fun acc' H' h' => ⟨_, ?_, h', hlt, rfl⟩, ?_⟩
    · omega
    · rintro x H3 ⟨rfl, rfl⟩
      exact hs p i acc H3 hp hlt hP
theorem atI_7 {α : Type} {x0 x1 x2 x3 x4 x5 x6 x7 : α} {xs : List α} : atI (x0 :: x1 :: x2 :: x3 :: x4 :: x5 :: x6 :: x7 :: xs) 7 = some x7 := atI_nat (j := 7) rfl
/-! ### slices by plain places -/
/-- a new thing at p, all else as it was -/
structure New (H : Hp) (p : Addr) (H' : Hp) : Prop where
  free : H p = none
  same : Same H H'
theorem New.upd {H : Hp} {p : Addr} {o : HO} (h : H p = none) : New H p (L2.upd H p o) := ⟨h, same_upd h⟩
end L2
set_option Elab.async false
set_option linter.all false
set_option maxRecDepth 100000
namespace L2
open PySem PySem.Spec PyProof.Rows
/-! ### reading step by step: what comes behind stands behind a letter -/
theorem Is.use {α β : Type} {R S : α → β → Prop} (h : Is R S) {x : α} {y : β} (k : S x y) : R x y := by cases h; exact k
def Hid {α β : Type} (S : α → β → Prop) (g : (α → β → Prop) → Prop) : Prop := ∀ R, (∀ x y, S x y → R x y) → g R
theorem hidI {α β : Type} {S : α → β → Prop} {g : (α → β → Prop) → Prop} (h : ∀ R, (∀ x y, S x y → R x y) → g R) : Hid S g := h
section
variable {σ : St} {H : Hp} {Q : VK} {D : Ends} {ta tb tc te : TE} {t u : TA} {r : R2} {b : TS} {QB : Bool → Hp → Prop} {c d : TT} {QA : List V → Hp → Prop}
theorem asgH {g : TG} (h : ∀ R, Is R (fun x H1 => g x σ H1 D.nx) → te σ H R) : tAsg te g D σ H := h _ Is.rfl
theorem dropH (h : ∀ R, Is R (fun _ H1 => D.nx σ H1) → te σ H R) : tDrop te D σ H := h _ Is.rfl
theorem retH (h : ∀ R, Is R (fun x H1 => D.rt x H1) → te σ H R) : tRet te D σ H := h _ Is.rfl
theorem ifH {a b : TS} (h : ∀ R, Is R (fun k H1 => if k = true then a D σ H1 else b D σ H1) → c σ H R) : tIfS c a b D σ H := h _ Is.rfl
theorem testH (h : ∀ R, Is R (fun x H1 => ∃ k, x = .bl k ∧ QB k H1) → te σ H R) : tTest te σ H QB := h _ Is.rfl
theorem tBH (h : ∀ R, Is R (fun x H1 => ∃ k, x = .bl k ∧ QB k H1) → te σ H R) : tB te σ H QB := h _ Is.rfl
theorem notH (h : ∀ R, Is R (fun k H1 => QB (!k) H1) → c σ H R) : tNot c σ H QB := h _ Is.rfl
theorem andH (h : ∀ R, Is R (fun k H1 => if k = true then d σ H1 QB else QB false H1) → c σ H R) : tAnd c d σ H QB := h _ Is.rfl
theorem orH (h : ∀ R, Is R (fun k H1 => if k = true then QB true H1 else d σ H1 QB) → c σ H R) : tOr c d σ H QB := h _ Is.rfl
theorem use2 {α β : Type} {R S : α → β → Prop} (h : ∀ x y, S x y → R x y) {x : α} {y : β} (k : S x y) : R x y := h x y k
theorem andVH (h : ∀ R, Is R (fun x H1 => ∃ c, x = .bl c ∧ if c = true then tb σ H1 Q else Q (.bl false) H1) → ta σ H R) : tAndV ta tb σ H Q := h _ Is.rfl
theorem notVH (h : ∀ R, Is R (fun x H1 => ∃ c, x = .bl c ∧ Q (.bl (!c)) H1) → ta σ H R) : tNotV ta σ H Q := h _ Is.rfl
theorem opH (h : ∀ R, (∀ x H1, Hid (fun y H2 => r x y H2 Q) (fun R2 => tb σ H1 R2) → R x H1) → ta σ H R) : tOp r ta tb σ H Q := h (fun x H1 => tb σ H1 fun y H2 => r x y H2 Q) fun _ _ z => z _ fun _ _ z2 => z2
theorem consH (h : ∀ R, Is R (fun x H1 => t σ H1 fun xs H2 => QA (x :: xs) H2) → te σ H R) : tCons te t σ H QA := h _ Is.rfl
theorem tupH (h : ∀ R, Is R (fun xs H1 => xs.length ≤ sizeLine ∧ ∀ p, H1 p = none → Q (.ref p) (upd H1 p (.tup xs))) → t σ H R) : tTup t σ H Q := h _ Is.rfl
theorem lstH (h : ∀ R, Is R (fun xs H1 => xs.length ≤ sizeLine ∧ ∀ p, H1 p = none → Q (.ref p) (upd H1 p (.lst xs))) → t σ H R) : tLst t σ H Q := h _ Is.rfl
theorem callH {sp : Sp} {dvs : List V} {E : XK} (h : ∀ R, Is R (fun vs H1 => sp (vs ++ dvs) H1 Q E) → t σ H R) : tCall sp dvs E t σ H Q := h _ Is.rfl
theorem cbH {q : List V → Hp → VK → Prop} (h : ∀ R, Is R (fun vs H1 => q vs H1 Q) → t σ H R) : tCB q t σ H Q := h _ Is.rfl
theorem methH {C : Addr} {m : Str} {sp : Sp} {dvs : List V} {E : XK} (h : ∀ R, Is R (fun x H1 => ∃ a dx fs, x = .ref a ∧ H1 a = some (.ins C dx fs) ∧ fs.lookup m = none ∧ t σ H1 fun vs H2 => sp (x :: (vs ++ dvs)) H2 Q E) → ta σ H R) : tMeth C m sp dvs E ta t σ H Q := h _ Is.rfl
theorem makeH {C : Addr} {sp : Sp} {dvs : List V} {E : XK} (h : ∀ R, Is R (fun vs H1 => ∀ x dx, H1 x = none → H1 dx = none → dx ≠ x → sp (.ref x :: (vs ++ dvs)) (upd (upd H1 dx (.own x)) x (.ins C dx [])) (fun v H2 => v = .non ∧ Q (.ref x) H2) E) → t σ H R) : tMake C sp dvs E t σ H Q := h _ Is.rfl
theorem fldH {C : Addr} {f : Str} (h : ∀ R, Is R (fun x H1 => ∃ a dx fs v, x = .ref a ∧ H1 a = some (.ins C dx fs) ∧ fs.lookup f = some v ∧ Q v H1) → ta σ H R) : tFldC C ta f σ H Q := h _ Is.rfl
theorem sfldH {C : Addr} {f : Str} (h : ∀ R, Is R (fun y H1 => ta σ H1 fun x H2 => ∃ a dx fs, x = .ref a ∧ H2 a = some (.ins C dx fs) ∧ fs.length < 1000 ∧ D.nx σ (upd H2 a (.ins C dx (putF f y fs)))) → te σ H R) : sFldC C ta te f D σ H := h _ Is.rfl
theorem bmH {K : PySem.W.Frag} {T : String} {q : V → List V → Hp → VK → Prop} (h : ∀ R, Is R (fun x H1 => tyV K T x H1 ∧ t σ H1 fun xs H2 => q x xs H2 Q) → ta σ H R) : tBM K T q ta t σ H Q := h _ Is.rfl
theorem gsubH {to ti : TE} {tt : TSet} {v : V} {QS : St → Hp → Prop} (h : ∀ R, (∀ o H1, Hid (fun i H2 => tt o i v H2 fun H3 => QS σ H3) (fun R2 => ti σ H1 R2) → R o H1) → to σ H R) : gSub to ti tt v σ H QS := h (fun o H1 => ti σ H1 fun i H2 => tt o i v H2 fun H3 => QS σ H3) fun _ _ z => z _ fun _ _ z2 => z2
theorem varH {i : Nat} {v : V} (e : σ[i]? = some (some v)) (h : Q v H) : tVar i σ H Q := ⟨v, e, h⟩
theorem conH {v : V} (h : Q v H) : tC v σ H Q := h
theorem nilH (h : QA [] H) : tNil σ H QA := h
theorem nextH (h : D.nx σ H) : tNext D σ H := h
theorem nameH {i : Nat} {v : V} {QS : St → Hp → Prop} (h : QS (σ.set i (some v)) H) : gName i v σ H QS := h
theorem i0H {g : Int → Int → V} {i j : Int} (h : Q (g i j) H) : rI0 g (.int i) (.int j) H Q := ⟨i, j, rfl, rfl, h⟩
theorem iH {C : Int → Int → Prop} {g : Int → Int → V} {i j : Int} (c : C i j) (h : Q (g i j) H) : rI C g (.int i) (.int j) H Q := ⟨i, j, rfl, rfl, c, h⟩
theorem blH {b : Bool} {S : Bool → Prop} (h : S b) : ∃ k, V.bl b = .bl k ∧ S k := ⟨b, rfl, h⟩
end
/-! ### the ledger: what is known of the heap, each cell once (tuples and what never changes as often as wanted) -/
def lasts : HO → Bool
  | .tup _ => true
  | .frz _ _ => true
  | _ => false
abbrev Cells := List (Addr × HO)
structure Led (H : Hp) (L : Cells) : Prop where
  at_ : ∀ p ∈ L, H p.1 = some p.2
  nd : ((L.filter fun p => !lasts p.2).map (·.1)).Nodup
theorem Led.get {H : Hp} {L : Cells} (h : Led H L) {a : Addr} {o : HO} (m : (a, o) ∈ L) : H a = some o := h.at_ _ m
theorem Led.nil {H : Hp} : Led H [] := ⟨fun _ h => (nomatch h), List.nodup_nil⟩
theorem Led.new {H : Hp} {L : Cells} (h : Led H L) {p : Addr} {o : HO} (hp : H p = none) : Led (upd H p o) ((p, o) :: L) := by
  have ne : ∀ q ∈ L, q.1 ≠ p := fun q hq e => by have := h.at_ q hq; rw [e, hp] at this; cases this
  refine ⟨fun q hq => ?_, ?_⟩
  · rcases List.mem_cons.mp hq with rfl | hq
    · exact upd_same
    · rw [upd_ne (ne q hq)]; exact h.at_ q hq
  · rw [List.filter_cons]
    split
    · rw [List.map_cons]
      refine List.nodup_cons.mpr ⟨fun m => ?_, h.nd⟩
      obtain ⟨q, hq, e⟩ := List.mem_map.mp m
      exact ne q (List.mem_filter.mp hq).1 e
    · exact h.nd
theorem Led.perm {H : Hp} {L L' : Cells} (h : Led H L) (e : L.Perm L') : Led H L' := by
  refine ⟨fun p hp => h.at_ p (e.mem_iff.mpr hp), ?_⟩
  exact ((e.filter _).map _).nodup_iff.mp h.nd
/-- the cell at a is written -/
theorem Led.put {H : Hp} {L : Cells} {a : Addr} {o o' : HO} (h : Led H ((a, o) :: L)) (hl : lasts o = false) (hl' : lasts o' = false) : Led (upd H a o') ((a, o') :: L) := by
  have ha := h.at_ _ List.mem_cons_self
  have nd := h.nd
  rw [List.filter_cons, if_pos (by simp [hl]), List.map_cons] at nd
  obtain ⟨n1, n2⟩ := List.nodup_cons.mp nd
  have ne : ∀ q ∈ L, q.1 ≠ a := fun q hq e => by
    have hq' := h.at_ q (List.mem_cons_of_mem _ hq)
    rw [e, ha] at hq'
    have e2 : o = q.2 := Option.some.inj hq'
    refine n1 (List.mem_map.mpr ⟨q, List.mem_filter.mpr ⟨hq, by rw [← e2, hl]; rfl⟩, e⟩)
  refine ⟨fun q hq => ?_, ?_⟩
  · rcases List.mem_cons.mp hq with rfl | hq
    · exact upd_same
    · rw [upd_ne (ne q hq)]; exact h.at_ q (List.mem_cons_of_mem _ hq)
  · rw [List.filter_cons, if_pos (by simp [hl']), List.map_cons]
    exact List.nodup_cons.mpr ⟨n1, n2⟩
theorem Led.sub {H : Hp} {L L' : Cells} (h : Led H L) (s : L'.Sublist L) : Led H L' := ⟨fun p hp => h.at_ p (s.subset hp), List.Nodup.sublist ((s.filter _).map _) h.nd⟩
theorem Led.tail {H : Hp} {L : Cells} {p : Addr × HO} (h : Led H (p :: L)) : Led H L := h.sub (List.sublist_cons_self p L)
theorem Led.left {H : Hp} {L M : Cells} (h : Led H (L ++ M)) : Led H L := h.sub (List.sublist_append_left L M)
/-- what lasts may be told once more -/
theorem Led.again {H : Hp} {L : Cells} {a : Addr} {o : HO} (h : Led H L) (ha : H a = some o) (hl : lasts o = true) : Led H ((a, o) :: L) := by
  refine ⟨fun q hq => ?_, ?_⟩
  · rcases List.mem_cons.mp hq with rfl | hq
    · exact ha
    · exact h.at_ q hq
  · rw [List.filter_cons, if_neg (by simp [hl])]; exact h.nd
theorem Led.swap {H : Hp} {L : Cells} {p q : Addr × HO} (h : Led H (p :: q :: L)) : Led H (q :: p :: L) := h.perm (List.Perm.swap q p L)
/-- the i-th cell to the front -/
theorem Led.pull {H : Hp} {L M : Cells} {p : Addr × HO} (h : Led H (L ++ p :: M)) : Led H (p :: (L ++ M)) := h.perm List.perm_middle
theorem Led.push {H : Hp} {L M : Cells} {p : Addr × HO} (h : Led H (p :: (L ++ M))) : Led H (L ++ p :: M) := h.perm List.perm_middle.symm
/-- a new thing, the heap behind a letter -/
theorem Led.alloc {H : Hp} {L : Cells} {o : HO} {Q : VK} (h : Led H L) (k : ∀ p H', H p = none → Led H' ((p, o) :: L) → Same H H' → Q (.ref p) H') : ∀ p, H p = none → Q (.ref p) (upd H p o) := fun p hp => k p _ hp (h.new hp) (same_upd hp)
theorem Led.same {H H' : Hp} {L : Cells} (h : Led H L) (s : Same H H') : Led H' L := ⟨fun p hp => s _ _ (h.at_ p hp), h.nd⟩
theorem FnD.imp {P : Program} {w : World} {K : PySem.W.Frag} {mg : Str → Option Value} {base : Heap} {k : Nat} {x : Str} {ps : List Str} {sp sp' : Sp} (F : FnD P w K mg base k x ps sp) (h : ∀ vs H Q E, sp' vs H Q E → sp vs H Q E) : FnD P w K mg base k x ps sp' := by
  obtain ⟨f, fd, h1, h2, h3, h4⟩ := F.ex
  exact ⟨f, fd, h1, h2, h3, h4.imp h⟩
/-- the script, known through it all -/
def Scr (K : PySem.W.Frag) (L : Cells) (a : Addr) (xs : List V) : Prop := (∃ o, (a, HO.frz o (.lst xs)) ∈ L) ∨ ∀ H, SqL K H a xs
theorem Scr.seq {K : PySem.W.Frag} {L : Cells} {a : Addr} {xs : List V} {H : Hp} (s : Scr K L a xs) (h : Led H L) : SqL K H a xs := by
  rcases s with ⟨o, m⟩ | s
  · exact .inl (.inr ⟨o, h.get m⟩)
  · exact s H
theorem Scr.mono {K : PySem.W.Frag} {L L' : Cells} {a : Addr} {xs : List V} (s : Scr K L a xs) (h : ∀ p ∈ L, p ∈ L') : Scr K L' a xs := by
  rcases s with ⟨o, m⟩ | s
  · exact .inl ⟨o, h _ m⟩
  · exact .inr s
/-- at the law's entry -/
theorem scr_start {K : PySem.W.Frag} {H : Hp} {a : Addr} {xs : List V} (hS : SqL K H a xs) (hO : Only H) : ∃ L, Led H L ∧ Scr K L a xs := by
  rcases hS with (h | ⟨o, h⟩) | h
  · rcases hO a with z | ⟨o, ys, z⟩
    · rw [h] at z; cases z
    · rw [h] at z; cases z
  · exact ⟨[(a, .frz o (.lst xs))], Led.nil.again h rfl, .inl ⟨o, List.mem_cons_self⟩⟩
  · exact ⟨[], Led.nil, .inr fun H' => .inr h⟩
theorem repH {H : Hp} {Q : VK} {l : Addr} {k : Int} {xs : List V} (h1 : H l = some (.lst xs)) (hk : -(2 ^ 63) ≤ k ∧ k < 2 ^ 63) (hl : xs.length * k.toNat ≤ sizeLine) (h : ∀ p, H p = none → Q (.ref p) (upd H p (.lst (List.replicate k.toNat xs).flatten))) : rRep (.ref l) (.int k) H Q := ⟨l, k, xs, rfl, rfl, h1, hk.1, hk.2, hl, h⟩
/-- the i-th cell is written -/
theorem Led.putI {H : Hp} {L : Cells} {a : Addr} {o o' : HO} (i : Nat) (h : Led H L) (e : L[i]? = some (a, o)) (hl : lasts o = false) (hl' : lasts o' = false) : Led (upd H a o') (L.set i (a, o')) := by
  have hi : i < L.length := (List.getElem?_eq_some_iff.mp e).1
  have e1 : L = L.take i ++ (a, o) :: L.drop (i + 1) := by
    have := (List.getElem?_eq_some_iff.mp e).2
    rw [← this, List.getElem_cons_drop, List.take_append_drop]
  have e2 : L.set i (a, o') = L.take i ++ (a, o') :: L.drop (i + 1) := by
    rw [List.set_eq_take_append_cons_drop, if_pos hi]
  rw [e1] at h
  rw [e2]
  exact ((h.pull).put hl hl').push
section
variable {H : Hp} {Q : VK} {x y v : V} {a : Addr} {xs : List V} {i : Int}
theorem eqIH {m n : Int} (h : Q (.bl (decide (m = n))) H) : rEq (.int m) (.int n) H Q := ⟨rfl, by rw [show decide (V.int m = V.int n) = decide (m = n) by simp]; exact h⟩
theorem neIH {m n : Int} (h : Q (.bl (!decide (m = n))) H) : rNe (.int m) (.int n) H Q := ⟨rfl, by rw [show decide (V.int m = V.int n) = decide (m = n) by simp]; exact h⟩
theorem isiH {n t : String} {b : Bool} (h1 : tyN H x = some t) (h2 : isiT t n = some b) (h : Q (.bl b) H) : rIsiN [x, .ty n] H Q := ⟨x, n, t, b, rfl, h1, h2, h⟩
theorem ixLH (h1 : H a = some (.lst xs)) (h2 : atI xs i = some v) (h : Q v H) : rIxA (.ref a) (.int i) H Q := ⟨a, i, rfl, rfl, .inl ⟨xs, h1, v, h2, h⟩⟩
theorem lenLH (h1 : H a = some (.lst xs)) (h : Q (.int xs.length) H) : rLenA [.ref a] H Q := ⟨a, rfl, .inl ⟨xs, h1, h⟩⟩
theorem lenDH {kvs : List (Key × V)} (h1 : H a = some (.dK kvs)) (h : Q (.int kvs.length) H) : rLenA [.ref a] H Q := ⟨a, rfl, .inr (.inr ⟨kvs, h1, h⟩)⟩
theorem tyL (h : H a = some (.lst xs)) : tyN H (.ref a) = some "list" := by unfold tyN; simp only [h]
theorem tyT (h : H a = some (.tup xs)) : tyN H (.ref a) = some "tuple" := by unfold tyN; simp only [h]
theorem appH {l : Addr} (h1 : H l = some (.lst xs)) (hl : xs.length < sizeLine) (h : Q .non (upd H l (.lst (xs ++ [y])))) : rAppend (.ref l) [y] H Q := ⟨l, xs, y, rfl, rfl, h1, hl, h⟩
theorem setLH {QH : Hp → Prop} {p : Addr} {k : Int} {j : Nat} (h1 : H p = some (.lst xs)) (h2 : ixN xs.length k = some j) (h : QH (upd H p (.lst (xs.set j v)))) : rSetL (.ref p) (.int k) v H QH := ⟨p, xs, k, j, rfl, rfl, h1, h2, h⟩
theorem rtH {n b' c' : St → Hp → Prop} {q : VK} (h : q x H) : (Ends.mk n q b' c').rt x H := h
theorem nxH {n b' c' : St → Hp → Prop} {q : VK} {σ : St} (h : n σ H) : (Ends.mk n q b' c').nx σ H := h
theorem iteNT {A B : Prop} (h : B) : if (!true) = true then A else B := by simpa using h
theorem iteNF {A B : Prop} (h : A) : if (!false) = true then A else B := by simpa using h
theorem iteND {c : Prop} [Decidable c] {A B : Prop} (h1 : ¬ c → A) (h2 : c → B) : if (!decide c) = true then A else B := by
  by_cases h : c
  · rw [decide_eq_true h]; exact iteNT (h2 h)
  · rw [decide_eq_false h]; exact iteNF (h1 h)
theorem powH {m : Int} (e : (10 : Int) ^ i.toNat = m) (c : CPow 10 i) (h : Q (.int m) H) : rI CPow (fun i j => .int (i ^ j.toNat)) (.int 10) (.int i) H Q := ⟨10, i, rfl, rfl, c, by dsimp only; rw [e]; exact h⟩
theorem pow60H (h : Q (.int 1000000000000000000000000000000000000000000000000000000000000) H) : rI CPow (fun i j => .int (i ^ j.toNat)) (.int 10) (.int 60) H Q := powH (by decide) (of_eq_true cpow_60) h
theorem tyI {n : Int} : tyN H (.int n) = some "int" := rfl
theorem tyB {n : Bool} : tyN H (.bl n) = some "bool" := rfl
theorem tyS {n : Str} : tyN H (.str n) = some "str" := rfl
theorem tyO : tyN H .non = some "NoneType" := rfl
theorem datInts (H : Hp) : ∀ ns : List Int, DatVs H (ns.map V.int) (ns.map PyData.int)
  | [] => .nil
  | n :: ns => .cons (.int n) (datInts H ns)
theorem neLH {b : Addr} {ns ms : List Int} (h1 : H a = some (.lst (ns.map V.int))) (h2 : H b = some (.lst (ms.map V.int))) (h : Q (.bl (!decide (ns = ms))) H) : rNeD (.ref a) (.ref b) H Q := ⟨_, _, .lst h1 (datInts H ns), .lst h2 (datInts H ms), shaped_ints _, shaped_ints _, by rw [eqv_ints]; exact h⟩
theorem tyVL {K : PySem.W.Frag} (h : H a = some (.lst xs)) : tyV K "list" (.ref a) H := .inl ⟨rfl, xs, SqL.of h⟩
end
def Keep (p : Prop) : Prop := p ∧ True
theorem seqK {t u : TS} {D : Ends} {σ : St} {H : Hp} (h : ∀ M, Keep (Is M (u D)) → t { D with nx := M } σ H) : tSeq t u D σ H := h _ ⟨Is.rfl, trivial⟩
theorem Keep.use {M N : St → Hp → Prop} (h : Keep (Is M N)) {σ : St} {H : Hp} (k : N σ H) : M σ H := by cases h.1; exact k
theorem listH {K : PySem.W.Frag} {H : Hp} {Q : VK} {a : Addr} {ys : List V} (h1 : SqL K H a ys) (h : ∀ l, H l = none → Q (.ref l) (upd H l (.lst ys))) : ∃ p ys, [V.ref a] = [.ref p] ∧ (SqL K H p ys ∨ SqT K H p ys) ∧ ∀ l, H l = none → Q (.ref l) (upd H l (.lst ys)) := ⟨a, ys, rfl, .inl h1, h⟩
theorem ixN_of {n : Nat} {i : Int} (h0 : 0 ≤ i) (h1 : i < n) : ixN n i = some i.toNat := by unfold ixN; rw [if_pos h0, if_pos h1]
/-- a comprehension over a range, each of whose elements leaves the ledger as it is and has what f says of it -/
theorem compRangeL {lo : Int} {n : Nat} {te : TE} {σ : St} {Q : VK} {H1 : Hp} {L : Cells} (F : Nat → V → Prop) (hL : Led H1 L) (hn : n ≤ sizeLine)
    (hs : ∀ (i : Nat) (H : Hp) (R : VK) (q : Addr × HO), i < n → Led H (q :: L) → (∀ v H', F i v → Led H' (q :: L) → R v H') → te (some (.int (lo + i)) :: σ) H R)
    (hd : ∀ p acc H', acc.length = n → (∀ i v, acc[i]? = some v → F i v) → Led H' ((p, .lst acc) :: L) → Q (.ref p) H') : CompJ (Itr lo n) tYes te σ Q H1 := by
  refine compRange (fun p i acc H => i ≤ n ∧ acc.length = i ∧ (∀ j v, acc[j]? = some v → F j v) ∧ Led H ((p, .lst acc) :: L)) (fun p hp => ⟨Nat.zero_le _, rfl, fun j v h => by simp at h, hL.new hp⟩) (fun p i acc H hp h => h.2.2.2.get List.mem_cons_self) ?_ ?_
  · rintro p i acc H hp hi ⟨_, rfl, hF, hl⟩
    unfold tYes
    dsimp only
    rw [if_pos rfl]
    refine hs _ _ _ (p, .lst acc) hi hl fun v H' fv hl' => ⟨hl'.get List.mem_cons_self, by omega, hi, by simp, fun j u hj => ?_, hl'.put rfl rfl⟩
    rw [List.getElem?_append] at hj
    split at hj
    · exact hF j u hj
    · rename_i hge
      have : j - acc.length = 0 := by
        rcases Nat.lt_or_ge (j - acc.length) 1 with h | h
        · omega
        · rw [List.getElem?_eq_none (by simpa using h)] at hj; cases hj
      rw [this] at hj
      have e : j = acc.length := by omega
      subst e
      cases hj
      exact fv
  · rintro p acc H hp ⟨_, e, hF, hl⟩
    exact hd p acc H e hF hl
end L2
set_option Elab.async false
set_option linter.all false
set_option maxRecDepth 100000
namespace L2
open PySem PySem.Spec PyProof.Rows PySem.W
/-! ### sorted: of a list of ints, of a dict with ints for keys -/
section
variable {X : Cx}
theorem sz64 {n : Nat} (h : n < 64) : n ≤ sizeLine := Nat.le_trans (Nat.le_of_lt h) (by decide)
/-! ### all, any of a list of truths -/
end
end L2
set_option Elab.async false
set_option linter.all false
set_option maxRecDepth 100000
namespace L2
open PySem PySem.Spec PyProof.Rows
/-! ### enumerate of a list, unpacked -/
section
variable {X : Cx} {pins : List (Addr × Obj)} {σ : St} {H : Hp} {s : Shared} {h' : Heap}
end
section
variable {X : Cx}
end
end L2
set_option Elab.async false
set_option linter.all false
set_option maxRecDepth 100000
namespace L2
open PySem PySem.Spec PyProof.Rows
/-! ### fields and dicts, step by step -/
section
variable {H : Hp} {Q : VK} {a : Addr} {σ : St} {D : Ends}
theorem fldR {C dx : Addr} {fs : List (Str × V)} {f : Str} {v : V} {S : V → Prop} (h1 : H a = some (.ins C dx fs)) (h2 : fs.lookup f = some v) (h : S v) : ∃ b dx fs v, V.ref a = .ref b ∧ H b = some (.ins C dx fs) ∧ fs.lookup f = some v ∧ S v := ⟨a, dx, fs, v, rfl, h1, h2, h⟩
theorem methR {C dx : Addr} {fs : List (Str × V)} {m : Str} {S : Prop} (h1 : H a = some (.ins C dx fs)) (h2 : fs.lookup m = none) (h : S) : ∃ b dx fs, V.ref a = .ref b ∧ H b = some (.ins C dx fs) ∧ fs.lookup m = none ∧ S := ⟨a, dx, fs, rfl, h1, h2, h⟩
theorem sfldR {C dx : Addr} {fs : List (Str × V)} {f : Str} {y : V} (h1 : H a = some (.ins C dx fs)) (h2 : fs.length < 1000) (h : D.nx σ (upd H a (.ins C dx (putF f y fs)))) : ∃ b dx fs, V.ref a = .ref b ∧ H b = some (.ins C dx fs) ∧ fs.length < 1000 ∧ D.nx σ (upd H b (.ins C dx (putF f y fs))) := ⟨a, dx, fs, rfl, h1, h2, h⟩
theorem newDH {L : Cells} (hL : Led H L) (h : ∀ p H', H p = none → Led H' ((p, .dK []) :: L) → Same H H' → Q (.ref p) H') : tDNewK σ H Q := fun p hp => h p _ hp (hL.new hp) (same_upd hp)
theorem isH {x : V} (h : Q (.bl (decide (x = .non))) H) : V.non = .non ∧ Q (.bl (decide (x = .non))) H := ⟨rfl, h⟩
theorem isnH {x : V} (h : Q (.bl (!decide (x = .non))) H) : V.non = .non ∧ Q (.bl (!decide (x = .non))) H := ⟨rfl, h⟩
end
end L2
set_option Elab.async false
set_option linter.all false
set_option maxRecDepth 100000
namespace L2
open PySem PySem.Spec PyProof.Rows
end L2
set_option Elab.async false
set_option linter.all false
set_option maxRecDepth 100000
namespace L2
open PySem PySem.Spec PyProof.Rows
/-! ### get and pop with a default -/
section
variable {H : Hp} {Q : VK} {a : Addr} {σ : St} {D : Ends}
end
/-! ### ledgers turned about and thinned -/
section
variable {α : Type} {A B B' X Y : List α} {a b : α}
theorem pcC (h : (a :: B').Perm B) : (a :: b :: B').Perm (b :: B) := (List.Perm.swap _ _ _).trans (h.cons b)
theorem pcA (h : (a :: B').Perm B) : (a :: (Y ++ B')).Perm (Y ++ B) := (List.perm_middle.symm).trans (List.Perm.append_left Y h)
theorem paC (h : (X ++ B').Perm B) : (X ++ (b :: B')).Perm (b :: B) := List.perm_middle.trans (h.cons b)
theorem paA (h : (X ++ B').Perm B) : (X ++ (Y ++ B')).Perm (Y ++ B) := by
  refine List.Perm.trans ?_ (List.Perm.append_left Y h)
  rw [← List.append_assoc, ← List.append_assoc]
  exact List.Perm.append_right _ List.perm_append_comm
def SubP (B A : List α) : Prop := ∃ A', B.Perm A' ∧ A'.Sublist A
theorem spR : SubP A A := ⟨A, .refl _, .refl _⟩
theorem spC (h1 : (a :: A).Perm B) (h2 : SubP Y A) : SubP (a :: Y) B := by
  obtain ⟨A', p, s⟩ := h2
  obtain ⟨C, p2, s2⟩ := List.exists_perm_sublist (s.cons₂ a) h1
  exact ⟨C, (p.cons a).trans p2.symm, s2⟩
theorem spA (h1 : (X ++ A).Perm B) (h2 : SubP Y A) : SubP (X ++ Y) B := by
  obtain ⟨A', p, s⟩ := h2
  obtain ⟨C, p2, s2⟩ := List.exists_perm_sublist (List.Sublist.append_left s X) h1
  exact ⟨C, (List.Perm.append_left X p).trans p2.symm, s2⟩
theorem spD (h : SubP B A) : SubP B (a :: A) := by
  obtain ⟨A', p, s⟩ := h
  exact ⟨A', p, s.cons a⟩
theorem spDA (h : SubP B A) : SubP B (X ++ A) := by
  obtain ⟨A', p, s⟩ := h
  exact ⟨A', p, s.trans (List.sublist_append_right X A)⟩
end
theorem Led.wk {H : Hp} {L L' : Cells} (h : Led H L) (s : SubP L' L) : Led H L' := by
  obtain ⟨A', p, q⟩ := s
  exact (h.sub q).perm p.symm
theorem Led.make {H : Hp} {L : Cells} {C x dx : Addr} (hL : Led H L) (h1 : H x = none) (h2 : H dx = none) (hn : dx ≠ x) : Led (upd (upd H dx (.own x)) x (.ins C dx [])) ((x, .ins C dx []) :: L) := by
  have := (hL.new (o := .own x) h2).new (p := x) (o := .ins C dx []) (by rw [upd_ne (Ne.symm hn)]; exact h1)
  exact this.sub (.cons₂ _ (.cons _ (.refl _)))
end L2
set_option Elab.async false
set_option linter.all false
set_option maxRecDepth 100000
namespace L2
open PySem PySem.Spec PyProof.Rows PySem.W
/-! ### equality of plain data, at any depth -/
/-! ### a comprehension that leaves out -/
theorem slTH {H : Hp} {Q : VK} {K : PySem.W.Frag} {a : Addr} {xs : List V} {lo hi : Option Int} (h1 : H a = some (.tup xs)) (h2 : ¬ (HT.sIx xs.length 0 lo = 0 ∧ HT.sIx xs.length xs.length hi = xs.length)) (h : ∀ p, H p = none → Q (.ref p) (upd H p (.tup (cutV xs lo hi)))) : rSlT K (.ref a) lo hi H Q := ⟨a, xs, rfl, SqT.of h1, h2, h⟩
end L2
set_option Elab.async false
set_option linter.all false
set_option maxRecDepth 100000
namespace L2
open PySem PySem.Spec PyProof.Rows
/-! ### plain lists; a law's own dict from ints to values -/
/-! the law's dict -/
theorem valV_drop (k j : Key) : ∀ kvs : List (Key × V), valV (dropK kvs k) j = if j = k then none else valV kvs j
  | [] => by simp [dropK, valV]
  | p :: r => by
    by_cases e : p.1 = k
    · rw [dropK_pos e, valV_drop k j r]
      by_cases hj : j = k
      · rw [if_pos hj, if_pos hj]
      · rw [if_neg hj, if_neg hj, valV_neg (fun z => hj (by rw [← z, e]))]
    · rw [dropK_neg e]
      by_cases hp : p.1 = j
      · rw [valV_pos hp, valV_pos hp, if_neg (fun z => e (by rw [hp, z]))]
      · rw [valV_neg hp, valV_neg hp, valV_drop k j r]
structure WD (kvs : List (Key × V)) (f : Int → V) (n : Nat) : Prop where
  nd : (kvs.map (·.1)).Nodup
  ik : ∀ k ∈ kvs.map (·.1), ∃ m : Int, k = Sum.inl m
  le : kvs.length ≤ n
  vl : ∀ m, valV kvs (.inl m) = if f m = .non then none else some (f m)
theorem WD.keys {kvs : List (Key × V)} (h : ∀ k ∈ kvs.map (·.1), ∃ m : Int, k = Sum.inl m) : ∃ ns : List Int, kvs.map (·.1) = ns.map Sum.inl := by
  induction kvs with
  | nil => exact ⟨[], rfl⟩
  | cons p r ih =>
    obtain ⟨ns, e⟩ := ih fun k hk => h k (List.mem_cons_of_mem _ hk)
    obtain ⟨m, hm⟩ := h p.1 List.mem_cons_self
    exact ⟨m :: ns, by rw [List.map_cons, List.map_cons, e, hm]⟩
theorem WD.ns {kvs : List (Key × V)} {f : Int → V} {n : Nat} (h : WD kvs f n) : ∃ ns : List Int, kvs.map (·.1) = ns.map Sum.inl ∧ ns.length ≤ n ∧ ns.Nodup ∧ ∀ m, m ∈ ns ↔ f m ≠ .non := by
  obtain ⟨ns, e⟩ := WD.keys h.ik
  refine ⟨ns, e, ?_, ?_, fun m => ?_⟩
  · have := congrArg List.length e
    rw [List.length_map, List.length_map] at this
    have := h.le
    omega
  · have := h.nd
    rw [e] at this
    exact (List.pairwise_map.mp this).imp fun {a b} hab z => hab (by rw [z])
  · have h1 : m ∈ ns ↔ (Sum.inl m : Key) ∈ kvs.map (·.1) := by
      rw [e, List.mem_map]
      constructor
      · intro hm; exact ⟨m, hm, rfl⟩
      · rintro ⟨m', hm, z⟩; cases z; exact hm
    rw [h1]
    have hv := h.vl m
    constructor
    · intro hk z
      rw [if_pos z] at hv
      exact valV_not hv hk
    · intro z
      rw [if_neg z] at hv
      exact valV_in hv
theorem WD.start : WD [] (fun _ => .non) 0 := ⟨List.nodup_nil, (fun _ h => nomatch h), Nat.le_refl _, fun m => by rw [if_pos rfl]; rfl⟩
theorem WD.drop {kvs : List (Key × V)} {f : Int → V} {n : Nat} (h : WD kvs f n) (p : Int) : WD (dropK kvs (.inl p)) (fun m => if m = p then .non else f m) n := by
  refine ⟨nd_dropK h.nd, fun k hk => ?_, Nat.le_trans (dropK_le kvs _) h.le, fun m => ?_⟩
  · obtain ⟨q, hq, rfl⟩ := List.mem_map.mp hk
    exact h.ik _ (List.mem_map.mpr ⟨q, dropK_mem hq, rfl⟩)
  · rw [valV_drop, h.vl m]
    by_cases hm : m = p
    · rw [if_pos (by rw [hm]), if_pos hm, if_pos rfl]
    · rw [if_neg (fun z => hm (Sum.inl.inj z)), if_neg hm]
theorem WD.mono {kvs : List (Key × V)} {f : Int → V} {n n' : Nat} (h : WD kvs f n) (hn : n ≤ n') : WD kvs f n' := ⟨h.nd, h.ik, Nat.le_trans h.le hn, h.vl⟩
theorem WD.get {kvs : List (Key × V)} {f : Int → V} {n : Nat} (h : WD kvs f n) (m : Int) : (valV kvs (.inl m)).getD .non = f m := by
  rw [h.vl]
  split
  · rename_i e; rw [e]; rfl
  · rfl
/-! ### parts of a tuple of four -/
theorem sl4b {H : Hp} {Q : VK} {K : PySem.W.Frag} {p : Addr} {a b c d : V} (h1 : H p = some (.tup [a, b, c, d])) (h : ∀ q, H q = none → Q (.ref q) (upd H q (.tup [c, d]))) : rSlT K (.ref p) (some 2) none H Q := slTH h1 (show ¬ (HT.sIx 4 0 (some 2) = 0 ∧ HT.sIx 4 4 none = 4) by decide) h
/-! ### a loop over a tuple -/
end L2
set_option Elab.async false
set_option linter.all false
set_option maxRecDepth 100000
namespace L2
open PySem PySem.Spec PyProof.Rows
/-! ### dict(d): a copy -/
/-! ### a row of blocks: one taken out, one put back -/
end L2
set_option Elab.async false
set_option linter.all false
set_option maxRecDepth 100000
namespace L2
open PySem PySem.Spec PyProof.Rows PySem.W
/-! ### reversed(list) in a loop -/
section
variable {X : Cx}
end
/-! ### in, not in of plain data, at any depth -/
section
variable {X : Cx}
end
/-! ### a comprehension whose items are new tuples of ints -/
end L2
set_option Elab.async false
set_option linter.all false
set_option maxRecDepth 100000
namespace L2
open PySem PySem.Spec PyProof.Rows PySem.W
/-! ### lists of truths -/
/-! ### the clear of a list -/
/-! ### while, try, behind letters -/
theorem tryI {K : PySem.W.Frag} {C : Addr} {i : Nat} {tb : XK → TS} {ts : TS} {D : Ends} {σ : St} {H : Hp} (h : ∀ E : XK, Is E (fun cls _ H' => PySem.W.exmOne K cls (.ref C) = some true ∧ ∀ ea, H' ea = none →
    ts { nx := fun σ2 H2 => D.nx (σ2.set i none) H2, rt := D.rt, bk := fun σ2 H2 => D.bk (σ2.set i none) H2, ct := fun σ2 H2 => D.ct (σ2.set i none) H2 } (σ.set i (some (.ref ea))) (upd H' ea (.ext (IsExc ea cls)))) → tb E D σ H) : tTry K C i tb ts D σ H := h _ Is.rfl
/-! ### a method's call within a try -/
section
variable {X : Cx} {k : Nat} {C : Addr} {ps : List Str} {sp : Sp} {x m : Str} {pos apos : Pos} {e o : Expr} {es : List Expr} {ta : TE} {t : TA}
end
end L2
set_option Elab.async false
set_option linter.all false
set_option maxRecDepth 100000
namespace L2
open PySem PySem.Spec PyProof.Rows PySem.W
/-! ### slices of a text -/
section
variable {X : Cx}
/-! ### the signs of a text, one by one -/
end
/-! ### sep.join(list of texts) -/
/-! ### list(text), a text of the module -/
end L2
set_option Elab.async false
set_option linter.all false
set_option maxRecDepth 100000
namespace L2
open PySem PySem.Spec PyProof.Rows PySem.W
section
variable {X : Cx}
/-! ### l.index(x), flat items -/
/-! ### list(d) -/
end
/-! ### a row of entries: number, where its list lies, the list's numbers -/
section
variable {H : Hp} {Q : VK}
end
end L2
set_option Elab.async false
set_option linter.all false
set_option maxRecDepth 100000
namespace L2
open PySem PySem.Spec PyProof.Rows PySem.W
/-! ### zip of two lists, unpacked -/
section
variable {X : Cx} {pins : List (Addr × Obj)} {σ : St} {H : Hp} {s : Shared} {h' : Heap}
end
section
variable {X : Cx}
end
/-! ### x.find(y) -/
end L2
set_option Elab.async false
set_option linter.all false
set_option maxRecDepth 100000
namespace L2
open PySem PySem.Spec PyProof.Rows PySem.W
/-! ### x.startswith(y), x.index(y), int(text), x.split(y) -/
end L2
set_option Elab.async false
set_option linter.all false
set_option maxRecDepth 100000
namespace L2
open PySem PySem.Spec PyProof.Rows PySem.W
/-! ### x.split(y) -/
open Builtin Builtin.Str in
/-! ### rows of signs with a blank between -/
/-! ### a number's signs -/
end L2
set_option Elab.async false
set_option linter.all false
set_option maxRecDepth 100000
namespace L2
open PySem PySem.Spec PyProof.Rows PySem.W
section
variable {X : Cx}
/-! ### l.index(x), plain data at any depth -/
end
end L2
set_option Elab.async false
set_option linter.all false
set_option maxRecDepth 100000
namespace L2
open PySem PySem.Spec PyProof.Rows PySem.W
section
variable {X : Cx}
/-! ### sorted of a dict with texts for keys -/
def rSortDS : List V → Hp → VK → Prop := fun xs H Q => ∃ (p : Addr) (kvs : List (Key × V)) (zs : List Str), xs = [.ref p] ∧ H p = some (.dK kvs) ∧ kvs.map (·.1) = zs.map Sum.inr ∧ zs.length < 64 ∧ ∀ (l : Addr) (ms : List Str), H l = none → ms.Perm zs → sortedS ms = true → Q (.ref l) (upd H l (.lst (ms.map V.str)))
theorem strs_keys {P : Program} {w : World} : ∀ {zs : List Str} {vs : List (Key × Value)} {us : List Value}, vs.map (·.1) = zs.map Sum.inr → us.length = vs.length → (∀ (j : Nat) (v : Value), us[j]? = some v → ∃ k x, vs[j]? = some (k, x) ∧ (mixKind P w).is k v = true) → StrsAre us zs
  | [], [], [], _, _, _ => .nil
  | [], [], _ :: _, _, h, _ => nomatch h
  | [], _ :: _, _, h, _, _ => nomatch h
  | _ :: _, [], _, h, _, _ => nomatch h
  | _ :: _, _ :: _, [], _, h, _ => nomatch h
  | z :: zs, (k, x) :: vs, u :: us, h, hl, hv => by
    obtain ⟨k', x', e, hk⟩ := hv 0 u rfl
    cases e
    have h1 : k = Sum.inr z := (List.cons.inj h).1
    subst h1
    have e : ∃ t, u = Value.str z t := Value.isStrOf_shape hk
    obtain ⟨t, rfl⟩ := e
    exact .cons z t (strs_keys (List.cons.inj h).2 (Nat.succ.inj hl) fun j v e => hv (j + 1) v e)
theorem vals_strsA : ∀ {us : List Value} {zs : List Str}, StrsAre us zs → Vals (zs.map V.str) us
  | _, _, .nil => .nil
  | _, _, .cons x t r => .cons ⟨t, rfl⟩ (vals_strsA r)
theorem call_sortDS (hc : X.calm = true) : CallR X (.builtin "sorted") rSortDS := by
  intro pins s σ H xs us Q I r h
  obtain ⟨p, kvs, ns, rfl, hp, hk, h64, q⟩ := h
  obtain ⟨u, rfl, rx⟩ := vals1 r
  cases rx
  obtain ⟨hz, hS, vs, rr, m⟩ := dk_of I.hok hp
  obtain ⟨ep, hat⟩ := m.dictAt
  have hl : kvs.length = vs.length := Paired.length rr
  have hkn : kvs.length = ns.length := by have := congrArg List.length hk; simpa using this
  have hkv : vs.map (·.1) = ns.map Sum.inr := by
    rw [← hk]
    have : ∀ {a : List (Key × V)} {b : List (Key × Value)}, KV a b → b.map (·.1) = a.map (·.1) := by
      intro a
      induction a with
      | nil => intro b h; cases b with
        | nil => rfl
        | cons _ _ => cases h
      | cons x a ih => intro b h; cases h with
        | cons h1 h2 => rw [List.map_cons, List.map_cons, ih h2, h1.1]
    exact this rr
  refine Calls.call_function_entry kind_sorted plain_sorted entry_sorted (args_sorted1 _) ?_
  unfold Builtin.«sorted»
  refine wpAny_bind (m := checkCount "sorted" 1 1 _) (wpAny_pure ?_)
  refine wpAny_bind (kdu_collect (A := X.A.in1) (kdl_dict (knd := mixKind X.prog X.w) (kvs := vs) (ep := ep) hS) (I.ok.hd hc) hat (by omega) fun h' tk acc hk' hacc => ?_)
  have hstr : StrsAre acc.toList ns := strs_keys hkv (by rw [Array.length_toList]; exact hacc.1) fun j v e => hacc.2 j v (by rw [← Array.getElem?_toList]; exact e)
  have hlen : acc.toList.length = ns.length := by rw [Array.length_toList, hacc.1]; omega
  refine wpAny_bind (wpAny_newList ?_ (by rw [hlen]; exact sz64 h64))
  have hoL : (h'.push (seqObj "list" acc.toList.toArray 0)).get? h'.objs.size = some (seqObj "list" acc.toList.toArray 0) := Heap.get?_push_size _ rfl
  refine wpAny_bind (wpAny_holding (wpAny_call_entry slot_list_sort ⟨_, hoL, rfl⟩ entry_list_sort (list_sort_treeK strKind_oneLt hoL hstr.keysOf (fun v₁ v₂ rest e => keyKind_strs (by rw [← e]; exact hstr)) (by omega) fun st' hp' hs' => ⟨_, rfl, ?_⟩) (args_list_sort _)))
  obtain ⟨ms, a1, a2, a3⟩ := sorted_out_str hstr hp' hs'
  obtain ⟨e, he⟩ := sortedHeap_at (out := (arrOf st').map (·.2)) hoL
  have hm : ms.length < 64 := by rw [a2.length_eq]; exact h64
  have I1 : Inv X pins σ H { s with heap := h', toks := tk } := I.kept hk'
  refine wpAny_pure ⟨_, rfl, .ref h'.objs.size, _, I1.laid (t' := tk) (fun b o hb => ?_) (Nat.le_refl _) (show ObjOk X.prog X.w _ _ _ (.lst (ms.map V.str)) from ⟨by rw [List.length_map]; exact sz64 hm, ((arrOf st').map (·.2)).toList, e, vals_strsA a1, he⟩), rfl, q _ ms (I1.hok.fresh (Nat.le_refl _)) a2 a3⟩
  have hlt := Heap.lt_size hb
  rw [sortedHeap_old (Nat.ne_of_lt hlt) (by rw [size_push']; exact Nat.lt_succ_of_lt hlt)]
  exact Heap.get?_push_of_some _ hb
end
/-! ### one order only -/
end L2
set_option Elab.async false
set_option linter.all false
set_option maxRecDepth 100000
namespace L2
open PySem PySem.Spec PyProof.Rows PySem.W
/-- a comprehension over a range, each of whose elements lays cells of its own -/
theorem compRangeG {lo : Int} {n : Nat} {te : TE} {σ : St} {Q : VK} {H1 : Hp} {L : Cells} (G : Nat → V → Cells → Prop) (hL : Led H1 L) (hn : n ≤ sizeLine)
    (hs : ∀ (i : Nat) (H : Hp) (R : VK) (M : Cells), i < n → Led H (M ++ L) → (∀ v H' C, G i v C → Led H' (C ++ (M ++ L)) → R v H') → te (some (.int (lo + i)) :: σ) H R)
    (hd : ∀ (p : Addr) (vs : List V) (Cs : List Cells) (H' : Hp), vs.length = n → Cs.length = n → (∀ (i : Nat) v C, vs[i]? = some v → Cs[i]? = some C → G i v C) → Led H' ((p, .lst vs) :: (Cs.flatten ++ L)) → Q (.ref p) H') : CompJ (Itr lo n) tYes te σ Q H1 := by
  refine compRange (fun p i acc H => i ≤ n ∧ acc.length = i ∧ ∃ Cs : List Cells, Cs.length = i ∧ (∀ (j : Nat) v C, acc[j]? = some v → Cs[j]? = some C → G j v C) ∧ Led H ((p, .lst acc) :: (Cs.flatten ++ L))) (fun p hp => ⟨Nat.zero_le _, rfl, [], rfl, fun j v C h => by simp at h, hL.new hp⟩) (fun p i acc H hp h => ?_) ?_ ?_
  · obtain ⟨_, _, Cs, _, _, hl⟩ := h
    exact hl.get List.mem_cons_self
  · rintro p i acc H hp hi ⟨_, rfl, Cs, hc, hG, hl⟩
    unfold tYes
    dsimp only
    rw [if_pos rfl]
    refine hs _ H _ ((p, .lst acc) :: Cs.flatten) hi hl fun v H' C g hl' => ?_
    have h1 : Led H' ((p, .lst acc) :: (C ++ (Cs.flatten ++ L))) := Led.pull hl'
    refine ⟨h1.get List.mem_cons_self, by omega, hi, by simp, Cs ++ [C], by simp [hc], fun j u D hu hD => ?_, ?_⟩
    · rw [List.getElem?_append] at hu hD
      rw [hc] at hD
      by_cases hj : j < acc.length
      · rw [if_pos hj] at hu hD
        exact hG j u D hu hD
      · rw [if_neg hj] at hu hD
        have h0 : j - acc.length = 0 := by
          rcases Nat.lt_or_ge (j - acc.length) 1 with h | h
          · omega
          · rw [List.getElem?_eq_none (by simpa using h)] at hu; cases hu
        rw [h0] at hu hD
        have e : j = acc.length := by omega
        subst e
        cases hu
        cases hD
        exact g
    · refine (h1.put (o' := .lst (acc ++ [v])) rfl rfl).perm (List.Perm.cons _ ?_)
      rw [List.flatten_append, List.flatten_cons, List.flatten_nil, List.append_nil, List.append_assoc, ← List.append_assoc, ← List.append_assoc]
      exact List.Perm.append_right _ List.perm_append_comm
  · rintro p acc H hp ⟨_, e, Cs, hc, hG, hl⟩
    exact hd p acc Cs H e hc hG hl
/-! ### rows where they lie -/
/-! ### files by name -/
section
variable {H : Hp} {a : Addr} {Q : VK} {D : Ends} {σ : St}
end
theorem sortDSR {H : Hp} {Q : VK} {a : Addr} {kvs : List (Key × V)} {zs : List Str} (h1 : H a = some (.dK kvs)) (h2 : kvs.map (·.1) = zs.map Sum.inr) (h3 : zs.length < 64) (h : ∀ ms : List Str, ms.Perm zs → sortedS ms = true → ∀ l, H l = none → Q (.ref l) (upd H l (.lst (ms.map V.str)))) : rSortDS [.ref a] H Q := ⟨a, kvs, zs, rfl, h1, h2, h3, fun l ms hl p s => h ms p s l hl⟩
end L2
set_option Elab.async false
set_option linter.all false
set_option maxRecDepth 100000
namespace L2
open PySem PySem.Spec PyProof.Rows PySem.W
section
variable {X : Cx}
/-! ### list(d), texts for keys -/
end
/-! ### a thing made within a try -/
section
variable {X : Cx} {k : Nat} {f C : Addr} {fd : FuncData} {ps : List Str} {sp : Sp} {x : Str} {p pos : Pos} {e : Expr} {es : List Expr} {t : TA}
theorem run_makeX {E : XK} {pins : List (Addr × Obj)} {σ : St} {H : Hp} {s : Shared} {Q : VK} {us : List Value} {vs : List V} (M : Mk X.K C f) (F : FnOk X.prog X.w X.K X.mg X.base (CXR X.prog X.w) k f fd ps sp) {ds : List Value} {dvs : List V} (hr : Room (k + 1) X.A) (hb : Binds X.K fd ps ds) (hd : Vals dvs ds)
    (I : Inv X pins σ H s) (r : Vals vs us)
    (h : ∀ x dx, H x = none → H dx = none → dx ≠ x → sp (.ref x :: (vs ++ dvs)) (upd (upd H dx (.own x)) x (.ins C dx [])) (fun v H2 => v = .non ∧ Q (.ref x) H2) E) :
    wpAny (model X.prog X.w) X.A (call (.ref C) us) (EP X pins σ Q) (XR X pins σ E) s := by
  have hq := h (s.heap.objs.size + 1) s.heap.objs.size (I.hok.fresh (Nat.le_succ _)) (I.hok.fresh (Nat.le_refl _)) (Nat.ne_of_lt (Nat.lt_succ_self _))
  have I2 := Inv.made (C := C) I
  have r2 : Vals (V.ref (s.heap.objs.size + 1) :: (vs ++ dvs)) (Value.ref (s.heap.objs.size + 1) :: (us ++ ds)) := .cons rfl (r.append hd)
  have hl : (Value.ref (s.heap.objs.size + 1) :: us ++ ds).length = ps.length := by
    have e := r2.length
    rw [F.len _ _ _ _ hq] at e
    exact e.symm
  refine wpAny_call (make_map (f := f) I.kIn M.makes M.init (beq_iff_eq.mp M.fn) (codeAny_mono (F.run _ X.stack _ _ ⟨Value.ref (s.heap.objs.size + 1) :: us, []⟩ (Value.ref (s.heap.objs.size + 1) :: (us ++ ds)) _ _ E (hr.make C us [])
    (I2.env0.make C us []) (hb _ (Value.ref (s.heap.objs.size + 1) :: us) I2.kIn hl) r2 hq) fun r s' hq' => ?_))
  cases r with
  | error e => exact ⟨_, _, I2, hq'⟩
  | ok fl =>
    cases fl with
    | ret u =>
      obtain ⟨v, H', I3, rv, ev, q3⟩ := I2.after hq'
      subst ev
      exact ⟨rv, ⟨V.ref (s.heap.objs.size + 1), H', I3, rfl, q3⟩⟩
    | next => exact False.elim hq'
    | brk => exact False.elim hq'
    | cont => exact False.elim hq'
theorem pex_makeD (T : ClsD X.K X.mg x C) (F : InitD X.prog X.w X.K X.mg X.base k C ps sp) (hr : Room (k + 1) X.A) (hg : Gl X x) (ha : PA X.nox (e :: es) t)
    (hdb : (x == ("__debug__" : Str)) = false := by decide) (he : starEach (e :: es) X.env = (false, eval e X.env) :: starEach es X.env := by rfl) (hpl : (backTo pos (starEach es X.env)).any (·.1) = false := by rfl) :
    PEX X (.Call (.Name x p) (e :: es) [] pos) fun E => tMake C sp [] E t := by
  obtain ⟨f, fd, h1, h3, h4⟩ := F.ex
  intro E pins s σ H Q I h
  refine wpAny_Call_Name_kw (ld_glob I hg T.mgC ?_ hdb)
  refine PySem.W.callWith_K (h₀ := X.base) I.ok.mod.kin h1.kp (wpAny_mono (ha pos pins s σ H _ (I.wish _) h) (fun us s1 ⟨vs, H1, I1, r, q⟩ => ⟨I1.kIn, ?_⟩) fun _ _ z => z.elim) he hpl
  exact run_makeX h1 h4 hr h3 .nil I1.unwish r q
end
end L2
set_option Elab.async false
set_option linter.all false
set_option maxRecDepth 100000
namespace L2
open PySem PySem.Spec PyProof.Rows PySem.W
section
variable {X : Cx}
/-! ### is False, is not False, of None or a truth -/
def rIsF : V → V → Hp → VK → Prop := fun x y H Q => ∃ b, y = .bl b ∧ ((x = .non ∧ Q (.bl false) H) ∨ ∃ c, x = .bl c ∧ Q (.bl (decide (c = b))) H)
def rIsnF : V → V → Hp → VK → Prop := fun x y H Q => ∃ b, y = .bl b ∧ ((x = .non ∧ Q (.bl true) H) ∨ ∃ c, x = .bl c ∧ Q (.bl (!decide (c = b))) H)
theorem op_isF : OpR X (compareOp .Is) rIsF := by
  intro pins s σ H x y v u Q I rx ry h
  obtain ⟨b, rfl, ⟨rfl, q⟩ | ⟨c, rfl, q⟩⟩ := h
  · cases rx; cases ry
    exact wpAny_bind (wpAny_pure (wpAny_pure (fin_bl I q (by cases b <;> rfl))))
  · cases rx; cases ry
    exact wpAny_bind (wpAny_pure (wpAny_pure (fin_bl I q (by cases b <;> cases c <;> rfl))))
theorem op_isnF : OpR X (compareOp .IsNot) rIsnF := by
  intro pins s σ H x y v u Q I rx ry h
  obtain ⟨b, rfl, ⟨rfl, q⟩ | ⟨c, rfl, q⟩⟩ := h
  · cases rx; cases ry
    exact wpAny_bind (wpAny_pure (wpAny_pure (fin_bl I q (by cases b <;> rfl))))
  · cases rx; cases ry
    exact wpAny_bind (wpAny_pure (wpAny_pure (fin_bl I q (by cases b <;> cases c <;> rfl))))
theorem isFb {H : Hp} {Q : VK} {b c : Bool} (h : Q (.bl (decide (c = b))) H) : rIsF (.bl c) (.bl b) H Q := ⟨b, rfl, .inr ⟨c, rfl, h⟩⟩
theorem isFn {H : Hp} {Q : VK} {b : Bool} (h : Q (.bl false) H) : rIsF .non (.bl b) H Q := ⟨b, rfl, .inl ⟨rfl, h⟩⟩
theorem isnFb {H : Hp} {Q : VK} {b c : Bool} (h : Q (.bl (!decide (c = b))) H) : rIsnF (.bl c) (.bl b) H Q := ⟨b, rfl, .inr ⟨c, rfl, h⟩⟩
end
/-! ### defs that are called within the suite of an except -/
/-- a def's promise within such a suite: it refuses nothing -/
structure FnU (P : Program) (w : World) (K : PySem.W.Frag) (mg : Str → Option Value) (base : Heap) (k : Nat) (f : Addr) (fd : FuncData) (ps : List Str) (sp : Sp) : Prop where
  len : ∀ vs H Q E, sp vs H Q E → vs.length = ps.length
  run : ∀ (A : Around) (ea : Addr) (outer : List Env) (s : Shared) (H : Hp) (args : Args) (us : List Value) (vs : List V) (Q : VK) (E : XK), Room k A → Env0 P w K mg base (A.mark (some (.ref ea))) outer s H → BindsTo s fd args (ps.zip us) → Vals vs us → sp vs H Q E →
    codeAny (model P w) (A.mark (some (.ref ea))) (.call (.ref f) args) (CR (fun _ _ _ _ _ _ => False) outer P w H s Q E) s
structure FnDU (P : Program) (w : World) (K : PySem.W.Frag) (mg : Str → Option Value) (base : Heap) (k : Nat) (x : Str) (ps : List Str) (sp : Sp) : Prop where
  ex : ∃ f fd, mg x = some (.ref f) ∧ PySem.W.keepIn K (.ref f) = true ∧ Binds K fd ps [] ∧ FnU P w K mg base k f fd ps sp
section
variable {P : Program} {w : World} {K : PySem.W.Frag} {mg : Str → Option Value} {base : Heap}
theorem Def.okU {x : Str} {st : Stmt} {N ps : List Str} {k : Nat} {sp : Sp} (D : Def K mg x st) (S : FnScope N ps (defScope st)) (len : ∀ vs H Q E, sp vs H Q E → vs.length = ps.length)
    (hb : ∀ (kV doc pm : Value) (an : Option Addr) (cdv ct : Value) (us : List Value), us.length = ps.length → bindArgs (PySem.W.fnOf x x (defArgs st) (defBody st) (defScope st) .none kV doc pm an cdv ct) ⟨us, []⟩ = pure (ps.zip us))
    (hbody : ∀ (f : Addr) (cdv : Value) (A : Around) (ea : Addr) (outer : List Env) (s : Shared) (H : Hp) (vs : List V) (Q : VK) (E : XK), Room k (A.deeper (envOfC x (defScope st) s.heap.objs.size f cdv)) → sp vs H Q E →
      ∃ t, PSs ((cxOf (CXR P w) P w K mg base N x (defScope st) f cdv A outer s H E).caught ea).nox (defBody st) t ∧ t { nx := fun _ H' => Q .non H', rt := Q } (start N vs) H) : FnDU P w K mg base (k + 1) x ps sp := by
  obtain ⟨f, fd, hm, F⟩ := D
  refine ⟨f, fd, hm, F.kp, F.binds hb, ?_⟩
  obtain ⟨oc, od, kV, doc, pm, an, cdv, ct, osl, rfl, lk, hcd⟩ := F.ex
  refine ⟨len, fun A ea outer s H args us vs Q E hr e0 hb r hsp => ?_⟩
  have e1 : Env0 P w K mg base A outer s H := ⟨e0.frames, e0.mod, e0.bs, e0.bsz, e0.funs, e0.frf, e0.hok, e0.bare⟩
  have hl := len _ _ _ _ hsp
  have KX : K.In s.heap := e0.mod.kin.keeps fun b o e => (e0.bs b o e).1
  have lim : s.heap.NoLimit := e0.mod.nolimit.keeps fun b o e => (e0.bs b o e).1
  have hkind : ∀ y ∈ ps.zip us, (defScope st).names.lookup y.1 = some .local ∨ ((defScope st).names.lookup y.1 = some .cell ∧ ((cellsFrom (s.heap.objs.size + 1) (defScope st).names []).lookup y.1).isSome = true) := fun ⟨n, v⟩ hy => by
    rcases S.par n (List.of_mem_zip hy).1 with q | q
    · exact .inl q
    · exact .inr ⟨q, PySem.W.cellsFrom_some _ _ _ (.inl q)⟩
  refine codeAny_call_function (show (A.mark (some (.ref ea))).depth < recursionLimit from hr.depth) (KX _ _ lk) rfl S.co S.gen rfl (PySem.W.codeRec_of KX hcd) (hb _ _ _ _ ?_)
  refine wpAny_newFunctionEnv_cells S.kind hkind fun env he s1 x1 => ?_
  subst he
  refine ⟨lim.keeps x1.toInCall.keep, codeAny_func ?_⟩
  obtain ⟨t, ht, hq⟩ := hbody f cdv A ea outer s H vs Q E (hr.deeper _) hsp
  have I : Inv ((cxOf (CXR P w) P w K mg base N x (defScope st) f cdv A outer s H E).caught ea).nox [] (start N vs) H s1 := ((inv_start S hr.hd e1 hl r x1).caught ea).wish _
  refine wpAny_mono (ht [] s1 (start N vs) H _ I hq) (fun fl s' hs => ?_) fun e s' hs => False.elim hs
  have fin : ∀ {σ' : St} {H' : Hp} {v : V} {u : Value}, Inv ((cxOf (CXR P w) P w K mg base N x (defScope st) f cdv A outer s H E).caught ea).nox [] σ' H' s' → RelV v u → Q v H' → CE outer P w H s Q u s' :=
    fun {σ' H' v u} J rv q => ⟨v, H', J.os, J.bare, J.base, J.hok, rv, q⟩
  cases fl with
  | ret u =>
    obtain ⟨v, σ', H', J, rv, q⟩ := hs
    exact fin J rv q
  | next =>
    obtain ⟨σ', H', J, q⟩ := hs
    exact fin (v := V.non) (u := Value.none) J rfl q
  | brk =>
    obtain ⟨_, _, _, q⟩ := hs
    exact False.elim q
  | cont =>
    obtain ⟨_, _, _, q⟩ := hs
    exact False.elim q
end
section
variable {X : Cx} {ea : Addr} {k : Nat} {ps : List Str} {sp : Sp} {x : Str} {p pos : Pos} {e : Expr} {es : List Expr} {t : TA}
/-- f(e, ..) within the suite of an except -/
theorem pe_callDU (F : FnDU X.prog X.w X.K X.mg X.base k x ps sp) (hr : Room k X.A) (hg : Gl X x) (ha : PA (X.caught ea).nox (e :: es) t)
    (hdb : (x == ("__debug__" : Str)) = false := by decide) (he : starEach (e :: es) X.env = (false, eval e X.env) :: starEach es X.env := by rfl) (hpl : (backTo pos (starEach es X.env)).any (·.1) = false := by rfl) :
    PE (X.caught ea).nox (.Call (.Name x p) (e :: es) [] pos) (tCall sp [] E0 t) := by
  obtain ⟨f, fd, h1, h2, h3, h4⟩ := F.ex
  intro pins s σ H Q I h
  refine wpAny_Call_Name_kw (ld_glob I hg h1 ?_ hdb)
  refine PySem.W.callWith_K (h₀ := X.base) I.ok.mod.kin h2 (thn (ha pos pins s σ H _ I h) fun us s1 ⟨vs, H1, I1, r, q⟩ => ⟨I1.kIn, ?_⟩) he hpl
  have r2 : Vals (vs ++ []) (us ++ []) := r.append .nil
  have hl : (us ++ []).length = ps.length := by rw [← r2.length]; exact h4.len _ _ _ _ q
  refine wpAny_call (codeAny_mono (h4.run X.A ea X.stack s1 H1 ⟨us, []⟩ (us ++ []) (vs ++ []) Q E0 hr I1.env0 (h3 s1 us I1.kIn hl) r2 q) fun r s' hq => ?_)
  cases r with
  | error e => exact False.elim hq
  | ok fl =>
    cases fl with
    | ret u => exact I1.after hq
    | next => exact False.elim hq
    | brk => exact False.elim hq
    | cont => exact False.elim hq
end
end L2
set_option Elab.async false
set_option linter.all false
set_option maxRecDepth 100000
set_option maxHeartbeats 4000000
namespace My
open PySem PySem.Spec PyProof.Rows L2
def top (i : Nat) : Stmt := PySem.Challenge.pw_paneworks_k60_a_world_made.main.body.getD i (.Pass ⟨0, 0, 0, 0⟩)
/-! _wall -/
/-! Book.__init__ -/
abbrev s_Book_init : Stmt := inClass (top 2) 0
theorem sc_Book_init : FnScope ["self", "slots"] ["self", "slots"] (defScope s_Book_init) := ⟨rfl, rfl, rfl, by decide +kernel, rfl, by decide +kernel, by decide +kernel⟩
/-! Book.found -/
/-! Book.note -/
/-! Book.strike_page -/
/-! Book.strike_space -/
/-! Book.strike_frame -/
/-! Book.keep_just -/
/-! Book.ways -/
abbrev s_Book_ways : Stmt := inClass (top 2) 7
theorem sc_Book_ways : FnScope ["self"] ["self"] (defScope s_Book_ways) := ⟨rfl, rfl, rfl, by decide +kernel, rfl, by decide +kernel, by decide +kernel⟩
/-! is_whole -/
abbrev s_is_whole : Stmt := top 15
theorem sc_is_whole : FnScope ["thing"] ["thing"] (defScope s_is_whole) := ⟨rfl, rfl, rfl, by decide +kernel, rfl, by decide +kernel, by decide +kernel⟩
/-! number -/
abbrev s_number : Stmt := top 16
theorem sc_number : FnScope ["thing", "low", "high"] ["thing", "low", "high"] (defScope s_number) := ⟨rfl, rfl, rfl, by decide +kernel, rfl, by decide +kernel, by decide +kernel⟩
/-! Dial.__init__ -/
abbrev s_Dial_init : Stmt := inClass (top 18) 0
theorem sc_Dial_init : FnScope ["self", "many"] ["self", "many"] (defScope s_Dial_init) := ⟨rfl, rfl, rfl, by decide +kernel, rfl, by decide +kernel, by decide +kernel⟩
/-! Dial.pointer -/
abbrev s_Dial_pointer : Stmt := inClass (top 18) 1
theorem sc_Dial_pointer : FnScope ["self"] ["self"] (defScope s_Dial_pointer) := ⟨rfl, rfl, rfl, by decide +kernel, rfl, by decide +kernel, by decide +kernel⟩
/-! Dial.touch -/
/-! Dial.clear -/
/-! Dial.marks -/
abbrev s_Dial_marks : Stmt := inClass (top 18) 4
theorem sc_Dial_marks : FnScope ["self"] ["self"] (defScope s_Dial_marks) := ⟨rfl, rfl, rfl, by decide +kernel, rfl, by decide +kernel, by decide +kernel⟩
/-! Dial.choose -/
/-! Files.__init__ -/
abbrev s_Files_init : Stmt := inClass (top 20) 0
theorem sc_Files_init : FnScope ["self"] ["self"] (defScope s_Files_init) := ⟨rfl, rfl, rfl, by decide +kernel, rfl, by decide +kernel, by decide +kernel⟩
/-! Files.make -/
/-! Files.size_of -/
/-! Files.row_at -/
/-! Files.store_row -/
/-! Files.drop -/
/-! Files.names -/
/-! Files.ask_name -/
/-! Files.ask_page -/
/-! Frames.__init__ -/
abbrev s_Frames_init : Stmt := inClass (top 22) 0
theorem sc_Frames_init : FnScope ["self", "many"] ["self", "many"] (defScope s_Frames_init) := ⟨rfl, rfl, rfl, by decide +kernel, rfl, by decide +kernel, by decide +kernel⟩
/-! Frames.fill -/
/-! Frames.empty -/
/-! Frames.thing_in -/
/-! Frames.row_in -/
/-! Frames.put_in -/
/-! Frames.is_soiled -/
/-! Frames.least_free -/
/-! Frames.where -/
/-! Frames.things -/
abbrev s_Frames_things : Stmt := inClass (top 22) 9
theorem sc_Frames_things : FnScope ["self"] ["self"] (defScope s_Frames_things) := ⟨rfl, rfl, rfl, by decide +kernel, rfl, by decide +kernel, by decide +kernel⟩
/-! Shelf.__init__ -/
abbrev s_Shelf_init : Stmt := inClass (top 24) 0
theorem sc_Shelf_init : FnScope ["self", "many"] ["self", "many"] (defScope s_Shelf_init) := ⟨rfl, rfl, rfl, by decide +kernel, rfl, by decide +kernel, by decide +kernel⟩
/-! Shelf.put_on -/
/-! Shelf.take_off -/
/-! Shelf.row_of_sheet -/
/-! Shelf.has -/
/-! Shelf.is_full -/
/-! Shelf.sheets -/
abbrev s_Shelf_sheets : Stmt := inClass (top 24) 6
theorem sc_Shelf_sheets : FnScope ["self"] ["self"] (defScope s_Shelf_sheets) := ⟨rfl, rfl, rfl, by decide +kernel, rfl, by decide +kernel, by decide +kernel⟩
/-! Store.__init__ -/
abbrev s_Store_init : Stmt := inClass (top 26) 0
theorem sc_Store_init : FnScope ["self", "many", "places"] ["self", "many", "places"] (defScope s_Store_init) := ⟨rfl, rfl, rfl, by decide +kernel, rfl, by decide +kernel, by decide +kernel⟩
/-! room_of -/
abbrev s_room_of : Stmt := top 28
theorem sc_room_of : FnScope ["store", "most"] ["store"] (defScope s_room_of) := ⟨rfl, rfl, rfl, by decide +kernel, rfl, by decide +kernel, by decide +kernel⟩
/-! holders_of -/
abbrev s_holders_of : Stmt := top 29
theorem sc_holders_of : FnScope ["store", "sheet"] ["store", "sheet"] (defScope s_holders_of) := ⟨rfl, rfl, rfl, by decide +kernel, rfl, by decide +kernel, by decide +kernel⟩
/-! World.__init__ -/
abbrev s_World_init : Stmt := inClass (top 35) 0
theorem sc_World_init : FnScope ["self", "many", "places", "hands", "slots"] ["self", "many", "places", "hands", "slots"] (defScope s_World_init) := ⟨rfl, rfl, rfl, by decide +kernel, rfl, by decide +kernel, by decide +kernel⟩
/-! hand_of -/
abbrev s_hand_of : Stmt := top 36
theorem sc_hand_of : FnScope ["world", "hand"] ["world", "hand"] (defScope s_hand_of) := ⟨rfl, rfl, rfl, by decide +kernel, rfl, by decide +kernel, by decide +kernel⟩
/-! told_spaces -/
abbrev s_told_spaces : Stmt := top 37
theorem sc_told_spaces : FnScope ["world"] ["world"] (defScope s_told_spaces) := ⟨rfl, rfl, rfl, by decide +kernel, rfl, by decide +kernel, by decide +kernel⟩
/-! told_frames -/
abbrev s_told_frames : Stmt := top 38
theorem sc_told_frames : FnScope ["world"] ["world"] (defScope s_told_frames) := ⟨rfl, rfl, rfl, by decide +kernel, rfl, by decide +kernel, by decide +kernel⟩
/-! told_marks -/
abbrev s_told_marks : Stmt := top 39
theorem sc_told_marks : FnScope ["world"] ["world"] (defScope s_told_marks) := ⟨rfl, rfl, rfl, by decide +kernel, rfl, by decide +kernel, by decide +kernel⟩
/-! told_pointer -/
abbrev s_told_pointer : Stmt := top 40
theorem sc_told_pointer : FnScope ["world"] ["world"] (defScope s_told_pointer) := ⟨rfl, rfl, rfl, by decide +kernel, rfl, by decide +kernel, by decide +kernel⟩
/-! told_shelf -/
abbrev s_told_shelf : Stmt := top 41
theorem sc_told_shelf : FnScope ["world"] ["world"] (defScope s_told_shelf) := ⟨rfl, rfl, rfl, by decide +kernel, rfl, by decide +kernel, by decide +kernel⟩
/-! told_holders -/
abbrev s_told_holders : Stmt := top 42
theorem sc_told_holders : FnScope ["world", "sheet"] ["world", "sheet"] (defScope s_told_holders) := ⟨rfl, rfl, rfl, by decide +kernel, rfl, by decide +kernel, by decide +kernel⟩
/-! told_book -/
abbrev s_told_book : Stmt := top 43
theorem sc_told_book : FnScope ["world", "hand"] ["world", "hand"] (defScope s_told_book) := ⟨rfl, rfl, rfl, by decide +kernel, rfl, by decide +kernel, by decide +kernel⟩
/-! told_walks -/
abbrev s_told_walks : Stmt := top 44
theorem sc_told_walks : FnScope ["world", "hand"] ["world", "hand"] (defScope s_told_walks) := ⟨rfl, rfl, rfl, by decide +kernel, rfl, by decide +kernel, by decide +kernel⟩
/-! told_copies -/
abbrev s_told_copies : Stmt := top 45
theorem sc_told_copies : FnScope ["world"] ["world"] (defScope s_told_copies) := ⟨rfl, rfl, rfl, by decide +kernel, rfl, by decide +kernel, by decide +kernel⟩
/-! told_room -/
abbrev s_told_room : Stmt := top 46
theorem sc_told_room : FnScope ["world"] ["world"] (defScope s_told_room) := ⟨rfl, rfl, rfl, by decide +kernel, rfl, by decide +kernel, by decide +kernel⟩
/-! _law_cell_at -/
abbrev s_l_cell_at : Stmt := top 48
theorem sc_l_cell_at : FnScope ["_law_script", "_law_k"] ["_law_script", "_law_k"] (defScope s_l_cell_at) := ⟨rfl, rfl, rfl, by decide +kernel, rfl, by decide +kernel, by decide +kernel⟩
/-! _law_edged -/
abbrev s_l_edged : Stmt := top 49
theorem sc_l_edged : FnScope ["_law_cell", "_law_low", "_law_high"] ["_law_cell", "_law_low", "_law_high"] (defScope s_l_edged) := ⟨rfl, rfl, rfl, by decide +kernel, rfl, by decide +kernel, by decide +kernel⟩
/-! _law_bad -/
abbrev s_l_bad : Stmt := top 50
theorem sc_l_bad : FnScope ["_law_cell", "_law_low", "_law_high", "_law_way", "_law_far"] ["_law_cell", "_law_low", "_law_high"] (defScope s_l_bad) := ⟨rfl, rfl, rfl, by decide +kernel, rfl, by decide +kernel, by decide +kernel⟩
/-! _law_is -/
abbrev s_l_is : Stmt := top 51
theorem sc_l_is : FnScope ["_law_found", "_law_due"] ["_law_found", "_law_due"] (defScope s_l_is) := ⟨rfl, rfl, rfl, by decide +kernel, rfl, by decide +kernel, by decide +kernel⟩
/-! _law_alone -/
abbrev s_l_alone : Stmt := top 52
theorem sc_l_alone : FnScope ["_law_e", "_law_others"] ["_law_e"] (defScope s_l_alone) := ⟨rfl, rfl, rfl, by decide +kernel, rfl, by decide +kernel, by decide +kernel⟩
/-! _law_world_refused -/
abbrev s_l_world_refused : Stmt := top 53
theorem sc_l_world_refused : FnScope ["_law_nums", "_law_refused", "_law_e"] ["_law_nums"] (defScope s_l_world_refused) := ⟨rfl, rfl, rfl, by decide +kernel, rfl, by decide +kernel, by decide +kernel⟩
/-! _law_book_refused -/
abbrev s_l_book_refused : Stmt := top 54
theorem sc_l_book_refused : FnScope ["_law_world", "_law_hand", "_law_refused", "_law_e"] ["_law_world", "_law_hand"] (defScope s_l_book_refused) := ⟨rfl, rfl, rfl, by decide +kernel, rfl, by decide +kernel, by decide +kernel⟩
/-! _law_walks_refused -/
abbrev s_l_walks_refused : Stmt := top 55
theorem sc_l_walks_refused : FnScope ["_law_world", "_law_hand", "_law_refused", "_law_e"] ["_law_world", "_law_hand"] (defScope s_l_walks_refused) := ⟨rfl, rfl, rfl, by decide +kernel, rfl, by decide +kernel, by decide +kernel⟩
/-! _law_of_none -/
abbrev s_l_of_none : Stmt := top 56
theorem sc_l_of_none : FnScope ["_law_found", "_law_many", "_law_thing", "_law_one"] ["_law_found", "_law_many", "_law_thing"] (defScope s_l_of_none) := ⟨rfl, rfl, rfl, by decide +kernel, rfl, by decide +kernel, by decide +kernel⟩
/-! _law_is_new -/
abbrev s_l_is_new : Stmt := top 57
theorem sc_l_is_new : FnScope ["_law_world", "_law_nums", "_law_hand"] ["_law_world", "_law_nums"] (defScope s_l_is_new) := ⟨rfl, rfl, rfl, by decide +kernel, rfl, by decide +kernel, by decide +kernel⟩
/-! law -/
abbrev s_law : Stmt := top 58
theorem sc_law : FnScope ["_law_script", "_law_lows", "_law_highs", "_law_nums", "_law_world", "_law_told", "_law_one", "_law_k", "_law_cell", "_law_spoiled", "_law_hand"] ["_law_script"] (defScope s_law) := ⟨rfl, rfl, rfl, by decide +kernel, rfl, by decide +kernel, by decide +kernel⟩
structure Txt (K : PySem.W.Frag) (mg : Str → Option Value) (cP cN c1 c2 c3 c4 c5 c6 c7 c8 cW cT cF cD cS cI cB : Addr) : Prop where
  PaneError : GlC mg "PaneError" cP
  NoNumber : Exc K mg "NoNumber" cN
  NoSpace : GlC mg "NoSpace" c1
  NoFile : GlC mg "NoFile" c2
  NoPage : GlC mg "NoPage" c3
  NoRight : GlC mg "NoRight" c4
  Taken : GlC mg "Taken" c5
  Held : GlC mg "Held" c6
  Full : GlC mg "Full" c7
  NoRow : GlC mg "NoRow" c8
  xi_cN : PySem.W.ExcI K cN
  xm_cN_cP : PySem.W.exmOne K (.ref cN) (.ref cP) = some true
  xo_cN_cN : PySem.W.kitOne K (.ref cN) (.ref cN) = some true
  xo_cN_ValueError : PySem.W.kitOne K (.ref cN) (.type "ValueError") = some true
  xo : PySem.W.kitAny K (.ref cN) [.ref c1, .ref c2, .ref c3, .ref c4, .ref c5, .ref c6, .ref c7, .ref c8] = some false
  World : ClsD K mg "World" cW
  n_store : NoAttr K cW "store"
  n_books : NoAttr K cW "books"
  n_walks : NoAttr K cW "walks"
  n_copies : NoAttr K cW "copies"
  n_spaces : NoAttr K cW "spaces"
  n_spaces_made : NoAttr K cW "spaces_made"
  i_World : IDef K cW "World.__init__" s_World_init
  Store : ClsD K mg "Store" cT
  n_frames : NoAttr K cT "frames"
  n_dial : NoAttr K cT "dial"
  n_shelf : NoAttr K cT "shelf"
  n_files : NoAttr K cT "files"
  n_holders : NoAttr K cT "holders"
  n_sheets_made : NoAttr K cT "sheets_made"
  i_Store : IDef K cT "Store.__init__" s_Store_init
  Frames : ClsD K mg "Frames" cF
  n_held : NoAttr K cF "held"
  n_rows : NoAttr K cF "rows"
  n_soiled : NoAttr K cF "soiled"
  i_Frames : IDef K cF "Frames.__init__" s_Frames_init
  m_Frames_things : MDef K cF "things" "Frames.things" s_Frames_things
  Dial : ClsD K mg "Dial" cD
  n_stands_at : NoAttr K cD "stands_at"
  n_marked : NoAttr K cD "marked"
  i_Dial : IDef K cD "Dial.__init__" s_Dial_init
  m_Dial_pointer : MDef K cD "pointer" "Dial.pointer" s_Dial_pointer
  m_Dial_marks : MDef K cD "marks" "Dial.marks" s_Dial_marks
  Shelf : ClsD K mg "Shelf" cS
  n_placed : NoAttr K cS "placed"
  n_row_by_sheet : NoAttr K cS "row_by_sheet"
  i_Shelf : IDef K cS "Shelf.__init__" s_Shelf_init
  m_Shelf_sheets : MDef K cS "sheets" "Shelf.sheets" s_Shelf_sheets
  Files : ClsD K mg "Files" cI
  n_rows_by_name : NoAttr K cI "rows_by_name"
  i_Files : IDef K cI "Files.__init__" s_Files_init
  Book : ClsD K mg "Book" cB
  n_slots : NoAttr K cB "slots"
  n_kept : NoAttr K cB "kept"
  i_Book : IDef K cB "Book.__init__" s_Book_init
  m_Book_ways : MDef K cB "ways" "Book.ways" s_Book_ways
  MOST_FRAMES : MgInt mg "MOST_FRAMES" 64
  MOST_PLACES : MgInt mg "MOST_PLACES" 512
  MOST_HANDS : MgInt mg "MOST_HANDS" 8
  MOST_SLOTS : MgInt mg "MOST_SLOTS" 16
  d_is_whole : Def K mg "is_whole" s_is_whole
  d_number : Def K mg "number" s_number
  d_room_of : Def K mg "room_of" s_room_of
  d_holders_of : Def K mg "holders_of" s_holders_of
  d_hand_of : Def K mg "hand_of" s_hand_of
  d_told_spaces : Def K mg "told_spaces" s_told_spaces
  d_told_frames : Def K mg "told_frames" s_told_frames
  d_told_marks : Def K mg "told_marks" s_told_marks
  d_told_pointer : Def K mg "told_pointer" s_told_pointer
  d_told_shelf : Def K mg "told_shelf" s_told_shelf
  d_told_holders : Def K mg "told_holders" s_told_holders
  d_told_book : Def K mg "told_book" s_told_book
  d_told_walks : Def K mg "told_walks" s_told_walks
  d_told_copies : Def K mg "told_copies" s_told_copies
  d_told_room : Def K mg "told_room" s_told_room
  d_l_cell_at : Def K mg "_law_cell_at" s_l_cell_at
  d_l_edged : Def K mg "_law_edged" s_l_edged
  d_l_bad : Def K mg "_law_bad" s_l_bad
  d_l_is : Def K mg "_law_is" s_l_is
  d_l_alone : Def K mg "_law_alone" s_l_alone
  d_l_world_refused : Def K mg "_law_world_refused" s_l_world_refused
  d_l_book_refused : Def K mg "_law_book_refused" s_l_book_refused
  d_l_walks_refused : Def K mg "_law_walks_refused" s_l_walks_refused
  d_l_of_none : Def K mg "_law_of_none" s_l_of_none
  d_l_is_new : Def K mg "_law_is_new" s_l_is_new
  d_law : Def K mg "law" s_law
theorem txt_mk {K : PySem.W.Frag} {h : Heap} {mg : Str → Option Value} {cP cN c1 c2 c3 c4 c5 c6 c7 c8 cW cT cF cD cS cI cB : Addr} {fWorld_init : Addr} {fWorld_initoc : Value} {fWorld_initod fWorld_initan : Option Addr} {fWorld_initosl : Array (Option Value)} {fWorld_initkV fWorld_initdoc fWorld_initpm fWorld_initcdv fWorld_initct : Value} {fStore_init : Addr} {fStore_initoc : Value} {fStore_initod fStore_initan : Option Addr} {fStore_initosl : Array (Option Value)} {fStore_initkV fStore_initdoc fStore_initpm fStore_initcdv fStore_initct : Value} {fFrames_init : Addr} {fFrames_initoc : Value} {fFrames_initod fFrames_initan : Option Addr} {fFrames_initosl : Array (Option Value)} {fFrames_initkV fFrames_initdoc fFrames_initpm fFrames_initcdv fFrames_initct : Value} {fFrames_things : Addr} {fFrames_thingsoc : Value} {fFrames_thingsod fFrames_thingsan : Option Addr} {fFrames_thingsosl : Array (Option Value)} {fFrames_thingskV fFrames_thingsdoc fFrames_thingspm fFrames_thingscdv fFrames_thingsct : Value} {fDial_init : Addr} {fDial_initoc : Value} {fDial_initod fDial_initan : Option Addr} {fDial_initosl : Array (Option Value)} {fDial_initkV fDial_initdoc fDial_initpm fDial_initcdv fDial_initct : Value} {fDial_pointer : Addr} {fDial_pointeroc : Value} {fDial_pointerod fDial_pointeran : Option Addr} {fDial_pointerosl : Array (Option Value)} {fDial_pointerkV fDial_pointerdoc fDial_pointerpm fDial_pointercdv fDial_pointerct : Value} {fDial_marks : Addr} {fDial_marksoc : Value} {fDial_marksod fDial_marksan : Option Addr} {fDial_marksosl : Array (Option Value)} {fDial_markskV fDial_marksdoc fDial_markspm fDial_markscdv fDial_marksct : Value} {fShelf_init : Addr} {fShelf_initoc : Value} {fShelf_initod fShelf_initan : Option Addr} {fShelf_initosl : Array (Option Value)} {fShelf_initkV fShelf_initdoc fShelf_initpm fShelf_initcdv fShelf_initct : Value} {fShelf_sheets : Addr} {fShelf_sheetsoc : Value} {fShelf_sheetsod fShelf_sheetsan : Option Addr} {fShelf_sheetsosl : Array (Option Value)} {fShelf_sheetskV fShelf_sheetsdoc fShelf_sheetspm fShelf_sheetscdv fShelf_sheetsct : Value} {fFiles_init : Addr} {fFiles_initoc : Value} {fFiles_initod fFiles_initan : Option Addr} {fFiles_initosl : Array (Option Value)} {fFiles_initkV fFiles_initdoc fFiles_initpm fFiles_initcdv fFiles_initct : Value} {fBook_init : Addr} {fBook_initoc : Value} {fBook_initod fBook_initan : Option Addr} {fBook_initosl : Array (Option Value)} {fBook_initkV fBook_initdoc fBook_initpm fBook_initcdv fBook_initct : Value} {fBook_ways : Addr} {fBook_waysoc : Value} {fBook_waysod fBook_waysan : Option Addr} {fBook_waysosl : Array (Option Value)} {fBook_wayskV fBook_waysdoc fBook_wayspm fBook_wayscdv fBook_waysct : Value} {tMOST_FRAMES : Tok} {tMOST_PLACES : Tok} {tMOST_HANDS : Tok} {tMOST_SLOTS : Tok} {fis_whole : Addr} {fis_wholeoc : Value} {fis_wholeod fis_wholean : Option Addr} {fis_wholeosl : Array (Option Value)} {fis_wholekV fis_wholedoc fis_wholepm fis_wholecdv fis_wholect : Value} {fnumber : Addr} {fnumberoc : Value} {fnumberod fnumberan : Option Addr} {fnumberosl : Array (Option Value)} {fnumberkV fnumberdoc fnumberpm fnumbercdv fnumberct : Value} {froom_of : Addr} {froom_ofoc : Value} {froom_ofod froom_ofan : Option Addr} {froom_ofosl : Array (Option Value)} {froom_ofkV froom_ofdoc froom_ofpm froom_ofcdv froom_ofct : Value} {fholders_of : Addr} {fholders_ofoc : Value} {fholders_ofod fholders_ofan : Option Addr} {fholders_ofosl : Array (Option Value)} {fholders_ofkV fholders_ofdoc fholders_ofpm fholders_ofcdv fholders_ofct : Value} {fhand_of : Addr} {fhand_ofoc : Value} {fhand_ofod fhand_ofan : Option Addr} {fhand_ofosl : Array (Option Value)} {fhand_ofkV fhand_ofdoc fhand_ofpm fhand_ofcdv fhand_ofct : Value} {ftold_spaces : Addr} {ftold_spacesoc : Value} {ftold_spacesod ftold_spacesan : Option Addr} {ftold_spacesosl : Array (Option Value)} {ftold_spaceskV ftold_spacesdoc ftold_spacespm ftold_spacescdv ftold_spacesct : Value} {ftold_frames : Addr} {ftold_framesoc : Value} {ftold_framesod ftold_framesan : Option Addr} {ftold_framesosl : Array (Option Value)} {ftold_frameskV ftold_framesdoc ftold_framespm ftold_framescdv ftold_framesct : Value} {ftold_marks : Addr} {ftold_marksoc : Value} {ftold_marksod ftold_marksan : Option Addr} {ftold_marksosl : Array (Option Value)} {ftold_markskV ftold_marksdoc ftold_markspm ftold_markscdv ftold_marksct : Value} {ftold_pointer : Addr} {ftold_pointeroc : Value} {ftold_pointerod ftold_pointeran : Option Addr} {ftold_pointerosl : Array (Option Value)} {ftold_pointerkV ftold_pointerdoc ftold_pointerpm ftold_pointercdv ftold_pointerct : Value} {ftold_shelf : Addr} {ftold_shelfoc : Value} {ftold_shelfod ftold_shelfan : Option Addr} {ftold_shelfosl : Array (Option Value)} {ftold_shelfkV ftold_shelfdoc ftold_shelfpm ftold_shelfcdv ftold_shelfct : Value} {ftold_holders : Addr} {ftold_holdersoc : Value} {ftold_holdersod ftold_holdersan : Option Addr} {ftold_holdersosl : Array (Option Value)} {ftold_holderskV ftold_holdersdoc ftold_holderspm ftold_holderscdv ftold_holdersct : Value} {ftold_book : Addr} {ftold_bookoc : Value} {ftold_bookod ftold_bookan : Option Addr} {ftold_bookosl : Array (Option Value)} {ftold_bookkV ftold_bookdoc ftold_bookpm ftold_bookcdv ftold_bookct : Value} {ftold_walks : Addr} {ftold_walksoc : Value} {ftold_walksod ftold_walksan : Option Addr} {ftold_walksosl : Array (Option Value)} {ftold_walkskV ftold_walksdoc ftold_walkspm ftold_walkscdv ftold_walksct : Value} {ftold_copies : Addr} {ftold_copiesoc : Value} {ftold_copiesod ftold_copiesan : Option Addr} {ftold_copiesosl : Array (Option Value)} {ftold_copieskV ftold_copiesdoc ftold_copiespm ftold_copiescdv ftold_copiesct : Value} {ftold_room : Addr} {ftold_roomoc : Value} {ftold_roomod ftold_rooman : Option Addr} {ftold_roomosl : Array (Option Value)} {ftold_roomkV ftold_roomdoc ftold_roompm ftold_roomcdv ftold_roomct : Value} {fl_cell_at : Addr} {fl_cell_atoc : Value} {fl_cell_atod fl_cell_atan : Option Addr} {fl_cell_atosl : Array (Option Value)} {fl_cell_atkV fl_cell_atdoc fl_cell_atpm fl_cell_atcdv fl_cell_atct : Value} {fl_edged : Addr} {fl_edgedoc : Value} {fl_edgedod fl_edgedan : Option Addr} {fl_edgedosl : Array (Option Value)} {fl_edgedkV fl_edgeddoc fl_edgedpm fl_edgedcdv fl_edgedct : Value} {fl_bad : Addr} {fl_badoc : Value} {fl_badod fl_badan : Option Addr} {fl_badosl : Array (Option Value)} {fl_badkV fl_baddoc fl_badpm fl_badcdv fl_badct : Value} {fl_is : Addr} {fl_isoc : Value} {fl_isod fl_isan : Option Addr} {fl_isosl : Array (Option Value)} {fl_iskV fl_isdoc fl_ispm fl_iscdv fl_isct : Value} {fl_alone : Addr} {fl_aloneoc : Value} {fl_aloneod fl_alonean : Option Addr} {fl_aloneosl : Array (Option Value)} {fl_alonekV fl_alonedoc fl_alonepm fl_alonecdv fl_alonect : Value} {fl_world_refused : Addr} {fl_world_refusedoc : Value} {fl_world_refusedod fl_world_refusedan : Option Addr} {fl_world_refusedosl : Array (Option Value)} {fl_world_refusedkV fl_world_refuseddoc fl_world_refusedpm fl_world_refusedcdv fl_world_refusedct : Value} {fl_book_refused : Addr} {fl_book_refusedoc : Value} {fl_book_refusedod fl_book_refusedan : Option Addr} {fl_book_refusedosl : Array (Option Value)} {fl_book_refusedkV fl_book_refuseddoc fl_book_refusedpm fl_book_refusedcdv fl_book_refusedct : Value} {fl_walks_refused : Addr} {fl_walks_refusedoc : Value} {fl_walks_refusedod fl_walks_refusedan : Option Addr} {fl_walks_refusedosl : Array (Option Value)} {fl_walks_refusedkV fl_walks_refuseddoc fl_walks_refusedpm fl_walks_refusedcdv fl_walks_refusedct : Value} {fl_of_none : Addr} {fl_of_noneoc : Value} {fl_of_noneod fl_of_nonean : Option Addr} {fl_of_noneosl : Array (Option Value)} {fl_of_nonekV fl_of_nonedoc fl_of_nonepm fl_of_nonecdv fl_of_nonect : Value} {fl_is_new : Addr} {fl_is_newoc : Value} {fl_is_newod fl_is_newan : Option Addr} {fl_is_newosl : Array (Option Value)} {fl_is_newkV fl_is_newdoc fl_is_newpm fl_is_newcdv fl_is_newct : Value} {flaw : Addr} {flawoc : Value} {flawod flawan : Option Addr} {flawosl : Array (Option Value)} {flawkV flawdoc flawpm flawcdv flawct : Value} (X : K.In h) (G : h.Ns mainGlobals mg)
    (z1 : PySem.W.nsIn K mainGlobals "PaneError" = some (some (.ref cP)))
    (z2 : PySem.W.nsIn K mainGlobals "NoNumber" = some (some (.ref cN)))
    (z3 : PySem.W.excIn K cN [.type "ValueError", .type "Exception", .type "BaseException", .type "object"] "ValueError.__new__" = true)
    (z4 : PySem.W.nsIn K mainGlobals "NoSpace" = some (some (.ref c1)))
    (z5 : PySem.W.nsIn K mainGlobals "NoFile" = some (some (.ref c2)))
    (z6 : PySem.W.nsIn K mainGlobals "NoPage" = some (some (.ref c3)))
    (z7 : PySem.W.nsIn K mainGlobals "NoRight" = some (some (.ref c4)))
    (z8 : PySem.W.nsIn K mainGlobals "Taken" = some (some (.ref c5)))
    (z9 : PySem.W.nsIn K mainGlobals "Held" = some (some (.ref c6)))
    (z10 : PySem.W.nsIn K mainGlobals "Full" = some (some (.ref c7)))
    (z11 : PySem.W.nsIn K mainGlobals "NoRow" = some (some (.ref c8)))
    (z12 : PySem.W.hasDictIn K cN = true)
    (z13 : PySem.W.findIn K (.ref cN) "__getattribute__" = some (some (.builtin "BaseException.__getattribute__")))
    (z14 : PySem.W.findIn K (.ref cN) "__getattr__" = some none)
    (z15 : PySem.W.findIn K (.ref cN) "__class__" = some (some (.builtin "object.__class__")))
    (z16 : PySem.W.specialIn K (.builtin "object.__class__") "__get__" = some (some (.builtin "getset_descriptor.__get__")))
    (z17 : PySem.W.takesIn K (.builtin "object.__class__") = some true)
    (z18 : PySem.W.mroIn K cN (.type "object") = some true)
    (z19 : PySem.W.subIn K (.ref cN) (.type "BaseException") = some true)
    (z20 : PySem.W.exmOne K (.ref cN) (.ref cP) = some true)
    (z21 : PySem.W.kitOne K (.ref cN) (.ref cN) = some true)
    (z22 : PySem.W.kitOne K (.ref cN) (.type "ValueError") = some true)
    (z23 : PySem.W.kitAny K (.ref cN) [.ref c1, .ref c2, .ref c3, .ref c4, .ref c5, .ref c6, .ref c7, .ref c8] = some false)
    (z24 : PySem.W.nsIn K mainGlobals "World" = some (some (.ref cW)))
    (z25 : PySem.W.plainGet K cW Str.empty = true)
    (z26 : PySem.W.hasDictIn K cW = true)
    (z27 : PySem.W.plainOver K cW = true)
    (z28 : PySem.W.findIn K (.ref cW) "__setattr__" = some (some (.builtin "object.__setattr__")))
    (z29 : PySem.W.findIn K (.ref cW) "store" = some none)
    (z30 : PySem.W.findIn K (.ref cW) "books" = some none)
    (z31 : PySem.W.findIn K (.ref cW) "walks" = some none)
    (z32 : PySem.W.findIn K (.ref cW) "copies" = some none)
    (z33 : PySem.W.findIn K (.ref cW) "spaces" = some none)
    (z34 : PySem.W.findIn K (.ref cW) "spaces_made" = some none)
    (z35 : PySem.W.makesIn K cW = true)
    (z36 : PySem.W.findIn K (.ref cW) "__init__" = some (some (.ref fWorld_init)))
    (z37 : PySem.W.isFn K (.ref fWorld_init) = true)
    (z38 : PySem.W.keepIn K (.ref cW) = true)
    (z39 : K.lookup fWorld_init = some ⟨fWorld_initoc, fWorld_initod, .func (PySem.W.fnOf "__init__" "World.__init__" (defArgs s_World_init) (defBody s_World_init) (defScope s_World_init) .none fWorld_initkV fWorld_initdoc fWorld_initpm fWorld_initan fWorld_initcdv fWorld_initct), fWorld_initosl⟩)
    (z40 : PySem.W.codeIn K fWorld_initcdv "World.__init__" = true)
    (z41 : PySem.W.keepIn K (.ref fWorld_init) = true)
    (z42 : PySem.W.nsIn K mainGlobals "Store" = some (some (.ref cT)))
    (z43 : PySem.W.plainGet K cT Str.empty = true)
    (z44 : PySem.W.hasDictIn K cT = true)
    (z45 : PySem.W.plainOver K cT = true)
    (z46 : PySem.W.findIn K (.ref cT) "__setattr__" = some (some (.builtin "object.__setattr__")))
    (z47 : PySem.W.findIn K (.ref cT) "frames" = some none)
    (z48 : PySem.W.findIn K (.ref cT) "dial" = some none)
    (z49 : PySem.W.findIn K (.ref cT) "shelf" = some none)
    (z50 : PySem.W.findIn K (.ref cT) "files" = some none)
    (z51 : PySem.W.findIn K (.ref cT) "holders" = some none)
    (z52 : PySem.W.findIn K (.ref cT) "sheets_made" = some none)
    (z53 : PySem.W.makesIn K cT = true)
    (z54 : PySem.W.findIn K (.ref cT) "__init__" = some (some (.ref fStore_init)))
    (z55 : PySem.W.isFn K (.ref fStore_init) = true)
    (z56 : PySem.W.keepIn K (.ref cT) = true)
    (z57 : K.lookup fStore_init = some ⟨fStore_initoc, fStore_initod, .func (PySem.W.fnOf "__init__" "Store.__init__" (defArgs s_Store_init) (defBody s_Store_init) (defScope s_Store_init) .none fStore_initkV fStore_initdoc fStore_initpm fStore_initan fStore_initcdv fStore_initct), fStore_initosl⟩)
    (z58 : PySem.W.codeIn K fStore_initcdv "Store.__init__" = true)
    (z59 : PySem.W.keepIn K (.ref fStore_init) = true)
    (z60 : PySem.W.nsIn K mainGlobals "Frames" = some (some (.ref cF)))
    (z61 : PySem.W.plainGet K cF Str.empty = true)
    (z62 : PySem.W.hasDictIn K cF = true)
    (z63 : PySem.W.plainOver K cF = true)
    (z64 : PySem.W.findIn K (.ref cF) "__setattr__" = some (some (.builtin "object.__setattr__")))
    (z65 : PySem.W.findIn K (.ref cF) "held" = some none)
    (z66 : PySem.W.findIn K (.ref cF) "rows" = some none)
    (z67 : PySem.W.findIn K (.ref cF) "soiled" = some none)
    (z68 : PySem.W.makesIn K cF = true)
    (z69 : PySem.W.findIn K (.ref cF) "__init__" = some (some (.ref fFrames_init)))
    (z70 : PySem.W.isFn K (.ref fFrames_init) = true)
    (z71 : PySem.W.keepIn K (.ref cF) = true)
    (z72 : K.lookup fFrames_init = some ⟨fFrames_initoc, fFrames_initod, .func (PySem.W.fnOf "__init__" "Frames.__init__" (defArgs s_Frames_init) (defBody s_Frames_init) (defScope s_Frames_init) .none fFrames_initkV fFrames_initdoc fFrames_initpm fFrames_initan fFrames_initcdv fFrames_initct), fFrames_initosl⟩)
    (z73 : PySem.W.codeIn K fFrames_initcdv "Frames.__init__" = true)
    (z74 : PySem.W.keepIn K (.ref fFrames_init) = true)
    (z75 : PySem.W.findIn K (.ref cF) "things" = some (some (.ref fFrames_things)))
    (z76 : PySem.W.isFn K (.ref fFrames_things) = true)
    (z77 : K.lookup fFrames_things = some ⟨fFrames_thingsoc, fFrames_thingsod, .func (PySem.W.fnOf "things" "Frames.things" (defArgs s_Frames_things) (defBody s_Frames_things) (defScope s_Frames_things) .none fFrames_thingskV fFrames_thingsdoc fFrames_thingspm fFrames_thingsan fFrames_thingscdv fFrames_thingsct), fFrames_thingsosl⟩)
    (z78 : PySem.W.codeIn K fFrames_thingscdv "Frames.things" = true)
    (z79 : PySem.W.keepIn K (.ref fFrames_things) = true)
    (z80 : PySem.W.nsIn K mainGlobals "Dial" = some (some (.ref cD)))
    (z81 : PySem.W.plainGet K cD Str.empty = true)
    (z82 : PySem.W.hasDictIn K cD = true)
    (z83 : PySem.W.plainOver K cD = true)
    (z84 : PySem.W.findIn K (.ref cD) "__setattr__" = some (some (.builtin "object.__setattr__")))
    (z85 : PySem.W.findIn K (.ref cD) "stands_at" = some none)
    (z86 : PySem.W.findIn K (.ref cD) "marked" = some none)
    (z87 : PySem.W.makesIn K cD = true)
    (z88 : PySem.W.findIn K (.ref cD) "__init__" = some (some (.ref fDial_init)))
    (z89 : PySem.W.isFn K (.ref fDial_init) = true)
    (z90 : PySem.W.keepIn K (.ref cD) = true)
    (z91 : K.lookup fDial_init = some ⟨fDial_initoc, fDial_initod, .func (PySem.W.fnOf "__init__" "Dial.__init__" (defArgs s_Dial_init) (defBody s_Dial_init) (defScope s_Dial_init) .none fDial_initkV fDial_initdoc fDial_initpm fDial_initan fDial_initcdv fDial_initct), fDial_initosl⟩)
    (z92 : PySem.W.codeIn K fDial_initcdv "Dial.__init__" = true)
    (z93 : PySem.W.keepIn K (.ref fDial_init) = true)
    (z94 : PySem.W.findIn K (.ref cD) "pointer" = some (some (.ref fDial_pointer)))
    (z95 : PySem.W.isFn K (.ref fDial_pointer) = true)
    (z96 : K.lookup fDial_pointer = some ⟨fDial_pointeroc, fDial_pointerod, .func (PySem.W.fnOf "pointer" "Dial.pointer" (defArgs s_Dial_pointer) (defBody s_Dial_pointer) (defScope s_Dial_pointer) .none fDial_pointerkV fDial_pointerdoc fDial_pointerpm fDial_pointeran fDial_pointercdv fDial_pointerct), fDial_pointerosl⟩)
    (z97 : PySem.W.codeIn K fDial_pointercdv "Dial.pointer" = true)
    (z98 : PySem.W.keepIn K (.ref fDial_pointer) = true)
    (z99 : PySem.W.findIn K (.ref cD) "marks" = some (some (.ref fDial_marks)))
    (z100 : PySem.W.isFn K (.ref fDial_marks) = true)
    (z101 : K.lookup fDial_marks = some ⟨fDial_marksoc, fDial_marksod, .func (PySem.W.fnOf "marks" "Dial.marks" (defArgs s_Dial_marks) (defBody s_Dial_marks) (defScope s_Dial_marks) .none fDial_markskV fDial_marksdoc fDial_markspm fDial_marksan fDial_markscdv fDial_marksct), fDial_marksosl⟩)
    (z102 : PySem.W.codeIn K fDial_markscdv "Dial.marks" = true)
    (z103 : PySem.W.keepIn K (.ref fDial_marks) = true)
    (z104 : PySem.W.nsIn K mainGlobals "Shelf" = some (some (.ref cS)))
    (z105 : PySem.W.plainGet K cS Str.empty = true)
    (z106 : PySem.W.hasDictIn K cS = true)
    (z107 : PySem.W.plainOver K cS = true)
    (z108 : PySem.W.findIn K (.ref cS) "__setattr__" = some (some (.builtin "object.__setattr__")))
    (z109 : PySem.W.findIn K (.ref cS) "placed" = some none)
    (z110 : PySem.W.findIn K (.ref cS) "row_by_sheet" = some none)
    (z111 : PySem.W.makesIn K cS = true)
    (z112 : PySem.W.findIn K (.ref cS) "__init__" = some (some (.ref fShelf_init)))
    (z113 : PySem.W.isFn K (.ref fShelf_init) = true)
    (z114 : PySem.W.keepIn K (.ref cS) = true)
    (z115 : K.lookup fShelf_init = some ⟨fShelf_initoc, fShelf_initod, .func (PySem.W.fnOf "__init__" "Shelf.__init__" (defArgs s_Shelf_init) (defBody s_Shelf_init) (defScope s_Shelf_init) .none fShelf_initkV fShelf_initdoc fShelf_initpm fShelf_initan fShelf_initcdv fShelf_initct), fShelf_initosl⟩)
    (z116 : PySem.W.codeIn K fShelf_initcdv "Shelf.__init__" = true)
    (z117 : PySem.W.keepIn K (.ref fShelf_init) = true)
    (z118 : PySem.W.findIn K (.ref cS) "sheets" = some (some (.ref fShelf_sheets)))
    (z119 : PySem.W.isFn K (.ref fShelf_sheets) = true)
    (z120 : K.lookup fShelf_sheets = some ⟨fShelf_sheetsoc, fShelf_sheetsod, .func (PySem.W.fnOf "sheets" "Shelf.sheets" (defArgs s_Shelf_sheets) (defBody s_Shelf_sheets) (defScope s_Shelf_sheets) .none fShelf_sheetskV fShelf_sheetsdoc fShelf_sheetspm fShelf_sheetsan fShelf_sheetscdv fShelf_sheetsct), fShelf_sheetsosl⟩)
    (z121 : PySem.W.codeIn K fShelf_sheetscdv "Shelf.sheets" = true)
    (z122 : PySem.W.keepIn K (.ref fShelf_sheets) = true)
    (z123 : PySem.W.nsIn K mainGlobals "Files" = some (some (.ref cI)))
    (z124 : PySem.W.plainGet K cI Str.empty = true)
    (z125 : PySem.W.hasDictIn K cI = true)
    (z126 : PySem.W.plainOver K cI = true)
    (z127 : PySem.W.findIn K (.ref cI) "__setattr__" = some (some (.builtin "object.__setattr__")))
    (z128 : PySem.W.findIn K (.ref cI) "rows_by_name" = some none)
    (z129 : PySem.W.makesIn K cI = true)
    (z130 : PySem.W.findIn K (.ref cI) "__init__" = some (some (.ref fFiles_init)))
    (z131 : PySem.W.isFn K (.ref fFiles_init) = true)
    (z132 : PySem.W.keepIn K (.ref cI) = true)
    (z133 : K.lookup fFiles_init = some ⟨fFiles_initoc, fFiles_initod, .func (PySem.W.fnOf "__init__" "Files.__init__" (defArgs s_Files_init) (defBody s_Files_init) (defScope s_Files_init) .none fFiles_initkV fFiles_initdoc fFiles_initpm fFiles_initan fFiles_initcdv fFiles_initct), fFiles_initosl⟩)
    (z134 : PySem.W.codeIn K fFiles_initcdv "Files.__init__" = true)
    (z135 : PySem.W.keepIn K (.ref fFiles_init) = true)
    (z136 : PySem.W.nsIn K mainGlobals "Book" = some (some (.ref cB)))
    (z137 : PySem.W.plainGet K cB Str.empty = true)
    (z138 : PySem.W.hasDictIn K cB = true)
    (z139 : PySem.W.plainOver K cB = true)
    (z140 : PySem.W.findIn K (.ref cB) "__setattr__" = some (some (.builtin "object.__setattr__")))
    (z141 : PySem.W.findIn K (.ref cB) "slots" = some none)
    (z142 : PySem.W.findIn K (.ref cB) "kept" = some none)
    (z143 : PySem.W.makesIn K cB = true)
    (z144 : PySem.W.findIn K (.ref cB) "__init__" = some (some (.ref fBook_init)))
    (z145 : PySem.W.isFn K (.ref fBook_init) = true)
    (z146 : PySem.W.keepIn K (.ref cB) = true)
    (z147 : K.lookup fBook_init = some ⟨fBook_initoc, fBook_initod, .func (PySem.W.fnOf "__init__" "Book.__init__" (defArgs s_Book_init) (defBody s_Book_init) (defScope s_Book_init) .none fBook_initkV fBook_initdoc fBook_initpm fBook_initan fBook_initcdv fBook_initct), fBook_initosl⟩)
    (z148 : PySem.W.codeIn K fBook_initcdv "Book.__init__" = true)
    (z149 : PySem.W.keepIn K (.ref fBook_init) = true)
    (z150 : PySem.W.findIn K (.ref cB) "ways" = some (some (.ref fBook_ways)))
    (z151 : PySem.W.isFn K (.ref fBook_ways) = true)
    (z152 : K.lookup fBook_ways = some ⟨fBook_waysoc, fBook_waysod, .func (PySem.W.fnOf "ways" "Book.ways" (defArgs s_Book_ways) (defBody s_Book_ways) (defScope s_Book_ways) .none fBook_wayskV fBook_waysdoc fBook_wayspm fBook_waysan fBook_wayscdv fBook_waysct), fBook_waysosl⟩)
    (z153 : PySem.W.codeIn K fBook_wayscdv "Book.ways" = true)
    (z154 : PySem.W.keepIn K (.ref fBook_ways) = true)
    (z155 : PySem.W.nsIn K mainGlobals "MOST_FRAMES" = some (some (.int 64 tMOST_FRAMES)))
    (z156 : PySem.W.nsIn K mainGlobals "MOST_PLACES" = some (some (.int 512 tMOST_PLACES)))
    (z157 : PySem.W.nsIn K mainGlobals "MOST_HANDS" = some (some (.int 8 tMOST_HANDS)))
    (z158 : PySem.W.nsIn K mainGlobals "MOST_SLOTS" = some (some (.int 16 tMOST_SLOTS)))
    (z159 : PySem.W.nsIn K mainGlobals "is_whole" = some (some (.ref fis_whole)))
    (z160 : K.lookup fis_whole = some ⟨fis_wholeoc, fis_wholeod, .func (PySem.W.fnOf "is_whole" "is_whole" (defArgs s_is_whole) (defBody s_is_whole) (defScope s_is_whole) .none fis_wholekV fis_wholedoc fis_wholepm fis_wholean fis_wholecdv fis_wholect), fis_wholeosl⟩)
    (z161 : PySem.W.codeIn K fis_wholecdv "is_whole" = true)
    (z162 : PySem.W.keepIn K (.ref fis_whole) = true)
    (z163 : PySem.W.nsIn K mainGlobals "number" = some (some (.ref fnumber)))
    (z164 : K.lookup fnumber = some ⟨fnumberoc, fnumberod, .func (PySem.W.fnOf "number" "number" (defArgs s_number) (defBody s_number) (defScope s_number) .none fnumberkV fnumberdoc fnumberpm fnumberan fnumbercdv fnumberct), fnumberosl⟩)
    (z165 : PySem.W.codeIn K fnumbercdv "number" = true)
    (z166 : PySem.W.keepIn K (.ref fnumber) = true)
    (z167 : PySem.W.nsIn K mainGlobals "room_of" = some (some (.ref froom_of)))
    (z168 : K.lookup froom_of = some ⟨froom_ofoc, froom_ofod, .func (PySem.W.fnOf "room_of" "room_of" (defArgs s_room_of) (defBody s_room_of) (defScope s_room_of) .none froom_ofkV froom_ofdoc froom_ofpm froom_ofan froom_ofcdv froom_ofct), froom_ofosl⟩)
    (z169 : PySem.W.codeIn K froom_ofcdv "room_of" = true)
    (z170 : PySem.W.keepIn K (.ref froom_of) = true)
    (z171 : PySem.W.nsIn K mainGlobals "holders_of" = some (some (.ref fholders_of)))
    (z172 : K.lookup fholders_of = some ⟨fholders_ofoc, fholders_ofod, .func (PySem.W.fnOf "holders_of" "holders_of" (defArgs s_holders_of) (defBody s_holders_of) (defScope s_holders_of) .none fholders_ofkV fholders_ofdoc fholders_ofpm fholders_ofan fholders_ofcdv fholders_ofct), fholders_ofosl⟩)
    (z173 : PySem.W.codeIn K fholders_ofcdv "holders_of" = true)
    (z174 : PySem.W.keepIn K (.ref fholders_of) = true)
    (z175 : PySem.W.nsIn K mainGlobals "hand_of" = some (some (.ref fhand_of)))
    (z176 : K.lookup fhand_of = some ⟨fhand_ofoc, fhand_ofod, .func (PySem.W.fnOf "hand_of" "hand_of" (defArgs s_hand_of) (defBody s_hand_of) (defScope s_hand_of) .none fhand_ofkV fhand_ofdoc fhand_ofpm fhand_ofan fhand_ofcdv fhand_ofct), fhand_ofosl⟩)
    (z177 : PySem.W.codeIn K fhand_ofcdv "hand_of" = true)
    (z178 : PySem.W.keepIn K (.ref fhand_of) = true)
    (z179 : PySem.W.nsIn K mainGlobals "told_spaces" = some (some (.ref ftold_spaces)))
    (z180 : K.lookup ftold_spaces = some ⟨ftold_spacesoc, ftold_spacesod, .func (PySem.W.fnOf "told_spaces" "told_spaces" (defArgs s_told_spaces) (defBody s_told_spaces) (defScope s_told_spaces) .none ftold_spaceskV ftold_spacesdoc ftold_spacespm ftold_spacesan ftold_spacescdv ftold_spacesct), ftold_spacesosl⟩)
    (z181 : PySem.W.codeIn K ftold_spacescdv "told_spaces" = true)
    (z182 : PySem.W.keepIn K (.ref ftold_spaces) = true)
    (z183 : PySem.W.nsIn K mainGlobals "told_frames" = some (some (.ref ftold_frames)))
    (z184 : K.lookup ftold_frames = some ⟨ftold_framesoc, ftold_framesod, .func (PySem.W.fnOf "told_frames" "told_frames" (defArgs s_told_frames) (defBody s_told_frames) (defScope s_told_frames) .none ftold_frameskV ftold_framesdoc ftold_framespm ftold_framesan ftold_framescdv ftold_framesct), ftold_framesosl⟩)
    (z185 : PySem.W.codeIn K ftold_framescdv "told_frames" = true)
    (z186 : PySem.W.keepIn K (.ref ftold_frames) = true)
    (z187 : PySem.W.nsIn K mainGlobals "told_marks" = some (some (.ref ftold_marks)))
    (z188 : K.lookup ftold_marks = some ⟨ftold_marksoc, ftold_marksod, .func (PySem.W.fnOf "told_marks" "told_marks" (defArgs s_told_marks) (defBody s_told_marks) (defScope s_told_marks) .none ftold_markskV ftold_marksdoc ftold_markspm ftold_marksan ftold_markscdv ftold_marksct), ftold_marksosl⟩)
    (z189 : PySem.W.codeIn K ftold_markscdv "told_marks" = true)
    (z190 : PySem.W.keepIn K (.ref ftold_marks) = true)
    (z191 : PySem.W.nsIn K mainGlobals "told_pointer" = some (some (.ref ftold_pointer)))
    (z192 : K.lookup ftold_pointer = some ⟨ftold_pointeroc, ftold_pointerod, .func (PySem.W.fnOf "told_pointer" "told_pointer" (defArgs s_told_pointer) (defBody s_told_pointer) (defScope s_told_pointer) .none ftold_pointerkV ftold_pointerdoc ftold_pointerpm ftold_pointeran ftold_pointercdv ftold_pointerct), ftold_pointerosl⟩)
    (z193 : PySem.W.codeIn K ftold_pointercdv "told_pointer" = true)
    (z194 : PySem.W.keepIn K (.ref ftold_pointer) = true)
    (z195 : PySem.W.nsIn K mainGlobals "told_shelf" = some (some (.ref ftold_shelf)))
    (z196 : K.lookup ftold_shelf = some ⟨ftold_shelfoc, ftold_shelfod, .func (PySem.W.fnOf "told_shelf" "told_shelf" (defArgs s_told_shelf) (defBody s_told_shelf) (defScope s_told_shelf) .none ftold_shelfkV ftold_shelfdoc ftold_shelfpm ftold_shelfan ftold_shelfcdv ftold_shelfct), ftold_shelfosl⟩)
    (z197 : PySem.W.codeIn K ftold_shelfcdv "told_shelf" = true)
    (z198 : PySem.W.keepIn K (.ref ftold_shelf) = true)
    (z199 : PySem.W.nsIn K mainGlobals "told_holders" = some (some (.ref ftold_holders)))
    (z200 : K.lookup ftold_holders = some ⟨ftold_holdersoc, ftold_holdersod, .func (PySem.W.fnOf "told_holders" "told_holders" (defArgs s_told_holders) (defBody s_told_holders) (defScope s_told_holders) .none ftold_holderskV ftold_holdersdoc ftold_holderspm ftold_holdersan ftold_holderscdv ftold_holdersct), ftold_holdersosl⟩)
    (z201 : PySem.W.codeIn K ftold_holderscdv "told_holders" = true)
    (z202 : PySem.W.keepIn K (.ref ftold_holders) = true)
    (z203 : PySem.W.nsIn K mainGlobals "told_book" = some (some (.ref ftold_book)))
    (z204 : K.lookup ftold_book = some ⟨ftold_bookoc, ftold_bookod, .func (PySem.W.fnOf "told_book" "told_book" (defArgs s_told_book) (defBody s_told_book) (defScope s_told_book) .none ftold_bookkV ftold_bookdoc ftold_bookpm ftold_bookan ftold_bookcdv ftold_bookct), ftold_bookosl⟩)
    (z205 : PySem.W.codeIn K ftold_bookcdv "told_book" = true)
    (z206 : PySem.W.keepIn K (.ref ftold_book) = true)
    (z207 : PySem.W.nsIn K mainGlobals "told_walks" = some (some (.ref ftold_walks)))
    (z208 : K.lookup ftold_walks = some ⟨ftold_walksoc, ftold_walksod, .func (PySem.W.fnOf "told_walks" "told_walks" (defArgs s_told_walks) (defBody s_told_walks) (defScope s_told_walks) .none ftold_walkskV ftold_walksdoc ftold_walkspm ftold_walksan ftold_walkscdv ftold_walksct), ftold_walksosl⟩)
    (z209 : PySem.W.codeIn K ftold_walkscdv "told_walks" = true)
    (z210 : PySem.W.keepIn K (.ref ftold_walks) = true)
    (z211 : PySem.W.nsIn K mainGlobals "told_copies" = some (some (.ref ftold_copies)))
    (z212 : K.lookup ftold_copies = some ⟨ftold_copiesoc, ftold_copiesod, .func (PySem.W.fnOf "told_copies" "told_copies" (defArgs s_told_copies) (defBody s_told_copies) (defScope s_told_copies) .none ftold_copieskV ftold_copiesdoc ftold_copiespm ftold_copiesan ftold_copiescdv ftold_copiesct), ftold_copiesosl⟩)
    (z213 : PySem.W.codeIn K ftold_copiescdv "told_copies" = true)
    (z214 : PySem.W.keepIn K (.ref ftold_copies) = true)
    (z215 : PySem.W.nsIn K mainGlobals "told_room" = some (some (.ref ftold_room)))
    (z216 : K.lookup ftold_room = some ⟨ftold_roomoc, ftold_roomod, .func (PySem.W.fnOf "told_room" "told_room" (defArgs s_told_room) (defBody s_told_room) (defScope s_told_room) .none ftold_roomkV ftold_roomdoc ftold_roompm ftold_rooman ftold_roomcdv ftold_roomct), ftold_roomosl⟩)
    (z217 : PySem.W.codeIn K ftold_roomcdv "told_room" = true)
    (z218 : PySem.W.keepIn K (.ref ftold_room) = true)
    (z219 : PySem.W.nsIn K mainGlobals "_law_cell_at" = some (some (.ref fl_cell_at)))
    (z220 : K.lookup fl_cell_at = some ⟨fl_cell_atoc, fl_cell_atod, .func (PySem.W.fnOf "_law_cell_at" "_law_cell_at" (defArgs s_l_cell_at) (defBody s_l_cell_at) (defScope s_l_cell_at) .none fl_cell_atkV fl_cell_atdoc fl_cell_atpm fl_cell_atan fl_cell_atcdv fl_cell_atct), fl_cell_atosl⟩)
    (z221 : PySem.W.codeIn K fl_cell_atcdv "_law_cell_at" = true)
    (z222 : PySem.W.keepIn K (.ref fl_cell_at) = true)
    (z223 : PySem.W.nsIn K mainGlobals "_law_edged" = some (some (.ref fl_edged)))
    (z224 : K.lookup fl_edged = some ⟨fl_edgedoc, fl_edgedod, .func (PySem.W.fnOf "_law_edged" "_law_edged" (defArgs s_l_edged) (defBody s_l_edged) (defScope s_l_edged) .none fl_edgedkV fl_edgeddoc fl_edgedpm fl_edgedan fl_edgedcdv fl_edgedct), fl_edgedosl⟩)
    (z225 : PySem.W.codeIn K fl_edgedcdv "_law_edged" = true)
    (z226 : PySem.W.keepIn K (.ref fl_edged) = true)
    (z227 : PySem.W.nsIn K mainGlobals "_law_bad" = some (some (.ref fl_bad)))
    (z228 : K.lookup fl_bad = some ⟨fl_badoc, fl_badod, .func (PySem.W.fnOf "_law_bad" "_law_bad" (defArgs s_l_bad) (defBody s_l_bad) (defScope s_l_bad) .none fl_badkV fl_baddoc fl_badpm fl_badan fl_badcdv fl_badct), fl_badosl⟩)
    (z229 : PySem.W.codeIn K fl_badcdv "_law_bad" = true)
    (z230 : PySem.W.keepIn K (.ref fl_bad) = true)
    (z231 : PySem.W.nsIn K mainGlobals "_law_is" = some (some (.ref fl_is)))
    (z232 : K.lookup fl_is = some ⟨fl_isoc, fl_isod, .func (PySem.W.fnOf "_law_is" "_law_is" (defArgs s_l_is) (defBody s_l_is) (defScope s_l_is) .none fl_iskV fl_isdoc fl_ispm fl_isan fl_iscdv fl_isct), fl_isosl⟩)
    (z233 : PySem.W.codeIn K fl_iscdv "_law_is" = true)
    (z234 : PySem.W.keepIn K (.ref fl_is) = true)
    (z235 : PySem.W.nsIn K mainGlobals "_law_alone" = some (some (.ref fl_alone)))
    (z236 : K.lookup fl_alone = some ⟨fl_aloneoc, fl_aloneod, .func (PySem.W.fnOf "_law_alone" "_law_alone" (defArgs s_l_alone) (defBody s_l_alone) (defScope s_l_alone) .none fl_alonekV fl_alonedoc fl_alonepm fl_alonean fl_alonecdv fl_alonect), fl_aloneosl⟩)
    (z237 : PySem.W.codeIn K fl_alonecdv "_law_alone" = true)
    (z238 : PySem.W.keepIn K (.ref fl_alone) = true)
    (z239 : PySem.W.nsIn K mainGlobals "_law_world_refused" = some (some (.ref fl_world_refused)))
    (z240 : K.lookup fl_world_refused = some ⟨fl_world_refusedoc, fl_world_refusedod, .func (PySem.W.fnOf "_law_world_refused" "_law_world_refused" (defArgs s_l_world_refused) (defBody s_l_world_refused) (defScope s_l_world_refused) .none fl_world_refusedkV fl_world_refuseddoc fl_world_refusedpm fl_world_refusedan fl_world_refusedcdv fl_world_refusedct), fl_world_refusedosl⟩)
    (z241 : PySem.W.codeIn K fl_world_refusedcdv "_law_world_refused" = true)
    (z242 : PySem.W.keepIn K (.ref fl_world_refused) = true)
    (z243 : PySem.W.nsIn K mainGlobals "_law_book_refused" = some (some (.ref fl_book_refused)))
    (z244 : K.lookup fl_book_refused = some ⟨fl_book_refusedoc, fl_book_refusedod, .func (PySem.W.fnOf "_law_book_refused" "_law_book_refused" (defArgs s_l_book_refused) (defBody s_l_book_refused) (defScope s_l_book_refused) .none fl_book_refusedkV fl_book_refuseddoc fl_book_refusedpm fl_book_refusedan fl_book_refusedcdv fl_book_refusedct), fl_book_refusedosl⟩)
    (z245 : PySem.W.codeIn K fl_book_refusedcdv "_law_book_refused" = true)
    (z246 : PySem.W.keepIn K (.ref fl_book_refused) = true)
    (z247 : PySem.W.nsIn K mainGlobals "_law_walks_refused" = some (some (.ref fl_walks_refused)))
    (z248 : K.lookup fl_walks_refused = some ⟨fl_walks_refusedoc, fl_walks_refusedod, .func (PySem.W.fnOf "_law_walks_refused" "_law_walks_refused" (defArgs s_l_walks_refused) (defBody s_l_walks_refused) (defScope s_l_walks_refused) .none fl_walks_refusedkV fl_walks_refuseddoc fl_walks_refusedpm fl_walks_refusedan fl_walks_refusedcdv fl_walks_refusedct), fl_walks_refusedosl⟩)
    (z249 : PySem.W.codeIn K fl_walks_refusedcdv "_law_walks_refused" = true)
    (z250 : PySem.W.keepIn K (.ref fl_walks_refused) = true)
    (z251 : PySem.W.nsIn K mainGlobals "_law_of_none" = some (some (.ref fl_of_none)))
    (z252 : K.lookup fl_of_none = some ⟨fl_of_noneoc, fl_of_noneod, .func (PySem.W.fnOf "_law_of_none" "_law_of_none" (defArgs s_l_of_none) (defBody s_l_of_none) (defScope s_l_of_none) .none fl_of_nonekV fl_of_nonedoc fl_of_nonepm fl_of_nonean fl_of_nonecdv fl_of_nonect), fl_of_noneosl⟩)
    (z253 : PySem.W.codeIn K fl_of_nonecdv "_law_of_none" = true)
    (z254 : PySem.W.keepIn K (.ref fl_of_none) = true)
    (z255 : PySem.W.nsIn K mainGlobals "_law_is_new" = some (some (.ref fl_is_new)))
    (z256 : K.lookup fl_is_new = some ⟨fl_is_newoc, fl_is_newod, .func (PySem.W.fnOf "_law_is_new" "_law_is_new" (defArgs s_l_is_new) (defBody s_l_is_new) (defScope s_l_is_new) .none fl_is_newkV fl_is_newdoc fl_is_newpm fl_is_newan fl_is_newcdv fl_is_newct), fl_is_newosl⟩)
    (z257 : PySem.W.codeIn K fl_is_newcdv "_law_is_new" = true)
    (z258 : PySem.W.keepIn K (.ref fl_is_new) = true)
    (z259 : PySem.W.nsIn K mainGlobals "law" = some (some (.ref flaw)))
    (z260 : K.lookup flaw = some ⟨flawoc, flawod, .func (PySem.W.fnOf "law" "law" (defArgs s_law) (defBody s_law) (defScope s_law) .none flawkV flawdoc flawpm flawan flawcdv flawct), flawosl⟩)
    (z261 : PySem.W.codeIn K flawcdv "law" = true)
    (z262 : PySem.W.keepIn K (.ref flaw) = true) : ∃ cP cN c1 c2 c3 c4 c5 c6 c7 c8 cW cT cF cD cS cI cB, Txt K mg cP cN c1 c2 c3 c4 c5 c6 c7 c8 cW cT cF cD cS cI cB :=
  ⟨cP, cN, c1, c2, c3, c4, c5, c6, c7, c8, cW, cT, cF, cD, cS, cI, cB, glc_mk X G z1, exc_mk X G z2 z3, glc_mk X G z4, glc_mk X G z5, glc_mk X G z6, glc_mk X G z7, glc_mk X G z8, glc_mk X G z9, glc_mk X G z10, glc_mk X G z11, exci_mk z12 z13 z14 z15 z16 z17 z18 z19, z20, z21, z22, z23, cls_mk X G z24 z25 z26 z27 z28, z29, z30, z31, z32, z33, z34, idef_mk z35 z36 z37 z38 z39 z40 z41, cls_mk X G z42 z43 z44 z45 z46, z47, z48, z49, z50, z51, z52, idef_mk z53 z54 z55 z56 z57 z58 z59, cls_mk X G z60 z61 z62 z63 z64, z65, z66, z67, idef_mk z68 z69 z70 z71 z72 z73 z74, mdef_mk z75 z76 z77 z78 z79, cls_mk X G z80 z81 z82 z83 z84, z85, z86, idef_mk z87 z88 z89 z90 z91 z92 z93, mdef_mk z94 z95 z96 z97 z98, mdef_mk z99 z100 z101 z102 z103, cls_mk X G z104 z105 z106 z107 z108, z109, z110, idef_mk z111 z112 z113 z114 z115 z116 z117, mdef_mk z118 z119 z120 z121 z122, cls_mk X G z123 z124 z125 z126 z127, z128, idef_mk z129 z130 z131 z132 z133 z134 z135, cls_mk X G z136 z137 z138 z139 z140, z141, z142, idef_mk z143 z144 z145 z146 z147 z148 z149, mdef_mk z150 z151 z152 z153 z154, mgInt_mk X G z155, mgInt_mk X G z156, mgInt_mk X G z157, mgInt_mk X G z158, def_mk X G z159 z160 z161 z162, def_mk X G z163 z164 z165 z166, def_mk X G z167 z168 z169 z170, def_mk X G z171 z172 z173 z174, def_mk X G z175 z176 z177 z178, def_mk X G z179 z180 z181 z182, def_mk X G z183 z184 z185 z186, def_mk X G z187 z188 z189 z190, def_mk X G z191 z192 z193 z194, def_mk X G z195 z196 z197 z198, def_mk X G z199 z200 z201 z202, def_mk X G z203 z204 z205 z206, def_mk X G z207 z208 z209 z210, def_mk X G z211 z212 z213 z214, def_mk X G z215 z216 z217 z218, def_mk X G z219 z220 z221 z222, def_mk X G z223 z224 z225 z226, def_mk X G z227 z228 z229 z230, def_mk X G z231 z232 z233 z234, def_mk X G z235 z236 z237 z238, def_mk X G z239 z240 z241 z242, def_mk X G z243 z244 z245 z246, def_mk X G z247 z248 z249 z250, def_mk X G z251 z252 z253 z254, def_mk X G z255 z256 z257 z258, def_mk X G z259 z260 z261 z262⟩

local macro_rules | `(tactic| walk_at "rd") => `(tactic| simp only [L2.tSeq, L2.tAsg, L2.gName, L2.tVar, L2.tC, L2.tOp, L2.tUn, L2.rU, L2.rI, L2.rI0, L2.tRet, L2.tRetN, L2.tIfS, L2.tNot, L2.tAnd, L2.tOr, L2.tAndV, L2.tOrV, L2.tNotV, L2.tTest, L2.tB, L2.tIf, L2.tCall, L2.tCB, L2.tCons, L2.tNil, L2.tLst, L2.tTup, L2.tSl, L2.rSlL, L2.rCat, L2.rRep, L2.tNoPart, L2.tPart, L2.iList, L2.tDrop, L2.tNext, L2.start, L2.CDiv, L2.CMul, L2.rEq, L2.rNe, L2.scal, L2.rIxA, L2.rIxL, L2.rIxT, L2.rLenA, L2.rIsiN, L2.tBM, L2.tBM0, L2.rAppend, L2.tyN, L2.tTry, L2.tTry0, L2.tRaise, L2.tYes, L2.tFldC, L2.sFldC, L2.tMeth, L2.tMake, L2.gSub, L2.rSetL, L2.gTup, L2.gCons, L2.gNil, L2.tDNewK, L2.sDPut, L2.tDIn, L2.tDNotIn, L2.tDGet, 
  List.map_cons, List.map_nil, List.length_cons, List.length_nil, List.append_nil, List.nil_append, List.cons_append, List.replicate, List.getElem?_cons_zero, List.getElem?_cons_succ, List.set_cons_zero, List.set_cons_succ, Option.some.injEq, L2.V.int.injEq, L2.V.ref.injEq, L2.V.bl.injEq, L2.V.str.injEq, L2.V.ty.injEq, L2.HO.lst.injEq, L2.HO.tup.injEq, L2.HO.dK.injEq, List.cons.injEq, and_assoc,
  exists_eq_left, exists_eq_left', exists_and_left, exists_eq_right, exists_eq_right', and_true, true_and, exists_const, exists_eq, exists_eq', Nat.reduceSub, Nat.reduceAdd, Nat.zero_add, Nat.add_zero, reduceCtorEq, false_and, and_false, or_false, false_or, exists_false, true_or, or_true, Bool.not_true, Bool.not_false, Bool.false_eq_true, if_true, if_false, decide_true, decide_false, decide_eq_true_eq, Bool.not_eq_true', decide_eq_false_iff_not, Int.cast_ofNat_Int, ite_not, not_true_eq_false, not_false_eq_true, L2.cxOf_K,
  L2.atI_0, L2.atI_1, L2.atI_2, L2.atI_3, L2.atI_4, L2.isi_int_int, L2.isi_int_bool, L2.isi_bool_int, L2.isi_bool_bool, L2.isi_none_int, L2.isi_none_bool, L2.isi_str_int, L2.isi_str_bool, L2.isi_list_int, L2.isi_list_bool, L2.isi_tuple_int, L2.isi_tuple_bool, L2.isi_list_list, L2.isi_tuple_tuple, L2.isi_tuple_list, L2.isi_list_tuple, L2.isi_none_list, L2.isi_none_tuple, L2.isi_str_list, L2.isi_int_list, L2.isi_bool_list, L2.isi_int_tuple, L2.isi_bool_tuple, L2.isi_str_str, L2.isi_dict_int, L2.isi_dict_bool, L2.isi_dict_list, L2.isi_str_tuple, L2.isi_int_str, L2.isi_bool_str, L2.isi_none_str, L2.isi_list_str, L2.isi_tuple_str, L2.isi_dict_dict, L2.whole_int, L2.whole_non, L2.whole_bl, L2.whole_str, L2.whole_ref, L2.cpow_60, L2.cpow_59, L2.cpow_20, L2.cpow_9, L2.cpow_6, Int.reduceToNat, Int.reducePow, Int.reduceSub, Int.reduceMul, Int.reduceAdd, Int.reduceNeg, Int.reduceLT, Int.reduceLE, L2.upd_same, List.any_nil])
local macro_rules | `(tactic| walk_at "rdh") => `(tactic| simp only [L2.tSeq, L2.tAsg, L2.gName, L2.tVar, L2.tC, L2.tOp, L2.tUn, L2.rU, L2.rI, L2.rI0, L2.tRet, L2.tRetN, L2.tIfS, L2.tNot, L2.tAnd, L2.tOr, L2.tAndV, L2.tOrV, L2.tNotV, L2.tTest, L2.tB, L2.tIf, L2.tCall, L2.tCB, L2.tCons, L2.tNil, L2.tLst, L2.tTup, L2.tSl, L2.rSlL, L2.rCat, L2.rRep, L2.tNoPart, L2.tPart, L2.iList, L2.tDrop, L2.tNext, L2.start, L2.CDiv, L2.CMul, L2.rEq, L2.rNe, L2.scal, L2.rIxA, L2.rIxL, L2.rIxT, L2.rLenA, L2.rIsiN, L2.tBM, L2.tBM0, L2.rAppend, L2.tyN, L2.tTry, L2.tTry0, L2.tRaise, L2.tYes, L2.tFldC, L2.sFldC, L2.tMeth, L2.tMake, L2.gSub, L2.rSetL, L2.gTup, L2.gCons, L2.gNil, L2.tDNewK, L2.sDPut, L2.tDIn, L2.tDNotIn, L2.tDGet, 
  List.map_cons, List.map_nil, List.length_cons, List.length_nil, List.append_nil, List.nil_append, List.cons_append, List.replicate, List.getElem?_cons_zero, List.getElem?_cons_succ, List.set_cons_zero, List.set_cons_succ, Option.some.injEq, L2.V.int.injEq, L2.V.ref.injEq, L2.V.bl.injEq, L2.V.str.injEq, L2.V.ty.injEq, L2.HO.lst.injEq, L2.HO.tup.injEq, L2.HO.dK.injEq, List.cons.injEq, and_assoc,
  exists_eq_left, exists_eq_left', exists_and_left, exists_eq_right, exists_eq_right', and_true, true_and, exists_const, exists_eq, exists_eq', Nat.reduceSub, Nat.reduceAdd, Nat.zero_add, Nat.add_zero, reduceCtorEq, false_and, and_false, or_false, false_or, exists_false, true_or, or_true, Bool.not_true, Bool.not_false, Bool.false_eq_true, if_true, if_false, decide_true, decide_false, decide_eq_true_eq, Bool.not_eq_true', decide_eq_false_iff_not, Int.cast_ofNat_Int, ite_not, not_true_eq_false, not_false_eq_true, L2.cxOf_K,
  L2.atI_0, L2.atI_1, L2.atI_2, L2.atI_3, L2.atI_4, L2.isi_int_int, L2.isi_int_bool, L2.isi_bool_int, L2.isi_bool_bool, L2.isi_none_int, L2.isi_none_bool, L2.isi_str_int, L2.isi_str_bool, L2.isi_list_int, L2.isi_list_bool, L2.isi_tuple_int, L2.isi_tuple_bool, L2.isi_list_list, L2.isi_tuple_tuple, L2.isi_tuple_list, L2.isi_list_tuple, L2.isi_none_list, L2.isi_none_tuple, L2.isi_str_list, L2.isi_int_list, L2.isi_bool_list, L2.isi_int_tuple, L2.isi_bool_tuple, L2.isi_str_str, L2.isi_dict_int, L2.isi_dict_bool, L2.isi_dict_list, L2.isi_str_tuple, L2.isi_int_str, L2.isi_bool_str, L2.isi_none_str, L2.isi_list_str, L2.isi_tuple_str, L2.isi_dict_dict, L2.whole_int, L2.whole_non, L2.whole_bl, L2.whole_str, L2.whole_ref, L2.cpow_60, L2.cpow_59, L2.cpow_20, L2.cpow_9, L2.cpow_6, Int.reduceToNat, Int.reducePow, Int.reduceSub, Int.reduceMul, Int.reduceAdd, Int.reduceNeg, Int.reduceLT, Int.reduceLE, L2.upd_same, List.any_nil, *])
local macro_rules | `(tactic| walk_at "mem") => `(tactic| repeat (first | with_reducible exact List.mem_cons_self | with_reducible assumption | with_reducible refine List.mem_cons_of_mem _ ?_))
local macro_rules | `(tactic| walk_at "sub") => `(tactic| repeat (first | with_reducible exact List.Sublist.refl _ | with_reducible apply List.Sublist.cons₂ | with_reducible apply List.Sublist.cons))
local macro_rules | `(tactic| walk_at "led") => `(tactic| first | with_reducible assumption | exact L2.Led.sub (by assumption) (by walk_at "sub"))
local macro_rules | `(tactic| walk_at "cell") => `(tactic| first | with_reducible assumption | with_reducible exact L2.Led.get (by assumption) (by walk_at "mem"))
local macro_rules | `(tactic| walk_at "atc") => `(tactic| first | with_reducible assumption | with_reducible exact L2.atI_0 | with_reducible exact L2.atI_1 | with_reducible exact L2.atI_2 | with_reducible exact L2.atI_3 | with_reducible exact L2.atI_4 | with_reducible exact L2.atI_5 | with_reducible exact L2.atI_6 | with_reducible exact L2.atI_7)
local macro_rules | `(tactic| walk_at "szs") => `(tactic| first | decide | (simp only [List.length_cons, List.length_nil, List.length_append, List.length_map]; have hsz := PySem.sizeLine_eq; omega) | (have hsz := PySem.sizeLine_eq; omega))
local macro_rules | `(tactic| walk_at "tyc") => `(tactic| first | with_reducible exact L2.tyI | with_reducible exact L2.tyB | with_reducible exact L2.tyS | with_reducible exact L2.tyO | exact L2.tyL (by walk_at "cell") | exact L2.tyT (by walk_at "cell") | exact L2.tyD (by walk_at "cell") | with_reducible assumption)
local macro_rules | `(tactic| walk_at "cnd") => `(tactic| first | omega | (unfold L2.CDiv; omega) | (unfold L2.CMul; omega) | (unfold L2.CDivN; omega) | (dsimp only; omega) | exact PySem.IntMulOk.of_right (by decide +kernel) | exact PySem.IntMulOk.of_left (by decide +kernel))
local macro_rules | `(tactic| walk_at "seq") => `(tactic| first | assumption | exact L2.SqL.of (by walk_at "cell") | exact L2.Same.seq (by assumption) (by assumption) | exact L2.Scr.seq (by assumption) (by walk_at "led"))
local macro_rules | `(tactic| walk_at "isi") => `(tactic| first | with_reducible exact L2.isi_int_int | with_reducible exact L2.isi_int_bool | with_reducible exact L2.isi_bool_int | with_reducible exact L2.isi_bool_bool | with_reducible exact L2.isi_none_int | with_reducible exact L2.isi_none_bool | with_reducible exact L2.isi_str_int | with_reducible exact L2.isi_str_bool | with_reducible exact L2.isi_list_int | with_reducible exact L2.isi_list_bool | with_reducible exact L2.isi_tuple_int | with_reducible exact L2.isi_tuple_bool | with_reducible exact L2.isi_list_list | with_reducible exact L2.isi_tuple_tuple | with_reducible exact L2.isi_tuple_list | with_reducible exact L2.isi_list_tuple | with_reducible exact L2.isi_none_list | with_reducible exact L2.isi_none_tuple | with_reducible exact L2.isi_str_list | with_reducible exact L2.isi_int_list | with_reducible exact L2.isi_bool_list | with_reducible exact L2.isi_int_tuple | with_reducible exact L2.isi_bool_tuple | with_reducible exact L2.isi_str_str | with_reducible exact L2.isi_str_tuple | with_reducible exact L2.isi_int_str | with_reducible exact L2.isi_bool_str | with_reducible exact L2.isi_none_str | with_reducible exact L2.isi_list_str | with_reducible exact L2.isi_tuple_str | rfl)
local macro_rules | `(tactic| walk_at "cl") => `(tactic| ((repeat (with_reducible rename L2.Is _ _ => zz; clear zz)); (repeat (with_reducible rename L2.Same _ _ => zz; clear zz)); (repeat (with_reducible rename L2.VK => zz; clear zz))))
local macro_rules | `(tactic| walk_at "g1") => `(tactic| first
  | with_reducible refine L2.hidI fun _ _ => ?_
  | with_reducible refine L2.varH rfl ?_
  | with_reducible refine L2.conH ?_
  | with_reducible refine L2.nilH ?_
  | with_reducible refine L2.i0H ?_
  | with_reducible refine L2.consH fun _ _ => ?_
  | with_reducible refine L2.opH fun _ _ => ?_
  | with_reducible refine L2.nameH ?_
  | with_reducible refine L2.nextH ?_
  | with_reducible refine L2.seqI fun _ _ => ?_
  | with_reducible refine L2.asgH fun _ _ => ?_
  | with_reducible refine L2.retH fun _ _ => ?_
  | with_reducible refine L2.dropH fun _ _ => ?_
  | with_reducible refine L2.ifH fun _ _ => ?_
  | with_reducible refine L2.testH fun _ _ => ?_
  | with_reducible refine L2.tBH fun _ _ => ?_
  | with_reducible refine L2.notH fun _ _ => ?_
  | with_reducible refine L2.andH fun _ _ => ?_
  | with_reducible refine L2.orH fun _ _ => ?_
  | with_reducible refine L2.andVH fun _ _ => ?_
  | with_reducible refine L2.orVH fun _ _ => ?_
  | with_reducible refine L2.notVH fun _ _ => ?_
  | with_reducible refine L2.ifXH fun _ _ => ?_
  | with_reducible refine L2.unH fun _ _ => ?_
  | with_reducible refine L2.uH ?_
  | with_reducible refine L2.slH fun _ _ => ?_
  | with_reducible refine L2.partH fun _ _ => ?_
  | with_reducible refine L2.noPartH ?_
  | with_reducible refine L2.tupH fun _ _ => ?_
  | with_reducible refine L2.lstH fun _ _ => ?_
  | with_reducible refine L2.callH fun _ _ => ?_
  | with_reducible refine L2.cbH fun _ _ => ?_
  | with_reducible refine L2.methH fun _ _ => ?_
  | with_reducible refine L2.makeH fun _ _ => ?_
  | with_reducible refine L2.fldH fun _ _ => ?_
  | with_reducible refine L2.sfldH fun _ _ => ?_
  | with_reducible refine L2.bmH fun _ _ => ?_
  | with_reducible refine L2.bm0H fun _ _ => ?_
  | with_reducible refine L2.dputH fun _ _ => ?_
  | with_reducible refine L2.gsubH fun _ _ => ?_
  | with_reducible refine L2.dgetH fun _ _ => ?_
  | with_reducible refine L2.dinH fun _ _ => ?_
  | with_reducible refine L2.dninH fun _ _ => ?_
  | with_reducible refine L2.Is.use (by assumption) ?_
  | with_reducible refine L2.use2 (by assumption) ?_
  | with_reducible refine L2.blH ?_
  | with_reducible refine L2.intH ?_
  | with_reducible refine L2.eqIH ?_
  | with_reducible refine L2.neIH ?_
  | with_reducible refine L2.eqSH ?_
  | with_reducible refine L2.neSH ?_
  | with_reducible refine L2.eqBH ?_
  | with_reducible refine L2.neBH ?_
  | with_reducible refine L2.iteT ?_
  | with_reducible refine L2.iteF ?_
  | with_reducible refine L2.iteD (fun _ => ?_) (fun _ => ?_)
  | with_reducible refine L2.iteND (fun _ => ?_) (fun _ => ?_)
  | with_reducible refine L2.iteNT ?_
  | with_reducible refine L2.iteNF ?_
  | ((with_reducible show L2.Ends.rt _ _ _); with_reducible refine L2.rtH ?_)
  | ((with_reducible show L2.Ends.nx _ _ _); with_reducible refine L2.nxH ?_)
  | with_reducible refine L2.pow60H ?_
  | with_reducible refine L2.pow59H ?_
  | with_reducible refine L2.pow20H ?_
  | with_reducible refine L2.pow40H ?_
  | with_reducible refine L2.pow30H ?_
  | with_reducible refine L2.pow9H ?_
  | with_reducible refine L2.pow6H ?_
  | ((with_reducible show L2.rI _ _ _ _ _ _); with_reducible refine L2.iH (by walk_at "cnd") ?_)
  | ((with_reducible show (_ ≤ PySem.sizeLine) ∧ _); with_reducible refine And.intro (by walk_at "szs") (L2.Led.alloc (by assumption) fun _ _ _ _ _ => ?_))
  | ((with_reducible show L2.rIxA _ _ _ _); with_reducible refine L2.ixLH (by walk_at "cell") (by walk_at "atc") ?_)
  | ((with_reducible show L2.rIxA _ _ _ _); with_reducible refine L2.ixTH (by walk_at "cell") (by walk_at "atc") ?_)
  | ((with_reducible show L2.rLenA _ _ _); with_reducible refine L2.lenLH (by walk_at "cell") ?_)
  | ((with_reducible show L2.rLenA _ _ _); with_reducible refine L2.lenTH (by walk_at "cell") ?_)
  | ((with_reducible show L2.rLenA _ _ _); with_reducible refine L2.lenDH (by walk_at "cell") ?_)
  | ((with_reducible show L2.rIsiN _ _ _); with_reducible refine L2.isiH (by walk_at "tyc") (by walk_at "isi") ?_)
  | ((with_reducible show L2.rCat _ _ _ _); with_reducible refine L2.catH (by walk_at "cell") (by walk_at "cell") (by walk_at "szs") (L2.Led.alloc (by assumption) fun _ _ _ _ _ => ?_))
  | ((with_reducible show ∃ (p : Addr) (ys : List L2.V), _ = [L2.V.ref p] ∧ _); with_reducible refine L2.listH (by walk_at "seq") (L2.Led.alloc (by assumption) fun _ _ _ _ _ => ?_))
  | ((with_reducible show ∃ (p : Addr) (ys : List L2.V), _ = [L2.V.ref p] ∧ _); with_reducible refine L2.tupOfH (by walk_at "seq") (L2.Led.alloc (by assumption) fun _ _ _ _ _ => ?_))
  | ((with_reducible show L2.rSlL _ _ _ _ _ _); with_reducible refine L2.slLH (by first | assumption | exact L2.SqL.of (by walk_at "cell") | exact L2.Same.seq (by assumption) (by assumption) | exact L2.Scr.seq (by assumption) (by walk_at "led")) (L2.Led.alloc (by assumption) fun _ _ _ _ _ => ?_)))
local macro_rules | `(tactic| walk_at "g2") => `(tactic| first
  | walk_at "g1"
  | ((with_reducible show ∃ (b : Addr) (dx : Addr) (fs : List (Str × L2.V)) (v : L2.V), _ ∧ _); with_reducible refine L2.fldR (by walk_at "cell") (by first | assumption | with_unfolding_all rfl) ?_)
  | ((with_reducible show ∃ (b : Addr) (dx : Addr) (fs : List (Str × L2.V)), _ ∧ _); with_reducible refine L2.methR (by walk_at "cell") (by first | assumption | with_unfolding_all rfl) ?_)
  | ((with_reducible show ∃ (b : Addr) (dx : Addr) (fs : List (Str × L2.V)), _ ∧ _); with_reducible refine L2.sfldR (by walk_at "cell") (by first | decide | with_unfolding_all exact Nat.le_of_ble_eq_true rfl) ?_)
  | ((with_reducible show ∃ (b : Addr) (o : Option L2.V), _ ∧ _); with_reducible refine L2.dinR (by walk_at "cell") ?_)
  | ((with_reducible show L2.tDNewK _ _ _); with_reducible refine L2.newDH (by assumption) fun _ _ _ _ _ => ?_)
  | with_reducible refine L2.isH ?_
  | with_reducible refine L2.isnH ?_)
local macro_rules | `(tactic| walk_at "gd") => `(tactic| repeat' walk_at "g2")
local macro_rules | `(tactic| walk_at "pf") => `(tactic| repeat (first | with_reducible exact List.Perm.refl _ | with_reducible apply L2.pcC | with_reducible apply L2.pcA | with_reducible apply L2.paC | with_reducible apply L2.paA))
local macro_rules | `(tactic| walk_at "sp") => `(tactic| repeat (first | (with_reducible apply L2.spC; · walk_at "pf") | (with_reducible apply L2.spA; · walk_at "pf") | with_reducible exact L2.spR | with_reducible exact L2.spN | with_reducible apply L2.spD | with_reducible apply L2.spDA))
local macro_rules | `(tactic| walk_at "g3") => `(tactic| first
  | walk_at "g2"
  | with_reducible refine L2.dget1H fun _ _ => ?_
  | with_reducible refine L2.dpop2H (fun _ _ => ?_) L2.tcMono
  | ((with_reducible show (∃ (a : Addr), _ ∧ L2.IsD _ _) ∧ _); with_reducible refine And.intro (L2.isD_of (by walk_at "cell")) ?_)
  | ((with_reducible show ∃ (b : Addr) (o : Option L2.V), _ ∧ _); with_reducible refine L2.dget1R (by walk_at "cell") ?_)
  | ((with_reducible show L2.rSlT _ _ none (some 2) _ _); with_reducible refine L2.sl4a (by walk_at "cell") (L2.Led.alloc (by assumption) fun _ _ _ _ _ => ?_))
  | ((with_reducible show L2.rSlT _ _ (some 2) none _ _); with_reducible refine L2.sl4b (by walk_at "cell") (L2.Led.alloc (by assumption) fun _ _ _ _ _ => ?_)))
local macro_rules | `(tactic| walk_at "ge") => `(tactic| repeat' walk_at "g3")

section
variable {P : Program} {w : World} {K : PySem.W.Frag} {mg : Str → Option Value} {base : Heap} {cP cN c1 c2 c3 c4 c5 c6 c7 c8 cW cT cF cD cS cI cB : Addr}
theorem unit1 {A : Around} {k : Nat} (hr : Room k A) : A.units + 1 < cLine := Nat.lt_of_le_of_lt (Nat.add_le_add_left (by decide) _) hr.units
theorem repX (x : V) (n : Nat) : (List.replicate n [x]).flatten = List.replicate n x := by
  induction n with
  | zero => rfl
  | succ n ih => rw [List.replicate_succ, List.flatten_cons, ih, List.replicate_succ]; rfl
def bookF (n : Int) (l : Addr) : List (Str × V) := [("slots", .int n), ("kept", .ref l)]
def dialF (p : Int) (m : Addr) : List (Str × V) := [("stands_at", .int p), ("marked", .ref m)]
def frF (l r q : Addr) : List (Str × V) := [("held", .ref l), ("rows", .ref r), ("soiled", .ref q)]
def shF (l d : Addr) : List (Str × V) := [("placed", .ref l), ("row_by_sheet", .ref d)]
def fiF (d : Addr) : List (Str × V) := [("rows_by_name", .ref d)]
def spBInit (cB : Addr) : Sp := fun vs H Q _ => ∃ (b dx : Addr) (n : Int) (L : Cells), vs = [.ref b, .int n] ∧ Led H ((b, .ins cB dx []) :: L) ∧ ∀ l H', Led H' ((b, .ins cB dx (bookF n l)) :: (l, .lst []) :: L) → Q .non H'
theorem ok_binit (D : IDef K cB "Book.__init__" s_Book_init) (T : Txt K mg cP cN c1 c2 c3 c4 c5 c6 c7 c8 cW cT cF cD cS cI cB) : InitD P w K mg base 1 cB ["self", "slots"] (spBInit cB) := by
  have sc := sc_Book_init
  refine D.ok sc_Book_init (fun vs H Q E h => ?_) (fun _ _ _ _ _ _ us hl => match us, hl with | [_, _], _ => rfl) (fun f cdv A outer s H vs Q E hr h => ?_)
  · obtain ⟨_, _, _, _, rfl, _⟩ := h; rfl
  · obtain ⟨b, dx, n, L, rfl, hL, k⟩ := h
    refine ⟨_, (@pss_cons _ _ _ _ _ (@ps_fldC _ _ _ _ _ _ _ _ _ _ T.Book T.n_slots (@pv _ 0 _ _ (by rfl) (by first | exact Or.inl rfl | exact Or.inr (Or.inl rfl) | exact Or.inr (Or.inr rfl)) (by decide) (by decide)) (@pv _ 1 _ _ (by rfl) (by first | exact Or.inl rfl | exact Or.inr (Or.inl rfl) | exact Or.inr (Or.inr rfl)) (by decide) (by decide)) (by rfl)) (@pss_one _ _ _ (@ps_fldC _ _ _ _ _ _ _ _ _ _ T.Book T.n_kept (@pv _ 0 _ _ (by rfl) (by first | exact Or.inl rfl | exact Or.inr (Or.inl rfl) | exact Or.inr (Or.inr rfl)) (by decide) (by decide)) (@pe_lst _ _ _ _ (@pa_nil _)) (by rfl)))), ?_⟩
    refine seqK fun M1 K1 => ?_
    walk_at "gd"
    refine K1.use ?_
    clear K1
    have hL1 : Led (upd H b (.ins cB dx (putF (Str.ofString "slots") (V.int n) []))) ((b, .ins cB dx [("slots", .int n)]) :: L) := hL.put rfl rfl
    generalize upd H b (.ins cB dx (putF (Str.ofString "slots") (V.int n) [])) = H1 at hL1 ⊢
    walk_at "gd"
    rename_i l H2 _ hl2 _
    have hL3 := (hl2.swap).put (o' := .ins cB dx (bookF n l)) rfl rfl
    exact k l _ hL3
def spDInit (cD : Addr) : Sp := fun vs H Q _ => ∃ (d dx : Addr) (n : Int) (L : Cells), vs = [.ref d, .int n] ∧ Led H ((d, .ins cD dx []) :: L) ∧ 0 ≤ n ∧ n ≤ 64 ∧ ∀ m H', Led H' ((d, .ins cD dx (dialF 0 m)) :: (m, .lst (List.replicate n.toNat (.bl false))) :: L) → Q .non H'
theorem ok_dinit (D : IDef K cD "Dial.__init__" s_Dial_init) (T : Txt K mg cP cN c1 c2 c3 c4 c5 c6 c7 c8 cW cT cF cD cS cI cB) : InitD P w K mg base 1 cD ["self", "many"] (spDInit cD) := by
  have sc := sc_Dial_init
  refine D.ok sc_Dial_init (fun vs H Q E h => ?_) (fun _ _ _ _ _ _ us hl => match us, hl with | [_, _], _ => rfl) (fun f cdv A outer s H vs Q E hr h => ?_)
  · obtain ⟨_, _, _, _, rfl, _⟩ := h; rfl
  · obtain ⟨d, dx, n, L, rfl, hL, h0, h64, k⟩ := h
    refine ⟨_, (@pss_cons _ _ _ _ _ (@ps_fldC _ _ _ _ _ _ _ _ _ _ T.Dial T.n_stands_at (@pv _ 0 _ _ (by rfl) (by first | exact Or.inl rfl | exact Or.inr (Or.inl rfl) | exact Or.inr (Or.inr rfl)) (by decide) (by decide)) (@pe_int _ _ _ _) (by rfl)) (@pss_one _ _ _ (@ps_fldC _ _ _ _ _ _ _ _ _ _ T.Dial T.n_marked (@pv _ 0 _ _ (by rfl) (by first | exact Or.inl rfl | exact Or.inr (Or.inl rfl) | exact Or.inr (Or.inr rfl)) (by decide) (by decide)) (@pe_op _ _ _ _ _ _ _ _ op_rep (@pe_lst _ _ _ _ (@pa_cons _ _ _ _ _ (@pe_bl _ _ _ _) (@pa_nil _) (by rfl))) (@pv _ 1 _ _ (by rfl) (by first | exact Or.inl rfl | exact Or.inr (Or.inl rfl) | exact Or.inr (Or.inr rfl)) (by decide) (by decide))) (by rfl)))), ?_⟩
    refine seqK fun M1 K1 => ?_
    walk_at "gd"
    refine K1.use ?_
    clear K1
    have hL1 : Led (upd H d (.ins cD dx (putF (Str.ofString "stands_at") (V.int 0) []))) ((d, .ins cD dx [("stands_at", .int 0)]) :: L) := hL.put rfl rfl
    generalize upd H d (.ins cD dx (putF (Str.ofString "stands_at") (V.int 0) [])) = H1 at hL1 ⊢
    walk_at "gd"
    rename Led _ _ => hl2
    have hsz : 1 * n.toNat ≤ sizeLine := by have := sizeLine_eq; omega
    refine repH (hl2.get List.mem_cons_self) ⟨by omega, by omega⟩ hsz (Led.alloc hl2 fun m H3 _ hl3 _ => ?_)
    rw [repX] at hl3
    walk_at "gd"
    have hl4 : Led H3 ((d, .ins cD dx [("stands_at", .int 0)]) :: (m, .lst (List.replicate n.toNat (.bl false))) :: L) := hl3.wk (by walk_at "sp")
    exact k m _ (hl4.put (o' := .ins cD dx (dialF 0 m)) rfl rfl)
def spSInit (cS : Addr) : Sp := fun vs H Q _ => ∃ (b dx : Addr) (n : Int) (L : Cells), vs = [.ref b, .int n] ∧ Led H ((b, .ins cS dx []) :: L) ∧ 0 ≤ n ∧ n ≤ 600 ∧ ∀ l d H', Led H' ((b, .ins cS dx (shF l d)) :: (l, .lst (List.replicate n.toNat .non)) :: (d, .dK []) :: L) → Q .non H'
theorem ok_sinit (D : IDef K cS "Shelf.__init__" s_Shelf_init) (T : Txt K mg cP cN c1 c2 c3 c4 c5 c6 c7 c8 cW cT cF cD cS cI cB) : InitD P w K mg base 1 cS ["self", "many"] (spSInit cS) := by
  have sc := sc_Shelf_init
  refine D.ok sc_Shelf_init (fun vs H Q E h => ?_) (fun _ _ _ _ _ _ us hl => match us, hl with | [_, _], _ => rfl) (fun f cdv A outer s H vs Q E hr h => ?_)
  · obtain ⟨_, _, _, _, rfl, _⟩ := h; rfl
  · obtain ⟨b, dx, n, L, rfl, hL, h0, h600, k⟩ := h
    refine ⟨_, (@pss_cons _ _ _ _ _ (@ps_fldC _ _ _ _ _ _ _ _ _ _ T.Shelf T.n_placed (@pv _ 0 _ _ (by rfl) (by first | exact Or.inl rfl | exact Or.inr (Or.inl rfl) | exact Or.inr (Or.inr rfl)) (by decide) (by decide)) (@pe_op _ _ _ _ _ _ _ _ op_rep (@pe_lst _ _ _ _ (@pa_cons _ _ _ _ _ (@pe_non _ _ _) (@pa_nil _) (by rfl))) (@pv _ 1 _ _ (by rfl) (by first | exact Or.inl rfl | exact Or.inr (Or.inl rfl) | exact Or.inr (Or.inr rfl)) (by decide) (by decide))) (by rfl)) (@pss_one _ _ _ (@ps_fldC _ _ _ _ _ _ _ _ _ _ T.Shelf T.n_row_by_sheet (@pv _ 0 _ _ (by rfl) (by first | exact Or.inl rfl | exact Or.inr (Or.inl rfl) | exact Or.inr (Or.inr rfl)) (by decide) (by decide)) (@pe_dnewK _ _) (by rfl)))), ?_⟩
    refine seqK fun M1 K1 => ?_
    walk_at "gd"
    rename Led _ _ => hl2
    refine repH (hl2.get List.mem_cons_self) ⟨by omega, by omega⟩ (by have := sizeLine_eq; simp only [List.length_cons, List.length_nil]; omega) (Led.alloc hl2 fun l H3 _ hl3 _ => ?_)
    rw [repX] at hl3
    walk_at "gd"
    refine K1.use ?_
    walk_at "cl"
    clear K1
    have hl4 : Led H3 ((b, .ins cS dx []) :: (l, .lst (List.replicate n.toNat .non)) :: L) := hl3.wk (by walk_at "sp")
    have hl5 : Led (upd H3 b (.ins cS dx (putF (Str.ofString "placed") (V.ref l) []))) ((b, .ins cS dx [("placed", .ref l)]) :: (l, .lst (List.replicate n.toNat .non)) :: L) := hl4.put rfl rfl
    generalize upd H3 b (.ins cS dx (putF (Str.ofString "placed") (V.ref l) [])) = H4 at hl5 ⊢
    clear hl4 hl3 hl2 hL
    walk_at "gd"
    rename_i d H5 _ hl6 _
    have hl7 := (hl6.swap).put (o' := .ins cS dx (shF l d)) rfl rfl
    exact k l d _ (hl7.wk (by walk_at "sp"))
def spIInit (cI : Addr) : Sp := fun vs H Q _ => ∃ (b dx : Addr) (L : Cells), vs = [.ref b] ∧ Led H ((b, .ins cI dx []) :: L) ∧ ∀ d H', Led H' ((b, .ins cI dx (fiF d)) :: (d, .dK []) :: L) → Q .non H'
theorem ok_iinit (D : IDef K cI "Files.__init__" s_Files_init) (T : Txt K mg cP cN c1 c2 c3 c4 c5 c6 c7 c8 cW cT cF cD cS cI cB) : InitD P w K mg base 1 cI ["self"] (spIInit cI) := by
  have sc := sc_Files_init
  refine D.ok sc_Files_init (fun vs H Q E h => ?_) (fun _ _ _ _ _ _ us hl => match us, hl with | [_], _ => rfl) (fun f cdv A outer s H vs Q E hr h => ?_)
  · obtain ⟨_, _, _, rfl, _⟩ := h; rfl
  · obtain ⟨b, dx, L, rfl, hL, k⟩ := h
    refine ⟨_, (@pss_one _ _ _ (@ps_fldC _ _ _ _ _ _ _ _ _ _ T.Files T.n_rows_by_name (@pv _ 0 _ _ (by rfl) (by first | exact Or.inl rfl | exact Or.inr (Or.inl rfl) | exact Or.inr (Or.inr rfl)) (by decide) (by decide)) (@pe_dnewK _ _) (by rfl))), ?_⟩
    walk_at "gd"
    rename_i d H5 _ hl6 _
    have hl7 := (hl6.swap).put (o' := .ins cI dx (fiF d)) rfl rfl
    exact k d _ hl7
def spFInit (cF : Addr) : Sp := fun vs H Q _ => ∃ (b dx : Addr) (n : Int) (L : Cells), vs = [.ref b, .int n] ∧ Led H ((b, .ins cF dx []) :: L) ∧ 0 ≤ n ∧ n ≤ 600 ∧ ∀ l r q H', Led H' ((b, .ins cF dx (frF l r q)) :: (l, .lst (List.replicate n.toNat .non)) :: (r, .lst (List.replicate n.toNat .non)) :: (q, .lst (List.replicate n.toNat (.bl false))) :: L) → Q .non H'
theorem ok_finit (D : IDef K cF "Frames.__init__" s_Frames_init) (T : Txt K mg cP cN c1 c2 c3 c4 c5 c6 c7 c8 cW cT cF cD cS cI cB) : InitD P w K mg base 1 cF ["self", "many"] (spFInit cF) := by
  have sc := sc_Frames_init
  refine D.ok sc_Frames_init (fun vs H Q E h => ?_) (fun _ _ _ _ _ _ us hl => match us, hl with | [_, _], _ => rfl) (fun f cdv A outer s H vs Q E hr h => ?_)
  · obtain ⟨_, _, _, _, rfl, _⟩ := h; rfl
  · obtain ⟨b, dx, n, L, rfl, hL, h0, h600, k⟩ := h
    refine ⟨_, (@pss_cons _ _ _ _ _ (@ps_fldC _ _ _ _ _ _ _ _ _ _ T.Frames T.n_held (@pv _ 0 _ _ (by rfl) (by first | exact Or.inl rfl | exact Or.inr (Or.inl rfl) | exact Or.inr (Or.inr rfl)) (by decide) (by decide)) (@pe_op _ _ _ _ _ _ _ _ op_rep (@pe_lst _ _ _ _ (@pa_cons _ _ _ _ _ (@pe_non _ _ _) (@pa_nil _) (by rfl))) (@pv _ 1 _ _ (by rfl) (by first | exact Or.inl rfl | exact Or.inr (Or.inl rfl) | exact Or.inr (Or.inr rfl)) (by decide) (by decide))) (by rfl)) (@pss_cons _ _ _ _ _ (@ps_fldC _ _ _ _ _ _ _ _ _ _ T.Frames T.n_rows (@pv _ 0 _ _ (by rfl) (by first | exact Or.inl rfl | exact Or.inr (Or.inl rfl) | exact Or.inr (Or.inr rfl)) (by decide) (by decide)) (@pe_op _ _ _ _ _ _ _ _ op_rep (@pe_lst _ _ _ _ (@pa_cons _ _ _ _ _ (@pe_non _ _ _) (@pa_nil _) (by rfl))) (@pv _ 1 _ _ (by rfl) (by first | exact Or.inl rfl | exact Or.inr (Or.inl rfl) | exact Or.inr (Or.inr rfl)) (by decide) (by decide))) (by rfl)) (@pss_one _ _ _ (@ps_fldC _ _ _ _ _ _ _ _ _ _ T.Frames T.n_soiled (@pv _ 0 _ _ (by rfl) (by first | exact Or.inl rfl | exact Or.inr (Or.inl rfl) | exact Or.inr (Or.inr rfl)) (by decide) (by decide)) (@pe_op _ _ _ _ _ _ _ _ op_rep (@pe_lst _ _ _ _ (@pa_cons _ _ _ _ _ (@pe_bl _ _ _ _) (@pa_nil _) (by rfl))) (@pv _ 1 _ _ (by rfl) (by first | exact Or.inl rfl | exact Or.inr (Or.inl rfl) | exact Or.inr (Or.inr rfl)) (by decide) (by decide))) (by rfl))))), ?_⟩
    refine seqK fun M1 K1 => ?_
    walk_at "gd"
    rename Led _ _ => hl2
    refine repH (hl2.get List.mem_cons_self) ⟨by omega, by omega⟩ (by have := sizeLine_eq; simp only [List.length_cons, List.length_nil]; omega) (Led.alloc hl2 fun l H3 _ hl3 _ => ?_)
    rw [repX] at hl3
    walk_at "gd"
    refine K1.use ?_
    walk_at "cl"
    clear K1
    have hl4 : Led H3 ((b, .ins cF dx []) :: (l, .lst (List.replicate n.toNat .non)) :: L) := hl3.wk (by walk_at "sp")
    have hl5 : Led (upd H3 b (.ins cF dx (putF (Str.ofString "held") (V.ref l) []))) ((b, .ins cF dx [("held", .ref l)]) :: (l, .lst (List.replicate n.toNat .non)) :: L) := hl4.put rfl rfl
    generalize upd H3 b (.ins cF dx (putF (Str.ofString "held") (V.ref l) [])) = H4 at hl5 ⊢
    clear hl4 hl3 hl2 hL
    refine seqK fun M1 K1 => ?_
    walk_at "gd"
    rename Led _ _ => hl2
    refine repH (hl2.get List.mem_cons_self) ⟨by omega, by omega⟩ (by have := sizeLine_eq; simp only [List.length_cons, List.length_nil]; omega) (Led.alloc hl2 fun r H5 _ hl6 _ => ?_)
    rw [repX] at hl6
    walk_at "gd"
    refine K1.use ?_
    walk_at "cl"
    clear K1
    have hl7 : Led H5 ((b, .ins cF dx [("held", .ref l)]) :: (l, .lst (List.replicate n.toNat .non)) :: (r, .lst (List.replicate n.toNat .non)) :: L) := hl6.wk (by walk_at "sp")
    have hl8 : Led (upd H5 b (.ins cF dx (putF (Str.ofString "rows") (V.ref r) [("held", .ref l)]))) ((b, .ins cF dx [("held", .ref l), ("rows", .ref r)]) :: (l, .lst (List.replicate n.toNat .non)) :: (r, .lst (List.replicate n.toNat .non)) :: L) := hl7.put rfl rfl
    generalize upd H5 b (.ins cF dx (putF (Str.ofString "rows") (V.ref r) [("held", .ref l)])) = H6 at hl8 ⊢
    clear hl7 hl6 hl2 hl5
    walk_at "gd"
    rename Led _ _ => hl2
    refine repH (hl2.get List.mem_cons_self) ⟨by omega, by omega⟩ (by have := sizeLine_eq; simp only [List.length_cons, List.length_nil]; omega) (Led.alloc hl2 fun q H7 _ hl9 _ => ?_)
    rw [repX] at hl9
    walk_at "gd"
    have hl10 : Led H7 ((b, .ins cF dx [("held", .ref l), ("rows", .ref r)]) :: (l, .lst (List.replicate n.toNat .non)) :: (r, .lst (List.replicate n.toNat .non)) :: (q, .lst (List.replicate n.toNat (.bl false))) :: L) := hl9.wk (by walk_at "sp")
    have hl11 := hl10.put (o' := .ins cF dx (frF l r q)) rfl rfl
    exact k l r q _ hl11
/-- where a store's parts lie -/
structure SA where
  fr : Addr
  dfr : Addr
  hl : Addr
  rw : Addr
  so : Addr
  di : Addr
  ddi : Addr
  mks : Addr
  sh : Addr
  dsh : Addr
  pl : Addr
  rd : Addr
  fi : Addr
  dfi : Addr
  fd : Addr
  ho : Addr
def stF (a : SA) : List (Str × V) := [("frames", .ref a.fr), ("dial", .ref a.di), ("shelf", .ref a.sh), ("files", .ref a.fi), ("holders", .ref a.ho), ("sheets_made", .int 0)]
def StC (cT cF cD cS cI b dx : Addr) (a : SA) (m p : Nat) (R : Cells) : Cells := (b, .ins cT dx (stF a)) :: (a.fr, .ins cF a.dfr (frF a.hl a.rw a.so)) :: (a.hl, .lst (List.replicate m .non)) :: (a.rw, .lst (List.replicate m .non)) :: (a.so, .lst (List.replicate m (.bl false))) ::
  (a.di, .ins cD a.ddi (dialF 0 a.mks)) :: (a.mks, .lst (List.replicate m (.bl false))) :: (a.sh, .ins cS a.dsh (shF a.pl a.rd)) :: (a.pl, .lst (List.replicate p .non)) :: (a.rd, .dK []) :: (a.fi, .ins cI a.dfi (fiF a.fd)) :: (a.fd, .dK []) :: (a.ho, .dK []) :: R
def spTInit (cT cF cD cS cI : Addr) : Sp := fun vs H Q _ => ∃ (b dx : Addr) (m p : Int) (L : Cells), vs = [.ref b, .int m, .int p] ∧ Led H ((b, .ins cT dx []) :: L) ∧ 0 ≤ m ∧ m ≤ 64 ∧ 0 ≤ p ∧ p ≤ 600 ∧ ∀ a H', Led H' (StC cT cF cD cS cI b dx a m.toNat p.toNat L) → Q .non H'
theorem ok_tinit (D : IDef K cT "Store.__init__" s_Store_init) (T : Txt K mg cP cN c1 c2 c3 c4 c5 c6 c7 c8 cW cT cF cD cS cI cB) (I_Frames : InitD P w K mg base 1 cF ["self", "many"] (spFInit cF)) (I_Dial : InitD P w K mg base 1 cD ["self", "many"] (spDInit cD)) (I_Shelf : InitD P w K mg base 1 cS ["self", "many"] (spSInit cS)) (I_Files : InitD P w K mg base 1 cI ["self"] (spIInit cI)) : InitD P w K mg base 3 cT ["self", "many", "places"] (spTInit cT cF cD cS cI) := by
  have sc := sc_Store_init
  refine D.ok sc_Store_init (fun vs H Q E h => ?_) (fun _ _ _ _ _ _ us hl => match us, hl with | [_, _, _], _ => rfl) (fun f cdv A outer s H vs Q E hr h => ?_)
  · obtain ⟨_, _, _, _, _, rfl, _⟩ := h; rfl
  · obtain ⟨b, dx, m, p, L, rfl, hL, m0, m64, p0, p600, k⟩ := h
    refine ⟨_, (@pss_cons _ _ _ _ _ (@ps_fldC _ _ _ _ _ _ _ _ _ _ T.Store T.n_frames (@pv _ 0 _ _ (by rfl) (by first | exact Or.inl rfl | exact Or.inr (Or.inl rfl) | exact Or.inr (Or.inr rfl)) (by decide) (by decide)) (@pe_makeD _ _ _ _ _ _ _ _ _ _ _ _ T.Frames I_Frames (hr.mono (by omega)) (by rfl) passR0 (@pa_cons _ _ _ _ _ (@pv _ 1 _ _ (by rfl) (by first | exact Or.inl rfl | exact Or.inr (Or.inl rfl) | exact Or.inr (Or.inr rfl)) (by decide) (by decide)) (@pa_nil _) (by rfl)) (by decide) (by rfl) (by rfl)) (by rfl)) (@pss_cons _ _ _ _ _ (@ps_fldC _ _ _ _ _ _ _ _ _ _ T.Store T.n_dial (@pv _ 0 _ _ (by rfl) (by first | exact Or.inl rfl | exact Or.inr (Or.inl rfl) | exact Or.inr (Or.inr rfl)) (by decide) (by decide)) (@pe_makeD _ _ _ _ _ _ _ _ _ _ _ _ T.Dial I_Dial (hr.mono (by omega)) (by rfl) passR0 (@pa_cons _ _ _ _ _ (@pv _ 1 _ _ (by rfl) (by first | exact Or.inl rfl | exact Or.inr (Or.inl rfl) | exact Or.inr (Or.inr rfl)) (by decide) (by decide)) (@pa_nil _) (by rfl)) (by decide) (by rfl) (by rfl)) (by rfl)) (@pss_cons _ _ _ _ _ (@ps_fldC _ _ _ _ _ _ _ _ _ _ T.Store T.n_shelf (@pv _ 0 _ _ (by rfl) (by first | exact Or.inl rfl | exact Or.inr (Or.inl rfl) | exact Or.inr (Or.inr rfl)) (by decide) (by decide)) (@pe_makeD _ _ _ _ _ _ _ _ _ _ _ _ T.Shelf I_Shelf (hr.mono (by omega)) (by rfl) passR0 (@pa_cons _ _ _ _ _ (@pv _ 2 _ _ (by rfl) (by first | exact Or.inl rfl | exact Or.inr (Or.inl rfl) | exact Or.inr (Or.inr rfl)) (by decide) (by decide)) (@pa_nil _) (by rfl)) (by decide) (by rfl) (by rfl)) (by rfl)) (@pss_cons _ _ _ _ _ (@ps_fldC _ _ _ _ _ _ _ _ _ _ T.Store T.n_files (@pv _ 0 _ _ (by rfl) (by first | exact Or.inl rfl | exact Or.inr (Or.inl rfl) | exact Or.inr (Or.inr rfl)) (by decide) (by decide)) (@pe_makeD0 _ _ _ _ _ _ _ _ _ T.Files I_Files (hr.mono (by omega)) (by rfl) passR0 (by decide)) (by rfl)) (@pss_cons _ _ _ _ _ (@ps_fldC _ _ _ _ _ _ _ _ _ _ T.Store T.n_holders (@pv _ 0 _ _ (by rfl) (by first | exact Or.inl rfl | exact Or.inr (Or.inl rfl) | exact Or.inr (Or.inr rfl)) (by decide) (by decide)) (@pe_dnewK _ _) (by rfl)) (@pss_one _ _ _ (@ps_fldC _ _ _ _ _ _ _ _ _ _ T.Store T.n_sheets_made (@pv _ 0 _ _ (by rfl) (by first | exact Or.inl rfl | exact Or.inr (Or.inl rfl) | exact Or.inr (Or.inr rfl)) (by decide) (by decide)) (@pe_int _ _ _ _) (by rfl)))))))), ?_⟩
    refine seqK fun M1 K1 => ?_
    walk_at "ge"
    intro fr dfr z1 z2 z3
    refine ⟨fr, dfr, m, _, rfl, hL.make z1 z2 z3, m0, by omega, fun l r q H1 hl1 => ⟨rfl, ?_⟩⟩
    clear z1 z2 z3 hL
    have hl2 : Led H1 ((b, .ins cT dx []) :: (fr, .ins cF dfr (frF l r q)) :: (l, .lst (List.replicate m.toNat .non)) :: (r, .lst (List.replicate m.toNat .non)) :: (q, .lst (List.replicate m.toNat (.bl false))) :: L) := hl1.wk (by walk_at "sp")
    have hl3 : Led (upd H1 b (.ins cT dx (putF (Str.ofString "frames") (V.ref fr) []))) ((b, .ins cT dx [("frames", .ref fr)]) :: _) := hl2.put rfl rfl
    clear hl1
    walk_at "ge"
    refine K1.use ?_
    walk_at "cl"
    clear K1 hl2
    generalize upd H1 b (.ins cT dx (putF (Str.ofString "frames") (V.ref fr) [])) = H2 at hl3 ⊢
    refine seqK fun M1 K1 => ?_
    walk_at "ge"
    intro di ddi z1 z2 z3
    refine ⟨di, ddi, m, _, rfl, hl3.make z1 z2 z3, m0, by omega, fun mk H3 hl4 => ⟨rfl, ?_⟩⟩
    clear z1 z2 z3 hl3
    have hl5 : Led H3 ((b, .ins cT dx [("frames", .ref fr)]) :: (di, .ins cD ddi (dialF 0 mk)) :: (mk, .lst (List.replicate m.toNat (.bl false))) :: (fr, .ins cF dfr (frF l r q)) :: (l, .lst (List.replicate m.toNat .non)) :: (r, .lst (List.replicate m.toNat .non)) :: (q, .lst (List.replicate m.toNat (.bl false))) :: L) := hl4.wk (by walk_at "sp")
    have hl6 : Led (upd H3 b (.ins cT dx (putF (Str.ofString "dial") (V.ref di) [("frames", .ref fr)]))) ((b, .ins cT dx [("frames", .ref fr), ("dial", .ref di)]) :: _) := hl5.put rfl rfl
    clear hl4
    walk_at "ge"
    refine K1.use ?_
    walk_at "cl"
    clear K1 hl5
    generalize upd H3 b (.ins cT dx (putF (Str.ofString "dial") (V.ref di) [("frames", .ref fr)])) = H4 at hl6 ⊢
    refine seqK fun M1 K1 => ?_
    walk_at "ge"
    intro sh dsh z1 z2 z3
    refine ⟨sh, dsh, p, _, rfl, hl6.make z1 z2 z3, p0, by omega, fun pl rd H5 hl7 => ⟨rfl, ?_⟩⟩
    clear z1 z2 z3 hl6
    have hl8 : Led H5 ((b, .ins cT dx [("frames", .ref fr), ("dial", .ref di)]) :: (sh, .ins cS dsh (shF pl rd)) :: (pl, .lst (List.replicate p.toNat .non)) :: (rd, .dK []) :: (di, .ins cD ddi (dialF 0 mk)) :: (mk, .lst (List.replicate m.toNat (.bl false))) :: (fr, .ins cF dfr (frF l r q)) :: (l, .lst (List.replicate m.toNat .non)) :: (r, .lst (List.replicate m.toNat .non)) :: (q, .lst (List.replicate m.toNat (.bl false))) :: L) := hl7.wk (by walk_at "sp")
    have hl9 : Led (upd H5 b (.ins cT dx (putF (Str.ofString "shelf") (V.ref sh) [("frames", .ref fr), ("dial", .ref di)]))) ((b, .ins cT dx [("frames", .ref fr), ("dial", .ref di), ("shelf", .ref sh)]) :: _) := hl8.put rfl rfl
    clear hl7
    walk_at "ge"
    refine K1.use ?_
    walk_at "cl"
    clear K1 hl8
    generalize upd H5 b (.ins cT dx (putF (Str.ofString "shelf") (V.ref sh) [("frames", .ref fr), ("dial", .ref di)])) = H6 at hl9 ⊢
    refine seqK fun M1 K1 => ?_
    walk_at "ge"
    intro fi dfi z1 z2 z3
    refine ⟨fi, dfi, _, rfl, hl9.make z1 z2 z3, fun fd H7 hl10 => ⟨rfl, ?_⟩⟩
    clear z1 z2 z3 hl9
    have hl11 : Led H7 ((b, .ins cT dx [("frames", .ref fr), ("dial", .ref di), ("shelf", .ref sh)]) :: (fi, .ins cI dfi (fiF fd)) :: (fd, .dK []) :: (sh, .ins cS dsh (shF pl rd)) :: (pl, .lst (List.replicate p.toNat .non)) :: (rd, .dK []) :: (di, .ins cD ddi (dialF 0 mk)) :: (mk, .lst (List.replicate m.toNat (.bl false))) :: (fr, .ins cF dfr (frF l r q)) :: (l, .lst (List.replicate m.toNat .non)) :: (r, .lst (List.replicate m.toNat .non)) :: (q, .lst (List.replicate m.toNat (.bl false))) :: L) := hl10.wk (by walk_at "sp")
    have hl12 : Led (upd H7 b (.ins cT dx (putF (Str.ofString "files") (V.ref fi) [("frames", .ref fr), ("dial", .ref di), ("shelf", .ref sh)]))) ((b, .ins cT dx [("frames", .ref fr), ("dial", .ref di), ("shelf", .ref sh), ("files", .ref fi)]) :: _) := hl11.put rfl rfl
    clear hl10
    walk_at "ge"
    refine K1.use ?_
    walk_at "cl"
    clear K1 hl11
    generalize upd H7 b (.ins cT dx (putF (Str.ofString "files") (V.ref fi) [("frames", .ref fr), ("dial", .ref di), ("shelf", .ref sh)])) = H8 at hl12 ⊢
    refine seqK fun M1 K1 => ?_
    walk_at "ge"
    rename_i ho H9 _ hl13 _
    have hl14 : Led (upd H9 b (.ins cT dx (putF (Str.ofString "holders") (V.ref ho) [("frames", .ref fr), ("dial", .ref di), ("shelf", .ref sh), ("files", .ref fi)]))) ((b, .ins cT dx [("frames", .ref fr), ("dial", .ref di), ("shelf", .ref sh), ("files", .ref fi), ("holders", .ref ho)]) :: _) := (hl13.swap).put rfl rfl
    refine K1.use ?_
    walk_at "cl"
    clear K1 hl13 hl12
    generalize upd H9 b (.ins cT dx (putF (Str.ofString "holders") (V.ref ho) [("frames", .ref fr), ("dial", .ref di), ("shelf", .ref sh), ("files", .ref fi)])) = H10 at hl14 ⊢
    walk_at "ge"
    have hl15 := hl14.put (o' := .ins cT dx (stF ⟨fr, dfr, l, r, q, di, ddi, mk, sh, dsh, pl, rd, fi, dfi, fd, ho⟩)) rfl rfl
    exact k ⟨fr, dfr, l, r, q, di, ddi, mk, sh, dsh, pl, rd, fi, dfi, fd, ho⟩ _ (hl15.wk (by unfold StC; walk_at "sp"))
/-- a list told: a copy of the one that a field names -/
def spCopy (C : Addr) (fld : Str) : Sp := fun vs H Q _ => ∃ (b dx l : Addr) (fs : List (Str × V)) (xs : List V) (L : Cells), vs = [.ref b] ∧ Led H L ∧ (b, HO.ins C dx fs) ∈ L ∧ fs.lookup fld = some (.ref l) ∧ (l, HO.lst xs) ∈ L ∧ ∀ r H', Led H' ((r, .lst xs) :: L) → Q (.ref r) H'
theorem ok_things (D : MDef K cF "things" "Frames.things" s_Frames_things) (B : Blt mg) (T : Txt K mg cP cN c1 c2 c3 c4 c5 c6 c7 c8 cW cT cF cD cS cI cB) : MethD P w K mg base 1 cF "things" ["self"] (spCopy cF "held") := by
  have sc := sc_Frames_things
  refine D.ok sc_Frames_things (fun vs H Q E h => ?_) (fun _ _ _ _ _ _ us hl => match us, hl with | [_], _ => rfl) (fun f cdv A outer s H vs Q E hr h => ?_)
  · obtain ⟨_, _, _, _, _, _, rfl, _⟩ := h; rfl
  · obtain ⟨b, dx, l, fs, xs, L, rfl, hL, i1, hf, i2, k⟩ := h
    have c1 := hL.get i1
    have c2 := hL.get i2
    refine ⟨_, (@pss_one _ _ _ (@ps_ret _ _ _ _ (@pe_callTy _ _ _ _ _ _ _ _ _ (call_list_ofK (K := K) rfl) (by rfl) B.list bt_list (@pa_cons _ _ _ _ _ (@pe_fldC _ _ _ _ _ _ _ T.Frames T.n_held (@pv _ 0 _ _ (by rfl) (by first | exact Or.inl rfl | exact Or.inr (Or.inl rfl) | exact Or.inr (Or.inr rfl)) (by decide) (by decide)) (by rfl)) (@pa_nil _) (by rfl)) (by decide) (by decide) (by rfl) (by rfl)))), ?_⟩
    walk_at "ge"
    rename Led _ _ => hl2
    exact k _ _ hl2
theorem ok_marks (D : MDef K cD "marks" "Dial.marks" s_Dial_marks) (B : Blt mg) (T : Txt K mg cP cN c1 c2 c3 c4 c5 c6 c7 c8 cW cT cF cD cS cI cB) : MethD P w K mg base 1 cD "marks" ["self"] (spCopy cD "marked") := by
  have sc := sc_Dial_marks
  refine D.ok sc_Dial_marks (fun vs H Q E h => ?_) (fun _ _ _ _ _ _ us hl => match us, hl with | [_], _ => rfl) (fun f cdv A outer s H vs Q E hr h => ?_)
  · obtain ⟨_, _, _, _, _, _, rfl, _⟩ := h; rfl
  · obtain ⟨b, dx, l, fs, xs, L, rfl, hL, i1, hf, i2, k⟩ := h
    have c1 := hL.get i1
    have c2 := hL.get i2
    refine ⟨_, (@pss_one _ _ _ (@ps_ret _ _ _ _ (@pe_callTy _ _ _ _ _ _ _ _ _ (call_list_ofK (K := K) rfl) (by rfl) B.list bt_list (@pa_cons _ _ _ _ _ (@pe_fldC _ _ _ _ _ _ _ T.Dial T.n_marked (@pv _ 0 _ _ (by rfl) (by first | exact Or.inl rfl | exact Or.inr (Or.inl rfl) | exact Or.inr (Or.inr rfl)) (by decide) (by decide)) (by rfl)) (@pa_nil _) (by rfl)) (by decide) (by decide) (by rfl) (by rfl)))), ?_⟩
    walk_at "ge"
    rename Led _ _ => hl2
    exact k _ _ hl2
theorem ok_sheets (D : MDef K cS "sheets" "Shelf.sheets" s_Shelf_sheets) (B : Blt mg) (T : Txt K mg cP cN c1 c2 c3 c4 c5 c6 c7 c8 cW cT cF cD cS cI cB) : MethD P w K mg base 1 cS "sheets" ["self"] (spCopy cS "placed") := by
  have sc := sc_Shelf_sheets
  refine D.ok sc_Shelf_sheets (fun vs H Q E h => ?_) (fun _ _ _ _ _ _ us hl => match us, hl with | [_], _ => rfl) (fun f cdv A outer s H vs Q E hr h => ?_)
  · obtain ⟨_, _, _, _, _, _, rfl, _⟩ := h; rfl
  · obtain ⟨b, dx, l, fs, xs, L, rfl, hL, i1, hf, i2, k⟩ := h
    have c1 := hL.get i1
    have c2 := hL.get i2
    refine ⟨_, (@pss_one _ _ _ (@ps_ret _ _ _ _ (@pe_callTy _ _ _ _ _ _ _ _ _ (call_list_ofK (K := K) rfl) (by rfl) B.list bt_list (@pa_cons _ _ _ _ _ (@pe_fldC _ _ _ _ _ _ _ T.Shelf T.n_placed (@pv _ 0 _ _ (by rfl) (by first | exact Or.inl rfl | exact Or.inr (Or.inl rfl) | exact Or.inr (Or.inr rfl)) (by decide) (by decide)) (by rfl)) (@pa_nil _) (by rfl)) (by decide) (by decide) (by rfl) (by rfl)))), ?_⟩
    walk_at "ge"
    rename Led _ _ => hl2
    exact k _ _ hl2
theorem ok_ways (D : MDef K cB "ways" "Book.ways" s_Book_ways) (B : Blt mg) (T : Txt K mg cP cN c1 c2 c3 c4 c5 c6 c7 c8 cW cT cF cD cS cI cB) : MethD P w K mg base 1 cB "ways" ["self"] (spCopy cB "kept") := by
  have sc := sc_Book_ways
  refine D.ok sc_Book_ways (fun vs H Q E h => ?_) (fun _ _ _ _ _ _ us hl => match us, hl with | [_], _ => rfl) (fun f cdv A outer s H vs Q E hr h => ?_)
  · obtain ⟨_, _, _, _, _, _, rfl, _⟩ := h; rfl
  · obtain ⟨b, dx, l, fs, xs, L, rfl, hL, i1, hf, i2, k⟩ := h
    have c1 := hL.get i1
    have c2 := hL.get i2
    refine ⟨_, (@pss_one _ _ _ (@ps_ret _ _ _ _ (@pe_callTy _ _ _ _ _ _ _ _ _ (call_list_ofK (K := K) rfl) (by rfl) B.list bt_list (@pa_cons _ _ _ _ _ (@pe_fldC _ _ _ _ _ _ _ T.Book T.n_kept (@pv _ 0 _ _ (by rfl) (by first | exact Or.inl rfl | exact Or.inr (Or.inl rfl) | exact Or.inr (Or.inr rfl)) (by decide) (by decide)) (by rfl)) (@pa_nil _) (by rfl)) (by decide) (by decide) (by rfl) (by rfl)))), ?_⟩
    walk_at "ge"
    rename Led _ _ => hl2
    exact k _ _ hl2
def spPointer (cD : Addr) : Sp := fun vs H Q _ => ∃ (d dx m : Addr) (p : Int), vs = [.ref d] ∧ H d = some (.ins cD dx (dialF p m)) ∧ Q (.int p) H
theorem ok_pointer (D : MDef K cD "pointer" "Dial.pointer" s_Dial_pointer) (T : Txt K mg cP cN c1 c2 c3 c4 c5 c6 c7 c8 cW cT cF cD cS cI cB) : MethD P w K mg base 1 cD "pointer" ["self"] (spPointer cD) := by
  have sc := sc_Dial_pointer
  refine D.ok sc_Dial_pointer (fun vs H Q E h => ?_) (fun _ _ _ _ _ _ us hl => match us, hl with | [_], _ => rfl) (fun f cdv A outer s H vs Q E hr h => ?_)
  · obtain ⟨_, _, _, _, rfl, _⟩ := h; rfl
  · obtain ⟨d, dx, m, p, rfl, hd, k⟩ := h
    have hf : (dialF p m).lookup (Str.ofString "stands_at") = some (.int p) := rfl
    refine ⟨_, (@pss_one _ _ _ (@ps_ret _ _ _ _ (@pe_fldC _ _ _ _ _ _ _ T.Dial T.n_stands_at (@pv _ 0 _ _ (by rfl) (by first | exact Or.inl rfl | exact Or.inr (Or.inl rfl) | exact Or.inr (Or.inr rfl)) (by decide) (by decide)) (by rfl)))), ?_⟩
    walk_at "gd"
    exact k
def spWhole : Sp := fun vs H Q _ => ∃ x t, vs = [x] ∧ tyN H x = some t ∧ Q (.bl (wholeB x)) H
def spNumber (cN : Addr) : Sp := fun vs H Q E => ∃ (x : V) (t : String) (lo hi : Int), vs = [x, .int lo, .int hi] ∧ tyN H x = some t ∧ (∀ n, x = .int n → lo ≤ n → n ≤ hi → Q (.int n) H) ∧ ((∀ n, x = .int n → lo ≤ n → n ≤ hi → False) → E (.ref cN) none H)
theorem ok_is_whole (D : Def K mg "is_whole" s_is_whole) (B : Blt mg) : FnD P w K mg base 1 "is_whole" ["thing"] spWhole := by
  refine D.ok sc_is_whole (fun vs H Q E h => ?_) (fun _ _ _ _ _ _ us hl => match us, hl with | [_], _ => rfl) (fun f cdv A outer s H vs Q E hr h => ?_)
  · obtain ⟨x, t, rfl, _⟩ := h; rfl
  · obtain ⟨x, t, rfl, ht, k⟩ := h
    refine ⟨_, (@pss_one _ _ _ (@ps_ret _ _ _ _ (@pe_and _ _ _ _ _ _ _ (@pe_callB _ _ _ _ _ _ _ _ _ call_isiN (by rfl) B.isinstance bt_isinstance (@pa_cons _ _ _ _ _ (@pv _ 0 _ _ (by rfl) (by first | exact Or.inl rfl | exact Or.inr (Or.inl rfl) | exact Or.inr (Or.inr rfl)) (by decide) (by decide)) (@pa_cons _ _ _ _ _ (@pe_bltn _ _ (.ty "int") _ _ (by rfl) B.int bt_int rfl (by decide) (by decide)) (@pa_nil _) (by rfl)) (by rfl)) (by decide) (by decide) (by rfl) (by rfl)) (@pe_one _ _ _ _ _ (@pe_not _ _ _ _ (@pe_callB _ _ _ _ _ _ _ _ _ call_isiN (by rfl) B.isinstance bt_isinstance (@pa_cons _ _ _ _ _ (@pv _ 0 _ _ (by rfl) (by first | exact Or.inl rfl | exact Or.inr (Or.inl rfl) | exact Or.inr (Or.inr rfl)) (by decide) (by decide)) (@pa_cons _ _ _ _ _ (@pe_bltn _ _ (.ty "bool") _ _ (by rfl) B.bool bt_bool rfl (by decide) (by decide)) (@pa_nil _) (by rfl)) (by rfl)) (by decide) (by decide) (by rfl) (by rfl))))))), ?_⟩
    rcases tyN_cases ht with rfl | ⟨b, rfl⟩ | ⟨n, rfl⟩ | ⟨s, rfl⟩ | ⟨a, xs, rfl, ha⟩ | ⟨a, xs, rfl, ha⟩ | ⟨a, xs, rfl, ha⟩ <;> walk_at "rdh" <;> exact k
theorem ok_number (D : Def K mg "number" s_number) (T : Txt K mg cP cN c1 c2 c3 c4 c5 c6 c7 c8 cW cT cF cD cS cI cB) (G_is_whole : FnD P w K mg base 1 "is_whole" ["thing"] spWhole) : FnD P w K mg base 2 "number" ["thing", "low", "high"] (spNumber cN) := by
  refine D.okR sc_number (fun vs H Q E h => ?_) (fun _ _ _ _ _ _ us hl => match us, hl with | [_, _, _], _ => rfl) (fun f cdv A outer s H vs Q E hr h => ?_)
  · obtain ⟨x, t, lo, hi, rfl, _⟩ := h; rfl
  · obtain ⟨x, t, lo, hi, rfl, ht, k1, k2⟩ := h
    refine ⟨_, (@pss_cons _ _ _ _ _ (@ps_if _ _ _ _ _ _ _ _ (@PW.pt _ _ _ (@pw_or _ _ _ _ _ _ _ (@pt_not _ _ _ _ (@pt_val _ _ _ (@pe_callD _ _ _ _ _ _ _ _ _ _ _ G_is_whole (hr.mono (by omega)) (by rfl) passR0 (@pa_cons _ _ _ _ _ (@pv _ 0 _ _ (by rfl) (by first | exact Or.inl rfl | exact Or.inr (Or.inl rfl) | exact Or.inr (Or.inr rfl)) (by decide) (by decide)) (@pa_nil _) (by rfl)) (by decide) (by rfl) (by rfl)) (by intro _; rfl))) (@pw_or _ _ _ _ _ _ _ (@pt_cmpR _ _ _ _ _ _ _ _ op_lt (@pv _ 0 _ _ (by rfl) (by first | exact Or.inl rfl | exact Or.inr (Or.inl rfl) | exact Or.inr (Or.inr rfl)) (by decide) (by decide)) (@pv _ 1 _ _ (by rfl) (by first | exact Or.inl rfl | exact Or.inr (Or.inl rfl) | exact Or.inr (Or.inr rfl)) (by decide) (by decide)) (nomark _)) (@pw_or1 _ _ _ _ (@pt_cmpR _ _ _ _ _ _ _ _ op_gt (@pv _ 0 _ _ (by rfl) (by first | exact Or.inl rfl | exact Or.inr (Or.inl rfl) | exact Or.inr (Or.inr rfl)) (by decide) (by decide)) (@pv _ 2 _ _ (by rfl) (by first | exact Or.inl rfl | exact Or.inr (Or.inl rfl) | exact Or.inr (Or.inr rfl)) (by decide) (by decide)) (nomark _)))))) (@pss_one _ _ _ (@ps_raise _ _ _ _ _ _ _ _ _ _ _ _ _ _ _ _ _ _ _ _ _ _ T.NoNumber (by rfl) (@pa_cons _ _ _ _ _ (@pe_str _ _ _ _) (@pa_nil _) (by rfl)) (by decide) (by rfl))) (@pss_nil _)) (@pss_one _ _ _ (@ps_ret _ _ _ _ (@pv _ 0 _ _ (by rfl) (by first | exact Or.inl rfl | exact Or.inr (Or.inl rfl) | exact Or.inr (Or.inr rfl)) (by decide) (by decide))))), ?_⟩
    walk_at "rd"
    have h1 : 1 ≤ sizeLine := by decide
    refine ⟨x, t, rfl, ht, _, rfl, ?_⟩
    cases x with
    | int n =>
      simp only [wholeB, Bool.true_eq_false, if_false]
      refine ⟨n, rfl, ite2 (fun hl => ⟨h1, k2 fun m e a b => ?_⟩) fun hl => ⟨n, rfl, ite2 (fun hh => ⟨h1, k2 fun m e a b => ?_⟩) fun hh => k1 n rfl (by omega) (by omega)⟩⟩
      · cases e; omega
      · cases e; omega
    | _ =>
      simp only [wholeB, if_true]
      exact ⟨h1, k2 fun m e => nomatch e⟩
/-- the script's k-th number, 0 behind its end -/
def spCellAt (K : PySem.W.Frag) : Sp := fun vs H Q _ => ∃ (a : Addr) (ns : List Int) (j : Int), vs = [.ref a, .int j] ∧ 0 ≤ j ∧ SqL K H a (ns.map V.int) ∧ Q (.int (ns.getD j.toNat 0)) H
theorem ok_cell_at (D : Def K mg "_law_cell_at" s_l_cell_at) (B : Blt mg) : FnD P w K mg base 1 "_law_cell_at" ["_law_script", "_law_k"] (spCellAt K) := by
  refine D.ok sc_l_cell_at (fun vs H Q E h => ?_) (fun _ _ _ _ _ _ us hl => match us, hl with | [_, _], _ => rfl) (fun f cdv A outer s H vs Q E hr h => ?_)
  · obtain ⟨_, _, _, rfl, _⟩ := h; rfl
  · obtain ⟨a, ns, j, rfl, hj0, hS, k⟩ := h
    obtain ⟨j, rfl⟩ := Int.eq_ofNat_of_zero_le hj0
    refine ⟨_, (@pss_cons _ _ _ _ _ (@ps_if _ _ _ _ _ _ _ _ (@pt_cmpR _ _ _ _ _ _ _ _ op_lt (@pv _ 1 _ _ (by rfl) (by first | exact Or.inl rfl | exact Or.inr (Or.inl rfl) | exact Or.inr (Or.inr rfl)) (by decide) (by decide)) (@pe_callB _ _ _ _ _ _ _ _ _ (call_len_seqK (K := K) rfl) (by rfl) B.len bt_len (@pa_cons _ _ _ _ _ (@pv _ 0 _ _ (by rfl) (by first | exact Or.inl rfl | exact Or.inr (Or.inl rfl) | exact Or.inr (Or.inr rfl)) (by decide) (by decide)) (@pa_nil _) (by rfl)) (by decide) (by decide) (by rfl) (by rfl)) (nomark _)) (@pss_one _ _ _ (@ps_ret _ _ _ _ (@pe_ix _ _ _ _ _ _ _ (ix_listK (K := K) rfl) (@pv _ 0 _ _ (by rfl) (by first | exact Or.inl rfl | exact Or.inr (Or.inl rfl) | exact Or.inr (Or.inr rfl)) (by decide) (by decide)) (@pv _ 1 _ _ (by rfl) (by first | exact Or.inl rfl | exact Or.inr (Or.inl rfl) | exact Or.inr (Or.inr rfl)) (by decide) (by decide)) (fun _ _ => rfl)))) (@pss_nil _)) (@pss_one _ _ _ (@ps_ret _ _ _ _ (@pe_int _ _ _ _)))), ?_⟩
    simp only [tSeq, tIfS, tTest, tOp, tVar, L2.start, List.map_cons, List.map_nil, List.length_cons, List.length_nil, Nat.zero_add, Nat.reduceAdd, Nat.reduceSub, List.replicate, List.append_nil, List.getElem?_cons_succ, List.getElem?_cons_zero, Option.some.injEq, tCB, tCons, tNil, List.cons.injEq, and_true, rI0, V.int.injEq, V.bl.injEq, tRet, rIxL, exists_and_left, exists_eq_left', V.ref.injEq, tNext, tC, decide_eq_true_eq]
    refine ⟨_, .inl hS, ?_⟩
    rw [List.length_map]
    rw [Int.toNat_natCast] at k
    refine ite2 (fun hlt => ?_) (fun hge => ?_)
    · refine ⟨_, hS, _, atI_nat (j := j) (v := V.int (ns.getD j 0)) ?_, k⟩
      have hj : j < ns.length := by omega
      simp [hj]
    · rw [List.getD_eq_getElem?_getD, List.getElem?_eq_none (by omega)] at k
      exact k
end

section
variable {P : Program} {w : World} {K : PySem.W.Frag} {mg : Str → Option Value} {base : Heap} {cP cN c1 c2 c3 c4 c5 c6 c7 c8 cW cT cF cD cS cI cB : Addr}
/-- a thing whose type the ledger tells -/
def Thg (L : Cells) (x : V) : Prop := ∃ t, ∀ H, Led H L → tyN H x = some t
theorem Thg.int {L : Cells} {n : Int} : Thg L (.int n) := ⟨_, fun _ _ => tyI⟩
theorem Thg.mono {L L' : Cells} {x : V} (h : Thg L x) (s : ∀ H, Led H L' → Led H L) : Thg L' x := by
  obtain ⟨t, h⟩ := h
  exact ⟨t, fun H hl => h H (s H hl)⟩
def InR (x : V) (lo hi : Int) : Prop := ∃ n, x = .int n ∧ lo ≤ n ∧ n ≤ hi
structure WA where
  s : SA
  dst : Addr
  st : Addr
  bk : Addr
  wk : Addr
  sp : Addr
  bs : List (Addr × Addr × Addr)
def wF (a : WA) : List (Str × V) := [("store", .ref a.st), ("books", .ref a.bk), ("walks", .ref a.wk), ("copies", .int 0), ("spaces", .ref a.sp), ("spaces_made", .int 0)]
structure NW (cW cT cF cD cS cI cB : Addr) (L : Cells) (b dx : Addr) (a : WA) (m p h : Nat) (s : Int) : Prop where
  iw : (b, HO.ins cW dx (wF a)) ∈ L
  ist : ∀ c ∈ StC cT cF cD cS cI a.st a.dst a.s m p [], c ∈ L
  ibk : (a.bk, HO.lst (a.bs.map fun x => V.ref x.1)) ∈ L
  ibs : ∀ x ∈ a.bs, (x.1, HO.ins cB x.2.1 (bookF s x.2.2)) ∈ L ∧ (x.2.2, HO.lst []) ∈ L
  hbs : a.bs.length = h
  iwk : (a.wk, HO.lst (List.replicate h (.int 0))) ∈ L
  isp : (a.sp, HO.dK []) ∈ L
  h1 : 1 ≤ h
  h8 : h ≤ 8
  m1 : 1 ≤ m
  m64 : m ≤ 64
  p512 : p ≤ 512
theorem NW.mono {cW cT cF cD cS cI cB : Addr} {L L' : Cells} {b dx : Addr} {a : WA} {m p h : Nat} {s : Int} (n : NW cW cT cF cD cS cI cB L b dx a m p h s) (sb : ∀ c ∈ L, c ∈ L') : NW cW cT cF cD cS cI cB L' b dx a m p h s :=
  ⟨sb _ n.iw, fun c hc => sb _ (n.ist c hc), sb _ n.ibk, fun x hx => ⟨sb _ (n.ibs x hx).1, sb _ (n.ibs x hx).2⟩, n.hbs, sb _ n.iwk, sb _ n.isp, n.h1, n.h8, n.m1, n.m64, n.p512⟩
section
variable {L : Cells} {b dx : Addr} {a : WA} {m p h : Nat} {s : Int} (n : NW cW cT cF cD cS cI cB L b dx a m p h s)
include n
theorem NW.i_st : (a.st, HO.ins cT a.dst (stF a.s)) ∈ L := n.ist _ (by simp [StC])
theorem NW.i_fr : (a.s.fr, HO.ins cF a.s.dfr (frF a.s.hl a.s.rw a.s.so)) ∈ L := n.ist _ (by simp [StC])
theorem NW.i_hl : (a.s.hl, HO.lst (List.replicate m .non)) ∈ L := n.ist _ (by simp [StC])
theorem NW.i_di : (a.s.di, HO.ins cD a.s.ddi (dialF 0 a.s.mks)) ∈ L := n.ist _ (by simp [StC])
theorem NW.i_mk : (a.s.mks, HO.lst (List.replicate m (.bl false))) ∈ L := n.ist _ (by simp [StC])
theorem NW.i_sh : (a.s.sh, HO.ins cS a.s.dsh (shF a.s.pl a.s.rd)) ∈ L := n.ist _ (by simp [StC])
theorem NW.i_pl : (a.s.pl, HO.lst (List.replicate p .non)) ∈ L := n.ist _ (by simp [StC])
theorem NW.i_ho : (a.s.ho, HO.dK []) ∈ L := n.ist _ (by simp [StC])
end
theorem Led.down {H : Hp} {N L : Cells} (h : Led H (N ++ L)) : Led H L := h.sub (List.sublist_append_right N L)
def spWInit (cW cT cF cD cS cI cB cN : Addr) : Sp := fun vs H Q E => ∃ (b dx : Addr) (x1 x2 x3 x4 : V) (L : Cells), vs = [.ref b, x1, x2, x3, x4] ∧ Led H ((b, .ins cW dx []) :: L) ∧ Thg L x1 ∧ Thg L x2 ∧ Thg L x3 ∧ Thg L x4 ∧
  (∀ m p h s : Int, x1 = .int m → 1 ≤ m → m ≤ 64 → x2 = .int p → 0 ≤ p → p ≤ 512 → x3 = .int h → 1 ≤ h → h ≤ 8 → x4 = .int s → 0 ≤ s → s ≤ 16 → ∀ N a H', NW cW cT cF cD cS cI cB N b dx a m.toNat p.toNat h.toNat s → Led H' (N ++ L) → Q .non H') ∧
  (¬ (InR x1 1 64 ∧ InR x2 0 512 ∧ InR x3 1 8 ∧ InR x4 0 16) → ∀ N H', Led H' (N ++ L) → E (.ref cN) none H')
theorem books_of {cB : Addr} {s : Int} {n : Nat} {vs : List V} {Cs : List Cells} (h1 : vs.length = n) (h2 : Cs.length = n) (hG : ∀ (i : Nat) v C, vs[i]? = some v → Cs[i]? = some C → ∃ b dx l, v = V.ref b ∧ C = [(b, HO.ins cB dx (bookF s l)), (l, HO.lst [])]) : ∃ bs : List (Addr × Addr × Addr), bs.length = n ∧ vs = bs.map (fun x => V.ref x.1) ∧ ∀ x ∈ bs, (x.1, HO.ins cB x.2.1 (bookF s x.2.2)) ∈ Cs.flatten ∧ (x.2.2, HO.lst []) ∈ Cs.flatten := by
  induction n generalizing vs Cs with
  | zero =>
    obtain rfl := List.length_eq_zero_iff.mp h1
    exact ⟨[], rfl, rfl, fun x hx => nomatch hx⟩
  | succ n ih =>
    match vs, Cs, h1, h2 with
    | v :: vs, C :: Cs, h1, h2 =>
      obtain ⟨bs, e1, e2, e3⟩ := ih (vs := vs) (Cs := Cs) (by simpa using h1) (by simpa using h2) fun i v C a b => hG (i + 1) v C a b
      obtain ⟨b, dx, l, rfl, rfl⟩ := hG 0 v C rfl rfl
      refine ⟨(b, dx, l) :: bs, by simp [e1], by simp [e2], fun x hx => ?_⟩
      rw [List.flatten_cons]
      rcases List.mem_cons.mp hx with rfl | hx
      · exact ⟨List.mem_append_left _ List.mem_cons_self, List.mem_append_left _ (List.mem_cons_of_mem _ List.mem_cons_self)⟩
      · exact ⟨List.mem_append_right _ (e3 x hx).1, List.mem_append_right _ (e3 x hx).2⟩
theorem ok_winit (D : IDef K cW "World.__init__" s_World_init) (B : Blt mg) (T : Txt K mg cP cN c1 c2 c3 c4 c5 c6 c7 c8 cW cT cF cD cS cI cB) (I_Store : InitD P w K mg base 3 cT ["self", "many", "places"] (spTInit cT cF cD cS cI)) (I_Book : InitD P w K mg base 1 cB ["self", "slots"] (spBInit cB)) (G_number : FnD P w K mg base 2 "number" ["thing", "low", "high"] (spNumber cN)) : InitD P w K mg base 5 cW ["self", "many", "places", "hands", "slots"] (spWInit cW cT cF cD cS cI cB cN) := by
  have sc := sc_World_init
  refine D.okR sc_World_init (fun vs H Q E h => ?_) (fun _ _ _ _ _ _ us hl => match us, hl with | [_, _, _, _, _], _ => rfl) (fun f cdv A outer s H vs Q E hr h => ?_)
  · obtain ⟨_, _, _, _, _, _, _, rfl, _⟩ := h; rfl
  · obtain ⟨b, dx, x1, x2, x3, x4, L, rfl, hL, ⟨t1, ht1⟩, ⟨t2, ht2⟩, ⟨t3, ht3⟩, ⟨t4, ht4⟩, kQ, kE⟩ := h
    refine ⟨_, (@pss_cons _ _ _ _ _ (@ps_fldC _ _ _ _ _ _ _ _ _ _ T.World T.n_store (@pv _ 0 _ _ (by rfl) (by first | exact Or.inl rfl | exact Or.inr (Or.inl rfl) | exact Or.inr (Or.inr rfl)) (by decide) (by decide)) (@pe_makeD _ _ _ _ _ _ _ _ _ _ _ _ T.Store I_Store (hr.mono (by omega)) (by rfl) passR0 (@pa_cons _ _ _ _ _ (@pe_callD _ _ _ _ _ _ _ _ _ _ _ G_number (hr.mono (by omega)) (by rfl) passR (@pa_cons _ _ _ _ _ (@pv _ 1 _ _ (by rfl) (by first | exact Or.inl rfl | exact Or.inr (Or.inl rfl) | exact Or.inr (Or.inr rfl)) (by decide) (by decide)) (@pa_cons _ _ _ _ _ (@pe_int _ _ _ _) (@pa_cons _ _ _ _ _ (@pe_gint _ _ _ _ T.MOST_FRAMES (by rfl) (by decide)) (@pa_nil _) (by rfl)) (by rfl)) (by rfl)) (by decide) (by rfl) (by rfl)) (@pa_cons _ _ _ _ _ (@pe_callD _ _ _ _ _ _ _ _ _ _ _ G_number (hr.mono (by omega)) (by rfl) passR (@pa_cons _ _ _ _ _ (@pv _ 2 _ _ (by rfl) (by first | exact Or.inl rfl | exact Or.inr (Or.inl rfl) | exact Or.inr (Or.inr rfl)) (by decide) (by decide)) (@pa_cons _ _ _ _ _ (@pe_int _ _ _ _) (@pa_cons _ _ _ _ _ (@pe_gint _ _ _ _ T.MOST_PLACES (by rfl) (by decide)) (@pa_nil _) (by rfl)) (by rfl)) (by rfl)) (by decide) (by rfl) (by rfl)) (@pa_nil _) (by rfl)) (by rfl)) (by decide) (by rfl) (by rfl)) (by rfl)) (@pss_cons _ _ _ _ _ (@ps_fldC _ _ _ _ _ _ _ _ _ _ T.World T.n_books (@pv _ 0 _ _ (by rfl) (by first | exact Or.inl rfl | exact Or.inr (Or.inl rfl) | exact Or.inr (Or.inr rfl)) (by decide) (by decide)) (@pe_comp _ _ "hand" _ _ _ _ _ _ _ _ _ rfl rfl rfl rfl passH (compSc_of (by kernel_rfl)) (@pi_range1 _ _ _ _ _ _ (by rfl) B.range (@pa_cons _ _ _ _ _ (@pe_callD _ _ _ _ _ _ _ _ _ _ _ G_number (hr.mono (by omega)) (by rfl) passR (@pa_cons _ _ _ _ _ (@pv _ 3 _ _ (by rfl) (by first | exact Or.inl rfl | exact Or.inr (Or.inl rfl) | exact Or.inr (Or.inr rfl)) (by decide) (by decide)) (@pa_cons _ _ _ _ _ (@pe_int _ _ _ _) (@pa_cons _ _ _ _ _ (@pe_gint _ _ _ _ T.MOST_HANDS (by rfl) (by decide)) (@pa_nil _) (by rfl)) (by rfl)) (by rfl)) (by decide) (by rfl) (by rfl)) (@pa_nil _) (by rfl)) (by rfl)) (fun _ _ _ _ => (@pts_nil _)) (fun _ _ _ _ => (@pe_makeD _ _ _ _ _ _ _ _ _ _ _ _ T.Book I_Book (hr.mono (by omega)) (by rfl) passR0 (@pa_cons _ _ _ _ _ (@pe_callD _ _ _ _ _ _ _ _ _ _ _ G_number (hr.mono (by omega)) (by rfl) passC (@pa_cons _ _ _ _ _ (@pk _ 5 _ _ (by kernel_rfl) (by kernel_rfl) (by decide) (by decide)) (@pa_cons _ _ _ _ _ (@pe_int _ _ _ _) (@pa_cons _ _ _ _ _ (@pe_gint _ _ _ _ T.MOST_SLOTS (by rfl) (by decide)) (@pa_nil _) (by rfl)) (by rfl)) (by rfl)) (by decide) (by rfl) (by rfl)) (@pa_nil _) (by rfl)) (by decide) (by rfl) (by rfl))) (by intro _; rfl)) (by rfl)) (@pss_cons _ _ _ _ _ (@ps_fldC _ _ _ _ _ _ _ _ _ _ T.World T.n_walks (@pv _ 0 _ _ (by rfl) (by first | exact Or.inl rfl | exact Or.inr (Or.inl rfl) | exact Or.inr (Or.inr rfl)) (by decide) (by decide)) (@pe_op _ _ _ _ _ _ _ _ op_rep (@pe_lst _ _ _ _ (@pa_cons _ _ _ _ _ (@pe_int _ _ _ _) (@pa_nil _) (by rfl))) (@pv _ 3 _ _ (by rfl) (by first | exact Or.inl rfl | exact Or.inr (Or.inl rfl) | exact Or.inr (Or.inr rfl)) (by decide) (by decide))) (by rfl)) (@pss_cons _ _ _ _ _ (@ps_fldC _ _ _ _ _ _ _ _ _ _ T.World T.n_copies (@pv _ 0 _ _ (by rfl) (by first | exact Or.inl rfl | exact Or.inr (Or.inl rfl) | exact Or.inr (Or.inr rfl)) (by decide) (by decide)) (@pe_int _ _ _ _) (by rfl)) (@pss_cons _ _ _ _ _ (@ps_fldC _ _ _ _ _ _ _ _ _ _ T.World T.n_spaces (@pv _ 0 _ _ (by rfl) (by first | exact Or.inl rfl | exact Or.inr (Or.inl rfl) | exact Or.inr (Or.inr rfl)) (by decide) (by decide)) (@pe_dnewK _ _) (by rfl)) (@pss_one _ _ _ (@ps_fldC _ _ _ _ _ _ _ _ _ _ T.World T.n_spaces_made (@pv _ 0 _ _ (by rfl) (by first | exact Or.inl rfl | exact Or.inr (Or.inl rfl) | exact Or.inr (Or.inr rfl)) (by decide) (by decide)) (@pe_int _ _ _ _) (by rfl)))))))), ?_⟩
    refine seqK fun M1 K1 => ?_
    walk_at "ge"
    refine ⟨x1, t1, 1, 64, rfl, ht1 _ hL.tail, fun m e1 m1 m64 => ?_, fun hno => kE (fun z => by obtain ⟨⟨n, e, a, b⟩, _⟩ := z; exact hno n e a b) [(b, .ins cW dx [])] _ hL⟩
    walk_at "ge"
    refine ⟨x2, t2, 0, 512, rfl, ht2 _ hL.tail, fun p e2 p0 p512 => ?_, fun hno => kE (fun z => by obtain ⟨_, ⟨n, e, a, b⟩, _⟩ := z; exact hno n e a b) [(b, .ins cW dx [])] _ hL⟩
    walk_at "ge"
    intro st dst z1 z2 z3
    refine ⟨st, dst, m, p, _, rfl, hL.make z1 z2 z3, by omega, m64, p0, by omega, fun sa H1 hl1 => ⟨rfl, ?_⟩⟩
    clear z1 z2 z3 hL
    obtain ⟨S, hS⟩ : ∃ S : Cells, StC cT cF cD cS cI st dst sa m.toNat p.toNat [] = S := ⟨_, rfl⟩
    have hl2 : Led H1 ((b, .ins cW dx []) :: (S ++ L)) := hl1.wk (by rw [← hS]; unfold StC; simp only [List.cons_append, List.nil_append]; walk_at "sp")
    clear hl1
    have hl3 : Led (upd H1 b (.ins cW dx (putF (Str.ofString "store") (V.ref st) []))) ((b, .ins cW dx [("store", .ref st)]) :: _) := hl2.put rfl rfl
    walk_at "ge"
    refine K1.use ?_
    walk_at "cl"
    clear K1 hl2
    generalize upd H1 b (.ins cW dx (putF (Str.ofString "store") (V.ref st) [])) = H2 at hl3 ⊢
    refine seqK fun M1 K1 => ?_
    walk_at "ge"
    refine compR1 fun Lc hLc => ?_
    walk_at "ge"
    refine ⟨x3, t3, 1, 8, rfl, ht3 _ (Led.down hl3.tail), fun h e3 h1 h8 => ?_, fun hno => kE (fun z => by obtain ⟨_, _, ⟨n, e, a, b⟩, _⟩ := z; exact hno n e a b) ((b, .ins cW dx [("store", .ref st)]) :: S) _ hl3⟩
    walk_at "ge"
    refine ⟨_, rfl, by omega, by omega, hLc.use ?_⟩
    clear hLc
    refine compRangeG (fun i v C => ∃ s b dx l, (x4 = .int s ∧ 0 ≤ s ∧ s ≤ 16) ∧ v = V.ref b ∧ C = [(b, HO.ins cB dx (bookF s l)), (l, HO.lst [])]) hl3 (by have := sizeLine_eq; omega) (fun i H2 R M hi hl4 hR => ?_) (fun bk vs Cs H3 hv hc hG hl4 => ?_)
    · walk_at "ge"
      refine ⟨x4, t4, 0, 16, rfl, ht4 _ (Led.down (N := S) (Led.down hl4).tail), fun s e4 s0 s16 => ?_, fun hno => kE (fun z => by obtain ⟨_, _, _, n, e, a, b⟩ := z; exact hno n e a b) (M ++ ((b, .ins cW dx [("store", .ref st)]) :: S)) _ (by rw [List.append_assoc]; exact hl4)⟩
      walk_at "ge"
      intro q dq z1 z2 z3
      refine ⟨q, dq, s, _, rfl, hl4.make z1 z2 z3, fun l H5 hl5 => ⟨rfl, ?_⟩⟩
      exact hR _ _ _ ⟨s, q, dq, l, ⟨e4, s0, s16⟩, rfl, rfl⟩ hl5
    · have hpos : 0 < vs.length := by omega
      have hpos2 : 0 < Cs.length := by omega
      obtain ⟨s, _, _, _, ⟨e4, s0, s16⟩, -⟩ := hG 0 _ _ (List.getElem?_eq_getElem hpos) (List.getElem?_eq_getElem hpos2)
      obtain ⟨bs, hbl, rfl, hbs⟩ := books_of (cB := cB) (s := s) hv hc fun i v C a b => by
        obtain ⟨s', b, dx, l, ⟨e4', _⟩, q1, q2⟩ := hG i v C a b
        rw [e4] at e4'
        cases e4'
        exact ⟨b, dx, l, q1, q2⟩
      generalize Cs.flatten = C at hbs hl4
      clear hG hv hc hpos hpos2
      have hl5 : Led H3 ((b, .ins cW dx [("store", .ref st)]) :: (bk, .lst (bs.map fun x => V.ref x.1)) :: (C ++ (S ++ L))) := hl4.wk (by walk_at "sp")
      have hl6 : Led (upd H3 b (.ins cW dx (putF (Str.ofString "books") (V.ref bk) [("store", .ref st)]))) ((b, .ins cW dx [("store", .ref st), ("books", .ref bk)]) :: _) := hl5.put rfl rfl
      clear hl4 hl3
      walk_at "ge"
      refine K1.use ?_
      walk_at "cl"
      clear K1 hl5
      generalize upd H3 b (.ins cW dx (putF (Str.ofString "books") (V.ref bk) [("store", .ref st)])) = H4 at hl6 ⊢
      subst e3
      refine seqK fun M1 K1 => ?_
      walk_at "ge"
      rename Led _ _ => hl7
      refine repH (hl7.get List.mem_cons_self) ⟨by omega, by omega⟩ (by have := sizeLine_eq; simp only [List.length_cons, List.length_nil]; omega) (Led.alloc hl7 fun wk H5 _ hl8 _ => ?_)
      rw [repX] at hl8
      have hl9 : Led H5 ((b, .ins cW dx [("store", .ref st), ("books", .ref bk)]) :: (wk, .lst (List.replicate h.toNat (.int 0))) :: (bk, .lst (bs.map fun x => V.ref x.1)) :: (C ++ (S ++ L))) := hl8.wk (by walk_at "sp")
      have hl10 : Led (upd H5 b (.ins cW dx (putF (Str.ofString "walks") (V.ref wk) [("store", .ref st), ("books", .ref bk)]))) ((b, .ins cW dx [("store", .ref st), ("books", .ref bk), ("walks", .ref wk)]) :: _) := hl9.put rfl rfl
      clear hl6 hl7 hl8
      walk_at "ge"
      refine K1.use ?_
      walk_at "cl"
      clear K1 hl9
      generalize upd H5 b (.ins cW dx (putF (Str.ofString "walks") (V.ref wk) [("store", .ref st), ("books", .ref bk)])) = H6 at hl10 ⊢
      refine seqK fun M1 K1 => ?_
      walk_at "ge"
      have hl11 : Led (upd H6 b (.ins cW dx (putF (Str.ofString "copies") (V.int 0) [("store", .ref st), ("books", .ref bk), ("walks", .ref wk)]))) ((b, .ins cW dx [("store", .ref st), ("books", .ref bk), ("walks", .ref wk), ("copies", .int 0)]) :: _) := hl10.put rfl rfl
      refine K1.use ?_
      walk_at "cl"
      clear K1 hl10
      generalize upd H6 b (.ins cW dx (putF (Str.ofString "copies") (V.int 0) [("store", .ref st), ("books", .ref bk), ("walks", .ref wk)])) = H7 at hl11 ⊢
      refine seqK fun M1 K1 => ?_
      walk_at "ge"
      rename_i sp H8 _ hl12 _
      have hl13 : Led (upd H8 b (.ins cW dx (putF (Str.ofString "spaces") (V.ref sp) [("store", .ref st), ("books", .ref bk), ("walks", .ref wk), ("copies", .int 0)]))) ((b, .ins cW dx [("store", .ref st), ("books", .ref bk), ("walks", .ref wk), ("copies", .int 0), ("spaces", .ref sp)]) :: _) := (hl12.swap).put rfl rfl
      refine K1.use ?_
      walk_at "cl"
      clear K1 hl11 hl12
      generalize upd H8 b (.ins cW dx (putF (Str.ofString "spaces") (V.ref sp) [("store", .ref st), ("books", .ref bk), ("walks", .ref wk), ("copies", .int 0)])) = H9 at hl13 ⊢
      walk_at "ge"
      have hl14 := hl13.put (o' := .ins cW dx (wF ⟨sa, dst, st, bk, wk, sp, bs⟩)) rfl rfl
      refine kQ m p h s e1 m1 m64 e2 p0 p512 rfl h1 h8 e4 s0 s16 ((b, .ins cW dx (wF ⟨sa, dst, st, bk, wk, sp, bs⟩)) :: (sp, .dK []) :: (wk, .lst (List.replicate h.toNat (.int 0))) :: (bk, .lst (bs.map fun x => V.ref x.1)) :: (C ++ S)) ⟨sa, dst, st, bk, wk, sp, bs⟩ _ ⟨List.mem_cons_self, fun c hc => ?_, by simp, fun x hx => ?_, hbl, by simp, by simp, by omega, by omega, by omega, by omega, by omega⟩ (hl14.wk (by simp only [List.cons_append, List.append_assoc]; walk_at "sp"))
      · rw [hS] at hc
        exact List.mem_cons_of_mem _ (List.mem_cons_of_mem _ (List.mem_cons_of_mem _ (List.mem_cons_of_mem _ (List.mem_append_right _ hc))))
      · exact ⟨List.mem_cons_of_mem _ (List.mem_cons_of_mem _ (List.mem_cons_of_mem _ (List.mem_cons_of_mem _ (List.mem_append_left _ (hbs x hx).1)))), List.mem_cons_of_mem _ (List.mem_cons_of_mem _ (List.mem_cons_of_mem _ (List.mem_cons_of_mem _ (List.mem_append_left _ (hbs x hx).2))))⟩
end

section
variable {P : Program} {w : World} {K : PySem.W.Frag} {mg : Str → Option Value} {base : Heap} {cP cN c1 c2 c3 c4 c5 c6 c7 c8 cW cT cF cD cS cI cB : Addr}
def spTL (cW cT cF cD cS cI cB : Addr) (F : Nat → Nat → List V) : Sp := fun vs H Q _ => ∃ (b dx : Addr) (a : WA) (m p h : Nat) (s : Int) (L : Cells), vs = [.ref b] ∧ Led H L ∧ NW cW cT cF cD cS cI cB L b dx a m p h s ∧ ∀ r H', Led H' ((r, .lst (F m p)) :: L) → Q (.ref r) H'
def spTI (cW cT cF cD cS cI cB : Addr) (F : Nat → Nat → Int) : Sp := fun vs H Q _ => ∃ (b dx : Addr) (a : WA) (m p h : Nat) (s : Int) (L : Cells), vs = [.ref b] ∧ Led H L ∧ NW cW cT cF cD cS cI cB L b dx a m p h s ∧ ∀ H' N, Led H' (N ++ L) → Q (.int (F m p)) H'
theorem ok_told_spaces (D : Def K mg "told_spaces" s_told_spaces) (B : Blt mg) (T : Txt K mg cP cN c1 c2 c3 c4 c5 c6 c7 c8 cW cT cF cD cS cI cB) : FnD P w K mg base 1 "told_spaces" ["world"] (spTL cW cT cF cD cS cI cB fun _ _ => []) := by
  have sc := sc_told_spaces
  refine D.ok sc_told_spaces (fun vs H Q E h => ?_) (fun _ _ _ _ _ _ us hl => match us, hl with | [_], _ => rfl) (fun f cdv A outer s H vs Q E hr h => ?_)
  · obtain ⟨_, _, _, _, _, _, _, _, rfl, _⟩ := h; rfl
  · obtain ⟨b, dx, a, m, p, h, s, L, rfl, hL, n, k⟩ := h
    have f1 : (wF a).lookup (Str.ofString "store") = some (.ref a.st) := rfl
    have f2 : (stF a.s).lookup (Str.ofString "frames") = some (.ref a.s.fr) := rfl
    have f3 : (stF a.s).lookup (Str.ofString "dial") = some (.ref a.s.di) := rfl
    have f4 : (stF a.s).lookup (Str.ofString "shelf") = some (.ref a.s.sh) := rfl
    have f5 : (stF a.s).lookup (Str.ofString "holders") = some (.ref a.s.ho) := rfl
    have f6 : (wF a).lookup (Str.ofString "books") = some (.ref a.bk) := rfl
    have f7 : (wF a).lookup (Str.ofString "walks") = some (.ref a.wk) := rfl
    have f8 : (wF a).lookup (Str.ofString "copies") = some (.int 0) := rfl
    have f9 : (wF a).lookup (Str.ofString "spaces") = some (.ref a.sp) := rfl
    have k1 := hL.get n.iw
    have k2 := hL.get n.i_st
    have k3 := hL.get n.i_fr
    have k4 := hL.get n.i_di
    have k5 := hL.get n.i_sh
    have k6 := hL.get n.i_ho
    have k7 := hL.get n.isp
    have k8 := hL.get n.iwk
    have k9 := hL.get n.ibk
    refine ⟨_, (@pss_one _ _ _ (@ps_ret _ _ _ _ (@pe_callB _ _ _ _ _ _ _ _ _ (call_sortDS rfl) (by rfl) B.sorted bt_sorted (@pa_cons _ _ _ _ _ (@pe_fldC _ _ _ _ _ _ _ T.World T.n_spaces (@pv _ 0 _ _ (by rfl) (by first | exact Or.inl rfl | exact Or.inr (Or.inl rfl) | exact Or.inr (Or.inr rfl)) (by decide) (by decide)) (by rfl)) (@pa_nil _) (by rfl)) (by decide) (by decide) (by rfl) (by rfl)))), ?_⟩
    walk_at "ge"
    refine sortDSR (zs := []) k7 rfl (by decide) fun ms hp _ l hl => ?_
    obtain rfl := hp.eq_nil
    have hl2 := hL.new (o := .lst []) hl
    walk_at "ge"
    exact k _ _ hl2
theorem ok_told_frames (D : Def K mg "told_frames" s_told_frames) (B : Blt mg) (T : Txt K mg cP cN c1 c2 c3 c4 c5 c6 c7 c8 cW cT cF cD cS cI cB) (M_Frames_things : MethD P w K mg base 1 cF "things" ["self"] (spCopy cF "held")) : FnD P w K mg base 2 "told_frames" ["world"] (spTL cW cT cF cD cS cI cB (fun m _ => List.replicate m .non)) := by
  have sc := sc_told_frames
  refine D.ok sc_told_frames (fun vs H Q E h => ?_) (fun _ _ _ _ _ _ us hl => match us, hl with | [_], _ => rfl) (fun f cdv A outer s H vs Q E hr h => ?_)
  · obtain ⟨_, _, _, _, _, _, _, _, rfl, _⟩ := h; rfl
  · obtain ⟨b, dx, a, m, p, h, s, L, rfl, hL, n, k⟩ := h
    have f1 : (wF a).lookup (Str.ofString "store") = some (.ref a.st) := rfl
    have f2 : (stF a.s).lookup (Str.ofString "frames") = some (.ref a.s.fr) := rfl
    have f3 : (stF a.s).lookup (Str.ofString "dial") = some (.ref a.s.di) := rfl
    have f4 : (stF a.s).lookup (Str.ofString "shelf") = some (.ref a.s.sh) := rfl
    have f5 : (stF a.s).lookup (Str.ofString "holders") = some (.ref a.s.ho) := rfl
    have f6 : (wF a).lookup (Str.ofString "books") = some (.ref a.bk) := rfl
    have f7 : (wF a).lookup (Str.ofString "walks") = some (.ref a.wk) := rfl
    have f8 : (wF a).lookup (Str.ofString "copies") = some (.int 0) := rfl
    have f9 : (wF a).lookup (Str.ofString "spaces") = some (.ref a.sp) := rfl
    have k1 := hL.get n.iw
    have k2 := hL.get n.i_st
    have k3 := hL.get n.i_fr
    have k4 := hL.get n.i_di
    have k5 := hL.get n.i_sh
    have k6 := hL.get n.i_ho
    have k7 := hL.get n.isp
    have k8 := hL.get n.iwk
    have k9 := hL.get n.ibk
    refine ⟨_, (@pss_one _ _ _ (@ps_ret _ _ _ _ (@pe_methD0 _ _ _ _ _ _ _ _ _ _ _ _ _ T.Frames M_Frames_things (hr.mono (by omega)) passR0 (@pe_fldC _ _ _ _ _ _ _ T.Store T.n_frames (@pe_fldC _ _ _ _ _ _ _ T.World T.n_store (@pv _ 0 _ _ (by rfl) (by first | exact Or.inl rfl | exact Or.inr (Or.inl rfl) | exact Or.inr (Or.inr rfl)) (by decide) (by decide)) (by rfl)) (by rfl)) (by rfl)))), ?_⟩
    walk_at "ge"
    exact ⟨_, _, _, _, _, L, rfl, hL, n.i_fr, rfl, n.i_hl, fun r H' hl' => by walk_at "ge"; exact k _ _ hl'⟩
theorem ok_told_marks (D : Def K mg "told_marks" s_told_marks) (B : Blt mg) (T : Txt K mg cP cN c1 c2 c3 c4 c5 c6 c7 c8 cW cT cF cD cS cI cB) (M_Dial_marks : MethD P w K mg base 1 cD "marks" ["self"] (spCopy cD "marked")) : FnD P w K mg base 2 "told_marks" ["world"] (spTL cW cT cF cD cS cI cB (fun m _ => List.replicate m (.bl false))) := by
  have sc := sc_told_marks
  refine D.ok sc_told_marks (fun vs H Q E h => ?_) (fun _ _ _ _ _ _ us hl => match us, hl with | [_], _ => rfl) (fun f cdv A outer s H vs Q E hr h => ?_)
  · obtain ⟨_, _, _, _, _, _, _, _, rfl, _⟩ := h; rfl
  · obtain ⟨b, dx, a, m, p, h, s, L, rfl, hL, n, k⟩ := h
    have f1 : (wF a).lookup (Str.ofString "store") = some (.ref a.st) := rfl
    have f2 : (stF a.s).lookup (Str.ofString "frames") = some (.ref a.s.fr) := rfl
    have f3 : (stF a.s).lookup (Str.ofString "dial") = some (.ref a.s.di) := rfl
    have f4 : (stF a.s).lookup (Str.ofString "shelf") = some (.ref a.s.sh) := rfl
    have f5 : (stF a.s).lookup (Str.ofString "holders") = some (.ref a.s.ho) := rfl
    have f6 : (wF a).lookup (Str.ofString "books") = some (.ref a.bk) := rfl
    have f7 : (wF a).lookup (Str.ofString "walks") = some (.ref a.wk) := rfl
    have f8 : (wF a).lookup (Str.ofString "copies") = some (.int 0) := rfl
    have f9 : (wF a).lookup (Str.ofString "spaces") = some (.ref a.sp) := rfl
    have k1 := hL.get n.iw
    have k2 := hL.get n.i_st
    have k3 := hL.get n.i_fr
    have k4 := hL.get n.i_di
    have k5 := hL.get n.i_sh
    have k6 := hL.get n.i_ho
    have k7 := hL.get n.isp
    have k8 := hL.get n.iwk
    have k9 := hL.get n.ibk
    refine ⟨_, (@pss_one _ _ _ (@ps_ret _ _ _ _ (@pe_methD0 _ _ _ _ _ _ _ _ _ _ _ _ _ T.Dial M_Dial_marks (hr.mono (by omega)) passR0 (@pe_fldC _ _ _ _ _ _ _ T.Store T.n_dial (@pe_fldC _ _ _ _ _ _ _ T.World T.n_store (@pv _ 0 _ _ (by rfl) (by first | exact Or.inl rfl | exact Or.inr (Or.inl rfl) | exact Or.inr (Or.inr rfl)) (by decide) (by decide)) (by rfl)) (by rfl)) (by rfl)))), ?_⟩
    walk_at "ge"
    exact ⟨_, _, _, _, _, L, rfl, hL, n.i_di, rfl, n.i_mk, fun r H' hl' => by walk_at "ge"; exact k _ _ hl'⟩
theorem ok_told_shelf (D : Def K mg "told_shelf" s_told_shelf) (B : Blt mg) (T : Txt K mg cP cN c1 c2 c3 c4 c5 c6 c7 c8 cW cT cF cD cS cI cB) (M_Shelf_sheets : MethD P w K mg base 1 cS "sheets" ["self"] (spCopy cS "placed")) : FnD P w K mg base 2 "told_shelf" ["world"] (spTL cW cT cF cD cS cI cB (fun _ p => List.replicate p .non)) := by
  have sc := sc_told_shelf
  refine D.ok sc_told_shelf (fun vs H Q E h => ?_) (fun _ _ _ _ _ _ us hl => match us, hl with | [_], _ => rfl) (fun f cdv A outer s H vs Q E hr h => ?_)
  · obtain ⟨_, _, _, _, _, _, _, _, rfl, _⟩ := h; rfl
  · obtain ⟨b, dx, a, m, p, h, s, L, rfl, hL, n, k⟩ := h
    have f1 : (wF a).lookup (Str.ofString "store") = some (.ref a.st) := rfl
    have f2 : (stF a.s).lookup (Str.ofString "frames") = some (.ref a.s.fr) := rfl
    have f3 : (stF a.s).lookup (Str.ofString "dial") = some (.ref a.s.di) := rfl
    have f4 : (stF a.s).lookup (Str.ofString "shelf") = some (.ref a.s.sh) := rfl
    have f5 : (stF a.s).lookup (Str.ofString "holders") = some (.ref a.s.ho) := rfl
    have f6 : (wF a).lookup (Str.ofString "books") = some (.ref a.bk) := rfl
    have f7 : (wF a).lookup (Str.ofString "walks") = some (.ref a.wk) := rfl
    have f8 : (wF a).lookup (Str.ofString "copies") = some (.int 0) := rfl
    have f9 : (wF a).lookup (Str.ofString "spaces") = some (.ref a.sp) := rfl
    have k1 := hL.get n.iw
    have k2 := hL.get n.i_st
    have k3 := hL.get n.i_fr
    have k4 := hL.get n.i_di
    have k5 := hL.get n.i_sh
    have k6 := hL.get n.i_ho
    have k7 := hL.get n.isp
    have k8 := hL.get n.iwk
    have k9 := hL.get n.ibk
    refine ⟨_, (@pss_one _ _ _ (@ps_ret _ _ _ _ (@pe_methD0 _ _ _ _ _ _ _ _ _ _ _ _ _ T.Shelf M_Shelf_sheets (hr.mono (by omega)) passR0 (@pe_fldC _ _ _ _ _ _ _ T.Store T.n_shelf (@pe_fldC _ _ _ _ _ _ _ T.World T.n_store (@pv _ 0 _ _ (by rfl) (by first | exact Or.inl rfl | exact Or.inr (Or.inl rfl) | exact Or.inr (Or.inr rfl)) (by decide) (by decide)) (by rfl)) (by rfl)) (by rfl)))), ?_⟩
    walk_at "ge"
    exact ⟨_, _, _, _, _, L, rfl, hL, n.i_sh, rfl, n.i_pl, fun r H' hl' => by walk_at "ge"; exact k _ _ hl'⟩
theorem ok_told_pointer (D : Def K mg "told_pointer" s_told_pointer) (B : Blt mg) (T : Txt K mg cP cN c1 c2 c3 c4 c5 c6 c7 c8 cW cT cF cD cS cI cB) (M_Dial_pointer : MethD P w K mg base 1 cD "pointer" ["self"] (spPointer cD)) : FnD P w K mg base 2 "told_pointer" ["world"] (spTI cW cT cF cD cS cI cB fun _ _ => 0) := by
  have sc := sc_told_pointer
  refine D.ok sc_told_pointer (fun vs H Q E h => ?_) (fun _ _ _ _ _ _ us hl => match us, hl with | [_], _ => rfl) (fun f cdv A outer s H vs Q E hr h => ?_)
  · obtain ⟨_, _, _, _, _, _, _, _, rfl, _⟩ := h; rfl
  · obtain ⟨b, dx, a, m, p, h, s, L, rfl, hL, n, k⟩ := h
    have f1 : (wF a).lookup (Str.ofString "store") = some (.ref a.st) := rfl
    have f2 : (stF a.s).lookup (Str.ofString "frames") = some (.ref a.s.fr) := rfl
    have f3 : (stF a.s).lookup (Str.ofString "dial") = some (.ref a.s.di) := rfl
    have f4 : (stF a.s).lookup (Str.ofString "shelf") = some (.ref a.s.sh) := rfl
    have f5 : (stF a.s).lookup (Str.ofString "holders") = some (.ref a.s.ho) := rfl
    have f6 : (wF a).lookup (Str.ofString "books") = some (.ref a.bk) := rfl
    have f7 : (wF a).lookup (Str.ofString "walks") = some (.ref a.wk) := rfl
    have f8 : (wF a).lookup (Str.ofString "copies") = some (.int 0) := rfl
    have f9 : (wF a).lookup (Str.ofString "spaces") = some (.ref a.sp) := rfl
    have k1 := hL.get n.iw
    have k2 := hL.get n.i_st
    have k3 := hL.get n.i_fr
    have k4 := hL.get n.i_di
    have k5 := hL.get n.i_sh
    have k6 := hL.get n.i_ho
    have k7 := hL.get n.isp
    have k8 := hL.get n.iwk
    have k9 := hL.get n.ibk
    refine ⟨_, (@pss_one _ _ _ (@ps_ret _ _ _ _ (@pe_methD0 _ _ _ _ _ _ _ _ _ _ _ _ _ T.Dial M_Dial_pointer (hr.mono (by omega)) passR0 (@pe_fldC _ _ _ _ _ _ _ T.Store T.n_dial (@pe_fldC _ _ _ _ _ _ _ T.World T.n_store (@pv _ 0 _ _ (by rfl) (by first | exact Or.inl rfl | exact Or.inr (Or.inl rfl) | exact Or.inr (Or.inr rfl)) (by decide) (by decide)) (by rfl)) (by rfl)) (by rfl)))), ?_⟩
    walk_at "ge"
    refine ⟨_, _, _, _, rfl, k4, ?_⟩
    walk_at "ge"
    exact k _ [] hL
theorem ok_told_copies (D : Def K mg "told_copies" s_told_copies) (B : Blt mg) (T : Txt K mg cP cN c1 c2 c3 c4 c5 c6 c7 c8 cW cT cF cD cS cI cB) : FnD P w K mg base 1 "told_copies" ["world"] (spTI cW cT cF cD cS cI cB fun _ _ => 0) := by
  have sc := sc_told_copies
  refine D.ok sc_told_copies (fun vs H Q E h => ?_) (fun _ _ _ _ _ _ us hl => match us, hl with | [_], _ => rfl) (fun f cdv A outer s H vs Q E hr h => ?_)
  · obtain ⟨_, _, _, _, _, _, _, _, rfl, _⟩ := h; rfl
  · obtain ⟨b, dx, a, m, p, h, s, L, rfl, hL, n, k⟩ := h
    have f1 : (wF a).lookup (Str.ofString "store") = some (.ref a.st) := rfl
    have f2 : (stF a.s).lookup (Str.ofString "frames") = some (.ref a.s.fr) := rfl
    have f3 : (stF a.s).lookup (Str.ofString "dial") = some (.ref a.s.di) := rfl
    have f4 : (stF a.s).lookup (Str.ofString "shelf") = some (.ref a.s.sh) := rfl
    have f5 : (stF a.s).lookup (Str.ofString "holders") = some (.ref a.s.ho) := rfl
    have f6 : (wF a).lookup (Str.ofString "books") = some (.ref a.bk) := rfl
    have f7 : (wF a).lookup (Str.ofString "walks") = some (.ref a.wk) := rfl
    have f8 : (wF a).lookup (Str.ofString "copies") = some (.int 0) := rfl
    have f9 : (wF a).lookup (Str.ofString "spaces") = some (.ref a.sp) := rfl
    have k1 := hL.get n.iw
    have k2 := hL.get n.i_st
    have k3 := hL.get n.i_fr
    have k4 := hL.get n.i_di
    have k5 := hL.get n.i_sh
    have k6 := hL.get n.i_ho
    have k7 := hL.get n.isp
    have k8 := hL.get n.iwk
    have k9 := hL.get n.ibk
    refine ⟨_, (@pss_one _ _ _ (@ps_ret _ _ _ _ (@pe_fldC _ _ _ _ _ _ _ T.World T.n_copies (@pv _ 0 _ _ (by rfl) (by first | exact Or.inl rfl | exact Or.inr (Or.inl rfl) | exact Or.inr (Or.inr rfl)) (by decide) (by decide)) (by rfl)))), ?_⟩
    walk_at "ge"
    exact k _ [] hL
def spRoomOf (cW cT cF cD cS cI cB : Addr) : Sp := fun vs H Q _ => ∃ (b dx : Addr) (a : WA) (m p h : Nat) (s : Int) (L : Cells), vs = [.ref a.st] ∧ Led H L ∧ NW cW cT cF cD cS cI cB L b dx a m p h s ∧ ∀ H' N, Led H' (N ++ L) → Q (.int ((m : Int) - 1 + p)) H'
theorem ok_room_of (D : Def K mg "room_of" s_room_of) (B : Blt mg) (T : Txt K mg cP cN c1 c2 c3 c4 c5 c6 c7 c8 cW cT cF cD cS cI cB) (M_Frames_things : MethD P w K mg base 1 cF "things" ["self"] (spCopy cF "held")) (M_Shelf_sheets : MethD P w K mg base 1 cS "sheets" ["self"] (spCopy cS "placed")) : FnD P w K mg base 2 "room_of" ["store"] (spRoomOf cW cT cF cD cS cI cB) := by
  have sc := sc_room_of
  refine D.ok sc_room_of (fun vs H Q E h => ?_) (fun _ _ _ _ _ _ us hl => match us, hl with | [_], _ => rfl) (fun f cdv A outer s H vs Q E hr h => ?_)
  · obtain ⟨_, _, _, _, _, _, _, _, rfl, _⟩ := h; rfl
  · obtain ⟨b, dx, a, m, p, h, s, L, rfl, hL, n, k⟩ := h
    have f1 : (wF a).lookup (Str.ofString "store") = some (.ref a.st) := rfl
    have f2 : (stF a.s).lookup (Str.ofString "frames") = some (.ref a.s.fr) := rfl
    have f3 : (stF a.s).lookup (Str.ofString "dial") = some (.ref a.s.di) := rfl
    have f4 : (stF a.s).lookup (Str.ofString "shelf") = some (.ref a.s.sh) := rfl
    have f5 : (stF a.s).lookup (Str.ofString "holders") = some (.ref a.s.ho) := rfl
    have f6 : (wF a).lookup (Str.ofString "books") = some (.ref a.bk) := rfl
    have f7 : (wF a).lookup (Str.ofString "walks") = some (.ref a.wk) := rfl
    have f8 : (wF a).lookup (Str.ofString "copies") = some (.int 0) := rfl
    have f9 : (wF a).lookup (Str.ofString "spaces") = some (.ref a.sp) := rfl
    have k1 := hL.get n.iw
    have k2 := hL.get n.i_st
    have k3 := hL.get n.i_fr
    have k4 := hL.get n.i_di
    have k5 := hL.get n.i_sh
    have k6 := hL.get n.i_ho
    have k7 := hL.get n.isp
    have k8 := hL.get n.iwk
    have k9 := hL.get n.ibk
    refine ⟨_, (@pss_cons _ _ _ _ _ (@ps_set _ _ 1 _ _ _ _ sc.nd rfl (by first | exact Or.inl rfl | exact Or.inr rfl) (@pe_op _ _ _ _ _ _ _ _ op_add (@pe_op _ _ _ _ _ _ _ _ op_sub (@pe_callB _ _ _ _ _ _ _ _ _ call_lenA (by rfl) B.len bt_len (@pa_cons _ _ _ _ _ (@pe_methD0 _ _ _ _ _ _ _ _ _ _ _ _ _ T.Frames M_Frames_things (hr.mono (by omega)) passR0 (@pe_fldC _ _ _ _ _ _ _ T.Store T.n_frames (@pv _ 0 _ _ (by rfl) (by first | exact Or.inl rfl | exact Or.inr (Or.inl rfl) | exact Or.inr (Or.inr rfl)) (by decide) (by decide)) (by rfl)) (by rfl)) (@pa_nil _) (by rfl)) (by decide) (by decide) (by rfl) (by rfl)) (@pe_int _ _ _ _)) (@pe_callB _ _ _ _ _ _ _ _ _ call_lenA (by rfl) B.len bt_len (@pa_cons _ _ _ _ _ (@pe_methD0 _ _ _ _ _ _ _ _ _ _ _ _ _ T.Shelf M_Shelf_sheets (hr.mono (by omega)) passR0 (@pe_fldC _ _ _ _ _ _ _ T.Store T.n_shelf (@pv _ 0 _ _ (by rfl) (by first | exact Or.inl rfl | exact Or.inr (Or.inl rfl) | exact Or.inr (Or.inr rfl)) (by decide) (by decide)) (by rfl)) (by rfl)) (@pa_nil _) (by rfl)) (by decide) (by decide) (by rfl) (by rfl))) (by rfl) (by first | exact .inl rfl | exact .inr rfl | assumption)) (@pss_one _ _ _ (@ps_ret _ _ _ _ (@pe_op _ _ _ _ _ _ _ _ op_sub (@pv _ 1 _ _ (by rfl) (by first | exact Or.inl rfl | exact Or.inr (Or.inl rfl) | exact Or.inr (Or.inr rfl)) (by decide) (by decide)) (@pe_callB _ _ _ _ _ _ _ _ _ call_lenA (by rfl) B.len bt_len (@pa_cons _ _ _ _ _ (@pe_fldC _ _ _ _ _ _ _ T.Store T.n_holders (@pv _ 0 _ _ (by rfl) (by first | exact Or.inl rfl | exact Or.inr (Or.inl rfl) | exact Or.inr (Or.inr rfl)) (by decide) (by decide)) (by rfl)) (@pa_nil _) (by rfl)) (by decide) (by decide) (by rfl) (by rfl)))))), ?_⟩
    refine seqK fun M1 K1 => ?_
    walk_at "ge"
    refine ⟨_, _, _, _, _, L, rfl, hL, n.i_fr, rfl, n.i_hl, fun r H' hl' => ?_⟩
    replace k2 := hl'.get (List.mem_cons_of_mem _ n.i_st)
    replace k5 := hl'.get (List.mem_cons_of_mem _ n.i_sh)
    clear k1 k3 k4 k6 k7 k8 k9
    have k10 := hl'.get List.mem_cons_self
    walk_at "ge"
    refine ⟨_, _, _, _, _, _, rfl, hl', List.mem_cons_of_mem _ n.i_sh, rfl, List.mem_cons_of_mem _ n.i_pl, fun r2 H2 hl2 => ?_⟩
    clear k2 k5 k10
    have k11 := hl2.get List.mem_cons_self
    walk_at "ge"
    refine K1.use ?_
    walk_at "cl"
    clear K1 k11
    have k2 := hl2.get (List.mem_cons_of_mem _ (List.mem_cons_of_mem _ n.i_st))
    have k6 := hl2.get (List.mem_cons_of_mem _ (List.mem_cons_of_mem _ n.i_ho))
    walk_at "ge"
    rw [List.length_replicate, List.length_replicate]
    have := k _ [_, _] hl2
    simpa using this
theorem ok_told_room (D : Def K mg "told_room" s_told_room) (B : Blt mg) (T : Txt K mg cP cN c1 c2 c3 c4 c5 c6 c7 c8 cW cT cF cD cS cI cB) (G_room_of : FnD P w K mg base 2 "room_of" ["store"] (spRoomOf cW cT cF cD cS cI cB)) : FnD P w K mg base 3 "told_room" ["world"] (spTI cW cT cF cD cS cI cB fun m p => (m : Int) - 1 + p) := by
  have sc := sc_told_room
  refine D.ok sc_told_room (fun vs H Q E h => ?_) (fun _ _ _ _ _ _ us hl => match us, hl with | [_], _ => rfl) (fun f cdv A outer s H vs Q E hr h => ?_)
  · obtain ⟨_, _, _, _, _, _, _, _, rfl, _⟩ := h; rfl
  · obtain ⟨b, dx, a, m, p, h, s, L, rfl, hL, n, k⟩ := h
    have f1 : (wF a).lookup (Str.ofString "store") = some (.ref a.st) := rfl
    have f2 : (stF a.s).lookup (Str.ofString "frames") = some (.ref a.s.fr) := rfl
    have f3 : (stF a.s).lookup (Str.ofString "dial") = some (.ref a.s.di) := rfl
    have f4 : (stF a.s).lookup (Str.ofString "shelf") = some (.ref a.s.sh) := rfl
    have f5 : (stF a.s).lookup (Str.ofString "holders") = some (.ref a.s.ho) := rfl
    have f6 : (wF a).lookup (Str.ofString "books") = some (.ref a.bk) := rfl
    have f7 : (wF a).lookup (Str.ofString "walks") = some (.ref a.wk) := rfl
    have f8 : (wF a).lookup (Str.ofString "copies") = some (.int 0) := rfl
    have f9 : (wF a).lookup (Str.ofString "spaces") = some (.ref a.sp) := rfl
    have k1 := hL.get n.iw
    have k2 := hL.get n.i_st
    have k3 := hL.get n.i_fr
    have k4 := hL.get n.i_di
    have k5 := hL.get n.i_sh
    have k6 := hL.get n.i_ho
    have k7 := hL.get n.isp
    have k8 := hL.get n.iwk
    have k9 := hL.get n.ibk
    refine ⟨_, (@pss_one _ _ _ (@ps_ret _ _ _ _ (@pe_callD _ _ _ _ _ _ _ _ _ _ _ G_room_of (hr.mono (by omega)) (by rfl) passR0 (@pa_cons _ _ _ _ _ (@pe_fldC _ _ _ _ _ _ _ T.World T.n_store (@pv _ 0 _ _ (by rfl) (by first | exact Or.inl rfl | exact Or.inr (Or.inl rfl) | exact Or.inr (Or.inr rfl)) (by decide) (by decide)) (by rfl)) (@pa_nil _) (by rfl)) (by decide) (by rfl) (by rfl)))), ?_⟩
    walk_at "ge"
    refine ⟨b, dx, a, m, p, h, s, L, rfl, hL, n, fun H' N hl' => ?_⟩
    walk_at "ge"
    exact k _ N hl'
def spHoldersOf (cW cT cF cD cS cI cB : Addr) : Sp := fun vs H Q _ => ∃ (b dx : Addr) (a : WA) (m p h : Nat) (s : Int) (L : Cells) (x : Int), vs = [.ref a.st, .int x] ∧ Led H L ∧ NW cW cT cF cD cS cI cB L b dx a m p h s ∧ Q (.int 0) H
def spToldHolders (cW cT cF cD cS cI cB : Addr) : Sp := fun vs H Q _ => ∃ (b dx : Addr) (a : WA) (m p h : Nat) (s : Int) (L : Cells) (x : Int), vs = [.ref b, .int x] ∧ Led H L ∧ NW cW cT cF cD cS cI cB L b dx a m p h s ∧ Q (.int 0) H
theorem ok_holders_of (D : Def K mg "holders_of" s_holders_of) (B : Blt mg) (T : Txt K mg cP cN c1 c2 c3 c4 c5 c6 c7 c8 cW cT cF cD cS cI cB) : FnD P w K mg base 1 "holders_of" ["store", "sheet"] (spHoldersOf cW cT cF cD cS cI cB) := by
  have sc := sc_holders_of
  refine D.ok sc_holders_of (fun vs H Q E h => ?_) (fun _ _ _ _ _ _ us hl => match us, hl with | [_, _], _ => rfl) (fun f cdv A outer s H vs Q E hr h => ?_)
  · obtain ⟨_, _, _, _, _, _, _, _, _, rfl, _⟩ := h; rfl
  · obtain ⟨b, dx, a, m, p, h, s, L, x, rfl, hL, n, k⟩ := h
    have hu := unit1 hr
    have f1 : (wF a).lookup (Str.ofString "store") = some (.ref a.st) := rfl
    have f2 : (stF a.s).lookup (Str.ofString "frames") = some (.ref a.s.fr) := rfl
    have f3 : (stF a.s).lookup (Str.ofString "dial") = some (.ref a.s.di) := rfl
    have f4 : (stF a.s).lookup (Str.ofString "shelf") = some (.ref a.s.sh) := rfl
    have f5 : (stF a.s).lookup (Str.ofString "holders") = some (.ref a.s.ho) := rfl
    have f6 : (wF a).lookup (Str.ofString "books") = some (.ref a.bk) := rfl
    have f7 : (wF a).lookup (Str.ofString "walks") = some (.ref a.wk) := rfl
    have f8 : (wF a).lookup (Str.ofString "copies") = some (.int 0) := rfl
    have f9 : (wF a).lookup (Str.ofString "spaces") = some (.ref a.sp) := rfl
    have k1 := hL.get n.iw
    have k2 := hL.get n.i_st
    have k3 := hL.get n.i_fr
    have k4 := hL.get n.i_di
    have k5 := hL.get n.i_sh
    have k6 := hL.get n.i_ho
    have k7 := hL.get n.isp
    have k8 := hL.get n.iwk
    have k9 := hL.get n.ibk
    refine ⟨_, (@pss_one _ _ _ (@ps_ret _ _ _ _ (@pe_dget2 _ _ _ _ _ _ _ _ _ hu (@pe_fldC _ _ _ _ _ _ _ T.Store T.n_holders (@pv _ 0 _ _ (by rfl) (by first | exact Or.inl rfl | exact Or.inr (Or.inl rfl) | exact Or.inr (Or.inr rfl)) (by decide) (by decide)) (by rfl)) (@pv _ 1 _ _ (by rfl) (by first | exact Or.inl rfl | exact Or.inr (Or.inl rfl) | exact Or.inr (Or.inr rfl)) (by decide) (by decide)) (@pe_int _ _ _ _) ⟨rfl, rfl, rfl, rfl⟩))), ?_⟩
    walk_at "ge"
    unfold tDGet2 tFldC tVar tC
    refine ⟨_, rfl, a.st, _, _, _, rfl, k2, f5, a.s.ho, rfl, .inl ⟨_, .inl k6⟩, _, rfl, _, DGet.k (k := .inl x) k6, ?_⟩
    rw [show (valV ([] : List (Key × V)) (.inl x)).getD (V.int 0) = V.int 0 from rfl]
    walk_at "ge"
    exact k
theorem ok_told_holders (D : Def K mg "told_holders" s_told_holders) (B : Blt mg) (T : Txt K mg cP cN c1 c2 c3 c4 c5 c6 c7 c8 cW cT cF cD cS cI cB) (G_holders_of : FnD P w K mg base 1 "holders_of" ["store", "sheet"] (spHoldersOf cW cT cF cD cS cI cB)) : FnD P w K mg base 2 "told_holders" ["world", "sheet"] (spToldHolders cW cT cF cD cS cI cB) := by
  have sc := sc_told_holders
  refine D.ok sc_told_holders (fun vs H Q E h => ?_) (fun _ _ _ _ _ _ us hl => match us, hl with | [_, _], _ => rfl) (fun f cdv A outer s H vs Q E hr h => ?_)
  · obtain ⟨_, _, _, _, _, _, _, _, _, rfl, _⟩ := h; rfl
  · obtain ⟨b, dx, a, m, p, h, s, L, x, rfl, hL, n, k⟩ := h
    have hu := unit1 hr
    have f1 : (wF a).lookup (Str.ofString "store") = some (.ref a.st) := rfl
    have f2 : (stF a.s).lookup (Str.ofString "frames") = some (.ref a.s.fr) := rfl
    have f3 : (stF a.s).lookup (Str.ofString "dial") = some (.ref a.s.di) := rfl
    have f4 : (stF a.s).lookup (Str.ofString "shelf") = some (.ref a.s.sh) := rfl
    have f5 : (stF a.s).lookup (Str.ofString "holders") = some (.ref a.s.ho) := rfl
    have f6 : (wF a).lookup (Str.ofString "books") = some (.ref a.bk) := rfl
    have f7 : (wF a).lookup (Str.ofString "walks") = some (.ref a.wk) := rfl
    have f8 : (wF a).lookup (Str.ofString "copies") = some (.int 0) := rfl
    have f9 : (wF a).lookup (Str.ofString "spaces") = some (.ref a.sp) := rfl
    have k1 := hL.get n.iw
    have k2 := hL.get n.i_st
    have k3 := hL.get n.i_fr
    have k4 := hL.get n.i_di
    have k5 := hL.get n.i_sh
    have k6 := hL.get n.i_ho
    have k7 := hL.get n.isp
    have k8 := hL.get n.iwk
    have k9 := hL.get n.ibk
    refine ⟨_, (@pss_one _ _ _ (@ps_ret _ _ _ _ (@pe_callD _ _ _ _ _ _ _ _ _ _ _ G_holders_of (hr.mono (by omega)) (by rfl) passR0 (@pa_cons _ _ _ _ _ (@pe_fldC _ _ _ _ _ _ _ T.World T.n_store (@pv _ 0 _ _ (by rfl) (by first | exact Or.inl rfl | exact Or.inr (Or.inl rfl) | exact Or.inr (Or.inr rfl)) (by decide) (by decide)) (by rfl)) (@pa_cons _ _ _ _ _ (@pv _ 1 _ _ (by rfl) (by first | exact Or.inl rfl | exact Or.inr (Or.inl rfl) | exact Or.inr (Or.inr rfl)) (by decide) (by decide)) (@pa_nil _) (by rfl)) (by rfl)) (by decide) (by rfl) (by rfl)))), ?_⟩
    walk_at "ge"
    refine ⟨b, dx, a, m, p, h, s, L, x, rfl, hL, n, ?_⟩
    walk_at "ge"
    exact k
def spHandOf (cW cT cF cD cS cI cB cN : Addr) : Sp := fun vs H Q E => ∃ (b dx : Addr) (a : WA) (m p h : Nat) (s : Int) (L : Cells) (x : V), vs = [.ref b, x] ∧ Led H L ∧ NW cW cT cF cD cS cI cB L b dx a m p h s ∧ Thg L x ∧ (∀ j : Nat, x = .int j → j < h → Q x H) ∧ (¬ InR x 0 ((h : Int) - 1) → E (.ref cN) none H)
def spToldBook (cW cT cF cD cS cI cB cN : Addr) : Sp := fun vs H Q E => ∃ (b dx : Addr) (a : WA) (m p h : Nat) (s : Int) (L : Cells) (x : V), vs = [.ref b, x] ∧ Led H L ∧ NW cW cT cF cD cS cI cB L b dx a m p h s ∧ Thg L x ∧ (∀ j : Nat, x = .int j → j < h → ∀ r H', Led H' ((r, .lst []) :: L) → Q (.ref r) H') ∧ (¬ InR x 0 ((h : Int) - 1) → E (.ref cN) none H)
def spToldWalks (cW cT cF cD cS cI cB cN : Addr) : Sp := fun vs H Q E => ∃ (b dx : Addr) (a : WA) (m p h : Nat) (s : Int) (L : Cells) (x : V), vs = [.ref b, x] ∧ Led H L ∧ NW cW cT cF cD cS cI cB L b dx a m p h s ∧ Thg L x ∧ (∀ j : Nat, x = .int j → j < h → Q (.int 0) H) ∧ (¬ InR x 0 ((h : Int) - 1) → E (.ref cN) none H)
theorem ok_hand_of (D : Def K mg "hand_of" s_hand_of) (B : Blt mg) (T : Txt K mg cP cN c1 c2 c3 c4 c5 c6 c7 c8 cW cT cF cD cS cI cB) (G_number : FnD P w K mg base 2 "number" ["thing", "low", "high"] (spNumber cN)) : FnD P w K mg base 3 "hand_of" ["world", "hand"] (spHandOf cW cT cF cD cS cI cB cN) := by
  have sc := sc_hand_of
  refine D.okR sc_hand_of (fun vs H Q E h => ?_) (fun _ _ _ _ _ _ us hl => match us, hl with | [_, _], _ => rfl) (fun f cdv A outer s H vs Q E hr h => ?_)
  · obtain ⟨_, _, _, _, _, _, _, _, _, rfl, _⟩ := h; rfl
  · obtain ⟨b, dx, a, m, p, h, s, L, x, rfl, hL, n, ⟨tx, hx⟩, kQ, kE⟩ := h
    have f1 : (wF a).lookup (Str.ofString "store") = some (.ref a.st) := rfl
    have f2 : (stF a.s).lookup (Str.ofString "frames") = some (.ref a.s.fr) := rfl
    have f3 : (stF a.s).lookup (Str.ofString "dial") = some (.ref a.s.di) := rfl
    have f4 : (stF a.s).lookup (Str.ofString "shelf") = some (.ref a.s.sh) := rfl
    have f5 : (stF a.s).lookup (Str.ofString "holders") = some (.ref a.s.ho) := rfl
    have f6 : (wF a).lookup (Str.ofString "books") = some (.ref a.bk) := rfl
    have f7 : (wF a).lookup (Str.ofString "walks") = some (.ref a.wk) := rfl
    have f8 : (wF a).lookup (Str.ofString "copies") = some (.int 0) := rfl
    have f9 : (wF a).lookup (Str.ofString "spaces") = some (.ref a.sp) := rfl
    have k1 := hL.get n.iw
    have k2 := hL.get n.i_st
    have k3 := hL.get n.i_fr
    have k4 := hL.get n.i_di
    have k5 := hL.get n.i_sh
    have k6 := hL.get n.i_ho
    have k7 := hL.get n.isp
    have k8 := hL.get n.iwk
    have k9 := hL.get n.ibk
    refine ⟨_, (@pss_one _ _ _ (@ps_ret _ _ _ _ (@pe_callD _ _ _ _ _ _ _ _ _ _ _ G_number (hr.mono (by omega)) (by rfl) passR (@pa_cons _ _ _ _ _ (@pv _ 1 _ _ (by rfl) (by first | exact Or.inl rfl | exact Or.inr (Or.inl rfl) | exact Or.inr (Or.inr rfl)) (by decide) (by decide)) (@pa_cons _ _ _ _ _ (@pe_int _ _ _ _) (@pa_cons _ _ _ _ _ (@pe_op _ _ _ _ _ _ _ _ op_sub (@pe_callB _ _ _ _ _ _ _ _ _ call_lenA (by rfl) B.len bt_len (@pa_cons _ _ _ _ _ (@pe_fldC _ _ _ _ _ _ _ T.World T.n_books (@pv _ 0 _ _ (by rfl) (by first | exact Or.inl rfl | exact Or.inr (Or.inl rfl) | exact Or.inr (Or.inr rfl)) (by decide) (by decide)) (by rfl)) (@pa_nil _) (by rfl)) (by decide) (by decide) (by rfl) (by rfl)) (@pe_int _ _ _ _)) (@pa_nil _) (by rfl)) (by rfl)) (by rfl)) (by decide) (by rfl) (by rfl)))), ?_⟩
    walk_at "ge"
    rw [List.length_map, n.hbs]
    refine ⟨x, tx, 0, _, rfl, hx _ hL, fun j e j0 j1 => ?_, fun hno => kE fun z => ?_⟩
    · walk_at "ge"
      subst e
      obtain ⟨i, rfl⟩ := Int.eq_ofNat_of_zero_le j0
      exact kQ i rfl (by omega)
    · obtain ⟨y, e, y0, y1⟩ := z
      exact hno y e y0 y1
theorem ok_told_book (D : Def K mg "told_book" s_told_book) (B : Blt mg) (T : Txt K mg cP cN c1 c2 c3 c4 c5 c6 c7 c8 cW cT cF cD cS cI cB) (G_hand_of : FnD P w K mg base 3 "hand_of" ["world", "hand"] (spHandOf cW cT cF cD cS cI cB cN)) (M_Book_ways : MethD P w K mg base 1 cB "ways" ["self"] (spCopy cB "kept")) : FnD P w K mg base 4 "told_book" ["world", "hand"] (spToldBook cW cT cF cD cS cI cB cN) := by
  have sc := sc_told_book
  refine D.okR sc_told_book (fun vs H Q E h => ?_) (fun _ _ _ _ _ _ us hl => match us, hl with | [_, _], _ => rfl) (fun f cdv A outer s H vs Q E hr h => ?_)
  · obtain ⟨_, _, _, _, _, _, _, _, _, rfl, _⟩ := h; rfl
  · obtain ⟨b, dx, a, m, p, h, s, L, x, rfl, hL, n, ⟨tx, hx⟩, kQ, kE⟩ := h
    have f1 : (wF a).lookup (Str.ofString "store") = some (.ref a.st) := rfl
    have f2 : (stF a.s).lookup (Str.ofString "frames") = some (.ref a.s.fr) := rfl
    have f3 : (stF a.s).lookup (Str.ofString "dial") = some (.ref a.s.di) := rfl
    have f4 : (stF a.s).lookup (Str.ofString "shelf") = some (.ref a.s.sh) := rfl
    have f5 : (stF a.s).lookup (Str.ofString "holders") = some (.ref a.s.ho) := rfl
    have f6 : (wF a).lookup (Str.ofString "books") = some (.ref a.bk) := rfl
    have f7 : (wF a).lookup (Str.ofString "walks") = some (.ref a.wk) := rfl
    have f8 : (wF a).lookup (Str.ofString "copies") = some (.int 0) := rfl
    have f9 : (wF a).lookup (Str.ofString "spaces") = some (.ref a.sp) := rfl
    have k1 := hL.get n.iw
    have k2 := hL.get n.i_st
    have k3 := hL.get n.i_fr
    have k4 := hL.get n.i_di
    have k5 := hL.get n.i_sh
    have k6 := hL.get n.i_ho
    have k7 := hL.get n.isp
    have k8 := hL.get n.iwk
    have k9 := hL.get n.ibk
    refine ⟨_, (@pss_one _ _ _ (@ps_ret _ _ _ _ (@pe_methD0 _ _ _ _ _ _ _ _ _ _ _ _ _ T.Book M_Book_ways (hr.mono (by omega)) passR0 (@pe_ix _ _ _ _ _ _ _ ix_any (@pe_fldC _ _ _ _ _ _ _ T.World T.n_books (@pv _ 0 _ _ (by rfl) (by first | exact Or.inl rfl | exact Or.inr (Or.inl rfl) | exact Or.inr (Or.inr rfl)) (by decide) (by decide)) (by rfl)) (@pe_callD _ _ _ _ _ _ _ _ _ _ _ G_hand_of (hr.mono (by omega)) (by rfl) passR (@pa_cons _ _ _ _ _ (@pv _ 0 _ _ (by rfl) (by first | exact Or.inl rfl | exact Or.inr (Or.inl rfl) | exact Or.inr (Or.inr rfl)) (by decide) (by decide)) (@pa_cons _ _ _ _ _ (@pv _ 1 _ _ (by rfl) (by first | exact Or.inl rfl | exact Or.inr (Or.inl rfl) | exact Or.inr (Or.inr rfl)) (by decide) (by decide)) (@pa_nil _) (by rfl)) (by rfl)) (by decide) (by rfl) (by rfl)) (fun _ _ => rfl)) (by rfl)))), ?_⟩
    walk_at "ge"
    refine ⟨b, dx, a, m, p, h, s, L, x, rfl, hL, n, ⟨tx, hx⟩, fun j e j1 => ?_, kE⟩
    subst e
    have hj : j < a.bs.length := by rw [n.hbs]; exact j1
    have hat : atI (a.bs.map fun x => V.ref x.1) (j : Int) = some (.ref (a.bs[j]).1) := atI_nat (by rw [List.getElem?_map, List.getElem?_eq_getElem hj]; rfl)
    have ib := n.ibs _ (List.getElem_mem hj)
    generalize a.bs[j] = y at hat ib
    have k10 := hL.get ib.1
    walk_at "ge"
    refine ⟨_, _, _, _, _, L, rfl, hL, ib.1, rfl, ib.2, fun r H' hl' => ?_⟩
    walk_at "ge"
    exact kQ j rfl j1 _ _ hl'
theorem ok_told_walks (D : Def K mg "told_walks" s_told_walks) (B : Blt mg) (T : Txt K mg cP cN c1 c2 c3 c4 c5 c6 c7 c8 cW cT cF cD cS cI cB) (G_hand_of : FnD P w K mg base 3 "hand_of" ["world", "hand"] (spHandOf cW cT cF cD cS cI cB cN)) : FnD P w K mg base 4 "told_walks" ["world", "hand"] (spToldWalks cW cT cF cD cS cI cB cN) := by
  have sc := sc_told_walks
  refine D.okR sc_told_walks (fun vs H Q E h => ?_) (fun _ _ _ _ _ _ us hl => match us, hl with | [_, _], _ => rfl) (fun f cdv A outer s H vs Q E hr h => ?_)
  · obtain ⟨_, _, _, _, _, _, _, _, _, rfl, _⟩ := h; rfl
  · obtain ⟨b, dx, a, m, p, h, s, L, x, rfl, hL, n, ⟨tx, hx⟩, kQ, kE⟩ := h
    have f1 : (wF a).lookup (Str.ofString "store") = some (.ref a.st) := rfl
    have f2 : (stF a.s).lookup (Str.ofString "frames") = some (.ref a.s.fr) := rfl
    have f3 : (stF a.s).lookup (Str.ofString "dial") = some (.ref a.s.di) := rfl
    have f4 : (stF a.s).lookup (Str.ofString "shelf") = some (.ref a.s.sh) := rfl
    have f5 : (stF a.s).lookup (Str.ofString "holders") = some (.ref a.s.ho) := rfl
    have f6 : (wF a).lookup (Str.ofString "books") = some (.ref a.bk) := rfl
    have f7 : (wF a).lookup (Str.ofString "walks") = some (.ref a.wk) := rfl
    have f8 : (wF a).lookup (Str.ofString "copies") = some (.int 0) := rfl
    have f9 : (wF a).lookup (Str.ofString "spaces") = some (.ref a.sp) := rfl
    have k1 := hL.get n.iw
    have k2 := hL.get n.i_st
    have k3 := hL.get n.i_fr
    have k4 := hL.get n.i_di
    have k5 := hL.get n.i_sh
    have k6 := hL.get n.i_ho
    have k7 := hL.get n.isp
    have k8 := hL.get n.iwk
    have k9 := hL.get n.ibk
    refine ⟨_, (@pss_one _ _ _ (@ps_ret _ _ _ _ (@pe_ix _ _ _ _ _ _ _ ix_any (@pe_fldC _ _ _ _ _ _ _ T.World T.n_walks (@pv _ 0 _ _ (by rfl) (by first | exact Or.inl rfl | exact Or.inr (Or.inl rfl) | exact Or.inr (Or.inr rfl)) (by decide) (by decide)) (by rfl)) (@pe_callD _ _ _ _ _ _ _ _ _ _ _ G_hand_of (hr.mono (by omega)) (by rfl) passR (@pa_cons _ _ _ _ _ (@pv _ 0 _ _ (by rfl) (by first | exact Or.inl rfl | exact Or.inr (Or.inl rfl) | exact Or.inr (Or.inr rfl)) (by decide) (by decide)) (@pa_cons _ _ _ _ _ (@pv _ 1 _ _ (by rfl) (by first | exact Or.inl rfl | exact Or.inr (Or.inl rfl) | exact Or.inr (Or.inr rfl)) (by decide) (by decide)) (@pa_nil _) (by rfl)) (by rfl)) (by decide) (by rfl) (by rfl)) (fun _ _ => rfl)))), ?_⟩
    walk_at "ge"
    refine ⟨b, dx, a, m, p, h, s, L, x, rfl, hL, n, ⟨tx, hx⟩, fun j e j1 => ?_, kE⟩
    subst e
    have hat : atI (List.replicate h (V.int 0)) (j : Int) = some (.int 0) := atI_nat (by rw [List.getElem?_replicate, if_pos j1])
    walk_at "ge"
    exact kQ j rfl j1
end

section
variable {P : Program} {w : World} {K : PySem.W.Frag} {mg : Str → Option Value} {base : Heap} {cP cN c1 c2 c3 c4 c5 c6 c7 c8 cW cT cF cD cS cI cB : Addr}
def spEdged : Sp := fun vs H Q _ => ∃ c lo hi : Int, vs = [.int c, .int lo, .int hi] ∧ lo ≤ hi ∧ ∀ n : Int, lo ≤ n → n ≤ hi → Q (.int n) H
theorem ok_l_edged (D : Def K mg "_law_edged" s_l_edged) (B : Blt mg) (T : Txt K mg cP cN c1 c2 c3 c4 c5 c6 c7 c8 cW cT cF cD cS cI cB) : FnD P w K mg base 1 "_law_edged" ["_law_cell", "_law_low", "_law_high"] (spEdged) := by
  have sc := sc_l_edged
  refine D.ok sc_l_edged (fun vs H Q E h => ?_) (fun _ _ _ _ _ _ us hl => match us, hl with | [_, _, _], _ => rfl) (fun f cdv A outer s H vs Q E hr h => ?_)
  · obtain ⟨_, _, _, rfl, _⟩ := h; rfl
  · obtain ⟨c, lo, hi, rfl, hlh, k⟩ := h
    refine ⟨_, (@pss_cons _ _ _ _ _ (@ps_if _ _ _ _ _ _ _ _ (@pt_cmpR _ _ _ _ _ _ _ _ op_eq (@pe_op _ _ _ _ _ _ _ _ op_mod (@pv _ 0 _ _ (by rfl) (by first | exact Or.inl rfl | exact Or.inr (Or.inl rfl) | exact Or.inr (Or.inr rfl)) (by decide) (by decide)) (@pe_int _ _ _ _)) (@pe_int _ _ _ _) (nomark _)) (@pss_one _ _ _ (@ps_ret _ _ _ _ (@pv _ 1 _ _ (by rfl) (by first | exact Or.inl rfl | exact Or.inr (Or.inl rfl) | exact Or.inr (Or.inr rfl)) (by decide) (by decide)))) (@pss_nil _)) (@pss_cons _ _ _ _ _ (@ps_if _ _ _ _ _ _ _ _ (@pt_cmpR _ _ _ _ _ _ _ _ op_eq (@pe_op _ _ _ _ _ _ _ _ op_mod (@pv _ 0 _ _ (by rfl) (by first | exact Or.inl rfl | exact Or.inr (Or.inl rfl) | exact Or.inr (Or.inr rfl)) (by decide) (by decide)) (@pe_int _ _ _ _)) (@pe_int _ _ _ _) (nomark _)) (@pss_one _ _ _ (@ps_ret _ _ _ _ (@pv _ 2 _ _ (by rfl) (by first | exact Or.inl rfl | exact Or.inr (Or.inl rfl) | exact Or.inr (Or.inr rfl)) (by decide) (by decide)))) (@pss_nil _)) (@pss_one _ _ _ (@ps_ret _ _ _ _ (@pe_op _ _ _ _ _ _ _ _ op_add (@pv _ 1 _ _ (by rfl) (by first | exact Or.inl rfl | exact Or.inr (Or.inl rfl) | exact Or.inr (Or.inr rfl)) (by decide) (by decide)) (@pe_op _ _ _ _ _ _ _ _ op_mod (@pe_op _ _ _ _ _ _ _ _ op_fdiv (@pv _ 0 _ _ (by rfl) (by first | exact Or.inl rfl | exact Or.inr (Or.inl rfl) | exact Or.inr (Or.inr rfl)) (by decide) (by decide)) (@pe_int _ _ _ _)) (@pe_op _ _ _ _ _ _ _ _ op_add (@pe_op _ _ _ _ _ _ _ _ op_sub (@pv _ 2 _ _ (by rfl) (by first | exact Or.inl rfl | exact Or.inr (Or.inl rfl) | exact Or.inr (Or.inr rfl)) (by decide) (by decide)) (@pv _ 1 _ _ (by rfl) (by first | exact Or.inl rfl | exact Or.inr (Or.inl rfl) | exact Or.inr (Or.inr rfl)) (by decide) (by decide))) (@pe_int _ _ _ _)))))))), ?_⟩
    have hm0 : 0 ≤ c / 5 % (hi - lo + 1) := Int.emod_nonneg _ (by omega)
    have hm1 : c / 5 % (hi - lo + 1) < hi - lo + 1 := Int.emod_lt_of_pos _ (by omega)
    walk_at "ge"
    · exact k _ (Int.le_refl _) hlh
    · exact k _ hlh (Int.le_refl _)
    · exact k _ (by omega) (by omega)
def spBad : Sp := fun vs H Q _ => ∃ (c lo hi : Int) (L : Cells), vs = [.int c, .int lo, .int hi] ∧ (lo = 0 ∨ lo = 1) ∧ Led H L ∧ ∀ x N H', Led H' (N ++ L) → Thg N x → ¬ InR x lo hi → Q x H'
theorem ok_l_bad (D : Def K mg "_law_bad" s_l_bad) (B : Blt mg) (T : Txt K mg cP cN c1 c2 c3 c4 c5 c6 c7 c8 cW cT cF cD cS cI cB) : FnD P w K mg base 1 "_law_bad" ["_law_cell", "_law_low", "_law_high"] (spBad) := by
  have sc := sc_l_bad
  refine D.ok sc_l_bad (fun vs H Q E h => ?_) (fun _ _ _ _ _ _ us hl => match us, hl with | [_, _, _], _ => rfl) (fun f cdv A outer s H vs Q E hr h => ?_)
  · obtain ⟨_, _, _, _, rfl, _⟩ := h; rfl
  · obtain ⟨c, lo, hi, L, rfl, hlo, hL, k⟩ := h
    have kI : ∀ n : Int, (n < lo ∨ hi < n) → Q (.int n) H := fun n hn => k _ [] H hL .int fun ⟨m, e, a, b⟩ => by cases e; omega
    refine ⟨_, (@pss_cons _ _ _ _ _ (@ps_set _ _ 3 _ _ _ _ sc.nd rfl (by first | exact Or.inl rfl | exact Or.inr rfl) (@pe_op _ _ _ _ _ _ _ _ op_mod (@pv _ 0 _ _ (by rfl) (by first | exact Or.inl rfl | exact Or.inr (Or.inl rfl) | exact Or.inr (Or.inr rfl)) (by decide) (by decide)) (@pe_int _ _ _ _)) (by rfl) (by first | exact .inl rfl | exact .inr rfl | assumption)) (@pss_cons _ _ _ _ _ (@ps_set _ _ 4 _ _ _ _ sc.nd rfl (by first | exact Or.inl rfl | exact Or.inr rfl) (@pe_op _ _ _ _ _ _ _ _ op_mod (@pe_op _ _ _ _ _ _ _ _ op_fdiv (@pv _ 0 _ _ (by rfl) (by first | exact Or.inl rfl | exact Or.inr (Or.inl rfl) | exact Or.inr (Or.inr rfl)) (by decide) (by decide)) (@pe_int _ _ _ _)) (@pe_op _ _ _ _ _ _ _ _ op_pow (@pe_int _ _ _ _) (@pe_int _ _ _ _))) (by rfl) (by first | exact .inl rfl | exact .inr rfl | assumption)) (@pss_cons _ _ _ _ _ (@ps_if _ _ _ _ _ _ _ _ (@pt_cmpR _ _ _ _ _ _ _ _ op_eq (@pv _ 3 _ _ (by rfl) (by first | exact Or.inl rfl | exact Or.inr (Or.inl rfl) | exact Or.inr (Or.inr rfl)) (by decide) (by decide)) (@pe_int _ _ _ _) (nomark _)) (@pss_one _ _ _ (@ps_ret _ _ _ _ (@pe_op _ _ _ _ _ _ _ _ op_sub (@pv _ 1 _ _ (by rfl) (by first | exact Or.inl rfl | exact Or.inr (Or.inl rfl) | exact Or.inr (Or.inr rfl)) (by decide) (by decide)) (@pe_int _ _ _ _)))) (@pss_nil _)) (@pss_cons _ _ _ _ _ (@ps_if _ _ _ _ _ _ _ _ (@pt_cmpR _ _ _ _ _ _ _ _ op_eq (@pv _ 3 _ _ (by rfl) (by first | exact Or.inl rfl | exact Or.inr (Or.inl rfl) | exact Or.inr (Or.inr rfl)) (by decide) (by decide)) (@pe_int _ _ _ _) (nomark _)) (@pss_one _ _ _ (@ps_ret _ _ _ _ (@pe_op _ _ _ _ _ _ _ _ op_add (@pv _ 2 _ _ (by rfl) (by first | exact Or.inl rfl | exact Or.inr (Or.inl rfl) | exact Or.inr (Or.inr rfl)) (by decide) (by decide)) (@pe_int _ _ _ _)))) (@pss_nil _)) (@pss_cons _ _ _ _ _ (@ps_if _ _ _ _ _ _ _ _ (@pt_cmpR _ _ _ _ _ _ _ _ op_eq (@pv _ 3 _ _ (by rfl) (by first | exact Or.inl rfl | exact Or.inr (Or.inl rfl) | exact Or.inr (Or.inr rfl)) (by decide) (by decide)) (@pe_int _ _ _ _) (nomark _)) (@pss_one _ _ _ (@ps_ret _ _ _ _ (@pe_op _ _ _ _ _ _ _ _ op_sub (@pe_op _ _ _ _ _ _ _ _ op_sub (@pv _ 1 _ _ (by rfl) (by first | exact Or.inl rfl | exact Or.inr (Or.inl rfl) | exact Or.inr (Or.inr rfl)) (by decide) (by decide)) (@pe_int _ _ _ _)) (@pv _ 4 _ _ (by rfl) (by first | exact Or.inl rfl | exact Or.inr (Or.inl rfl) | exact Or.inr (Or.inr rfl)) (by decide) (by decide))))) (@pss_nil _)) (@pss_cons _ _ _ _ _ (@ps_if _ _ _ _ _ _ _ _ (@pt_cmpR _ _ _ _ _ _ _ _ op_eq (@pv _ 3 _ _ (by rfl) (by first | exact Or.inl rfl | exact Or.inr (Or.inl rfl) | exact Or.inr (Or.inr rfl)) (by decide) (by decide)) (@pe_int _ _ _ _) (nomark _)) (@pss_one _ _ _ (@ps_ret _ _ _ _ (@pe_op _ _ _ _ _ _ _ _ op_add (@pe_op _ _ _ _ _ _ _ _ op_add (@pv _ 2 _ _ (by rfl) (by first | exact Or.inl rfl | exact Or.inr (Or.inl rfl) | exact Or.inr (Or.inr rfl)) (by decide) (by decide)) (@pe_int _ _ _ _)) (@pv _ 4 _ _ (by rfl) (by first | exact Or.inl rfl | exact Or.inr (Or.inl rfl) | exact Or.inr (Or.inr rfl)) (by decide) (by decide))))) (@pss_nil _)) (@pss_one _ _ _ (@ps_ret _ _ _ _ (@pe_ix _ _ _ _ _ _ _ ix_any (@pe_lst _ _ _ _ (@pa_cons _ _ _ _ _ (@pe_bl _ _ _ _) (@pa_cons _ _ _ _ _ (@pe_callTy _ _ _ _ _ _ _ _ _ call_str_int (by rfl) B.str bt_str (@pa_cons _ _ _ _ _ (@pv _ 1 _ _ (by rfl) (by first | exact Or.inl rfl | exact Or.inr (Or.inl rfl) | exact Or.inr (Or.inr rfl)) (by decide) (by decide)) (@pa_nil _) (by rfl)) (by decide) (by decide) (by rfl) (by rfl)) (@pa_cons _ _ _ _ _ (@pe_non _ _ _) (@pa_cons _ _ _ _ _ (@pe_lst _ _ _ _ (@pa_cons _ _ _ _ _ (@pv _ 1 _ _ (by rfl) (by first | exact Or.inl rfl | exact Or.inr (Or.inl rfl) | exact Or.inr (Or.inr rfl)) (by decide) (by decide)) (@pa_nil _) (by rfl))) (@pa_cons _ _ _ _ _ (@pe_tup _ _ _ _ _ (@pa_cons _ _ _ _ _ (@pv _ 1 _ _ (by rfl) (by first | exact Or.inl rfl | exact Or.inr (Or.inl rfl) | exact Or.inr (Or.inr rfl)) (by decide) (by decide)) (@pa_nil _) (by rfl))) (@pa_nil _) (by rfl)) (by rfl)) (by rfl)) (by rfl)) (by rfl))) (@pe_op _ _ _ _ _ _ _ _ op_sub (@pv _ 3 _ _ (by rfl) (by first | exact Or.inl rfl | exact Or.inr (Or.inl rfl) | exact Or.inr (Or.inr rfl)) (by decide) (by decide)) (@pe_int _ _ _ _)) (fun _ _ => rfl)))))))))), ?_⟩
    refine seqK fun M1 K1 => ?_
    walk_at "ge"
    obtain ⟨way, hw⟩ : ∃ z : Int, c % 9 = z := ⟨_, rfl⟩
    have w0 : 0 ≤ way := by omega
    have w9 : way < 9 := by omega
    rw [hw]
    refine K1.use ?_
    walk_at "cl"
    clear K1 hw
    refine seqK fun M1 K1 => ?_
    walk_at "ge"
    obtain ⟨far, hf⟩ : ∃ z : Int, c / 9 % 10 ^ 60 = z := ⟨_, rfl⟩
    have f0 : 0 ≤ far := by rw [← hf]; exact Int.emod_nonneg _ (by decide)
    (first | rw [hf] | (rw [show c / 9 % 1000000000000000000000000000000000000000000000000000000000000 = far from hf]))
    refine K1.use ?_
    walk_at "cl"
    clear K1 hf
    walk_at "ge"
    · exact kI _ (by omega)
    · exact kI _ (by omega)
    · exact kI _ (by omega)
    · exact kI _ (by omega)
    refine ⟨_, rfl, by rcases hlo with rfl | rfl <;> decide, ?_⟩
    walk_at "ge"
    rename Led _ _ => hl
    rcases (by omega : way = 4 ∨ way = 5 ∨ way = 6 ∨ way = 7 ∨ way = 8) with e | e | e | e | e <;> subst e
    · refine ixLH (hl.get List.mem_cons_self) (show atI _ (4 - 4) = _ from atI_0) ?_
      walk_at "ge"
      exact k _ [_, _, _] _ hl ⟨_, fun _ _ => tyB⟩ fun ⟨m, e, _⟩ => nomatch e
    · refine ixLH (hl.get List.mem_cons_self) (show atI _ (5 - 4) = _ from atI_1) ?_
      walk_at "ge"
      exact k _ [_, _, _] _ hl ⟨_, fun _ _ => tyS⟩ fun ⟨m, e, _⟩ => nomatch e
    · refine ixLH (hl.get List.mem_cons_self) (show atI _ (6 - 4) = _ from atI_2) ?_
      walk_at "ge"
      exact k _ [_, _, _] _ hl ⟨_, fun _ _ => tyO⟩ fun ⟨m, e, _⟩ => nomatch e
    · refine ixLH (hl.get List.mem_cons_self) (show atI _ (7 - 4) = _ from atI_3) ?_
      walk_at "ge"
      exact k _ [_, _, _] _ hl ⟨_, fun H h => tyL (h.get (List.mem_cons_of_mem _ (List.mem_cons_of_mem _ List.mem_cons_self)))⟩ fun ⟨m, e, _⟩ => nomatch e
    · refine ixLH (hl.get List.mem_cons_self) (show atI _ (8 - 4) = _ from atI_4) ?_
      walk_at "ge"
      exact k _ [_, _, _] _ hl ⟨_, fun H h => tyT (h.get (List.mem_cons_of_mem _ List.mem_cons_self))⟩ fun ⟨m, e, _⟩ => nomatch e
def spIs : Sp := fun vs H Q _ => ∃ n m : Int, vs = [.int n, .int m] ∧ Q (.bl (decide (n = m))) H
theorem ok_l_is (D : Def K mg "_law_is" s_l_is) (B : Blt mg) (T : Txt K mg cP cN c1 c2 c3 c4 c5 c6 c7 c8 cW cT cF cD cS cI cB) : FnD P w K mg base 1 "_law_is" ["_law_found", "_law_due"] (spIs) := by
  have sc := sc_l_is
  refine D.ok sc_l_is (fun vs H Q E h => ?_) (fun _ _ _ _ _ _ us hl => match us, hl with | [_, _], _ => rfl) (fun f cdv A outer s H vs Q E hr h => ?_)
  · obtain ⟨_, _, rfl, _⟩ := h; rfl
  · obtain ⟨n, m, rfl, k⟩ := h
    refine ⟨_, (@pss_one _ _ _ (@ps_ret _ _ _ _ (@pe_and _ _ _ _ _ _ _ (@pe_callB _ _ _ _ _ _ _ _ _ call_isiN (by rfl) B.isinstance bt_isinstance (@pa_cons _ _ _ _ _ (@pv _ 0 _ _ (by rfl) (by first | exact Or.inl rfl | exact Or.inr (Or.inl rfl) | exact Or.inr (Or.inr rfl)) (by decide) (by decide)) (@pa_cons _ _ _ _ _ (@pe_bltn _ _ (.ty "int") _ _ (by rfl) B.int bt_int rfl (by decide) (by decide)) (@pa_nil _) (by rfl)) (by rfl)) (by decide) (by decide) (by rfl) (by rfl)) (@pe_and _ _ _ _ _ _ _ (@pe_not _ _ _ _ (@pe_callB _ _ _ _ _ _ _ _ _ call_isiN (by rfl) B.isinstance bt_isinstance (@pa_cons _ _ _ _ _ (@pv _ 0 _ _ (by rfl) (by first | exact Or.inl rfl | exact Or.inr (Or.inl rfl) | exact Or.inr (Or.inr rfl)) (by decide) (by decide)) (@pa_cons _ _ _ _ _ (@pe_bltn _ _ (.ty "bool") _ _ (by rfl) B.bool bt_bool rfl (by decide) (by decide)) (@pa_nil _) (by rfl)) (by rfl)) (by decide) (by decide) (by rfl) (by rfl))) (@pe_one _ _ _ _ _ (@pe_cmpR _ _ _ _ _ _ _ _ op_eq (@pv _ 0 _ _ (by rfl) (by first | exact Or.inl rfl | exact Or.inr (Or.inl rfl) | exact Or.inr (Or.inr rfl)) (by decide) (by decide)) (@pv _ 1 _ _ (by rfl) (by first | exact Or.inl rfl | exact Or.inr (Or.inl rfl) | exact Or.inr (Or.inr rfl)) (by decide) (by decide)) (nomark _))))))), ?_⟩
    walk_at "ge"
    exact k
def spAlone (cN : Addr) : Sp := fun vs H Q _ => ∃ (ea : Addr) (L : Cells), vs = [.ref ea] ∧ Led H L ∧ (ea, HO.ext (IsExc ea (.ref cN))) ∈ L ∧ ∀ N H', Led H' (N ++ L) → Q (.bl true) H'
theorem ok_l_alone (D : Def K mg "_law_alone" s_l_alone) (B : Blt mg) (T : Txt K mg cP cN c1 c2 c3 c4 c5 c6 c7 c8 cW cT cF cD cS cI cB) : FnDU P w K mg base 1 "_law_alone" ["_law_e"] (spAlone cN) := by
  have sc := sc_l_alone
  refine D.okU sc_l_alone (fun vs H Q E h => ?_) (fun _ _ _ _ _ _ us hl => match us, hl with | [_], _ => rfl) (fun f cdv A ea0 outer s H vs Q E hr h => ?_)
  · obtain ⟨_, _, rfl, _⟩ := h; rfl
  · obtain ⟨ea, L, rfl, hL, ie, k⟩ := h
    refine ⟨_, (@pss_cons _ _ _ _ _ (@ps_set _ _ 1 _ _ _ _ sc.nd rfl (by first | exact Or.inl rfl | exact Or.inr rfl) (@pe_callB _ _ _ _ _ _ _ _ _ (call_isiXK (K := K) rfl) (by rfl) B.isinstance bt_isinstance (@pa_cons _ _ _ _ _ (@pv _ 0 _ _ (by rfl) (by first | exact Or.inl rfl | exact Or.inr (Or.inl rfl) | exact Or.inr (Or.inr rfl)) (by decide) (by decide)) (@pa_cons _ _ _ _ _ (@pe_tup _ _ _ _ _ (@pa_cons _ _ _ _ _ (@pe_glob _ _ (.ref _) _ _ (by rfl) T.NoSpace.mgC rfl (by decide)) (@pa_cons _ _ _ _ _ (@pe_glob _ _ (.ref _) _ _ (by rfl) T.NoFile.mgC rfl (by decide)) (@pa_cons _ _ _ _ _ (@pe_glob _ _ (.ref _) _ _ (by rfl) T.NoPage.mgC rfl (by decide)) (@pa_cons _ _ _ _ _ (@pe_glob _ _ (.ref _) _ _ (by rfl) T.NoRight.mgC rfl (by decide)) (@pa_cons _ _ _ _ _ (@pe_glob _ _ (.ref _) _ _ (by rfl) T.Taken.mgC rfl (by decide)) (@pa_cons _ _ _ _ _ (@pe_glob _ _ (.ref _) _ _ (by rfl) T.Held.mgC rfl (by decide)) (@pa_cons _ _ _ _ _ (@pe_glob _ _ (.ref _) _ _ (by rfl) T.Full.mgC rfl (by decide)) (@pa_cons _ _ _ _ _ (@pe_glob _ _ (.ref _) _ _ (by rfl) T.NoRow.mgC rfl (by decide)) (@pa_nil _) (by rfl)) (by rfl)) (by rfl)) (by rfl)) (by rfl)) (by rfl)) (by rfl)) (by rfl))) (@pa_nil _) (by rfl)) (by rfl)) (by decide) (by decide) (by rfl) (by rfl)) (by rfl) (by first | exact .inl rfl | exact .inr rfl | assumption)) (@pss_one _ _ _ (@ps_ret _ _ _ _ (@pe_and _ _ _ _ _ _ _ (@pe_callB _ _ _ _ _ _ _ _ _ (call_isiXK (K := K) rfl) (by rfl) B.isinstance bt_isinstance (@pa_cons _ _ _ _ _ (@pv _ 0 _ _ (by rfl) (by first | exact Or.inl rfl | exact Or.inr (Or.inl rfl) | exact Or.inr (Or.inr rfl)) (by decide) (by decide)) (@pa_cons _ _ _ _ _ (@pe_glob _ _ (.ref _) _ _ (by rfl) T.NoNumber.mgC rfl (by decide)) (@pa_nil _) (by rfl)) (by rfl)) (by decide) (by decide) (by rfl) (by rfl)) (@pe_and _ _ _ _ _ _ _ (@pe_callB _ _ _ _ _ _ _ _ _ (call_isiXK (K := K) rfl) (by rfl) B.isinstance bt_isinstance (@pa_cons _ _ _ _ _ (@pv _ 0 _ _ (by rfl) (by first | exact Or.inl rfl | exact Or.inr (Or.inl rfl) | exact Or.inr (Or.inr rfl)) (by decide) (by decide)) (@pa_cons _ _ _ _ _ (@pe_bltn _ _ (.ty "ValueError") _ _ (by rfl) B.ValueError bt_ValueError rfl (by decide) (by decide)) (@pa_nil _) (by rfl)) (by rfl)) (by decide) (by decide) (by rfl) (by rfl)) (@pe_one _ _ _ _ _ (@pe_not _ _ _ _ (@pv _ 1 _ _ (by rfl) (by first | exact Or.inl rfl | exact Or.inr (Or.inl rfl) | exact Or.inr (Or.inr rfl)) (by decide) (by decide))))))))), ?_⟩
    refine seqK fun M1 K1 => ?_
    walk_at "ge"
    rename_i tp H4 _ hl4 _
    refine ⟨ea, cN, _, false, rfl, hl4.get (List.mem_cons_of_mem _ ie), T.xi_cN, .inr (.inr ⟨tp, [c1, c2, c3, c4, c5, c6, c7, c8], rfl, hl4.get List.mem_cons_self, T.xo⟩), ?_⟩
    walk_at "ge"
    refine K1.use ?_
    walk_at "cl"
    clear K1 hL
    have c_e := hl4.get (List.mem_cons_of_mem _ ie)
    walk_at "ge"
    refine ⟨ea, cN, _, true, rfl, c_e, T.xi_cN, .inr (.inl ⟨cN, rfl, T.xo_cN_cN⟩), ?_⟩
    walk_at "ge"
    refine ⟨ea, cN, _, true, rfl, c_e, T.xi_cN, .inl ⟨_, rfl, T.xo_cN_ValueError⟩, ?_⟩
    walk_at "ge"
    exact k [_] _ hl4
def spWRef : Sp := fun vs H Q _ => ∃ (r : Addr) (x1 x2 x3 x4 : V) (L : Cells), vs = [.ref r] ∧ Led H L ∧ (r, HO.lst [x1, x2, x3, x4]) ∈ L ∧ Thg L x1 ∧ Thg L x2 ∧ Thg L x3 ∧ Thg L x4 ∧ ¬ (InR x1 1 64 ∧ InR x2 0 512 ∧ InR x3 1 8 ∧ InR x4 0 16) ∧ ∀ N H', Led H' (N ++ L) → Q (.bl true) H'
theorem ok_l_world_refused (D : Def K mg "_law_world_refused" s_l_world_refused) (B : Blt mg) (T : Txt K mg cP cN c1 c2 c3 c4 c5 c6 c7 c8 cW cT cF cD cS cI cB) (I_World : InitD P w K mg base 5 cW ["self", "many", "places", "hands", "slots"] (spWInit cW cT cF cD cS cI cB cN)) (G__law_alone : FnDU P w K mg base 1 "_law_alone" ["_law_e"] (spAlone cN)) : FnD P w K mg base 7 "_law_world_refused" ["_law_nums"] (spWRef) := by
  have sc := sc_l_world_refused
  refine D.ok sc_l_world_refused (fun vs H Q E h => ?_) (fun _ _ _ _ _ _ us hl => match us, hl with | [_], _ => rfl) (fun f cdv A outer s H vs Q E hr h => ?_)
  · obtain ⟨_, _, _, _, _, _, rfl, _⟩ := h; rfl
  · obtain ⟨r, x1, x2, x3, x4, L, rfl, hL, ir, t1, t2, t3, t4, hno, k⟩ := h
    have c_r := hL.get ir
    refine ⟨_, (@pss_cons _ _ _ _ _ (@ps_set _ _ 1 _ _ _ _ sc.nd rfl (by first | exact Or.inl rfl | exact Or.inr rfl) (@pe_bl _ _ _ _) (by rfl) (by first | exact .inl rfl | exact .inr rfl | assumption)) (@pss_cons _ _ _ _ _ (@ps_try _ _ _ _ _ _ _ 2 _ _ _ _ _ rfl rfl rfl (@psxs_one _ _ _ (@psx_expr _ _ _ _ (@pex_makeD _ _ _ _ _ _ _ _ _ _ _ T.World I_World (hr.mono (by omega)) (by rfl) (@pa_cons _ _ _ _ _ (@pe_ix _ _ _ _ _ _ _ ix_any (@pv _ 0 _ _ (by rfl) (by first | exact Or.inl rfl | exact Or.inr (Or.inl rfl) | exact Or.inr (Or.inr rfl)) (by decide) (by decide)) (@pe_int _ _ _ _) (fun _ _ => rfl)) (@pa_cons _ _ _ _ _ (@pe_ix _ _ _ _ _ _ _ ix_any (@pv _ 0 _ _ (by rfl) (by first | exact Or.inl rfl | exact Or.inr (Or.inl rfl) | exact Or.inr (Or.inr rfl)) (by decide) (by decide)) (@pe_int _ _ _ _) (fun _ _ => rfl)) (@pa_cons _ _ _ _ _ (@pe_ix _ _ _ _ _ _ _ ix_any (@pv _ 0 _ _ (by rfl) (by first | exact Or.inl rfl | exact Or.inr (Or.inl rfl) | exact Or.inr (Or.inr rfl)) (by decide) (by decide)) (@pe_int _ _ _ _) (fun _ _ => rfl)) (@pa_cons _ _ _ _ _ (@pe_ix _ _ _ _ _ _ _ ix_any (@pv _ 0 _ _ (by rfl) (by first | exact Or.inl rfl | exact Or.inr (Or.inl rfl) | exact Or.inr (Or.inr rfl)) (by decide) (by decide)) (@pe_int _ _ _ _) (fun _ _ => rfl)) (@pa_nil _) (by rfl)) (by rfl)) (by rfl)) (by rfl)) (by decide) (by rfl) (by rfl)) (by rfl))) (by rfl) T.PaneError.mgC sc.nd rfl rfl (fun _ => (@pss_one _ _ _ (@ps_set _ _ 1 _ _ _ _ sc.nd rfl (by first | exact Or.inl rfl | exact Or.inr rfl) (@pe_callDU _ _ _ _ _ _ _ _ _ _ _ G__law_alone (hr.mono (by omega)) (by rfl) (@pa_cons _ _ _ _ _ (@pv _ 2 _ _ (by rfl) (by first | exact Or.inl rfl | exact Or.inr (Or.inl rfl) | exact Or.inr (Or.inr rfl)) (by decide) (by decide)) (@pa_nil _) (by rfl)) (by decide) (by rfl) (by rfl)) (by rfl) (by first | exact .inl rfl | exact .inr rfl | assumption)))) (by decide)) (@pss_one _ _ _ (@ps_ret _ _ _ _ (@pv _ 1 _ _ (by rfl) (by first | exact Or.inl rfl | exact Or.inr (Or.inl rfl) | exact Or.inr (Or.inr rfl)) (by decide) (by decide)))))), ?_⟩
    refine seqK fun M1 K1 => ?_
    walk_at "ge"
    refine K1.use ?_
    walk_at "cl"
    clear K1
    refine seqK fun M1 K1 => ?_
    refine tryI fun E1 hE1 => ?_
    walk_at "ge"
    intro b dx z1 z2 z3
    refine ⟨b, dx, x1, x2, x3, x4, L, rfl, hL.make z1 z2 z3, t1, t2, t3, t4, fun m p h s e1 a1 b1 e2 a2 b2 e3 a3 b3 e4 a4 b4 => absurd ⟨⟨m, e1, a1, b1⟩, ⟨p, e2, a2, b2⟩, ⟨h, e3, a3, b3⟩, ⟨s, e4, a4, b4⟩⟩ hno, fun _ N H2 hl2 => ?_⟩
    · clear z1 z2 z3 c_r
      rw [hE1.eq]
      refine ⟨T.xm_cN_cP, fun ea hea => ?_⟩
      have hl3 := hl2.new (o := .ext (IsExc ea (.ref cN))) hea
      generalize upd H2 ea (.ext (IsExc ea (.ref cN))) = H3 at hl3 ⊢
      walk_at "ge"
      refine ⟨ea, _, rfl, hl3, List.mem_cons_self, fun N3 H4 hl4 => ?_⟩
      walk_at "ge"
      refine K1.use ?_
      walk_at "ge"
      exact k (N3 ++ (ea, .ext (IsExc ea (.ref cN))) :: N) _ (by simpa using hl4)
def spBRef (cW cT cF cD cS cI cB : Addr) : Sp := fun vs H Q _ => ∃ (b dx : Addr) (a : WA) (m p h : Nat) (s : Int) (L : Cells) (x : V), vs = [.ref b, x] ∧ Led H L ∧ NW cW cT cF cD cS cI cB L b dx a m p h s ∧ Thg L x ∧ ¬ InR x 0 ((h : Int) - 1) ∧ ∀ N H', Led H' (N ++ L) → Q (.bl true) H'
theorem ok_l_book_refused (D : Def K mg "_law_book_refused" s_l_book_refused) (B : Blt mg) (T : Txt K mg cP cN c1 c2 c3 c4 c5 c6 c7 c8 cW cT cF cD cS cI cB) (G_told_book : FnD P w K mg base 4 "told_book" ["world", "hand"] (spToldBook cW cT cF cD cS cI cB cN)) (G__law_alone : FnDU P w K mg base 1 "_law_alone" ["_law_e"] (spAlone cN)) : FnD P w K mg base 5 "_law_book_refused" ["_law_world", "_law_hand"] (spBRef cW cT cF cD cS cI cB) := by
  have sc := sc_l_book_refused
  refine D.ok sc_l_book_refused (fun vs H Q E h => ?_) (fun _ _ _ _ _ _ us hl => match us, hl with | [_, _], _ => rfl) (fun f cdv A outer s H vs Q E hr h => ?_)
  · obtain ⟨_, _, _, _, _, _, _, _, _, rfl, _⟩ := h; rfl
  · obtain ⟨b, dx, a, m, p, h, s, L, x, rfl, hL, n, tx, hno, k⟩ := h
    refine ⟨_, (@pss_cons _ _ _ _ _ (@ps_set _ _ 2 _ _ _ _ sc.nd rfl (by first | exact Or.inl rfl | exact Or.inr rfl) (@pe_bl _ _ _ _) (by rfl) (by first | exact .inl rfl | exact .inr rfl | assumption)) (@pss_cons _ _ _ _ _ (@ps_try _ _ _ _ _ _ _ 3 _ _ _ _ _ rfl rfl rfl (@psxs_one _ _ _ (@psx_expr _ _ _ _ (@pex_callD _ _ _ _ _ _ _ _ _ _ G_told_book (hr.mono (by omega)) (by rfl) (@pa_cons _ _ _ _ _ (@pv _ 0 _ _ (by rfl) (by first | exact Or.inl rfl | exact Or.inr (Or.inl rfl) | exact Or.inr (Or.inr rfl)) (by decide) (by decide)) (@pa_cons _ _ _ _ _ (@pv _ 1 _ _ (by rfl) (by first | exact Or.inl rfl | exact Or.inr (Or.inl rfl) | exact Or.inr (Or.inr rfl)) (by decide) (by decide)) (@pa_nil _) (by rfl)) (by rfl)) (by decide) (by rfl) (by rfl)) (by rfl))) (by rfl) T.PaneError.mgC sc.nd rfl rfl (fun _ => (@pss_one _ _ _ (@ps_set _ _ 2 _ _ _ _ sc.nd rfl (by first | exact Or.inl rfl | exact Or.inr rfl) (@pe_callDU _ _ _ _ _ _ _ _ _ _ _ G__law_alone (hr.mono (by omega)) (by rfl) (@pa_cons _ _ _ _ _ (@pv _ 3 _ _ (by rfl) (by first | exact Or.inl rfl | exact Or.inr (Or.inl rfl) | exact Or.inr (Or.inr rfl)) (by decide) (by decide)) (@pa_nil _) (by rfl)) (by decide) (by rfl) (by rfl)) (by rfl) (by first | exact .inl rfl | exact .inr rfl | assumption)))) (by decide)) (@pss_one _ _ _ (@ps_ret _ _ _ _ (@pv _ 2 _ _ (by rfl) (by first | exact Or.inl rfl | exact Or.inr (Or.inl rfl) | exact Or.inr (Or.inr rfl)) (by decide) (by decide)))))), ?_⟩
    refine seqK fun M1 K1 => ?_
    walk_at "ge"
    refine K1.use ?_
    walk_at "cl"
    clear K1
    refine seqK fun M1 K1 => ?_
    refine tryI fun E1 hE1 => ?_
    walk_at "ge"
    refine ⟨b, dx, a, m, p, h, s, L, x, rfl, hL, n, tx, fun j e j1 => absurd ⟨(j : Int), e, by omega, by omega⟩ hno, fun _ => ?_⟩
    · obtain ⟨H2, hH⟩ : ∃ H2, H2 = H := ⟨_, rfl⟩
      subst hH
      have hl2 := hL
      rw [hE1.eq]
      refine ⟨T.xm_cN_cP, fun ea hea => ?_⟩
      have hl3 := hl2.new (o := .ext (IsExc ea (.ref cN))) hea
      generalize upd H2 ea (.ext (IsExc ea (.ref cN))) = H3 at hl3 ⊢
      walk_at "ge"
      refine ⟨ea, _, rfl, hl3, List.mem_cons_self, fun N3 H4 hl4 => ?_⟩
      walk_at "ge"
      refine K1.use ?_
      walk_at "ge"
      exact k (N3 ++ [(ea, .ext (IsExc ea (.ref cN)))]) _ (by simpa using hl4)
theorem ok_l_walks_refused (D : Def K mg "_law_walks_refused" s_l_walks_refused) (B : Blt mg) (T : Txt K mg cP cN c1 c2 c3 c4 c5 c6 c7 c8 cW cT cF cD cS cI cB) (G_told_walks : FnD P w K mg base 4 "told_walks" ["world", "hand"] (spToldWalks cW cT cF cD cS cI cB cN)) (G__law_alone : FnDU P w K mg base 1 "_law_alone" ["_law_e"] (spAlone cN)) : FnD P w K mg base 5 "_law_walks_refused" ["_law_world", "_law_hand"] (spBRef cW cT cF cD cS cI cB) := by
  have sc := sc_l_walks_refused
  refine D.ok sc_l_walks_refused (fun vs H Q E h => ?_) (fun _ _ _ _ _ _ us hl => match us, hl with | [_, _], _ => rfl) (fun f cdv A outer s H vs Q E hr h => ?_)
  · obtain ⟨_, _, _, _, _, _, _, _, _, rfl, _⟩ := h; rfl
  · obtain ⟨b, dx, a, m, p, h, s, L, x, rfl, hL, n, tx, hno, k⟩ := h
    refine ⟨_, (@pss_cons _ _ _ _ _ (@ps_set _ _ 2 _ _ _ _ sc.nd rfl (by first | exact Or.inl rfl | exact Or.inr rfl) (@pe_bl _ _ _ _) (by rfl) (by first | exact .inl rfl | exact .inr rfl | assumption)) (@pss_cons _ _ _ _ _ (@ps_try _ _ _ _ _ _ _ 3 _ _ _ _ _ rfl rfl rfl (@psxs_one _ _ _ (@psx_expr _ _ _ _ (@pex_callD _ _ _ _ _ _ _ _ _ _ G_told_walks (hr.mono (by omega)) (by rfl) (@pa_cons _ _ _ _ _ (@pv _ 0 _ _ (by rfl) (by first | exact Or.inl rfl | exact Or.inr (Or.inl rfl) | exact Or.inr (Or.inr rfl)) (by decide) (by decide)) (@pa_cons _ _ _ _ _ (@pv _ 1 _ _ (by rfl) (by first | exact Or.inl rfl | exact Or.inr (Or.inl rfl) | exact Or.inr (Or.inr rfl)) (by decide) (by decide)) (@pa_nil _) (by rfl)) (by rfl)) (by decide) (by rfl) (by rfl)) (by rfl))) (by rfl) T.PaneError.mgC sc.nd rfl rfl (fun _ => (@pss_one _ _ _ (@ps_set _ _ 2 _ _ _ _ sc.nd rfl (by first | exact Or.inl rfl | exact Or.inr rfl) (@pe_callDU _ _ _ _ _ _ _ _ _ _ _ G__law_alone (hr.mono (by omega)) (by rfl) (@pa_cons _ _ _ _ _ (@pv _ 3 _ _ (by rfl) (by first | exact Or.inl rfl | exact Or.inr (Or.inl rfl) | exact Or.inr (Or.inr rfl)) (by decide) (by decide)) (@pa_nil _) (by rfl)) (by decide) (by rfl) (by rfl)) (by rfl) (by first | exact .inl rfl | exact .inr rfl | assumption)))) (by decide)) (@pss_one _ _ _ (@ps_ret _ _ _ _ (@pv _ 2 _ _ (by rfl) (by first | exact Or.inl rfl | exact Or.inr (Or.inl rfl) | exact Or.inr (Or.inr rfl)) (by decide) (by decide)))))), ?_⟩
    refine seqK fun M1 K1 => ?_
    walk_at "ge"
    refine K1.use ?_
    walk_at "cl"
    clear K1
    refine seqK fun M1 K1 => ?_
    refine tryI fun E1 hE1 => ?_
    walk_at "ge"
    refine ⟨b, dx, a, m, p, h, s, L, x, rfl, hL, n, tx, fun j e j1 => absurd ⟨(j : Int), e, by omega, by omega⟩ hno, fun _ => ?_⟩
    · obtain ⟨H2, hH⟩ : ∃ H2, H2 = H := ⟨_, rfl⟩
      subst hH
      have hl2 := hL
      rw [hE1.eq]
      refine ⟨T.xm_cN_cP, fun ea hea => ?_⟩
      have hl3 := hl2.new (o := .ext (IsExc ea (.ref cN))) hea
      generalize upd H2 ea (.ext (IsExc ea (.ref cN))) = H3 at hl3 ⊢
      walk_at "ge"
      refine ⟨ea, _, rfl, hl3, List.mem_cons_self, fun N3 H4 hl4 => ?_⟩
      walk_at "ge"
      refine K1.use ?_
      walk_at "ge"
      exact k (N3 ++ [(ea, .ext (IsExc ea (.ref cN)))]) _ (by simpa using hl4)
def spOfNone : Sp := fun vs H Q _ => ∃ (r : Addr) (n : Nat) (x : V), vs = [.ref r, .int (n : Nat), x] ∧ H r = some (.lst (List.replicate n x)) ∧ (x = .non ∨ x = .bl false) ∧ Q (.bl true) H
theorem ok_l_of_none (D : Def K mg "_law_of_none" s_l_of_none) (B : Blt mg) (T : Txt K mg cP cN c1 c2 c3 c4 c5 c6 c7 c8 cW cT cF cD cS cI cB) : FnD P w K mg base 1 "_law_of_none" ["_law_found", "_law_many", "_law_thing"] (spOfNone) := by
  have sc := sc_l_of_none
  refine D.ok sc_l_of_none (fun vs H Q E h => ?_) (fun _ _ _ _ _ _ us hl => match us, hl with | [_, _, _], _ => rfl) (fun f cdv A outer s H vs Q E hr h => ?_)
  · obtain ⟨_, _, _, rfl, _⟩ := h; rfl
  · obtain ⟨r, n, x, rfl, c, hx, k⟩ := h
    refine ⟨_, (@pss_cons _ _ _ _ _ (@ps_if _ _ _ _ _ _ _ _ (@PW.pt _ _ _ (@pw_or _ _ _ _ _ _ _ (@pt_not _ _ _ _ (@pt_val _ _ _ (@pe_callB _ _ _ _ _ _ _ _ _ call_isiN (by rfl) B.isinstance bt_isinstance (@pa_cons _ _ _ _ _ (@pv _ 0 _ _ (by rfl) (by first | exact Or.inl rfl | exact Or.inr (Or.inl rfl) | exact Or.inr (Or.inr rfl)) (by decide) (by decide)) (@pa_cons _ _ _ _ _ (@pe_bltn _ _ (.ty "list") _ _ (by rfl) B.list bt_list rfl (by decide) (by decide)) (@pa_nil _) (by rfl)) (by rfl)) (by decide) (by decide) (by rfl) (by rfl)) (by intro _; rfl))) (@pw_or1 _ _ _ _ (@pt_cmpR _ _ _ _ _ _ _ _ op_ne (@pe_callB _ _ _ _ _ _ _ _ _ call_lenA (by rfl) B.len bt_len (@pa_cons _ _ _ _ _ (@pv _ 0 _ _ (by rfl) (by first | exact Or.inl rfl | exact Or.inr (Or.inl rfl) | exact Or.inr (Or.inr rfl)) (by decide) (by decide)) (@pa_nil _) (by rfl)) (by decide) (by decide) (by rfl) (by rfl)) (@pv _ 1 _ _ (by rfl) (by first | exact Or.inl rfl | exact Or.inr (Or.inl rfl) | exact Or.inr (Or.inr rfl)) (by decide) (by decide)) (nomark _))))) (@pss_one _ _ _ (@ps_ret _ _ _ _ (@pe_bl _ _ _ _))) (@pss_nil _)) (@pss_cons _ _ _ _ _ (@ps_for _ _ _ _ _ _ _ _ PassesOwn.never rfl (@pi_list _ _ _ _ (@pv _ 0 _ _ (by rfl) (by first | exact Or.inl rfl | exact Or.inr (Or.inl rfl) | exact Or.inr (Or.inr rfl)) (by decide) (by decide))) (@pg_name _ _ 3 _ sc.nd rfl (by first | exact Or.inl rfl | exact Or.inr rfl) (by first | exact .inl rfl | exact .inr rfl | assumption)) (@pss_one _ _ _ (@ps_if _ _ _ _ _ _ _ _ (@PW.pt _ _ _ (@pw_or _ _ _ _ _ _ _ (@PW.pt _ _ _ (@pw_and _ _ _ _ _ _ _ (@pt_cmpR _ _ _ _ _ _ _ _ op_isN (@pv _ 2 _ _ (by rfl) (by first | exact Or.inl rfl | exact Or.inr (Or.inl rfl) | exact Or.inr (Or.inr rfl)) (by decide) (by decide)) (@pe_non _ _ _) (nomark _)) (@pw_and1 _ _ _ _ (@pt_cmpR _ _ _ _ _ _ _ _ op_notN (@pv _ 3 _ _ (by rfl) (by first | exact Or.inl rfl | exact Or.inr (Or.inl rfl) | exact Or.inr (Or.inr rfl)) (by decide) (by decide)) (@pe_non _ _ _) (nomark _))))) (@pw_or1 _ _ _ _ (@PW.pt _ _ _ (@pw_and _ _ _ _ _ _ _ (@pt_cmpR _ _ _ _ _ _ _ _ op_isF (@pv _ 2 _ _ (by rfl) (by first | exact Or.inl rfl | exact Or.inr (Or.inl rfl) | exact Or.inr (Or.inr rfl)) (by decide) (by decide)) (@pe_bl _ _ _ _) (nomark _)) (@pw_and1 _ _ _ _ (@pt_cmpR _ _ _ _ _ _ _ _ op_isnF (@pv _ 3 _ _ (by rfl) (by first | exact Or.inl rfl | exact Or.inr (Or.inl rfl) | exact Or.inr (Or.inr rfl)) (by decide) (by decide)) (@pe_bl _ _ _ _) (nomark _)))))))) (@pss_one _ _ _ (@ps_ret _ _ _ _ (@pe_bl _ _ _ _))) (@pss_nil _))) (by intro _; rfl)) (@pss_one _ _ _ (@ps_ret _ _ _ _ (@pe_bl _ _ _ _))))), ?_⟩
    have hlen : ((List.replicate n x).length : Int) = (n : Int) := by rw [List.length_replicate]
    refine seqK fun M1 K1 => ?_
    walk_at "ge"
    · exact absurd hlen (by assumption)
    refine K1.use ?_
    walk_at "cl"
    clear K1
    refine seqK fun M1 K1 => ?_
    refine forL fun Lr hLr => ?_
    walk_at "ge"
    refine ⟨r, rfl, ⟨_, SqL.of c⟩, hLr.use ?_⟩
    clear hLr
    refine loopL (List.replicate n x) (fun j σ H5 => H5 = H ∧ ∃ v, σ = [some (.ref r), some (.int n), some x, v]) ⟨rfl, _, rfl⟩ (fun j σ H5 _ h => by obtain ⟨rfl, _⟩ := h; exact SqL.of c) ?_ ?_
    · clear K1
      rintro j y σ H5 hy ⟨rfl, v, rfl⟩
      obtain rfl : y = x := List.eq_of_mem_replicate (List.mem_of_getElem? hy)
      rcases hx with rfl | rfl
      · walk_at "ge"
        all_goals first | exact absurd (rfl : V.non = V.non) (by assumption) | (refine isFn ?_; walk_at "ge"; exact ⟨rfl, _, rfl⟩)
      · walk_at "ge"
        all_goals first | exact nomatch (by assumption : V.bl false = V.non) | skip
        refine isFb ?_
        walk_at "ge"
        all_goals first | exact absurd (rfl : false = false) (by assumption) | skip
        refine isnFb ?_
        walk_at "ge"
        all_goals first | exact absurd (rfl : false = false) (by assumption) | skip
        exact ⟨rfl, _, rfl⟩
    · rintro σ H5 ⟨rfl, v, rfl⟩
      walk_at "ge"
      refine K1.use ?_
      walk_at "ge"
      exact k
end

section
variable {P : Program} {w : World} {K : PySem.W.Frag} {mg : Str → Option Value} {base : Heap} {cP cN c1 c2 c3 c4 c5 c6 c7 c8 cW cT cF cD cS cI cB : Addr}
def spIsNew (cW cT cF cD cS cI cB : Addr) : Sp := fun vs H Q _ => ∃ (b dx : Addr) (a : WA) (m p h : Nat) (s : Int) (L : Cells) (q : Addr), vs = [.ref b, .ref q] ∧ Led H L ∧ NW cW cT cF cD cS cI cB L b dx a m p h s ∧ (q, HO.lst [.int m, .int p, .int h, .int s]) ∈ L ∧ ∀ N H', Led H' (N ++ L) → Q (.bl true) H'
theorem ok_l_is_new (D : Def K mg "_law_is_new" s_l_is_new) (B : Blt mg) (T : Txt K mg cP cN c1 c2 c3 c4 c5 c6 c7 c8 cW cT cF cD cS cI cB) (G_told_spaces : FnD P w K mg base 1 "told_spaces" ["world"] (spTL cW cT cF cD cS cI cB fun _ _ => [])) (G_told_frames : FnD P w K mg base 2 "told_frames" ["world"] (spTL cW cT cF cD cS cI cB (fun m _ => List.replicate m .non))) (G_told_marks : FnD P w K mg base 2 "told_marks" ["world"] (spTL cW cT cF cD cS cI cB (fun m _ => List.replicate m (.bl false)))) (G_told_shelf : FnD P w K mg base 2 "told_shelf" ["world"] (spTL cW cT cF cD cS cI cB (fun _ p => List.replicate p .non))) (G_told_pointer : FnD P w K mg base 2 "told_pointer" ["world"] (spTI cW cT cF cD cS cI cB fun _ _ => 0)) (G_told_copies : FnD P w K mg base 1 "told_copies" ["world"] (spTI cW cT cF cD cS cI cB fun _ _ => 0)) (G_told_room : FnD P w K mg base 3 "told_room" ["world"] (spTI cW cT cF cD cS cI cB fun m p => (m : Int) - 1 + p)) (G_told_holders : FnD P w K mg base 2 "told_holders" ["world", "sheet"] (spToldHolders cW cT cF cD cS cI cB)) (G_told_book : FnD P w K mg base 4 "told_book" ["world", "hand"] (spToldBook cW cT cF cD cS cI cB cN)) (G_told_walks : FnD P w K mg base 4 "told_walks" ["world", "hand"] (spToldWalks cW cT cF cD cS cI cB cN)) (G__law_is : FnD P w K mg base 1 "_law_is" ["_law_found", "_law_due"] (spIs)) (G__law_of_none : FnD P w K mg base 1 "_law_of_none" ["_law_found", "_law_many", "_law_thing"] (spOfNone)) : FnD P w K mg base 5 "_law_is_new" ["_law_world", "_law_nums"] (spIsNew cW cT cF cD cS cI cB) := by
  have sc := sc_l_is_new
  refine D.ok sc_l_is_new (fun vs H Q E h => ?_) (fun _ _ _ _ _ _ us hl => match us, hl with | [_, _], _ => rfl) (fun f cdv A outer s H vs Q E hr h => ?_)
  · obtain ⟨_, _, _, _, _, _, _, _, _, rfl, _⟩ := h; rfl
  · obtain ⟨b, dx, a, m, p, h, s, L, q, rfl, hL, n, iq, k⟩ := h
    refine ⟨_, (@pss_cons _ _ _ _ _ (@ps_if _ _ _ _ _ _ _ _ (@PW.pt _ _ _ (@pw_or _ _ _ _ _ _ _ (@pt_cmpR _ _ _ _ _ _ _ _ (op_neD hr.units) (@pe_callD _ _ _ _ _ _ _ _ _ _ _ G_told_spaces (hr.mono (by omega)) (by rfl) passR0 (@pa_cons _ _ _ _ _ (@pv _ 0 _ _ (by rfl) (by first | exact Or.inl rfl | exact Or.inr (Or.inl rfl) | exact Or.inr (Or.inr rfl)) (by decide) (by decide)) (@pa_nil _) (by rfl)) (by decide) (by rfl) (by rfl)) (@pe_lst _ _ _ _ (@pa_nil _)) (nomark _)) (@pw_or1 _ _ _ _ (@pt_not _ _ _ _ (@pt_val _ _ _ (@pe_callD _ _ _ _ _ _ _ _ _ _ _ G__law_of_none (hr.mono (by omega)) (by rfl) passR0 (@pa_cons _ _ _ _ _ (@pe_callD _ _ _ _ _ _ _ _ _ _ _ G_told_frames (hr.mono (by omega)) (by rfl) passR0 (@pa_cons _ _ _ _ _ (@pv _ 0 _ _ (by rfl) (by first | exact Or.inl rfl | exact Or.inr (Or.inl rfl) | exact Or.inr (Or.inr rfl)) (by decide) (by decide)) (@pa_nil _) (by rfl)) (by decide) (by rfl) (by rfl)) (@pa_cons _ _ _ _ _ (@pe_ix _ _ _ _ _ _ _ ix_any (@pv _ 1 _ _ (by rfl) (by first | exact Or.inl rfl | exact Or.inr (Or.inl rfl) | exact Or.inr (Or.inr rfl)) (by decide) (by decide)) (@pe_int _ _ _ _) (fun _ _ => rfl)) (@pa_cons _ _ _ _ _ (@pe_non _ _ _) (@pa_nil _) (by rfl)) (by rfl)) (by rfl)) (by decide) (by rfl) (by rfl)) (by intro _; rfl)))))) (@pss_one _ _ _ (@ps_ret _ _ _ _ (@pe_bl _ _ _ _))) (@pss_nil _)) (@pss_cons _ _ _ _ _ (@ps_if _ _ _ _ _ _ _ _ (@PW.pt _ _ _ (@pw_or _ _ _ _ _ _ _ (@pt_not _ _ _ _ (@pt_val _ _ _ (@pe_callD _ _ _ _ _ _ _ _ _ _ _ G__law_of_none (hr.mono (by omega)) (by rfl) passR0 (@pa_cons _ _ _ _ _ (@pe_callD _ _ _ _ _ _ _ _ _ _ _ G_told_marks (hr.mono (by omega)) (by rfl) passR0 (@pa_cons _ _ _ _ _ (@pv _ 0 _ _ (by rfl) (by first | exact Or.inl rfl | exact Or.inr (Or.inl rfl) | exact Or.inr (Or.inr rfl)) (by decide) (by decide)) (@pa_nil _) (by rfl)) (by decide) (by rfl) (by rfl)) (@pa_cons _ _ _ _ _ (@pe_ix _ _ _ _ _ _ _ ix_any (@pv _ 1 _ _ (by rfl) (by first | exact Or.inl rfl | exact Or.inr (Or.inl rfl) | exact Or.inr (Or.inr rfl)) (by decide) (by decide)) (@pe_int _ _ _ _) (fun _ _ => rfl)) (@pa_cons _ _ _ _ _ (@pe_bl _ _ _ _) (@pa_nil _) (by rfl)) (by rfl)) (by rfl)) (by decide) (by rfl) (by rfl)) (by intro _; rfl))) (@pw_or1 _ _ _ _ (@pt_not _ _ _ _ (@pt_val _ _ _ (@pe_callD _ _ _ _ _ _ _ _ _ _ _ G__law_is (hr.mono (by omega)) (by rfl) passR0 (@pa_cons _ _ _ _ _ (@pe_callD _ _ _ _ _ _ _ _ _ _ _ G_told_pointer (hr.mono (by omega)) (by rfl) passR0 (@pa_cons _ _ _ _ _ (@pv _ 0 _ _ (by rfl) (by first | exact Or.inl rfl | exact Or.inr (Or.inl rfl) | exact Or.inr (Or.inr rfl)) (by decide) (by decide)) (@pa_nil _) (by rfl)) (by decide) (by rfl) (by rfl)) (@pa_cons _ _ _ _ _ (@pe_int _ _ _ _) (@pa_nil _) (by rfl)) (by rfl)) (by decide) (by rfl) (by rfl)) (by intro _; rfl)))))) (@pss_one _ _ _ (@ps_ret _ _ _ _ (@pe_bl _ _ _ _))) (@pss_nil _)) (@pss_cons _ _ _ _ _ (@ps_if _ _ _ _ _ _ _ _ (@PW.pt _ _ _ (@pw_or _ _ _ _ _ _ _ (@pt_not _ _ _ _ (@pt_val _ _ _ (@pe_callD _ _ _ _ _ _ _ _ _ _ _ G__law_of_none (hr.mono (by omega)) (by rfl) passR0 (@pa_cons _ _ _ _ _ (@pe_callD _ _ _ _ _ _ _ _ _ _ _ G_told_shelf (hr.mono (by omega)) (by rfl) passR0 (@pa_cons _ _ _ _ _ (@pv _ 0 _ _ (by rfl) (by first | exact Or.inl rfl | exact Or.inr (Or.inl rfl) | exact Or.inr (Or.inr rfl)) (by decide) (by decide)) (@pa_nil _) (by rfl)) (by decide) (by rfl) (by rfl)) (@pa_cons _ _ _ _ _ (@pe_ix _ _ _ _ _ _ _ ix_any (@pv _ 1 _ _ (by rfl) (by first | exact Or.inl rfl | exact Or.inr (Or.inl rfl) | exact Or.inr (Or.inr rfl)) (by decide) (by decide)) (@pe_int _ _ _ _) (fun _ _ => rfl)) (@pa_cons _ _ _ _ _ (@pe_non _ _ _) (@pa_nil _) (by rfl)) (by rfl)) (by rfl)) (by decide) (by rfl) (by rfl)) (by intro _; rfl))) (@pw_or1 _ _ _ _ (@pt_not _ _ _ _ (@pt_val _ _ _ (@pe_callD _ _ _ _ _ _ _ _ _ _ _ G__law_is (hr.mono (by omega)) (by rfl) passR0 (@pa_cons _ _ _ _ _ (@pe_callD _ _ _ _ _ _ _ _ _ _ _ G_told_copies (hr.mono (by omega)) (by rfl) passR0 (@pa_cons _ _ _ _ _ (@pv _ 0 _ _ (by rfl) (by first | exact Or.inl rfl | exact Or.inr (Or.inl rfl) | exact Or.inr (Or.inr rfl)) (by decide) (by decide)) (@pa_nil _) (by rfl)) (by decide) (by rfl) (by rfl)) (@pa_cons _ _ _ _ _ (@pe_int _ _ _ _) (@pa_nil _) (by rfl)) (by rfl)) (by decide) (by rfl) (by rfl)) (by intro _; rfl)))))) (@pss_one _ _ _ (@ps_ret _ _ _ _ (@pe_bl _ _ _ _))) (@pss_nil _)) (@pss_cons _ _ _ _ _ (@ps_for _ _ _ _ _ _ _ _ PassesOwn.never rfl (@pi_range1 _ _ _ _ _ _ (by rfl) B.range (@pa_cons _ _ _ _ _ (@pe_ix _ _ _ _ _ _ _ ix_any (@pv _ 1 _ _ (by rfl) (by first | exact Or.inl rfl | exact Or.inr (Or.inl rfl) | exact Or.inr (Or.inr rfl)) (by decide) (by decide)) (@pe_int _ _ _ _) (fun _ _ => rfl)) (@pa_nil _) (by rfl)) (by rfl)) (@pg_name _ _ 2 _ sc.nd rfl (by first | exact Or.inl rfl | exact Or.inr rfl) (by first | exact .inl rfl | exact .inr rfl | assumption)) (@pss_one _ _ _ (@ps_if _ _ _ _ _ _ _ _ (@PW.pt _ _ _ (@pw_or _ _ _ _ _ _ _ (@pt_cmpR _ _ _ _ _ _ _ _ (op_neD hr.units) (@pe_callD _ _ _ _ _ _ _ _ _ _ _ G_told_book (hr.mono (by omega)) (by rfl) passR0 (@pa_cons _ _ _ _ _ (@pv _ 0 _ _ (by rfl) (by first | exact Or.inl rfl | exact Or.inr (Or.inl rfl) | exact Or.inr (Or.inr rfl)) (by decide) (by decide)) (@pa_cons _ _ _ _ _ (@pv _ 2 _ _ (by rfl) (by first | exact Or.inl rfl | exact Or.inr (Or.inl rfl) | exact Or.inr (Or.inr rfl)) (by decide) (by decide)) (@pa_nil _) (by rfl)) (by rfl)) (by decide) (by rfl) (by rfl)) (@pe_lst _ _ _ _ (@pa_nil _)) (nomark _)) (@pw_or1 _ _ _ _ (@pt_not _ _ _ _ (@pt_val _ _ _ (@pe_callD _ _ _ _ _ _ _ _ _ _ _ G__law_is (hr.mono (by omega)) (by rfl) passR0 (@pa_cons _ _ _ _ _ (@pe_callD _ _ _ _ _ _ _ _ _ _ _ G_told_walks (hr.mono (by omega)) (by rfl) passR0 (@pa_cons _ _ _ _ _ (@pv _ 0 _ _ (by rfl) (by first | exact Or.inl rfl | exact Or.inr (Or.inl rfl) | exact Or.inr (Or.inr rfl)) (by decide) (by decide)) (@pa_cons _ _ _ _ _ (@pv _ 2 _ _ (by rfl) (by first | exact Or.inl rfl | exact Or.inr (Or.inl rfl) | exact Or.inr (Or.inr rfl)) (by decide) (by decide)) (@pa_nil _) (by rfl)) (by rfl)) (by decide) (by rfl) (by rfl)) (@pa_cons _ _ _ _ _ (@pe_int _ _ _ _) (@pa_nil _) (by rfl)) (by rfl)) (by decide) (by rfl) (by rfl)) (by intro _; rfl)))))) (@pss_one _ _ _ (@ps_ret _ _ _ _ (@pe_bl _ _ _ _))) (@pss_nil _))) (by intro _; rfl)) (@pss_one _ _ _ (@ps_ret _ _ _ _ (@pe_and _ _ _ _ _ _ _ (@pe_callD _ _ _ _ _ _ _ _ _ _ _ G__law_is (hr.mono (by omega)) (by rfl) passR0 (@pa_cons _ _ _ _ _ (@pe_callD _ _ _ _ _ _ _ _ _ _ _ G_told_room (hr.mono (by omega)) (by rfl) passR0 (@pa_cons _ _ _ _ _ (@pv _ 0 _ _ (by rfl) (by first | exact Or.inl rfl | exact Or.inr (Or.inl rfl) | exact Or.inr (Or.inr rfl)) (by decide) (by decide)) (@pa_nil _) (by rfl)) (by decide) (by rfl) (by rfl)) (@pa_cons _ _ _ _ _ (@pe_op _ _ _ _ _ _ _ _ op_add (@pe_op _ _ _ _ _ _ _ _ op_sub (@pe_ix _ _ _ _ _ _ _ ix_any (@pv _ 1 _ _ (by rfl) (by first | exact Or.inl rfl | exact Or.inr (Or.inl rfl) | exact Or.inr (Or.inr rfl)) (by decide) (by decide)) (@pe_int _ _ _ _) (fun _ _ => rfl)) (@pe_int _ _ _ _)) (@pe_ix _ _ _ _ _ _ _ ix_any (@pv _ 1 _ _ (by rfl) (by first | exact Or.inl rfl | exact Or.inr (Or.inl rfl) | exact Or.inr (Or.inr rfl)) (by decide) (by decide)) (@pe_int _ _ _ _) (fun _ _ => rfl))) (@pa_nil _) (by rfl)) (by rfl)) (by decide) (by rfl) (by rfl)) (@pe_one _ _ _ _ _ (@pe_callD _ _ _ _ _ _ _ _ _ _ _ G__law_is (hr.mono (by omega)) (by rfl) passR0 (@pa_cons _ _ _ _ _ (@pe_callD _ _ _ _ _ _ _ _ _ _ _ G_told_holders (hr.mono (by omega)) (by rfl) passR0 (@pa_cons _ _ _ _ _ (@pv _ 0 _ _ (by rfl) (by first | exact Or.inl rfl | exact Or.inr (Or.inl rfl) | exact Or.inr (Or.inr rfl)) (by decide) (by decide)) (@pa_cons _ _ _ _ _ (@pe_int _ _ _ _) (@pa_nil _) (by rfl)) (by rfl)) (by decide) (by rfl) (by rfl)) (@pa_cons _ _ _ _ _ (@pe_int _ _ _ _) (@pa_nil _) (by rfl)) (by rfl)) (by decide) (by rfl) (by rfl)))))))))), ?_⟩
    refine seqK fun M1 K1 => ?_
    walk_at "ge"
    refine ⟨b, dx, a, m, p, h, s, L, rfl, hL, n, fun r1 H1 hl1 => ?_⟩
    walk_at "ge"
    rename_i e1 H2 _ hl2 _
    refine neLH (ns := []) (ms := []) (hl2.get (List.mem_cons_of_mem _ List.mem_cons_self)) (hl2.get List.mem_cons_self) ?_
    rw [show (!decide (([] : List Int) = [])) = false from rfl]
    walk_at "ge"
    refine ⟨b, dx, a, m, p, h, s, _, rfl, hl2, n.mono fun c hc => List.mem_cons_of_mem _ (List.mem_cons_of_mem _ hc), fun r3 H3 hl3 => ?_⟩
    have c_q := hl3.get (List.mem_cons_of_mem _ (List.mem_cons_of_mem _ (List.mem_cons_of_mem _ iq)))
    walk_at "ge"
    refine ⟨r3, m, .non, rfl, hl3.get List.mem_cons_self, .inl rfl, ?_⟩
    walk_at "ge"
    refine K1.use ?_
    walk_at "cl"
    clear K1 c_q hl1 hl2
    have hl4 : Led H3 ([_, _, _] ++ L) := hl3
    clear hl3
    obtain ⟨N, hN⟩ : ∃ N : Cells, [(r3, HO.lst (List.replicate m V.non)), (e1, HO.lst []), (r1, HO.lst [])] = N := ⟨_, rfl⟩
    rw [hN] at hl4
    clear hN
    refine seqK fun M1 K1 => ?_
    walk_at "ge"
    refine ⟨b, dx, a, m, p, h, s, _, rfl, hl4, n.mono fun c hc => List.mem_append_right _ hc, fun r5 H5 hl5 => ?_⟩
    have c_q := hl5.get (List.mem_cons_of_mem _ (List.mem_append_right _ iq))
    walk_at "ge"
    refine ⟨r5, m, .bl false, rfl, hl5.get List.mem_cons_self, .inr rfl, ?_⟩
    walk_at "ge"
    refine ⟨b, dx, a, m, p, h, s, _, rfl, hl5, n.mono fun c hc => List.mem_cons_of_mem _ (List.mem_append_right _ hc), fun H6 N6 hl6 => ?_⟩
    walk_at "ge"
    refine ⟨0, 0, rfl, ?_⟩
    rw [show decide ((0 : Int) = 0) = true from rfl]
    walk_at "ge"
    refine K1.use ?_
    walk_at "cl"
    clear K1 c_q hl5 hl4
    have hl7 : Led H6 ((N6 ++ (r5, HO.lst (List.replicate m (V.bl false))) :: N) ++ L) := by simpa using hl6
    clear hl6
    generalize N6 ++ (r5, HO.lst (List.replicate m (V.bl false))) :: N = N7 at hl7
    refine seqK fun M1 K1 => ?_
    walk_at "ge"
    refine ⟨b, dx, a, m, p, h, s, _, rfl, hl7, n.mono fun c hc => List.mem_append_right _ hc, fun r8 H8 hl8 => ?_⟩
    have c_q := hl8.get (List.mem_cons_of_mem _ (List.mem_append_right _ iq))
    walk_at "ge"
    refine ⟨r8, p, .non, rfl, hl8.get List.mem_cons_self, .inl rfl, ?_⟩
    walk_at "ge"
    refine ⟨b, dx, a, m, p, h, s, _, rfl, hl8, n.mono fun c hc => List.mem_cons_of_mem _ (List.mem_append_right _ hc), fun H9 N9 hl9 => ?_⟩
    walk_at "ge"
    refine ⟨0, 0, rfl, ?_⟩
    rw [show decide ((0 : Int) = 0) = true from rfl]
    walk_at "ge"
    refine K1.use ?_
    walk_at "cl"
    clear K1 c_q hl7 hl8
    have hl10 : Led H9 ((N9 ++ (r8, HO.lst (List.replicate p V.non)) :: N7) ++ L) := by simpa using hl9
    clear hl9
    generalize N9 ++ (r8, HO.lst (List.replicate p V.non)) :: N7 = N10 at hl10
    have c_q := hl10.get (List.mem_append_right _ iq)
    refine seqK fun M1 K1 => ?_
    refine forR1 fun Lr hLr => ?_
    walk_at "ge"
    have h8 := n.h8
    refine ⟨_, rfl, by omega, by omega, hLr.use ?_⟩
    clear hLr c_q
    rw [Int.toNat_natCast]
    refine loopR (fun j σ H' => ∃ N v, Led H' (N ++ L) ∧ σ = [some (.ref b), some (.ref q), v]) ⟨N10, _, hl10, rfl⟩ ?_ ?_
    · clear hl10 K1 N10
      rintro j σ H' hj ⟨N, v, hl', rfl⟩
      walk_at "ge"
      refine ⟨b, dx, a, m, p, h, s, _, .int (0 + (j : Int)), rfl, hl', n.mono fun c hc => List.mem_append_right _ hc, .int, fun i e hi r1 H1 hl1 => ?_, fun hno => absurd ⟨_, rfl, by omega, by omega⟩ hno⟩
      walk_at "ge"
      rename_i e1 H2 _ hl2 _
      refine neLH (ns := []) (ms := []) (hl2.get (List.mem_cons_of_mem _ List.mem_cons_self)) (hl2.get List.mem_cons_self) ?_
      rw [show (!decide (([] : List Int) = [])) = false from rfl]
      walk_at "ge"
      refine ⟨b, dx, a, m, p, h, s, _, .int (0 + (j : Int)), rfl, hl2, n.mono fun c hc => List.mem_cons_of_mem _ (List.mem_cons_of_mem _ (List.mem_append_right _ hc)), .int, fun i e hi => ?_, fun hno => absurd ⟨_, rfl, by omega, by omega⟩ hno⟩
      walk_at "ge"
      refine ⟨0, 0, rfl, ?_⟩
      rw [show decide ((0 : Int) = 0) = true from rfl]
      walk_at "ge"
      exact ⟨(e1, .lst []) :: (r1, .lst []) :: N, _, hl2, rfl⟩
    · clear hl10 N10
      rintro σ H' ⟨N, v, hl', rfl⟩
      walk_at "ge"
      refine K1.use ?_
      walk_at "cl"
      clear K1
      walk_at "ge"
      refine ⟨b, dx, a, m, p, h, s, _, rfl, hl', n.mono fun c hc => List.mem_append_right _ hc, fun H2 N2 hl2 => ?_⟩
      have c_q := hl2.get (List.mem_append_right _ (List.mem_append_right _ iq))
      walk_at "ge"
      refine ⟨_, _, rfl, ?_⟩
      rw [decide_eq_true rfl]
      walk_at "ge"
      refine ⟨b, dx, a, m, p, h, s, _, 1, rfl, hl2, n.mono fun c hc => List.mem_append_right _ (List.mem_append_right _ hc), ?_⟩
      walk_at "ge"
      refine ⟨0, 0, rfl, ?_⟩
      rw [show decide ((0 : Int) = 0) = true from rfl]
      walk_at "ge"
      exact k (N2 ++ N) _ (by rw [List.append_assoc]; exact hl2)
end

section
variable {P : Program} {w : World} {K : PySem.W.Frag} {mg : Str → Option Value} {base : Heap} {cP cN c1 c2 c3 c4 c5 c6 c7 c8 cW cT cF cD cS cI cB : Addr}
def lov (i : Nat) : Int := [1, 0, 1, 0].getD i 0
def hiv (i : Nat) : Int := [64, 512, 8, 16].getD i 0
theorem at_lo {j : Int} {i : Nat} (h : j = (i : Nat)) (hi : i < 4) : atI [V.int 1, .int 0, .int 1, .int 0] j = some (.int (lov i)) := by
  subst h
  rcases (by omega : i = 0 ∨ i = 1 ∨ i = 2 ∨ i = 3) with rfl | rfl | rfl | rfl <;> rfl
theorem at_hi {j : Int} {i : Nat} (h : j = (i : Nat)) (hi : i < 4) : atI [V.int 64, .int 512, .int 8, .int 16] j = some (.int (hiv i)) := by
  subst h
  rcases (by omega : i = 0 ∨ i = 1 ∨ i = 2 ∨ i = 3) with rfl | rfl | rfl | rfl <;> rfl
theorem lo_hi {i : Nat} (hi : i < 4) : lov i ≤ hiv i ∧ (lov i = 0 ∨ lov i = 1) := by
  rcases (by omega : i = 0 ∨ i = 1 ∨ i = 2 ∨ i = 3) with rfl | rfl | rfl | rfl <;> decide
theorem nums_of {acc : List V} (hl : acc.length = 4) (h : ∀ (i : Nat) v, acc[i]? = some v → ∃ n : Int, v = .int n ∧ lov i ≤ n ∧ n ≤ hiv i) : ∃ m p h s : Int, acc = [.int m, .int p, .int h, .int s] ∧ (1 ≤ m ∧ m ≤ 64) ∧ (0 ≤ p ∧ p ≤ 512) ∧ (1 ≤ h ∧ h ≤ 8) ∧ (0 ≤ s ∧ s ≤ 16) := by
  match acc, hl with
  | [v0, v1, v2, v3], _ =>
    obtain ⟨m, rfl, a1, b1⟩ := h 0 v0 rfl
    obtain ⟨p, rfl, a2, b2⟩ := h 1 v1 rfl
    obtain ⟨q, rfl, a3, b3⟩ := h 2 v2 rfl
    obtain ⟨s, rfl, a4, b4⟩ := h 3 v3 rfl
    exact ⟨m, p, q, s, rfl, ⟨a1, b1⟩, ⟨a2, b2⟩, ⟨a3, b3⟩, ⟨a4, b4⟩⟩
theorem spoil {m p h s : Int} {x : V} {i : Nat} (hi : i < 4) (no : ¬ InR x (lov i) (hiv i)) : ∃ x1 x2 x3 x4, [V.int m, .int p, .int h, .int s].set i x = [x1, x2, x3, x4] ∧ (∀ L : Cells, Thg L x → Thg L x1 ∧ Thg L x2 ∧ Thg L x3 ∧ Thg L x4) ∧ ¬ (InR x1 1 64 ∧ InR x2 0 512 ∧ InR x3 1 8 ∧ InR x4 0 16) := by
  rcases (by omega : i = 0 ∨ i = 1 ∨ i = 2 ∨ i = 3) with rfl | rfl | rfl | rfl
  · exact ⟨_, _, _, _, rfl, fun _ t => ⟨t, .int, .int, .int⟩, fun z => no z.1⟩
  · exact ⟨_, _, _, _, rfl, fun _ t => ⟨.int, t, .int, .int⟩, fun z => no z.2.1⟩
  · exact ⟨_, _, _, _, rfl, fun _ t => ⟨.int, .int, t, .int⟩, fun z => no z.2.2.1⟩
  · exact ⟨_, _, _, _, rfl, fun _ t => ⟨.int, .int, .int, t⟩, fun z => no z.2.2.2⟩
theorem ok_law {f : Addr} {fd : FuncData} (F : Fun K "law" "law" s_law f fd) (B : Blt mg) (T : Txt K mg cP cN c1 c2 c3 c4 c5 c6 c7 c8 cW cT cF cD cS cI cB) (I_World : InitD P w K mg base 5 cW ["self", "many", "places", "hands", "slots"] (spWInit cW cT cF cD cS cI cB cN)) (G__law_cell_at : FnD P w K mg base 1 "_law_cell_at" ["_law_script", "_law_k"] (spCellAt K)) (G__law_edged : FnD P w K mg base 1 "_law_edged" ["_law_cell", "_law_low", "_law_high"] (spEdged)) (G__law_bad : FnD P w K mg base 1 "_law_bad" ["_law_cell", "_law_low", "_law_high"] (spBad)) (G__law_is_new : FnD P w K mg base 5 "_law_is_new" ["_law_world", "_law_nums"] (spIsNew cW cT cF cD cS cI cB)) (G_told_spaces : FnD P w K mg base 1 "told_spaces" ["world"] (spTL cW cT cF cD cS cI cB fun _ _ => [])) (G_told_frames : FnD P w K mg base 2 "told_frames" ["world"] (spTL cW cT cF cD cS cI cB (fun m _ => List.replicate m .non))) (G_told_marks : FnD P w K mg base 2 "told_marks" ["world"] (spTL cW cT cF cD cS cI cB (fun m _ => List.replicate m (.bl false)))) (G_told_shelf : FnD P w K mg base 2 "told_shelf" ["world"] (spTL cW cT cF cD cS cI cB (fun _ p => List.replicate p .non))) (G_told_book : FnD P w K mg base 4 "told_book" ["world", "hand"] (spToldBook cW cT cF cD cS cI cB cN)) (G__law_world_refused : FnD P w K mg base 7 "_law_world_refused" ["_law_nums"] (spWRef)) (G__law_book_refused : FnD P w K mg base 5 "_law_book_refused" ["_law_world", "_law_hand"] (spBRef cW cT cF cD cS cI cB)) (G__law_walks_refused : FnD P w K mg base 5 "_law_walks_refused" ["_law_world", "_law_hand"] (spBRef cW cT cF cD cS cI cB)) : FnOk P w K mg base (CXR P w) 8 f fd ["_law_script"] (spLawB K) := by
  have sc := sc_law
  refine F.okN sc (fun vs H Q E h => ?_) (fun cdv A outer s H vs Q E hr h => ?_)
  · obtain ⟨a, ns, rfl, _⟩ := h; rfl
  · obtain ⟨sa, ns, rfl, hS, hlen, hbits, hO, k⟩ := h
    have hu := unit1 hr
    refine ⟨_, (@pss_cons _ _ _ _ _ (@ps_set _ _ 1 _ _ _ _ sc.nd rfl (by first | exact Or.inl rfl | exact Or.inr rfl) (@pe_lst _ _ _ _ (@pa_cons _ _ _ _ _ (@pe_int _ _ _ _) (@pa_cons _ _ _ _ _ (@pe_int _ _ _ _) (@pa_cons _ _ _ _ _ (@pe_int _ _ _ _) (@pa_cons _ _ _ _ _ (@pe_int _ _ _ _) (@pa_nil _) (by rfl)) (by rfl)) (by rfl)) (by rfl))) (by rfl) (by first | exact .inl rfl | exact .inr rfl | assumption)) (@pss_cons _ _ _ _ _ (@ps_set _ _ 2 _ _ _ _ sc.nd rfl (by first | exact Or.inl rfl | exact Or.inr rfl) (@pe_lst _ _ _ _ (@pa_cons _ _ _ _ _ (@pe_int _ _ _ _) (@pa_cons _ _ _ _ _ (@pe_int _ _ _ _) (@pa_cons _ _ _ _ _ (@pe_int _ _ _ _) (@pa_cons _ _ _ _ _ (@pe_int _ _ _ _) (@pa_nil _) (by rfl)) (by rfl)) (by rfl)) (by rfl))) (by rfl) (by first | exact .inl rfl | exact .inr rfl | assumption)) (@pss_cons _ _ _ _ _ (@ps_setComp _ _ "_law_k" _ _ _ _ _ _ _ _ _ _ 3 _ _ rfl rfl rfl rfl noH (compSc_of (by kernel_rfl)) (@pi_range1 _ _ _ _ _ _ (by rfl) B.range (@pa_cons _ _ _ _ _ (@pe_int _ _ _ _) (@pa_nil _) (by rfl)) (by rfl)) (fun _ _ _ _ => (@pts_nil _)) (fun _ _ _ _ => (@pe_callD _ _ _ _ _ _ _ _ _ _ _ G__law_edged (hr.mono (by omega)) (by rfl) passR0 (@pa_cons _ _ _ _ _ (@pe_callD _ _ _ _ _ _ _ _ _ _ _ G__law_cell_at (hr.mono (by omega)) (by rfl) passR0 (@pa_cons _ _ _ _ _ (@pk _ 1 _ _ (by kernel_rfl) (by kernel_rfl) (by decide) (by decide)) (@pa_cons _ _ _ _ _ (@pk _ 0 _ _ (by kernel_rfl) (by kernel_rfl) (by decide) (by decide)) (@pa_nil _) (by rfl)) (by rfl)) (by decide) (by rfl) (by rfl)) (@pa_cons _ _ _ _ _ (@pe_ix _ _ _ _ _ _ _ ix_any (@pk _ 2 _ _ (by kernel_rfl) (by kernel_rfl) (by decide) (by decide)) (@pk _ 0 _ _ (by kernel_rfl) (by kernel_rfl) (by decide) (by decide)) (fun _ _ => rfl)) (@pa_cons _ _ _ _ _ (@pe_ix _ _ _ _ _ _ _ ix_any (@pk _ 3 _ _ (by kernel_rfl) (by kernel_rfl) (by decide) (by decide)) (@pk _ 0 _ _ (by kernel_rfl) (by kernel_rfl) (by decide) (by decide)) (fun _ _ => rfl)) (@pa_nil _) (by rfl)) (by rfl)) (by rfl)) (by decide) (by rfl) (by rfl))) sc.nd rfl (by first | exact Or.inl rfl | exact Or.inr rfl) (by intro _; rfl) (by rfl) (by first | exact .inl rfl | exact .inr rfl | assumption)) (@pss_cons _ _ _ _ _ (@ps_set _ _ 4 _ _ _ _ sc.nd rfl (by first | exact Or.inl rfl | exact Or.inr rfl) (@pe_makeD _ _ _ _ _ _ _ _ _ _ _ _ T.World I_World (hr.mono (by omega)) (by rfl) passR0 (@pa_cons _ _ _ _ _ (@pe_ix _ _ _ _ _ _ _ ix_any (@pv _ 3 _ _ (by rfl) (by first | exact Or.inl rfl | exact Or.inr (Or.inl rfl) | exact Or.inr (Or.inr rfl)) (by decide) (by decide)) (@pe_int _ _ _ _) (fun _ _ => rfl)) (@pa_cons _ _ _ _ _ (@pe_ix _ _ _ _ _ _ _ ix_any (@pv _ 3 _ _ (by rfl) (by first | exact Or.inl rfl | exact Or.inr (Or.inl rfl) | exact Or.inr (Or.inr rfl)) (by decide) (by decide)) (@pe_int _ _ _ _) (fun _ _ => rfl)) (@pa_cons _ _ _ _ _ (@pe_ix _ _ _ _ _ _ _ ix_any (@pv _ 3 _ _ (by rfl) (by first | exact Or.inl rfl | exact Or.inr (Or.inl rfl) | exact Or.inr (Or.inr rfl)) (by decide) (by decide)) (@pe_int _ _ _ _) (fun _ _ => rfl)) (@pa_cons _ _ _ _ _ (@pe_ix _ _ _ _ _ _ _ ix_any (@pv _ 3 _ _ (by rfl) (by first | exact Or.inl rfl | exact Or.inr (Or.inl rfl) | exact Or.inr (Or.inr rfl)) (by decide) (by decide)) (@pe_int _ _ _ _) (fun _ _ => rfl)) (@pa_nil _) (by rfl)) (by rfl)) (by rfl)) (by rfl)) (by decide) (by rfl) (by rfl)) (by rfl) (by first | exact .inl rfl | exact .inr rfl | assumption)) (@pss_cons _ _ _ _ _ (@ps_if _ _ _ _ _ _ _ _ (@pt_not _ _ _ _ (@pt_val _ _ _ (@pe_callD _ _ _ _ _ _ _ _ _ _ _ G__law_is_new (hr.mono (by omega)) (by rfl) passR0 (@pa_cons _ _ _ _ _ (@pv _ 4 _ _ (by rfl) (by first | exact Or.inl rfl | exact Or.inr (Or.inl rfl) | exact Or.inr (Or.inr rfl)) (by decide) (by decide)) (@pa_cons _ _ _ _ _ (@pv _ 3 _ _ (by rfl) (by first | exact Or.inl rfl | exact Or.inr (Or.inl rfl) | exact Or.inr (Or.inr rfl)) (by decide) (by decide)) (@pa_nil _) (by rfl)) (by rfl)) (by decide) (by rfl) (by rfl)) (by intro _; rfl))) (@pss_one _ _ _ (@ps_ret _ _ _ _ (@pe_bl _ _ _ _))) (@pss_nil _)) (@pss_cons _ _ _ _ _ (@ps_set _ _ 5 _ _ _ _ sc.nd rfl (by first | exact Or.inl rfl | exact Or.inr rfl) (@pe_lst _ _ _ _ (@pa_cons _ _ _ _ _ (@pe_callD _ _ _ _ _ _ _ _ _ _ _ G_told_spaces (hr.mono (by omega)) (by rfl) passR0 (@pa_cons _ _ _ _ _ (@pv _ 4 _ _ (by rfl) (by first | exact Or.inl rfl | exact Or.inr (Or.inl rfl) | exact Or.inr (Or.inr rfl)) (by decide) (by decide)) (@pa_nil _) (by rfl)) (by decide) (by rfl) (by rfl)) (@pa_cons _ _ _ _ _ (@pe_callD _ _ _ _ _ _ _ _ _ _ _ G_told_frames (hr.mono (by omega)) (by rfl) passR0 (@pa_cons _ _ _ _ _ (@pv _ 4 _ _ (by rfl) (by first | exact Or.inl rfl | exact Or.inr (Or.inl rfl) | exact Or.inr (Or.inr rfl)) (by decide) (by decide)) (@pa_nil _) (by rfl)) (by decide) (by rfl) (by rfl)) (@pa_cons _ _ _ _ _ (@pe_callD _ _ _ _ _ _ _ _ _ _ _ G_told_marks (hr.mono (by omega)) (by rfl) passR0 (@pa_cons _ _ _ _ _ (@pv _ 4 _ _ (by rfl) (by first | exact Or.inl rfl | exact Or.inr (Or.inl rfl) | exact Or.inr (Or.inr rfl)) (by decide) (by decide)) (@pa_nil _) (by rfl)) (by decide) (by rfl) (by rfl)) (@pa_cons _ _ _ _ _ (@pe_callD _ _ _ _ _ _ _ _ _ _ _ G_told_shelf (hr.mono (by omega)) (by rfl) passR0 (@pa_cons _ _ _ _ _ (@pv _ 4 _ _ (by rfl) (by first | exact Or.inl rfl | exact Or.inr (Or.inl rfl) | exact Or.inr (Or.inr rfl)) (by decide) (by decide)) (@pa_nil _) (by rfl)) (by decide) (by rfl) (by rfl)) (@pa_cons _ _ _ _ _ (@pe_callD _ _ _ _ _ _ _ _ _ _ _ G_told_book (hr.mono (by omega)) (by rfl) passR0 (@pa_cons _ _ _ _ _ (@pv _ 4 _ _ (by rfl) (by first | exact Or.inl rfl | exact Or.inr (Or.inl rfl) | exact Or.inr (Or.inr rfl)) (by decide) (by decide)) (@pa_cons _ _ _ _ _ (@pe_int _ _ _ _) (@pa_nil _) (by rfl)) (by rfl)) (by decide) (by rfl) (by rfl)) (@pa_nil _) (by rfl)) (by rfl)) (by rfl)) (by rfl)) (by rfl))) (by rfl) (by first | exact .inl rfl | exact .inr rfl | assumption)) (@pss_cons _ _ _ _ _ (@ps_for _ _ _ _ _ _ _ _ PassesOwn.never rfl (@pi_list _ _ _ _ (@pv _ 5 _ _ (by rfl) (by first | exact Or.inl rfl | exact Or.inr (Or.inl rfl) | exact Or.inr (Or.inr rfl)) (by decide) (by decide))) (@pg_name _ _ 6 _ sc.nd rfl (by first | exact Or.inl rfl | exact Or.inr rfl) (by first | exact .inl rfl | exact .inr rfl | assumption)) (@pss_one _ _ _ (@ps_expr _ _ _ _ (@pe_bm _ _ _ _ _ _ _ _ _ _ _ _ PySem.F.plainAttrs_list PySem.F.slot_list_append PySem.F.type_list_append mt_append (@pv _ 6 _ _ (by rfl) (by first | exact Or.inl rfl | exact Or.inr (Or.inl rfl) | exact Or.inr (Or.inr rfl)) (by decide) (by decide)) (@pa_cons _ _ _ _ _ (@pe_int _ _ _ _) (@pa_nil _) (by rfl)) (by rfl) (by rfl) (by rfl) (by rfl) (by rfl)) (by rfl))) (by intro _; rfl)) (@pss_cons _ _ _ _ _ (@ps_if _ _ _ _ _ _ _ _ (@pt_not _ _ _ _ (@pt_val _ _ _ (@pe_callD _ _ _ _ _ _ _ _ _ _ _ G__law_is_new (hr.mono (by omega)) (by rfl) passR0 (@pa_cons _ _ _ _ _ (@pv _ 4 _ _ (by rfl) (by first | exact Or.inl rfl | exact Or.inr (Or.inl rfl) | exact Or.inr (Or.inr rfl)) (by decide) (by decide)) (@pa_cons _ _ _ _ _ (@pv _ 3 _ _ (by rfl) (by first | exact Or.inl rfl | exact Or.inr (Or.inl rfl) | exact Or.inr (Or.inr rfl)) (by decide) (by decide)) (@pa_nil _) (by rfl)) (by rfl)) (by decide) (by rfl) (by rfl)) (by intro _; rfl))) (@pss_one _ _ _ (@ps_ret _ _ _ _ (@pe_bl _ _ _ _))) (@pss_nil _)) (@pss_cons _ _ _ _ _ (@ps_for _ _ _ _ _ _ _ _ PassesOwn.never rfl (@pi_range2 _ _ _ _ _ _ _ (by rfl) B.range (@pa_cons _ _ _ _ _ (@pe_int _ _ _ _) (@pa_cons _ _ _ _ _ (@pe_int _ _ _ _) (@pa_nil _) (by rfl)) (by rfl)) (by rfl) (by rfl)) (@pg_name _ _ 7 _ sc.nd rfl (by first | exact Or.inl rfl | exact Or.inr rfl) (by first | exact .inl rfl | exact .inr rfl | assumption)) (@pss_cons _ _ _ _ _ (@ps_set _ _ 8 _ _ _ _ sc.nd rfl (by first | exact Or.inl rfl | exact Or.inr rfl) (@pe_callD _ _ _ _ _ _ _ _ _ _ _ G__law_cell_at (hr.mono (by omega)) (by rfl) passR0 (@pa_cons _ _ _ _ _ (@pv _ 0 _ _ (by rfl) (by first | exact Or.inl rfl | exact Or.inr (Or.inl rfl) | exact Or.inr (Or.inr rfl)) (by decide) (by decide)) (@pa_cons _ _ _ _ _ (@pv _ 7 _ _ (by rfl) (by first | exact Or.inl rfl | exact Or.inr (Or.inl rfl) | exact Or.inr (Or.inr rfl)) (by decide) (by decide)) (@pa_nil _) (by rfl)) (by rfl)) (by decide) (by rfl) (by rfl)) (by rfl) (by first | exact .inl rfl | exact .inr rfl | assumption)) (@pss_cons _ _ _ _ _ (@ps_set _ _ 9 _ _ _ _ sc.nd rfl (by first | exact Or.inl rfl | exact Or.inr rfl) (@pe_callTy _ _ _ _ _ _ _ _ _ (call_list_ofK (K := K) rfl) (by rfl) B.list bt_list (@pa_cons _ _ _ _ _ (@pv _ 3 _ _ (by rfl) (by first | exact Or.inl rfl | exact Or.inr (Or.inl rfl) | exact Or.inr (Or.inr rfl)) (by decide) (by decide)) (@pa_nil _) (by rfl)) (by decide) (by decide) (by rfl) (by rfl)) (by rfl) (by first | exact .inl rfl | exact .inr rfl | assumption)) (@pss_cons _ _ _ _ _ (@ps_asg _ _ _ _ _ _ (@pe_callD _ _ _ _ _ _ _ _ _ _ _ G__law_bad (hr.mono (by omega)) (by rfl) passR0 (@pa_cons _ _ _ _ _ (@pv _ 8 _ _ (by rfl) (by first | exact Or.inl rfl | exact Or.inr (Or.inl rfl) | exact Or.inr (Or.inr rfl)) (by decide) (by decide)) (@pa_cons _ _ _ _ _ (@pe_ix _ _ _ _ _ _ _ ix_any (@pv _ 1 _ _ (by rfl) (by first | exact Or.inl rfl | exact Or.inr (Or.inl rfl) | exact Or.inr (Or.inr rfl)) (by decide) (by decide)) (@pe_op _ _ _ _ _ _ _ _ op_mod (@pv _ 7 _ _ (by rfl) (by first | exact Or.inl rfl | exact Or.inr (Or.inl rfl) | exact Or.inr (Or.inr rfl)) (by decide) (by decide)) (@pe_int _ _ _ _)) (fun _ _ => rfl)) (@pa_cons _ _ _ _ _ (@pe_ix _ _ _ _ _ _ _ ix_any (@pv _ 2 _ _ (by rfl) (by first | exact Or.inl rfl | exact Or.inr (Or.inl rfl) | exact Or.inr (Or.inr rfl)) (by decide) (by decide)) (@pe_op _ _ _ _ _ _ _ _ op_mod (@pv _ 7 _ _ (by rfl) (by first | exact Or.inl rfl | exact Or.inr (Or.inl rfl) | exact Or.inr (Or.inr rfl)) (by decide) (by decide)) (@pe_int _ _ _ _)) (fun _ _ => rfl)) (@pa_nil _) (by rfl)) (by rfl)) (by rfl)) (by decide) (by rfl) (by rfl)) (@pg_sub _ _ _ _ _ _ _ (@pv _ 9 _ _ (by rfl) (by first | exact Or.inl rfl | exact Or.inr (Or.inl rfl) | exact Or.inr (Or.inr rfl)) (by decide) (by decide)) (@pe_op _ _ _ _ _ _ _ _ op_mod (@pv _ 7 _ _ (by rfl) (by first | exact Or.inl rfl | exact Or.inr (Or.inl rfl) | exact Or.inr (Or.inr rfl)) (by decide) (by decide)) (@pe_int _ _ _ _)) set_list (by intro _; rfl)) (by rfl) (by rfl) (by rfl)) (@pss_cons _ _ _ _ _ (@ps_set _ _ 10 _ _ _ _ sc.nd rfl (by first | exact Or.inl rfl | exact Or.inr rfl) (@pe_callD _ _ _ _ _ _ _ _ _ _ _ G__law_bad (hr.mono (by omega)) (by rfl) passR0 (@pa_cons _ _ _ _ _ (@pe_op _ _ _ _ _ _ _ _ op_fdiv (@pv _ 8 _ _ (by rfl) (by first | exact Or.inl rfl | exact Or.inr (Or.inl rfl) | exact Or.inr (Or.inr rfl)) (by decide) (by decide)) (@pe_int _ _ _ _)) (@pa_cons _ _ _ _ _ (@pe_int _ _ _ _) (@pa_cons _ _ _ _ _ (@pe_op _ _ _ _ _ _ _ _ op_sub (@pe_ix _ _ _ _ _ _ _ ix_any (@pv _ 3 _ _ (by rfl) (by first | exact Or.inl rfl | exact Or.inr (Or.inl rfl) | exact Or.inr (Or.inr rfl)) (by decide) (by decide)) (@pe_int _ _ _ _) (fun _ _ => rfl)) (@pe_int _ _ _ _)) (@pa_nil _) (by rfl)) (by rfl)) (by rfl)) (by decide) (by rfl) (by rfl)) (by rfl) (by first | exact .inl rfl | exact .inr rfl | assumption)) (@pss_cons _ _ _ _ _ (@ps_if _ _ _ _ _ _ _ _ (@PW.pt _ _ _ (@pw_or _ _ _ _ _ _ _ (@pt_not _ _ _ _ (@pt_val _ _ _ (@pe_callD _ _ _ _ _ _ _ _ _ _ _ G__law_world_refused (hr.mono (by omega)) (by rfl) passR0 (@pa_cons _ _ _ _ _ (@pv _ 9 _ _ (by rfl) (by first | exact Or.inl rfl | exact Or.inr (Or.inl rfl) | exact Or.inr (Or.inr rfl)) (by decide) (by decide)) (@pa_nil _) (by rfl)) (by decide) (by rfl) (by rfl)) (by intro _; rfl))) (@pw_or1 _ _ _ _ (@pt_not _ _ _ _ (@pt_val _ _ _ (@pe_callD _ _ _ _ _ _ _ _ _ _ _ G__law_book_refused (hr.mono (by omega)) (by rfl) passR0 (@pa_cons _ _ _ _ _ (@pv _ 4 _ _ (by rfl) (by first | exact Or.inl rfl | exact Or.inr (Or.inl rfl) | exact Or.inr (Or.inr rfl)) (by decide) (by decide)) (@pa_cons _ _ _ _ _ (@pv _ 10 _ _ (by rfl) (by first | exact Or.inl rfl | exact Or.inr (Or.inl rfl) | exact Or.inr (Or.inr rfl)) (by decide) (by decide)) (@pa_nil _) (by rfl)) (by rfl)) (by decide) (by rfl) (by rfl)) (by intro _; rfl)))))) (@pss_one _ _ _ (@ps_ret _ _ _ _ (@pe_bl _ _ _ _))) (@pss_nil _)) (@pss_one _ _ _ (@ps_if _ _ _ _ _ _ _ _ (@pt_not _ _ _ _ (@pt_val _ _ _ (@pe_callD _ _ _ _ _ _ _ _ _ _ _ G__law_walks_refused (hr.mono (by omega)) (by rfl) passR0 (@pa_cons _ _ _ _ _ (@pv _ 4 _ _ (by rfl) (by first | exact Or.inl rfl | exact Or.inr (Or.inl rfl) | exact Or.inr (Or.inr rfl)) (by decide) (by decide)) (@pa_cons _ _ _ _ _ (@pv _ 10 _ _ (by rfl) (by first | exact Or.inl rfl | exact Or.inr (Or.inl rfl) | exact Or.inr (Or.inr rfl)) (by decide) (by decide)) (@pa_nil _) (by rfl)) (by rfl)) (by decide) (by rfl) (by rfl)) (by intro _; rfl))) (@pss_one _ _ _ (@ps_ret _ _ _ _ (@pe_bl _ _ _ _))) (@pss_nil _)))))))) (by intro _; rfl)) (@pss_one _ _ _ (@ps_ret _ _ _ _ (@pe_callD _ _ _ _ _ _ _ _ _ _ _ G__law_is_new (hr.mono (by omega)) (by rfl) passR0 (@pa_cons _ _ _ _ _ (@pv _ 4 _ _ (by rfl) (by first | exact Or.inl rfl | exact Or.inr (Or.inl rfl) | exact Or.inr (Or.inr rfl)) (by decide) (by decide)) (@pa_cons _ _ _ _ _ (@pv _ 3 _ _ (by rfl) (by first | exact Or.inl rfl | exact Or.inr (Or.inl rfl) | exact Or.inr (Or.inr rfl)) (by decide) (by decide)) (@pa_nil _) (by rfl)) (by rfl)) (by decide) (by rfl) (by rfl))))))))))))), ?_⟩
    obtain ⟨L, hL, hs⟩ := scr_start hS hO
    clear hO
    refine seqK fun M1 K1 => ?_
    walk_at "ge"
    rename_i lw H1 _ hl1 _
    refine K1.use ?_
    walk_at "cl"
    clear K1 hL
    refine seqK fun M1 K1 => ?_
    walk_at "ge"
    rename_i hg H2 _ hl2 _
    refine K1.use ?_
    walk_at "cl"
    clear K1 hl1
    refine seqK fun M1 K1 => ?_
    walk_at "ge"
    refine compR1 fun Lc hLc => ?_
    walk_at "ge"
    refine ⟨_, rfl, by omega, by omega, hLc.use ?_⟩
    clear hLc
    refine compRangeL (fun i v => ∃ n : Int, v = .int n ∧ lov i ≤ n ∧ n ≤ hiv i) hl2 (by decide) (fun i H3 R q hi hl3 hR => ?_) (fun nq acc H3 hnl hacc hl3 => ?_)
    · have hi4 : i < 4 := hi
      have al := at_lo (j := 0 + (i : Int)) (i := i) (by omega) hi4
      have ah := at_hi (j := 0 + (i : Int)) (i := i) (by omega) hi4
      walk_at "ge"
      refine ⟨sa, ns, _, rfl, by omega, hs.seq hl3.tail.tail.tail, ?_⟩
      walk_at "ge"
      refine ⟨_, _, _, rfl, (lo_hi hi4).1, fun n n0 n1 => ?_⟩
      walk_at "ge"
      exact hR _ _ ⟨n, rfl, n0, n1⟩ hl3
    obtain ⟨mI, pI, hI, s, rfl, ⟨m1, m64⟩, ⟨p0, p512⟩, ⟨h1, h8⟩, s0, s16⟩ := nums_of hnl hacc
    clear hnl hacc hl2
    walk_at "ge"
    refine K1.use ?_
    walk_at "cl"
    clear K1
    refine seqK fun M1 K1 => ?_
    walk_at "ge"
    intro b dx z1 z2 z3
    refine ⟨b, dx, .int mI, .int pI, .int hI, .int s, _, rfl, hl3.make z1 z2 z3, .int, .int, .int, .int, fun m' p' h' s' e1 _ _ e2 _ _ e3 _ _ e4 _ _ N a H4 n hl4 => ⟨rfl, ?_⟩, fun hno => absurd ⟨⟨_, rfl, m1, m64⟩, ⟨_, rfl, p0, p512⟩, ⟨_, rfl, h1, h8⟩, ⟨_, rfl, s0, s16⟩⟩ hno⟩
    cases e1; cases e2; cases e3; cases e4
    clear z1 z2 z3 hl3
    obtain ⟨m, rfl⟩ := Int.eq_ofNat_of_zero_le (show 0 ≤ mI by omega)
    obtain ⟨p, rfl⟩ := Int.eq_ofNat_of_zero_le p0
    obtain ⟨h, rfl⟩ := Int.eq_ofNat_of_zero_le (show 0 ≤ hI by omega)
    rw [Int.toNat_natCast, Int.toNat_natCast, Int.toNat_natCast] at n
    walk_at "ge"
    refine K1.use ?_
    walk_at "cl"
    clear K1
    have up : ∀ {c : Addr × HO}, c ∈ (nq, HO.lst [.int m, .int p, .int h, .int s]) :: (hg, .lst [.int 64, .int 512, .int 8, .int 16]) :: (lw, .lst [.int 1, .int 0, .int 1, .int 0]) :: L → c ∈ N ++ (nq, HO.lst [.int m, .int p, .int h, .int s]) :: (hg, .lst [.int 64, .int 512, .int 8, .int 16]) :: (lw, .lst [.int 1, .int 0, .int 1, .int 0]) :: L := fun hc => List.mem_append_right _ hc
    have i_nq := up List.mem_cons_self
    have i_hg := up (List.mem_cons_of_mem _ List.mem_cons_self)
    have i_lw := up (List.mem_cons_of_mem _ (List.mem_cons_of_mem _ List.mem_cons_self))
    have hsM := hs.mono fun c hc => up (List.mem_cons_of_mem _ (List.mem_cons_of_mem _ (List.mem_cons_of_mem _ hc)))
    replace n := n.mono fun c hc => List.mem_append_left ((nq, HO.lst [.int m, .int p, .int h, .int s]) :: (hg, .lst [.int 64, .int 512, .int 8, .int 16]) :: (lw, .lst [.int 1, .int 0, .int 1, .int 0]) :: L) hc
    generalize N ++ (nq, HO.lst [.int m, .int p, .int h, .int s]) :: (hg, .lst [.int 64, .int 512, .int 8, .int 16]) :: (lw, .lst [.int 1, .int 0, .int 1, .int 0]) :: L = M at hl4 n i_nq i_hg i_lw hsM
    clear up hs
    refine seqK fun M1 K1 => ?_
    walk_at "ge"
    refine ⟨b, dx, a, m, p, h, s, M, nq, rfl, hl4, n, i_nq, fun N5 H5 hl5 => ?_⟩
    walk_at "ge"
    refine K1.use ?_
    walk_at "cl"
    clear K1 hl4
    refine seqK fun M1 K1 => ?_
    walk_at "ge"
    have n5 := n.mono fun c hc => List.mem_append_right N5 hc
    refine ⟨b, dx, a, m, p, h, s, _, rfl, hl5, n5, fun r1 H6 hl6 => ?_⟩
    walk_at "ge"
    refine ⟨b, dx, a, m, p, h, s, _, rfl, hl6, n5.mono fun c hc => List.mem_cons_of_mem _ hc, fun r2 H7 hl7 => ?_⟩
    walk_at "ge"
    refine ⟨b, dx, a, m, p, h, s, _, rfl, hl7, n5.mono fun c hc => List.mem_cons_of_mem _ (List.mem_cons_of_mem _ hc), fun r3 H8 hl8 => ?_⟩
    walk_at "ge"
    refine ⟨b, dx, a, m, p, h, s, _, rfl, hl8, n5.mono fun c hc => List.mem_cons_of_mem _ (List.mem_cons_of_mem _ (List.mem_cons_of_mem _ hc)), fun r4 H9 hl9 => ?_⟩
    walk_at "ge"
    refine ⟨b, dx, a, m, p, h, s, _, .int 0, rfl, hl9, n5.mono fun c hc => List.mem_cons_of_mem _ (List.mem_cons_of_mem _ (List.mem_cons_of_mem _ (List.mem_cons_of_mem _ hc))), .int, fun j0 e0 hj0 r5 H10 hl10 => ?_, fun hno => absurd ⟨_, rfl, by omega, by omega⟩ hno⟩
    clear e0 hj0 hl5 hl6 hl7 hl8 hl9
    walk_at "ge"
    rename_i tl H11 _ hl11 _
    refine K1.use ?_
    walk_at "cl"
    clear K1 hl10
    obtain ⟨y2, hy2⟩ : ∃ y : List V, List.replicate m V.non = y := ⟨_, rfl⟩
    obtain ⟨y3, hy3⟩ : ∃ y : List V, List.replicate m (V.bl false) = y := ⟨_, rfl⟩
    obtain ⟨y4, hy4⟩ : ∃ y : List V, List.replicate p V.non = y := ⟨_, rfl⟩
    have e2 : y2.length ≤ 520 := by rw [← hy2, List.length_replicate]; omega
    have e3 : y3.length ≤ 520 := by rw [← hy3, List.length_replicate]; omega
    have e4 : y4.length ≤ 520 := by rw [← hy4, List.length_replicate]; omega
    dsimp only at hl11
    rw [hy2, hy3, hy4] at hl11
    clear hy2 hy3 hy4
    refine seqK fun M1 K1 => ?_
    refine forL fun Lr hLr => ?_
    walk_at "ge"
    refine ⟨tl, rfl, ⟨_, SqL.of (hl11.get List.mem_cons_self)⟩, hLr.use ?_⟩
    clear hLr
    have hsz := sizeLine_eq
    refine loopL [.ref r1, .ref r2, .ref r3, .ref r4, .ref r5] (fun i σ H' => ∃ (y1 y2 y3 y4 y5 : List V) (v : Option V), Led H' ((tl, .lst [.ref r1, .ref r2, .ref r3, .ref r4, .ref r5]) :: (r5, .lst y5) :: (r4, .lst y4) :: (r3, .lst y3) :: (r2, .lst y2) :: (r1, .lst y1) :: (N5 ++ M)) ∧ y1.length ≤ 520 + i ∧ y2.length ≤ 520 + i ∧ y3.length ≤ 520 + i ∧ y4.length ≤ 520 + i ∧ y5.length ≤ 520 + i ∧ i ≤ 5 ∧ σ = [some (.ref sa), some (.ref lw), some (.ref hg), some (.ref nq), some (.ref b), some (.ref tl), v, none, none, none, none]) ⟨[], y2, y3, y4, [], _, hl11, by simp, e2, e3, e4, by simp, by omega, rfl⟩ (fun i σ H' _ h => by
      obtain ⟨y1, y2, y3, y4, y5, v, hl', _⟩ := h
      exact SqL.of (hl'.get List.mem_cons_self)) ?_ ?_
    · clear hl11 K1 e2 e3 e4
      rintro i x σ H' hx ⟨y1, y2, y3, y4, y5, v, hl', e1, e2, e3, e4, e5, hi5, rfl⟩
      have hi : i < 5 := (List.getElem?_eq_some_iff.mp hx).1
      rcases (by omega : i = 0 ∨ i = 1 ∨ i = 2 ∨ i = 3 ∨ i = 4) with rfl | rfl | rfl | rfl | rfl <;> cases hx
      · walk_at "ge"
        have c_r : H' r1 = some (.lst y1) := hl'.get (by simp)
        refine ⟨tyVL c_r, ?_⟩
        walk_at "ge"
        refine appH c_r (by omega) ?_
        walk_at "ge"
        exact ⟨y1 ++ [.int 7], y2, y3, y4, y5, _, hl'.putI 5 rfl rfl rfl, by simp; omega, by omega, by omega, by omega, by omega, by omega, rfl⟩
      · walk_at "ge"
        have c_r : H' r2 = some (.lst y2) := hl'.get (by simp)
        refine ⟨tyVL c_r, ?_⟩
        walk_at "ge"
        refine appH c_r (by omega) ?_
        walk_at "ge"
        exact ⟨y1, y2 ++ [.int 7], y3, y4, y5, _, hl'.putI 4 rfl rfl rfl, by omega, by simp; omega, by omega, by omega, by omega, by omega, rfl⟩
      · walk_at "ge"
        have c_r : H' r3 = some (.lst y3) := hl'.get (by simp)
        refine ⟨tyVL c_r, ?_⟩
        walk_at "ge"
        refine appH c_r (by omega) ?_
        walk_at "ge"
        exact ⟨y1, y2, y3 ++ [.int 7], y4, y5, _, hl'.putI 3 rfl rfl rfl, by omega, by omega, by simp; omega, by omega, by omega, by omega, rfl⟩
      · walk_at "ge"
        have c_r : H' r4 = some (.lst y4) := hl'.get (by simp)
        refine ⟨tyVL c_r, ?_⟩
        walk_at "ge"
        refine appH c_r (by omega) ?_
        walk_at "ge"
        exact ⟨y1, y2, y3, y4 ++ [.int 7], y5, _, hl'.putI 2 rfl rfl rfl, by omega, by omega, by omega, by simp; omega, by omega, by omega, rfl⟩
      · walk_at "ge"
        have c_r : H' r5 = some (.lst y5) := hl'.get (by simp)
        refine ⟨tyVL c_r, ?_⟩
        walk_at "ge"
        refine appH c_r (by omega) ?_
        walk_at "ge"
        exact ⟨y1, y2, y3, y4, y5 ++ [.int 7], _, hl'.putI 1 rfl rfl rfl, by omega, by omega, by omega, by omega, by simp; omega, by omega, rfl⟩
    · clear hl11 e2 e3 e4
      rintro σ H' ⟨y1, y2, y3, y4, y5, v, hl', _, _, _, _, _, _, rfl⟩
      have hl12 : Led H' M := Led.down (N := (tl, .lst [.ref r1, .ref r2, .ref r3, .ref r4, .ref r5]) :: (r5, .lst y5) :: (r4, .lst y4) :: (r3, .lst y3) :: (r2, .lst y2) :: (r1, .lst y1) :: N5) (by simpa using hl')
      clear hl'
      walk_at "ge"
      refine K1.use ?_
      walk_at "cl"
      clear K1 n5
      refine seqK fun M1 K1 => ?_
      walk_at "ge"
      refine ⟨b, dx, a, m, p, h, s, M, nq, rfl, hl12, n, i_nq, fun N13 H13 hl13 => ?_⟩
      walk_at "ge"
      refine K1.use ?_
      walk_at "cl"
      clear K1 hl12
      refine seqK fun M1 K1 => ?_
      refine forR2 fun Lr hLr => ?_
      walk_at "ge"
      refine ⟨_, _, rfl, by omega, ?_⟩
      rw [hLr.eq]
      clear hLr
      refine loopR (fun j σ H' => ∃ (N : Cells) (v1 v2 v3 v4 v5 : Option V), Led H' (N ++ M) ∧ σ = [some (.ref sa), some (.ref lw), some (.ref hg), some (.ref nq), some (.ref b), some (.ref tl), v1, v2, v3, v4, v5]) ⟨N13, _, _, _, _, _, hl13, rfl⟩ ?_ ?_
      · clear hl13 K1
        rintro j σ H' hj ⟨N, v1, v2, v3, v4, v5, hl', rfl⟩
        have hj56 : j < 56 := hj
        refine seqK fun M2 K2 => ?_
        walk_at "ge"
        refine ⟨sa, ns, _, rfl, by omega, hsM.seq (Led.down hl'), ?_⟩
        obtain ⟨cell, hcell⟩ : ∃ z : Int, ns.getD (4 + (j : Int)).toNat 0 = z := ⟨_, rfl⟩
        rw [hcell]
        walk_at "ge"
        refine K2.use ?_
        walk_at "cl"
        clear K2 hcell
        have c_nq := hl'.get (List.mem_append_right _ i_nq)
        refine seqK fun M2 K2 => ?_
        walk_at "ge"
        rename_i sp H2 _ hl2 _
        refine K2.use ?_
        walk_at "cl"
        clear K2 c_nq hl'
        have hm : (4 + (j : Int)) % 4 = ((j % 4 : Nat) : Int) := by omega
        have hj4 : j % 4 < 4 := Nat.mod_lt _ (by decide)
        have al := at_lo (j := (4 + (j : Int)) % 4) hm hj4
        have ah := at_hi (j := (4 + (j : Int)) % 4) hm hj4
        have c_lw := hl2.get (List.mem_cons_of_mem _ (List.mem_append_right _ i_lw))
        have c_hg := hl2.get (List.mem_cons_of_mem _ (List.mem_append_right _ i_hg))
        refine seqK fun M2 K2 => ?_
        walk_at "ge"
        refine ⟨_, _, _, _, rfl, (lo_hi hj4).2, hl2, fun x N3 H3 hl3 tx hno => ?_⟩
        clear al ah c_lw c_hg hl2
        walk_at "ge"
        have hl4 : Led H3 ((sp, .lst [.int m, .int p, .int h, .int s]) :: (N3 ++ (N ++ M))) := hl3.wk (by walk_at "sp")
        refine setLH (hl4.get List.mem_cons_self) (ixN_of (by omega) (by show _ < ((4 : Nat) : Int); omega)) ?_
        rw [show ((4 + (j : Int)) % 4).toNat = j % 4 by omega]
        obtain ⟨x1, x2, x3, x4, hset, tS, hno2⟩ := spoil (m := m) (p := p) (h := h) (s := s) hj4 hno
        rw [hset]
        have hl5 : Led (upd H3 sp (.lst [x1, x2, x3, x4])) ((sp, .lst [x1, x2, x3, x4]) :: (N3 ++ (N ++ M))) := hl4.put rfl rfl
        generalize upd H3 sp (.lst [x1, x2, x3, x4]) = H5 at hl5 ⊢
        clear hl4 hl3
        walk_at "ge"
        refine K2.use ?_
        walk_at "cl"
        clear K2
        have c_nq := hl5.get (List.mem_cons_of_mem _ (List.mem_append_right _ (List.mem_append_right _ i_nq)))
        refine seqK fun M2 K2 => ?_
        walk_at "ge"
        refine ⟨_, _, _, _, rfl, .inl rfl, hl5, fun y N6 H6 hl6 ty hno6 => ?_⟩
        clear c_nq hl5
        walk_at "ge"
        refine K2.use ?_
        walk_at "cl"
        clear K2
        have up6 : ∀ {c : Addr × HO}, c ∈ M → c ∈ N6 ++ (sp, HO.lst [x1, x2, x3, x4]) :: (N3 ++ (N ++ M)) := fun hc => List.mem_append_right _ (List.mem_cons_of_mem _ (List.mem_append_right _ (List.mem_append_right _ hc)))
        have i_sp : (sp, HO.lst [x1, x2, x3, x4]) ∈ N6 ++ (sp, HO.lst [x1, x2, x3, x4]) :: (N3 ++ (N ++ M)) := List.mem_append_right _ List.mem_cons_self
        obtain ⟨t1, t2, t3, t4⟩ := tS (N6 ++ (sp, HO.lst [x1, x2, x3, x4]) :: (N3 ++ (N ++ M))) (tx.mono fun H' q => (Led.down q).tail.sub (List.sublist_append_left _ _))
        have ty6 : Thg (N6 ++ (sp, HO.lst [x1, x2, x3, x4]) :: (N3 ++ (N ++ M))) y := ty.mono fun H' q => q.sub (List.sublist_append_left _ _)
        have n6 := n.mono fun c hc => up6 hc
        have cut : ∀ H', Led H' (N6 ++ (sp, HO.lst [x1, x2, x3, x4]) :: (N3 ++ (N ++ M))) → Led H' ((N6 ++ (sp, HO.lst [x1, x2, x3, x4]) :: (N3 ++ N)) ++ M) := fun H' q => by simpa using q
        obtain ⟨M6, hM6⟩ : ∃ M6 : Cells, N6 ++ (sp, HO.lst [x1, x2, x3, x4]) :: (N3 ++ (N ++ M)) = M6 := ⟨_, rfl⟩
        rw [hM6] at hl6 i_sp t1 t2 t3 t4 ty6 n6
        refine seqK fun M2 K2 => ?_
        walk_at "ge"
        refine ⟨sp, x1, x2, x3, x4, M6, rfl, hl6, i_sp, t1, t2, t3, t4, hno2, fun N7 H7 hl7 => ?_⟩
        walk_at "ge"
        refine ⟨b, dx, a, m, p, h, s, _, y, rfl, hl7, n6.mono fun c hc => List.mem_append_right _ hc, ty6.mono fun H' q => Led.down q, hno6, fun N8 H8 hl8 => ?_⟩
        walk_at "ge"
        refine K2.use ?_
        walk_at "cl"
        clear K2
        walk_at "ge"
        refine ⟨b, dx, a, m, p, h, s, _, y, rfl, hl8, n6.mono fun c hc => List.mem_append_right _ (List.mem_append_right _ hc), ty6.mono fun H' q => Led.down (Led.down q), hno6, fun N9 H9 hl9 => ?_⟩
        walk_at "ge"
        refine ⟨N9 ++ (N8 ++ (N7 ++ (N6 ++ (sp, HO.lst [x1, x2, x3, x4]) :: (N3 ++ N)))), _, _, _, _, _, ?_, rfl⟩
        rw [← hM6] at hl9
        simpa using hl9
      · clear hl13
        rintro σ H' ⟨N, v1, v2, v3, v4, v5, hl', rfl⟩
        walk_at "ge"
        refine K1.use ?_
        walk_at "cl"
        clear K1
        walk_at "ge"
        refine ⟨b, dx, a, m, p, h, s, _, nq, rfl, hl', n.mono fun c hc => List.mem_append_right _ hc, List.mem_append_right _ i_nq, fun N2 H2 hl2 => ?_⟩
        walk_at "ge"
        exact k _
theorem ok_all {f : Addr} {fd : FuncData} (F : Fun K "law" "law" s_law f fd) (B : Blt mg) (T : Txt K mg cP cN c1 c2 c3 c4 c5 c6 c7 c8 cW cT cF cD cS cI cB) : FnOk P w K mg base (CXR P w) 8 f fd ["_law_script"] (spLawB K) := by
  have g_whole := ok_is_whole (P := P) (w := w) (base := base) T.d_is_whole B
  have g_number := ok_number (P := P) (w := w) (base := base) T.d_number T g_whole
  have i_b := ok_binit (P := P) (w := w) (base := base) T.i_Book T
  have i_t := ok_tinit (P := P) (w := w) (base := base) T.i_Store T (ok_finit T.i_Frames T) (ok_dinit T.i_Dial T) (ok_sinit T.i_Shelf T) (ok_iinit T.i_Files T)
  have i_w := ok_winit (P := P) (w := w) (base := base) T.i_World B T i_t i_b g_number
  have m_th := ok_things (P := P) (w := w) (base := base) T.m_Frames_things B T
  have m_mk := ok_marks (P := P) (w := w) (base := base) T.m_Dial_marks B T
  have m_sh := ok_sheets (P := P) (w := w) (base := base) T.m_Shelf_sheets B T
  have m_wy := ok_ways (P := P) (w := w) (base := base) T.m_Book_ways B T
  have m_pt := ok_pointer (P := P) (w := w) (base := base) T.m_Dial_pointer T
  have g_sp := ok_told_spaces (P := P) (w := w) (base := base) T.d_told_spaces B T
  have g_fr := ok_told_frames (P := P) (w := w) (base := base) T.d_told_frames B T m_th
  have g_mk := ok_told_marks (P := P) (w := w) (base := base) T.d_told_marks B T m_mk
  have g_sh := ok_told_shelf (P := P) (w := w) (base := base) T.d_told_shelf B T m_sh
  have g_pt := ok_told_pointer (P := P) (w := w) (base := base) T.d_told_pointer B T m_pt
  have g_co := ok_told_copies (P := P) (w := w) (base := base) T.d_told_copies B T
  have g_ro := ok_told_room (P := P) (w := w) (base := base) T.d_told_room B T (ok_room_of T.d_room_of B T m_th m_sh)
  have g_ho := ok_told_holders (P := P) (w := w) (base := base) T.d_told_holders B T (ok_holders_of T.d_holders_of B T)
  have g_hand := ok_hand_of (P := P) (w := w) (base := base) T.d_hand_of B T g_number
  have g_bo := ok_told_book (P := P) (w := w) (base := base) T.d_told_book B T g_hand m_wy
  have g_wa := ok_told_walks (P := P) (w := w) (base := base) T.d_told_walks B T g_hand
  have g_al := ok_l_alone (P := P) (w := w) (base := base) T.d_l_alone B T
  have g_is := ok_l_is (P := P) (w := w) (base := base) T.d_l_is B T
  have g_of := ok_l_of_none (P := P) (w := w) (base := base) T.d_l_of_none B T
  have g_new := ok_l_is_new (P := P) (w := w) (base := base) T.d_l_is_new B T g_sp g_fr g_mk g_sh g_pt g_co g_ro g_ho g_bo g_wa g_is g_of
  exact ok_law F B T i_w (ok_cell_at T.d_l_cell_at B) (ok_l_edged T.d_l_edged B T) (ok_l_bad T.d_l_bad B T) g_new g_sp g_fr g_mk g_sh g_bo (ok_l_world_refused T.d_l_world_refused B T i_w g_al) (ok_l_book_refused T.d_l_book_refused B T g_bo g_al) (ok_l_walks_refused T.d_l_walks_refused B T g_wa g_al)
end
end My
set_option Elab.async false
set_option linter.all false
set_option maxRecDepth 100000
def PySem.W.Fast.tw14084306069278160519 : Unit := ()
def PySem.W.Fast.tw6420506913773621866 : Unit := ()
def PySem.W.Fast.tw17145519588667527589 : Unit := ()
def PySem.W.Fast.tw6661404106042625489 : Unit := ()
def PySem.W.Fast.tw15117536436986896990 : Unit := ()
def PySem.W.Fast.tw17321576804016839428 : Unit := ()
def PySem.W.Fast.tw7784548234139477607 : Unit := ()
def PySem.W.Fast.tw8299246171855717326 : Unit := ()
def PySem.W.Fast.tw10958865425885569510 : Unit := ()
def PySem.W.Fast.tw2432892473745492020 : Unit := ()
def PySem.W.Fast.tw5837115240781048583 : Unit := ()
def PySem.W.Fast.tw7387760898656122648 : Unit := ()
def PySem.W.Fast.tw3377653728165626305 : Unit := ()
def PySem.W.Fast.tw14867933820089308399 : Unit := ()
def PySem.W.Fast.tw9125391358182334835 : Unit := ()
def PySem.W.Fast.tw7032035059198334600 : Unit := ()
def PySem.W.Fast.tw8398221958446524887 : Unit := ()
def PySem.W.Fast.tw11920527047107861649 : Unit := ()
def PySem.W.Fast.tw8185508544475917092 : Unit := ()
def PySem.W.Fast.tw2832748763072432594 : Unit := ()
def PySem.W.Fast.tw7959325113244324033 : Unit := ()
def PySem.W.Fast.tw7503970899841938377 : Unit := ()
open PySem PySem.W PyProof.Rows
set_option maxRecDepth 100000 in
set_option maxHeartbeats 0 in
theorem PySem.Challenge.cw_paneworks_k60_a_world_made_holds : PySem.Challenge.rw_paneworks_k60_a_world_made.Holds := by
  w_on; o_law; k_head; (case hw => w_witness2)
  k_fill
  refine L2.law_walkB (l := PySem.Challenge.rw_paneworks_k60_a_world_made) (k := 8) (x := "_law_script") rfl rfl ⟨rfl, by decide, by decide⟩ (fun w h Y => PySem.W.kIn_of Y) ?F
  case F =>
    intro w mg fa h KX G hmg
    have B : L2.Blt mg := by
      refine' L2.blt_mk KX G ?z0 ?z1 ?z2 ?z3 ?z4 ?z5 ?z6 ?z7 ?z8 ?z9 ?z10 ?z11 ?z12 ?z13 ?z14 ?z15 ?z16
      all_goals k_is
    have T : ∃ cP cN c1 c2 c3 c4 c5 c6 c7 c8 cW cT cF cD cS cI cB, My.Txt (L2.KOf KX) mg cP cN c1 c2 c3 c4 c5 c6 c7 c8 cW cT cF cD cS cI cB := by
      dsimp only [L2.KOf]
      refine' My.txt_mk KX G ?y1 ?y2 ?y3 ?y4 ?y5 ?y6 ?y7 ?y8 ?y9 ?y10 ?y11 ?y12 ?y13 ?y14 ?y15 ?y16 ?y17 ?y18 ?y19 ?y20 ?y21 ?y22 ?y23 ?y24 ?y25 ?y26 ?y27 ?y28 ?y29 ?y30 ?y31 ?y32 ?y33 ?y34 ?y35 ?y36 ?y37 ?y38 ?y39 ?y40 ?y41 ?y42 ?y43 ?y44 ?y45 ?y46 ?y47 ?y48 ?y49 ?y50 ?y51 ?y52 ?y53 ?y54 ?y55 ?y56 ?y57 ?y58 ?y59 ?y60 ?y61 ?y62 ?y63 ?y64 ?y65 ?y66 ?y67 ?y68 ?y69 ?y70 ?y71 ?y72 ?y73 ?y74 ?y75 ?y76 ?y77 ?y78 ?y79 ?y80 ?y81 ?y82 ?y83 ?y84 ?y85 ?y86 ?y87 ?y88 ?y89 ?y90 ?y91 ?y92 ?y93 ?y94 ?y95 ?y96 ?y97 ?y98 ?y99 ?y100 ?y101 ?y102 ?y103 ?y104 ?y105 ?y106 ?y107 ?y108 ?y109 ?y110 ?y111 ?y112 ?y113 ?y114 ?y115 ?y116 ?y117 ?y118 ?y119 ?y120 ?y121 ?y122 ?y123 ?y124 ?y125 ?y126 ?y127 ?y128 ?y129 ?y130 ?y131 ?y132 ?y133 ?y134 ?y135 ?y136 ?y137 ?y138 ?y139 ?y140 ?y141 ?y142 ?y143 ?y144 ?y145 ?y146 ?y147 ?y148 ?y149 ?y150 ?y151 ?y152 ?y153 ?y154 ?y155 ?y156 ?y157 ?y158 ?y159 ?y160 ?y161 ?y162 ?y163 ?y164 ?y165 ?y166 ?y167 ?y168 ?y169 ?y170 ?y171 ?y172 ?y173 ?y174 ?y175 ?y176 ?y177 ?y178 ?y179 ?y180 ?y181 ?y182 ?y183 ?y184 ?y185 ?y186 ?y187 ?y188 ?y189 ?y190 ?y191 ?y192 ?y193 ?y194 ?y195 ?y196 ?y197 ?y198 ?y199 ?y200 ?y201 ?y202 ?y203 ?y204 ?y205 ?y206 ?y207 ?y208 ?y209 ?y210 ?y211 ?y212 ?y213 ?y214 ?y215 ?y216 ?y217 ?y218 ?y219 ?y220 ?y221 ?y222 ?y223 ?y224 ?y225 ?y226 ?y227 ?y228 ?y229 ?y230 ?y231 ?y232 ?y233 ?y234 ?y235 ?y236 ?y237 ?y238 ?y239 ?y240 ?y241 ?y242 ?y243 ?y244 ?y245 ?y246 ?y247 ?y248 ?y249 ?y250 ?y251 ?y252 ?y253 ?y254 ?y255 ?y256 ?y257 ?y258 ?y259 ?y260 ?y261 ?y262
      (case y1 => first | k_is | kernel_rfl)
      (case y2 => first | k_is | kernel_rfl)
      (case y3 => first | k_is | kernel_rfl)
      (case y4 => first | k_is | kernel_rfl)
      (case y5 => first | k_is | kernel_rfl)
      (case y6 => first | k_is | kernel_rfl)
      (case y7 => first | k_is | kernel_rfl)
      (case y8 => first | k_is | kernel_rfl)
      (case y9 => first | k_is | kernel_rfl)
      (case y10 => first | k_is | kernel_rfl)
      (case y11 => first | k_is | kernel_rfl)
      (case y12 => first | k_is | kernel_rfl)
      (case y13 => first | k_is | kernel_rfl)
      (case y14 => first | k_is | kernel_rfl)
      (case y15 => first | k_is | kernel_rfl)
      (case y16 => first | k_is | kernel_rfl)
      (case y17 => first | k_is | kernel_rfl)
      (case y18 => first | k_is | kernel_rfl)
      (case y19 => first | k_is | kernel_rfl)
      (case y20 => first | k_is | kernel_rfl)
      (case y21 => first | k_is | kernel_rfl)
      (case y22 => first | k_is | kernel_rfl)
      (case y23 => first | k_is | kernel_rfl)
      (case y24 => first | k_is | kernel_rfl)
      (case y25 => first | k_is | kernel_rfl)
      (case y26 => first | k_is | kernel_rfl)
      (case y27 => first | k_is | kernel_rfl)
      (case y28 => first | k_is | kernel_rfl)
      (case y29 => first | k_is | kernel_rfl)
      (case y30 => first | k_is | kernel_rfl)
      (case y31 => first | k_is | kernel_rfl)
      (case y32 => first | k_is | kernel_rfl)
      (case y33 => first | k_is | kernel_rfl)
      (case y34 => first | k_is | kernel_rfl)
      (case y35 => first | k_is | kernel_rfl)
      (case y36 => first | k_is | kernel_rfl)
      (case y37 => first | k_is | kernel_rfl)
      (case y38 => first | k_is | kernel_rfl)
      (case y39 => first | k_is | kernel_rfl)
      (case y40 => first | k_is | kernel_rfl)
      (case y41 => first | k_is | kernel_rfl)
      (case y42 => first | k_is | kernel_rfl)
      (case y43 => first | k_is | kernel_rfl)
      (case y44 => first | k_is | kernel_rfl)
      (case y45 => first | k_is | kernel_rfl)
      (case y46 => first | k_is | kernel_rfl)
      (case y47 => first | k_is | kernel_rfl)
      (case y48 => first | k_is | kernel_rfl)
      (case y49 => first | k_is | kernel_rfl)
      (case y50 => first | k_is | kernel_rfl)
      (case y51 => first | k_is | kernel_rfl)
      (case y52 => first | k_is | kernel_rfl)
      (case y53 => first | k_is | kernel_rfl)
      (case y54 => first | k_is | kernel_rfl)
      (case y55 => first | k_is | kernel_rfl)
      (case y56 => first | k_is | kernel_rfl)
      (case y57 => first | k_is | kernel_rfl)
      (case y58 => first | k_is | kernel_rfl)
      (case y59 => first | k_is | kernel_rfl)
      (case y60 => first | k_is | kernel_rfl)
      (case y61 => first | k_is | kernel_rfl)
      (case y62 => first | k_is | kernel_rfl)
      (case y63 => first | k_is | kernel_rfl)
      (case y64 => first | k_is | kernel_rfl)
      (case y65 => first | k_is | kernel_rfl)
      (case y66 => first | k_is | kernel_rfl)
      (case y67 => first | k_is | kernel_rfl)
      (case y68 => first | k_is | kernel_rfl)
      (case y69 => first | k_is | kernel_rfl)
      (case y70 => first | k_is | kernel_rfl)
      (case y71 => first | k_is | kernel_rfl)
      (case y72 => first | k_is | kernel_rfl)
      (case y73 => first | k_is | kernel_rfl)
      (case y74 => first | k_is | kernel_rfl)
      (case y75 => first | k_is | kernel_rfl)
      (case y76 => first | k_is | kernel_rfl)
      (case y77 => first | k_is | kernel_rfl)
      (case y78 => first | k_is | kernel_rfl)
      (case y79 => first | k_is | kernel_rfl)
      (case y80 => first | k_is | kernel_rfl)
      (case y81 => first | k_is | kernel_rfl)
      (case y82 => first | k_is | kernel_rfl)
      (case y83 => first | k_is | kernel_rfl)
      (case y84 => first | k_is | kernel_rfl)
      (case y85 => first | k_is | kernel_rfl)
      (case y86 => first | k_is | kernel_rfl)
      (case y87 => first | k_is | kernel_rfl)
      (case y88 => first | k_is | kernel_rfl)
      (case y89 => first | k_is | kernel_rfl)
      (case y90 => first | k_is | kernel_rfl)
      (case y91 => first | k_is | kernel_rfl)
      (case y92 => first | k_is | kernel_rfl)
      (case y93 => first | k_is | kernel_rfl)
      (case y94 => first | k_is | kernel_rfl)
      (case y95 => first | k_is | kernel_rfl)
      (case y96 => first | k_is | kernel_rfl)
      (case y97 => first | k_is | kernel_rfl)
      (case y98 => first | k_is | kernel_rfl)
      (case y99 => first | k_is | kernel_rfl)
      (case y100 => first | k_is | kernel_rfl)
      (case y101 => first | k_is | kernel_rfl)
      (case y102 => first | k_is | kernel_rfl)
      (case y103 => first | k_is | kernel_rfl)
      (case y104 => first | k_is | kernel_rfl)
      (case y105 => first | k_is | kernel_rfl)
      (case y106 => first | k_is | kernel_rfl)
      (case y107 => first | k_is | kernel_rfl)
      (case y108 => first | k_is | kernel_rfl)
      (case y109 => first | k_is | kernel_rfl)
      (case y110 => first | k_is | kernel_rfl)
      (case y111 => first | k_is | kernel_rfl)
      (case y112 => first | k_is | kernel_rfl)
      (case y113 => first | k_is | kernel_rfl)
      (case y114 => first | k_is | kernel_rfl)
      (case y115 => first | k_is | kernel_rfl)
      (case y116 => first | k_is | kernel_rfl)
      (case y117 => first | k_is | kernel_rfl)
      (case y118 => first | k_is | kernel_rfl)
      (case y119 => first | k_is | kernel_rfl)
      (case y120 => first | k_is | kernel_rfl)
      (case y121 => first | k_is | kernel_rfl)
      (case y122 => first | k_is | kernel_rfl)
      (case y123 => first | k_is | kernel_rfl)
      (case y124 => first | k_is | kernel_rfl)
      (case y125 => first | k_is | kernel_rfl)
      (case y126 => first | k_is | kernel_rfl)
      (case y127 => first | k_is | kernel_rfl)
      (case y128 => first | k_is | kernel_rfl)
      (case y129 => first | k_is | kernel_rfl)
      (case y130 => first | k_is | kernel_rfl)
      (case y131 => first | k_is | kernel_rfl)
      (case y132 => first | k_is | kernel_rfl)
      (case y133 => first | k_is | kernel_rfl)
      (case y134 => first | k_is | kernel_rfl)
      (case y135 => first | k_is | kernel_rfl)
      (case y136 => first | k_is | kernel_rfl)
      (case y137 => first | k_is | kernel_rfl)
      (case y138 => first | k_is | kernel_rfl)
      (case y139 => first | k_is | kernel_rfl)
      (case y140 => first | k_is | kernel_rfl)
      (case y141 => first | k_is | kernel_rfl)
      (case y142 => first | k_is | kernel_rfl)
      (case y143 => first | k_is | kernel_rfl)
      (case y144 => first | k_is | kernel_rfl)
      (case y145 => first | k_is | kernel_rfl)
      (case y146 => first | k_is | kernel_rfl)
      (case y147 => first | k_is | kernel_rfl)
      (case y148 => first | k_is | kernel_rfl)
      (case y149 => first | k_is | kernel_rfl)
      (case y150 => first | k_is | kernel_rfl)
      (case y151 => first | k_is | kernel_rfl)
      (case y152 => first | k_is | kernel_rfl)
      (case y153 => first | k_is | kernel_rfl)
      (case y154 => first | k_is | kernel_rfl)
      (case y155 => first | k_is | kernel_rfl)
      (case y156 => first | k_is | kernel_rfl)
      (case y157 => first | k_is | kernel_rfl)
      (case y158 => first | k_is | kernel_rfl)
      (case y159 => first | k_is | kernel_rfl)
      (case y160 => first | k_is | kernel_rfl)
      (case y161 => first | k_is | kernel_rfl)
      (case y162 => first | k_is | kernel_rfl)
      (case y163 => first | k_is | kernel_rfl)
      (case y164 => first | k_is | kernel_rfl)
      (case y165 => first | k_is | kernel_rfl)
      (case y166 => first | k_is | kernel_rfl)
      (case y167 => first | k_is | kernel_rfl)
      (case y168 => first | k_is | kernel_rfl)
      (case y169 => first | k_is | kernel_rfl)
      (case y170 => first | k_is | kernel_rfl)
      (case y171 => first | k_is | kernel_rfl)
      (case y172 => first | k_is | kernel_rfl)
      (case y173 => first | k_is | kernel_rfl)
      (case y174 => first | k_is | kernel_rfl)
      (case y175 => first | k_is | kernel_rfl)
      (case y176 => first | k_is | kernel_rfl)
      (case y177 => first | k_is | kernel_rfl)
      (case y178 => first | k_is | kernel_rfl)
      (case y179 => first | k_is | kernel_rfl)
      (case y180 => first | k_is | kernel_rfl)
      (case y181 => first | k_is | kernel_rfl)
      (case y182 => first | k_is | kernel_rfl)
      (case y183 => first | k_is | kernel_rfl)
      (case y184 => first | k_is | kernel_rfl)
      (case y185 => first | k_is | kernel_rfl)
      (case y186 => first | k_is | kernel_rfl)
      (case y187 => first | k_is | kernel_rfl)
      (case y188 => first | k_is | kernel_rfl)
      (case y189 => first | k_is | kernel_rfl)
      (case y190 => first | k_is | kernel_rfl)
      (case y191 => first | k_is | kernel_rfl)
      (case y192 => first | k_is | kernel_rfl)
      (case y193 => first | k_is | kernel_rfl)
      (case y194 => first | k_is | kernel_rfl)
      (case y195 => first | k_is | kernel_rfl)
      (case y196 => first | k_is | kernel_rfl)
      (case y197 => first | k_is | kernel_rfl)
      (case y198 => first | k_is | kernel_rfl)
      (case y199 => first | k_is | kernel_rfl)
      (case y200 => first | k_is | kernel_rfl)
      (case y201 => first | k_is | kernel_rfl)
      (case y202 => first | k_is | kernel_rfl)
      (case y203 => first | k_is | kernel_rfl)
      (case y204 => first | k_is | kernel_rfl)
      (case y205 => first | k_is | kernel_rfl)
      (case y206 => first | k_is | kernel_rfl)
      (case y207 => first | k_is | kernel_rfl)
      (case y208 => first | k_is | kernel_rfl)
      (case y209 => first | k_is | kernel_rfl)
      (case y210 => first | k_is | kernel_rfl)
      (case y211 => first | k_is | kernel_rfl)
      (case y212 => first | k_is | kernel_rfl)
      (case y213 => first | k_is | kernel_rfl)
      (case y214 => first | k_is | kernel_rfl)
      (case y215 => first | k_is | kernel_rfl)
      (case y216 => first | k_is | kernel_rfl)
      (case y217 => first | k_is | kernel_rfl)
      (case y218 => first | k_is | kernel_rfl)
      (case y219 => first | k_is | kernel_rfl)
      (case y220 => first | k_is | kernel_rfl)
      (case y221 => first | k_is | kernel_rfl)
      (case y222 => first | k_is | kernel_rfl)
      (case y223 => first | k_is | kernel_rfl)
      (case y224 => first | k_is | kernel_rfl)
      (case y225 => first | k_is | kernel_rfl)
      (case y226 => first | k_is | kernel_rfl)
      (case y227 => first | k_is | kernel_rfl)
      (case y228 => first | k_is | kernel_rfl)
      (case y229 => first | k_is | kernel_rfl)
      (case y230 => first | k_is | kernel_rfl)
      (case y231 => first | k_is | kernel_rfl)
      (case y232 => first | k_is | kernel_rfl)
      (case y233 => first | k_is | kernel_rfl)
      (case y234 => first | k_is | kernel_rfl)
      (case y235 => first | k_is | kernel_rfl)
      (case y236 => first | k_is | kernel_rfl)
      (case y237 => first | k_is | kernel_rfl)
      (case y238 => first | k_is | kernel_rfl)
      (case y239 => first | k_is | kernel_rfl)
      (case y240 => first | k_is | kernel_rfl)
      (case y241 => first | k_is | kernel_rfl)
      (case y242 => first | k_is | kernel_rfl)
      (case y243 => first | k_is | kernel_rfl)
      (case y244 => first | k_is | kernel_rfl)
      (case y245 => first | k_is | kernel_rfl)
      (case y246 => first | k_is | kernel_rfl)
      (case y247 => first | k_is | kernel_rfl)
      (case y248 => first | k_is | kernel_rfl)
      (case y249 => first | k_is | kernel_rfl)
      (case y250 => first | k_is | kernel_rfl)
      (case y251 => first | k_is | kernel_rfl)
      (case y252 => first | k_is | kernel_rfl)
      (case y253 => first | k_is | kernel_rfl)
      (case y254 => first | k_is | kernel_rfl)
      (case y255 => first | k_is | kernel_rfl)
      (case y256 => first | k_is | kernel_rfl)
      (case y257 => first | k_is | kernel_rfl)
      (case y258 => first | k_is | kernel_rfl)
      (case y259 => first | k_is | kernel_rfl)
      (case y260 => first | k_is | kernel_rfl)
      (case y261 => first | k_is | kernel_rfl)
      (case y262 => first | k_is | kernel_rfl)
    obtain ⟨cP, cN, c1, c2, c3, c4, c5, c6, c7, c8, cW, cT, cF, cD, cS, cI, cB, T⟩ := T
    exact L2.law_F T.d_law hmg (fun _ _ _ _ _ _ _ => rfl) fun base f fd F => My.ok_all F B T
#print axioms PySem.Challenge.cw_paneworks_k60_a_world_made_holds

import PyProof.Rows.All
import Wide.All
import OpenK.AllK
import Wide.FinOn
import Lean
import PyProof.EqAt
import PyProof.EqKinds
import PyProof.TupleCall
import PyProof.Rows.SortWalk
import KE.KDictSum
import KE.LcSums
import KE.KEqDat
import KE.KRevIter
import PyProof.P3In
import PyProof.SliceStr2
import PyProof.MeetsStr
import PyProof.StrBlockI
import PyProof.StrWalks
import PyProof.FitsReplace
import PyProof.ListStr
import PyProof.ZipIter
import KE.KIntText
import KE.IntTextLaws
import PyProof.StrLawsIn
import PyProof.StrCalls2
import PyProof.Rows.CatFin
import PyProof.Rows.StrClose
import KE.IntTextText
import PyProof.StrLawsTight
import PyProof.StrLawsChain
import PyProof.Rows.StrItems
import PyProof.Rows.ReprOcc
import PyProof.Rows.SortStr
import PyProof.Rows.SetFrom
import PySem.Challenge.RW_paneworks_k11_states
set_option Elab.async false
set_option compiler.extract_closed false
set_option linter.all false
set_option maxRecDepth 100000
/-! THE HAND LAYER, for ints, bools, texts, own classes, DICTS (int and text keys), calls, loops. Paste it whole ahead of your own text; what your proof does not reach may be deleted. -/
namespace L2
open PySem PySem.Spec PyProof.Rows

/-- a key: an int or a str -/
abbrev Key := Sum Int Str
def keyIs : Key → Value → Bool
  | .inl k, v => Value.isInt k v
  | .inr x, v => Value.isStrOf x v
def keyH (w : World) : Key → Int
  | .inl k => hashInt k
  | .inr x => hashStr w x
theorem keyIs_shape : ∀ {k : Key} {v : Value}, keyIs k v = true → (∃ i t, k = Sum.inl i ∧ v = Value.int i t) ∨ (∃ x t, k = Sum.inr x ∧ v = Value.str x t)
  | .inl i, v, h => by
    obtain ⟨t, e⟩ := Value.isInt_shape (k := i) (v := v) h
    exact .inl ⟨i, t, rfl, e⟩
  | .inr x, v, h => by
    obtain ⟨t, e⟩ := Value.isStrOf_shape (x := x) (v := v) h
    exact .inr ⟨x, t, rfl, e⟩
theorem key_ll (a b : Int) : decide ((Sum.inl a : Key) = Sum.inl b) = (a == b) := by
  by_cases e : a = b
  · subst e; simp
  · have h : ¬ (Sum.inl a : Key) = Sum.inl b := fun q => e (Sum.inl.inj q)
    rw [decide_eq_false h]
    exact (beq_eq_false_iff_ne.mpr e).symm
theorem key_rr (a b : Str) : decide ((Sum.inr a : Key) = Sum.inr b) = decide (a = b) := by
  by_cases e : a = b
  · subst e; simp
  · have h : ¬ (Sum.inr a : Key) = Sum.inr b := fun q => e (Sum.inr.inj q)
    rw [decide_eq_false h, decide_eq_false e]
theorem key_lr (a : Int) (b : Str) : decide ((Sum.inl a : Key) = Sum.inr b) = false := decide_eq_false (fun q => nomatch q)
theorem key_rl (a : Str) (b : Int) : decide ((Sum.inr a : Key) = Sum.inl b) = false := decide_eq_false (fun q => nomatch q)

def mixKind (prog : Program) (w : World) : PySem.KeyKind prog w Key where
  is := keyIs
  hash := keyH w
  inj := fun v a b ha hb => by
    rcases keyIs_shape ha with ⟨i, t, rfl, rfl⟩ | ⟨x, t, rfl, rfl⟩
    · rcases keyIs_shape hb with ⟨j, u, rfl, e⟩ | ⟨y, u, rfl, e⟩
      · injection e with e1 _; rw [e1]
      · exact nomatch e
    · rcases keyIs_shape hb with ⟨j, u, rfl, e⟩ | ⟨y, u, rfl, e⟩
      · exact nomatch e
      · injection e with e1 _; rw [e1]
  byValue := fun k v h => by
    rcases keyIs_shape h with ⟨i, t, rfl, rfl⟩ | ⟨x, t, rfl, rfl⟩ <;> rfl
  pyHash := fun hv h => by
    rcases keyIs_shape hv with ⟨i, t, rfl, rfl⟩ | ⟨x, t, rfl, rfl⟩
    · exact wpAny_pyHash_int h
    · exact wpAny_pyHash_str h
  eqBool := fun hu hv h => by
    rcases keyIs_shape hu with ⟨i, t, rfl, rfl⟩ | ⟨x, t, rfl, rfl⟩
    · rcases keyIs_shape hv with ⟨j, u, rfl, rfl⟩ | ⟨y, u, rfl, rfl⟩
      · rw [key_ll] at h; exact wpAny_eqBool_int h
      · rw [key_lr] at h; exact SeqAt.EqAt.int_str i t y u _ _ _ _ h
    · rcases keyIs_shape hv with ⟨j, u, rfl, rfl⟩ | ⟨y, u, rfl, rfl⟩
      · rw [key_rl] at h; exact SeqAt.EqAt.str_int x t j u _ _ _ _ h
      · rw [key_rr] at h; exact wpAny_eqBool_str h
  «strs» := fun k x t v h => by
    rcases keyIs_shape h with ⟨i, u, rfl, e⟩ | ⟨y, u, rfl, e⟩
    · exact nomatch e
    · injection e with e1 _
      subst e1
      cases v <;> rfl

end L2

namespace L2
open PySem PySem.Spec PyProof.Rows

/-- a value, without the heap -/
inductive V where
  | non | bl (b : Bool) | int (i : Int) | str (x : Str) | byt (b : Array UInt8) | flt (b : UInt64) | ref (a : Addr) | ty (n : String)
  deriving DecidableEq

def RelV : V → Value → Prop
  | .non, u => u = Value.none
  | .bl b, u => u = Value.bool b
  | .int i, u => ∃ t, u = Value.int i t
  | .str x, u => ∃ t, u = Value.str x t
  | .byt b, u => ∃ t, u = Value.bytes b t
  | .flt b, u => ∃ t, u = Value.float b t
  | .ref a, u => u = Value.ref a
  | .ty n, u => u = Value.type n

abbrev Vals : List V → List Value → Prop := Paired RelV
theorem Vals.length {xs : List V} {us : List Value} (r : Vals xs us) : xs.length = us.length := Paired.length r
theorem Vals.get : ∀ {xs : List V} {us : List Value} {i : Nat} {x : V}, Vals xs us → xs[i]? = some x → ∃ u, us[i]? = some u ∧ RelV x u
  | _, _, _, _, .nil, e => by simp at e
  | _, _, 0, _, .cons r _, e => by simp at e; subst e; exact ⟨_, rfl, r⟩
  | _, _, i + 1, x, .cons _ t, e => by
    obtain ⟨u, h1, h2⟩ := Vals.get (i := i) (x := x) t (by simpa using e)
    exact ⟨u, by simpa using h1, h2⟩
theorem Vals.set {x : V} {u : Value} (r : RelV x u) : ∀ {xs : List V} {us : List Value} (i : Nat), Vals xs us → Vals (xs.set i x) (us.set i u)
  | _, _, _, .nil => .nil
  | _, _, 0, .cons _ t => .cons r t
  | _, _, i + 1, .cons q t => .cons q (Vals.set r i t)
theorem Vals.append : ∀ {xs ys : List V} {us ws : List Value}, Vals xs us → Vals ys ws → Vals (xs ++ ys) (us ++ ws)
  | _, _, _, _, .nil, s => s
  | _, _, _, _, .cons r t, s => .cons r (Vals.append t s)
theorem Vals.take : ∀ {xs : List V} {us : List Value} (n : Nat), Vals xs us → Vals (xs.take n) (us.take n)
  | _, _, 0, _ => .nil
  | _, _, _ + 1, .nil => .nil
  | _, _, n + 1, .cons r t => .cons r (Vals.take n t)
theorem Vals.drop : ∀ {xs : List V} {us : List Value} (n : Nat), Vals xs us → Vals (xs.drop n) (us.drop n)
  | _, _, 0, r => r
  | _, _, _ + 1, .nil => .nil
  | _, _, n + 1, .cons _ t => Vals.drop n t
def RelO : Option V → Option Value → Prop
  | some v, some u => RelV v u
  | none, none => True
  | _, _ => False
def KV {κ : Type} : List (κ × V) → List (κ × Value) → Prop := Paired fun (p : κ × V) (q : κ × Value) => p.1 = q.1 ∧ RelV p.2 q.2

/-- a key of a dict (00_mix): an int or a text -/
def kV : Key → V
  | .inl i => .int i
  | .inr x => .str x

/-- what stands at a tracked address -/
inductive HO where
  /-- a list -/
  | lst (xs : List V)
  /-- a tuple (never changes) -/
  | tup (xs : List V)
  /-- a dict whose keys are ints and texts; one whose keys are tuples of ints and texts (the empty one is both) -/
  | dK (kvs : List (Key × V)) | dT (kvs : List (List Key × V))
  /-- a set of ints: its members, its size -/
  | set (S : Int → Bool) (n : Nat)
  /-- an instance of the class at C, its dict at dx, its attributes -/
  | ins (C dx : Addr) (fs : List (Str × V))
  /-- the dict of the instance at x -/
  | own (x : Addr)
  /-- the dict of an exception -/
  | xd (fs : List (Str × V))
  /-- a bound method, f of x -/
  | met (f x : Addr)
  /-- a range object lo, lo + 1, .. below hi -/
  | rng (lo hi : Int)
  /-- a thing that is known to the object (the script; a dict while a loop walks it): read, never written while it is so -/
  | frz (o : Obj) (u : HO)
  /-- a code object's table -/
  | tbl (ps : Array Value)
  /-- any other thing, by what is true of its one object (a def of one's own: SetO a S n := HO.ext fun h => ..) -/
  | ext (φ : Heap → Prop)

abbrev Hp := Addr → Option HO
def upd (H : Hp) (a : Addr) (o : HO) : Hp := fun b => if b = a then some o else H b
theorem upd_same {H : Hp} {a : Addr} {o : HO} : upd H a o a = some o := by unfold upd; rw [if_pos rfl]
theorem upd_ne {H : Hp} {a b : Addr} {o : HO} (h : b ≠ a) : upd H a o b = H b := by unfold upd; rw [if_neg h]
theorem ne_of_none {H : Hp} {a b : Addr} {o : HO} (h : H a = some o) (h' : H b = none) : a ≠ b := by
  intro e; subst e; rw [h] at h'; cases h'

section
variable (P : Program) (w : World)
def ObjOk (H : Hp) (h : Heap) (a : Addr) : HO → Prop
  | .lst xs => xs.length ≤ sizeLine ∧ ∃ (its : List Value) (n : Nat), Vals xs its ∧ h.get? a = some { cls := .type "list", data := .seq its.toArray n }
  | .tup xs => xs.length ≤ sizeLine ∧ ∃ its : List Value, Vals xs its ∧ IsTup h a its.toArray
  | .dK kvs => kvs.length ≤ sizeLine ∧ (a == sysModules) = false ∧ ∃ vs, KV kvs vs ∧ h.DictOf (mixKind P w) a vs
  | .dT kvs => kvs.length ≤ sizeLine ∧ (a == sysModules) = false ∧ ∃ xs : List (List Key × Addr × Value),
      Paired (fun (p : List Key × V) (q : List Key × Addr × Value) => p.1 = q.1 ∧ H q.2.1 = some (.tup (p.1.map kV)) ∧ RelV p.2 q.2.2) kvs xs ∧
      ∃ o es ep, h.get? a = some o ∧ o.ExactDict ∧ o.data = .dict es ep ∧ es.toList = xs.map (entryOfKey (tupleKind (mixKind P w))) ∧ (xs.map (·.1)).Nodup
  | .set S n => h.SetOf (intKind P w) a S n
  | .ins C dx fs => H dx = some (.own a) ∧ fs.length ≤ 1000 ∧ dx ≠ a ∧ h.get? a = some (PySem.W.instObj C dx) ∧
      ∃ mA, h.Ns1 dx mA ∧ (∀ f, RelO (fs.lookup f) (mA f)) ∧ PySem.Within mA (fs.map (·.1))
  | .own _ => ∃ o, h.get? a = some o
  | .xd fs => ∃ mA, h.Ns1 a mA ∧ ∀ f, RelO (fs.lookup f) (mA f)
  | .rng lo hi => ∃ t u v, h.get? a = some { cls := .type "range", data := .fields #[.int lo t, .int hi u, .int 1 v] }
  | .frz o u => h.get? a = some o ∧ ObjOk H h a u
  | .tbl ps => h.get? a = some { cls := .none, data := .fields ps }
  | .met f x => h.get? a = some (PySem.W.methodObj (.ref f) (.ref x))
  | .ext φ => φ h ∧ (∃ o, h.get? a = some o) ∧ ∀ h1 h2 : Heap, φ h1 → (∀ o, h1.get? a = some o → h2.get? a = some o) → φ h2
/-- the abstract heap is held -/
def HOk (H : Hp) (h : Heap) : Prop := ∀ a o, H a = some o → ObjOk P w H h a o
end

section
variable {P : Program} {w : World} {H H' : Hp} {h h' : Heap} {a : Addr} {o : HO}
theorem ObjOk.lt (x : ObjOk P w H h a o) : a < h.objs.size := by
  cases o with
  | lst xs => obtain ⟨_, _, _, _, e⟩ := x; exact Heap.lt_size e
  | tup xs => obtain ⟨_, _, _, p⟩ := x; exact p.lt
  | dK kvs => obtain ⟨_, _, _, _, o, _, _, e, _⟩ := x; exact Heap.lt_size e
  | dT kvs => obtain ⟨_, _, _, _, o, _, _, e, _⟩ := x; exact Heap.lt_size e
  | set S n => obtain ⟨o, _, _, _, e, _⟩ := x; exact Heap.lt_size e
  | ins C dx fs => obtain ⟨_, _, _, e, _⟩ := x; exact Heap.lt_size e
  | own y => obtain ⟨_, e⟩ := x; exact Heap.lt_size e
  | xd fs => obtain ⟨_, ⟨_, _, _, e, _⟩, _⟩ := x; exact Heap.lt_size e
  | rng lo hi => obtain ⟨_, _, _, e⟩ := x; exact Heap.lt_size e
  | frz ob u => obtain ⟨e, _⟩ := x; exact Heap.lt_size e
  | tbl ps => exact Heap.lt_size (show h.get? a = some _ from x)
  | met f y => exact Heap.lt_size (show h.get? a = some _ from x)
  | ext φ => obtain ⟨_, ⟨_, e⟩, _⟩ := x; exact Heap.lt_size e
theorem Paired.mapP {α β : Type} {F G : α → β → Prop} : ∀ {l₁ : List α} {l₂ : List β}, Paired F l₁ l₂ → (∀ a b, F a b → G a b) → Paired G l₁ l₂
  | _, _, .nil, _ => .nil
  | _, _, .cons r t, f => .cons (f _ _ r) (Paired.mapP t f)
/-- what an object's description leans on: its own object, its own dict, the tuples -/
theorem ObjOk.stay (x : ObjOk P w H h a o) (k : ∀ b u, (b = a ∨ H b = some (.own a)) → h.get? b = some u → h'.get? b = some u)
    (ho : ∀ b, H b = some (.own a) → H' b = some (.own a)) (ht : ∀ b xs, H b = some (.tup xs) → H' b = some (.tup xs)) : ObjOk P w H' h' a o := by
  induction o with
  | lst xs => obtain ⟨z, its, n, r, e⟩ := x; exact ⟨z, its, n, r, k _ _ (.inl rfl) e⟩
  | tup xs => obtain ⟨z, its, r, ob, e, c⟩ := x; exact ⟨z, its, r, ob, k _ _ (.inl rfl) e, c⟩
  | dK kvs => obtain ⟨z, y, vs, r, ob, es, ep, e, c⟩ := x; exact ⟨z, y, vs, r, ob, es, ep, k _ _ (.inl rfl) e, c⟩
  | dT kvs =>
    obtain ⟨z, y, xs, r, ob, es, ep, e, c⟩ := x
    exact ⟨z, y, xs, Paired.mapP r fun p q z => ⟨z.1, ht _ _ z.2.1, z.2.2⟩, ob, es, ep, k _ _ (.inl rfl) e, c⟩
  | set S n => obtain ⟨ob, es, ep, t, e, c⟩ := x; exact ⟨ob, es, ep, t, k _ _ (.inl rfl) e, c⟩
  | ins C dx fs =>
    obtain ⟨d, z, ne, e, mA, ⟨od, es, ep, e2, c⟩, r⟩ := x
    exact ⟨ho _ d, z, ne, k _ _ (.inl rfl) e, mA, ⟨od, es, ep, k _ _ (.inr d) e2, c⟩, r⟩
  | own y => obtain ⟨ob, e⟩ := x; exact ⟨ob, k _ _ (.inl rfl) e⟩
  | xd fs => obtain ⟨mA, ⟨od, es, ep, e, c⟩, r⟩ := x; exact ⟨mA, ⟨od, es, ep, k _ _ (.inl rfl) e, c⟩, r⟩
  | rng lo hi => obtain ⟨t, u, v, e⟩ := x; exact ⟨t, u, v, k _ _ (.inl rfl) e⟩
  | frz ob u ih => obtain ⟨e, q⟩ := x; exact ⟨k _ _ (.inl rfl) e, ih q⟩
  | tbl ps =>
    have e : h.get? a = some { cls := .none, data := .fields ps } := x
    show h'.get? a = some { cls := .none, data := .fields ps }
    exact k a _ (.inl rfl) e
  | met f y =>
    have e : h.get? a = some (PySem.W.methodObj (.ref f) (.ref y)) := x
    show h'.get? a = some (PySem.W.methodObj (.ref f) (.ref y))
    exact k a _ (.inl rfl) e
  | ext φ => obtain ⟨p, ⟨o, e⟩, st⟩ := x; exact ⟨st _ _ p fun o q => k _ _ (.inl rfl) q, ⟨o, k _ _ (.inl rfl) e⟩, st⟩
theorem HOk.lt (x : HOk P w H h) (e : H a = some o) : a < h.objs.size := (x a o e).lt
theorem HOk.fresh (x : HOk P w H h) (e : h.objs.size ≤ a) : H a = none := by
  cases q : H a with
  | none => rfl
  | some u => exact absurd (Nat.lt_of_lt_of_le (x.lt q) e) (Nat.lt_irrefl _)
/-- every object of the heap is kept -/
theorem HOk.kept (x : HOk P w H h) (k : ∀ b u, h.get? b = some u → h'.get? b = some u) : HOk P w H h' := fun a o e =>
  (x a o e).stay (fun b u _ q => k b u q) (fun _ q => q) fun _ _ q => q
/-- a new object is laid and tracked -/
theorem HOk.laid (x : HOk P w H h) (k : ∀ b u, h.get? b = some u → h'.get? b = some u) (hp : h.objs.size ≤ a) (new : ObjOk P w (upd H a o) h' a o) : HOk P w (upd H a o) h' := fun b u e => by
  have hn := x.fresh hp
  by_cases hb : b = a
  · subst hb; rw [upd_same] at e; cases e; exact new
  · rw [upd_ne hb] at e
    exact (x b u e).stay (fun c v _ q => k c v q) (fun c q => by rw [upd_ne (ne_of_none q hn)]; exact q) fun c xs q => by rw [upd_ne (ne_of_none q hn)]; exact q
end

/-- what may be read as u: it is u, or a known u -/
def Rd (H : Hp) (a : Addr) (u : HO) : Prop := H a = some u ∨ ∃ o, H a = some (.frz o u)
theorem Rd.of {H : Hp} {a : Addr} {u : HO} (h : H a = some u) : Rd H a u := .inl h
theorem Rd.ok {P : Program} {w : World} {H : Hp} {h : Heap} {a : Addr} {u : HO} (r : Rd H a u) (x : HOk P w H h) : ObjOk P w H h a u := by
  rcases r with r | ⟨o, r⟩
  · exact x a u r
  · obtain ⟨_, q⟩ := x a _ r
    exact q
/-- what may be written -/
def Mut : Option HO → Prop
  | some (.lst _) => True
  | some (.dK _) => True
  | some (.dT _) => True
  | some (.set _ _) => True
  | some (.ins _ _ _) => True
  | some (.ext _) => True
  | _ => False
section
variable {P : Program} {w : World} {H : Hp} {h h' : Heap} {x e : Addr} {o' : HO}
/-- the object at e is changed: x itself, or the dict of the instance x -/
theorem HOk.write (ok : HOk P w H h) (mu : Mut (H x)) (he : e = x ∨ H e = some (.own x)) (k : ∀ b u, b ≠ e → h.get? b = some u → h'.get? b = some u) (heo : ∃ u, h'.get? e = some u)
    (new : ObjOk P w (upd H x o') h' x o') : HOk P w (upd H x o') h' := fun b u q => by
  have nown : ∀ c y, H c = some (.own y) → c ≠ x := fun c y r z => by subst z; rw [r] at mu; exact mu
  have ntup : ∀ c xs, H c = some (.tup xs) → c ≠ x := fun c xs r z => by subst z; rw [r] at mu; exact mu
  by_cases hb : b = x
  · subst hb; rw [upd_same] at q; cases q; exact new
  · rw [upd_ne hb] at q
    by_cases hbe : b = e
    · have q' : H b = some (.own x) := by
        rcases he with z | z
        · exact absurd (hbe.trans z) hb
        · rw [hbe]; exact z
      rw [q] at q'; cases q'
      obtain ⟨v, hv⟩ := heo
      exact ⟨v, by rw [hbe]; exact hv⟩
    · refine (ok b u q).stay (fun c v hc r => k c v ?_ r) (fun c r => by rw [upd_ne (nown c b r)]; exact r) fun c xs r => by rw [upd_ne (ntup c xs r)]; exact r
      rcases hc with rfl | hc
      · exact hbe
      · rintro rfl
        rcases he with z | z
        · exact nown c b hc z
        · rw [hc] at z; cases z; exact hb rfl
end

/-! ### kept unless tracked; of the frames at fs (the callers') the slots may change (an exception that passes writes there); of the records at ex (iterators) nothing is said -/
structure Un (fs ex : List Addr) (H H' : Hp) (h h' : Heap) : Prop where
  keep : ∀ b o, h.get? b = some o → H b = none → b ∉ fs → b ∉ ex → h'.get? b = some o
  slot : ∀ b o, h.get? b = some o → H b = none → b ∈ fs → b ∉ ex → ∃ sl, h'.get? b = some { o with slots := sl }
  free : ∀ b o, h.get? b = some o → H b = none → b ∉ ex → H' b = none
  there : ∀ b o, h.get? b = some o → b ∉ ex → ∃ o', h'.get? b = some o'
  tups : ∀ b xs, H b = some (.tup xs) → H' b = some (.tup xs)
  frzs : ∀ b o u, H b = some (.frz o u) → H' b = some (.frz o u)
  tbls : ∀ b ps, H b = some (.tbl ps) → ∃ more, H' b = some (.tbl (ps ++ more))
section
variable {fs fs' ex ex' : List Addr} {H H1 H2 : Hp} {h h1 h2 h' : Heap} {a x e : Addr} {o : HO}
theorem Un.any (u : Un fs ex H H1 h h1) {b : Addr} {ob : Obj} (q : h.get? b = some ob) (n : H b = none) (hx : b ∉ ex) : ∃ sl, h1.get? b = some { ob with slots := sl } := by
  by_cases hb : b ∈ fs
  · exact u.slot b ob q n hb hx
  · exact ⟨ob.slots, u.keep b ob q n hb hx⟩
theorem Un.trans (a : Un fs ex H H1 h h1) (b : Un fs ex H1 H2 h1 h2) : Un fs ex H H2 h h2 where
  keep := fun c ob q n hc hx => b.keep c ob (a.keep c ob q n hc hx) (a.free c ob q n hx) hc hx
  slot := fun c ob q n hc hx => by
    obtain ⟨sl, e1⟩ := a.slot c ob q n hc hx
    obtain ⟨sl', e2⟩ := b.slot c _ e1 (a.free c ob q n hx) hc hx
    exact ⟨sl', e2⟩
  free := fun c ob q n hx => by
    obtain ⟨o', e1⟩ := a.there c ob q hx
    exact b.free c o' e1 (a.free c ob q n hx) hx
  there := fun c ob q hx => by
    obtain ⟨o', e1⟩ := a.there c ob q hx
    exact b.there c o' e1 hx
  tups := fun c xs q => b.tups c xs (a.tups c xs q)
  frzs := fun c ob xs q => b.frzs c ob xs (a.frzs c ob xs q)
  tbls := fun c ps q => by
    obtain ⟨m1, e1⟩ := a.tbls c ps q
    obtain ⟨m2, e2⟩ := b.tbls c _ e1
    exact ⟨m1 ++ m2, by rw [e2, Array.append_assoc]⟩
theorem Un.kept (k : ∀ b u, h.get? b = some u → h'.get? b = some u) : Un fs ex H H h h' :=
  ⟨fun b ob q _ _ _ => k b ob q, fun b ob q _ _ _ => ⟨ob.slots, k b ob q⟩, fun _ _ _ n _ => n, fun b ob q _ => ⟨ob, k b ob q⟩, fun _ _ q => q, fun _ _ _ q => q, fun _ ps q => ⟨#[], by rw [q]; simp⟩⟩
theorem Un.refl : Un fs ex H H h h := Un.kept fun _ _ q => q
theorem Un.laid (k : ∀ b u, h.get? b = some u → h'.get? b = some u) (hp : h.objs.size ≤ a) (hn : H a = none) : Un fs ex H (upd H a o) h h' where
  keep := fun b u q _ _ _ => k b u q
  slot := fun b u q _ _ _ => ⟨u.slots, k b u q⟩
  free := fun b u q n _ => by rw [upd_ne (Nat.ne_of_lt (Nat.lt_of_lt_of_le (Heap.lt_size q) hp))]; exact n
  there := fun b u q _ => ⟨u, k b u q⟩
  tups := fun b xs q => by rw [upd_ne (ne_of_none q hn)]; exact q
  frzs := fun b u xs q => by rw [upd_ne (ne_of_none q hn)]; exact q
  tbls := fun b ps q => ⟨#[], by rw [upd_ne (ne_of_none q hn), q]; simp⟩
theorem Un.write (mu : Mut (H x)) (he : e = x ∨ H e = some (.own x)) (k : ∀ b u, b ≠ e → h.get? b = some u → h'.get? b = some u) (heo : ∃ u, h'.get? e = some u) : Un fs ex H (upd H x o) h h' := by
  have hx : ∀ b, H b = none → b ≠ x := fun b n z => by subst z; rw [n] at mu; exact mu
  have hb : ∀ b, H b = none → b ≠ e := fun b n z => by
    subst z
    rcases he with r | r
    · exact hx b n r
    · rw [n] at r; cases r
  have hm : ∀ b u, H b = some u → ¬ Mut (some u) → b ≠ x := fun b u q nm z => by subst z; rw [q] at mu; exact nm mu
  refine ⟨fun b u q n _ _ => k b u (hb b n) q, fun b u q n _ _ => ⟨u.slots, k b u (hb b n) q⟩, fun b u q n _ => by rw [upd_ne (hx b n)]; exact n, fun b u q _ => ?_,
    fun b xs q => by rw [upd_ne (hm b _ q fun z => z)]; exact q, fun b u xs q => by rw [upd_ne (hm b _ q fun z => z)]; exact q, fun b ps q => ⟨#[], by rw [upd_ne (hm b _ q fun z => z), q]; simp⟩⟩
  by_cases hbe : b = e
  · subst hbe; exact heo
  · exact ⟨u, k b u hbe q⟩
theorem Un.mono (u : Un fs ex H H1 h h1) (hs : ∀ b ∈ fs, b ∈ fs') (hx : ∀ b ∈ ex, b ∈ ex') : Un fs' ex' H H1 h h1 :=
  ⟨fun b ob q n hb he => u.keep b ob q n (fun z => hb (hs b z)) fun z => he (hx b z), fun _ _ q n _ he => u.any q n fun z => he (hx _ z), fun b ob q n he => u.free b ob q n fun z => he (hx b z), fun b ob q he => u.there b ob q fun z => he (hx b z), u.tups, u.frzs, u.tbls⟩
end

/-! ### the heap without what is tracked -/
def trk (h : Heap) (H : Hp) : List Addr := (List.range h.objs.size).filter fun a => (H a).isSome
def hidT (h : Heap) (H : Hp) : Heap := PySem.W.hideAll h (trk h H)
theorem hidT_size (h : Heap) (H : Hp) : (hidT h H).objs.size = h.objs.size := PySem.W.hideAll_size _ _
theorem hidT_get {h : Heap} {H : Hp} {b : Addr} {o : Obj} (e : h.get? b = some o) (n : H b = none) : (hidT h H).get? b = some o :=
  PySem.W.hideAll_get _ e fun hm => by
    have q : (H b).isSome = true := (List.mem_filter.mp hm).2
    rw [n] at q; simp at q
theorem of_hidT {h : Heap} {H : Hp} {b : Addr} {o : Obj} (e : (hidT h H).get? b = some o) : h.get? b = some o ∧ H b = none := by
  have e' : h.get? b = some o := PySem.W.of_hideAll (trk h H) e
  refine ⟨e', ?_⟩
  cases q : H b with
  | none => rfl
  | some x =>
    have hm : b ∈ trk h H := List.mem_filter.mpr ⟨List.mem_range.mpr (Heap.lt_size e'), by simp [q]⟩
    have z : (hidT h H).get? b = none := PySem.W.hideAll_none (trk h H) hm
    rw [z] at e; cases e

/-! ### OpenK's ledger, filled with every new object but one -/
def allNews (g h : Heap) (L : Addr) : List (Addr × Obj) := (List.range h.objs.size).filterMap fun a => if a = L ∨ (g.get? a).isSome = true then none else (h.get? a).map fun o => (a, o)
def rest (g h : Heap) (L d : Addr) : List (Addr × Obj) := (allNews g h L).filter fun p => decide (p.1 ≠ d)
end L2

namespace L2
open PySem PySem.Spec PyProof.Rows

/-- the module's facts, over the base: the heap at the law's entry without what is tracked there -/
structure Mod (K : PySem.W.Frag) (mg : Str → Option Value) (base : Heap) : Prop where
  kin : K.In base
  glob : base.Ns mainGlobals mg
  blt : ∃ mb, base.Ns builtinsNs mb ∧ ∀ x : Str, x ≠ "__name__" → mb x = bootBuiltins x
  nolimit : base.NoLimit

/-- the context: a def's body (or a comprehension's block) running. base: fixed through the whole law; s₀, H₀: the entry; outer: the frames whose slots others may change (a def's callers); stack: all frames that run;
   ex: iterators that were made ahead of the entry and are walked here (a comprehension's); fn: the names whose cells were made at the entry (a def: all; a comprehension's block: its own); calm: not within an except suite; pn: pins that every state bears; xe: what is wanted of an exception that leaves the code -/
structure Cx where
  prog : Program
  w : World
  K : PySem.W.Frag
  mg : Str → Option Value
  base : Heap
  A : Around
  N : List Str
  s₀ : Shared
  H₀ : Hp
  env : Env
  outer : List Env
  stack : List Env
  ex : List Addr
  fn : Str → Bool
  calm : Bool
  pn : List (Addr × Obj)
  xe : Value → Shared → Prop
/-- the callers' frames -/
def frs (l : List Env) : List Addr := l.filterMap (·.frame)
abbrev Cx.fs (X : Cx) : List Addr := frs X.outer

def Vis (sc : Scope) (x : Str) : Prop := sc.names.lookup x = some .local ∨ sc.names.lookup x = some .cell ∨ sc.names.lookup x = some .free
def Loc (sc : Scope) (x : Str) : Prop := sc.names.lookup x = some .local ∨ sc.names.lookup x = some .cell
def Look (env : Env) (h : Heap) (m : Str → Option Value) (x : Str) (u : Value) : Prop :=
  (env.kindOf x = some .local ∧ m x = some u) ∨ ((env.kindOf x = some .cell ∨ env.kindOf x = some .free) ∧ ∃ c, env.cells.lookup x = some c ∧ h.IsCell c (some u))

structure Cx.Ok (X : Cx) : Prop where
  mod : Mod X.K X.mg X.base
  kind : X.env.scope.kind = .function
  glob : X.env.globals = mainGlobals
  blt : X.env.builtins = builtinsNs
  above : X.s₀.heap.objs.size ≤ X.env.locals
  inj : ∀ x y c, X.env.cells.lookup x = some c → X.env.cells.lookup y = some c → x = y
  has : ∀ x, (X.env.kindOf x = some .cell ∨ X.env.kindOf x = some .free) → ∃ c, X.env.cells.lookup x = some c
  cab : ∀ x c, X.fn x = true → X.env.cells.lookup x = some c → X.s₀.heap.objs.size ≤ c
  hd : X.calm = true → X.A.handled = none
  frames : X.A.frames = some X.stack
  stk : X.stack = X.outer ∨ (X.stack = X.env :: X.outer ∧ X.env.frame = some X.env.locals)
  exf : ∀ b ∈ X.ex, b ≠ X.env.locals ∧ ∀ x c, X.env.cells.lookup x = some c → c ≠ b
  bs : ∀ b o, X.base.get? b = some o → X.s₀.heap.get? b = some o ∧ X.H₀ b = none
  bsz : X.base.objs.size ≤ X.s₀.heap.objs.size
  noex : ∀ b o, X.base.get? b = some o → b ∉ X.ex
  exfs : ∀ b ∈ X.ex, b ∉ X.fs
  funs : X.s₀.heap.FunFrames X.base X.outer
  frf : ∀ b ∈ X.fs, X.H₀ b = none

structure Inv (X : Cx) (pins : List (Addr × Obj)) (σ : List (Option V)) (H : Hp) (s : Shared) : Prop where
  ok : X.Ok
  os : s.os = X.s₀.os
  bare : AllBare s.gens
  base : Un X.fs X.ex X.H₀ H X.s₀.heap s.heap
  loc : ∃ m, s.heap.Ns X.env.locals m ∧ ∀ (i : Nat) (x : Str) (v : V), X.N[i]? = some x → σ[i]? = some (some v) → Vis X.env.scope x → ∃ u, RelV v u ∧ Look X.env s.heap m x u
  cell : ∀ x c, X.env.cells.lookup x = some c → ∃ v, s.heap.IsCell c v
  free : H X.env.locals = none
  freeC : ∀ x c, X.env.cells.lookup x = some c → H c = none
  pin : ∀ p ∈ X.pn ++ pins, s.heap.get? p.1 = some p.2 ∧ H p.1 = none ∧ p.1 ≠ X.env.locals ∧ p.1 ∉ X.fs ∧ ∀ v, p.2.data ≠ .cell v
  hok : HOk X.prog X.w H s.heap
  len : σ.length = X.N.length

section
variable {X : Cx} {pins : List (Addr × Obj)} {σ : List (Option V)} {H H' : Hp} {s : Shared} {h' : Heap}

theorem Cx.Ok.nofr (ok : X.Ok) {b : Addr} {o : Obj} (e : X.base.get? b = some o) : b ∉ X.fs := fun hb => by
  have := (ok.funs.mem hb).1
  rw [e] at this; cases this
theorem Inv.bs (I : Inv X pins σ H s) : ∀ b o, X.base.get? b = some o → s.heap.get? b = some o ∧ H b = none := fun b o e =>
  ⟨I.base.keep b o (I.ok.bs b o e).1 (I.ok.bs b o e).2 (I.ok.nofr e) (I.ok.noex b o e), I.base.free b o (I.ok.bs b o e).1 (I.ok.bs b o e).2 (I.ok.noex b o e)⟩
theorem Inv.bk (I : Inv X pins σ H s) : ∀ b o, X.base.get? b = some o → s.heap.get? b = some o := fun b o e => (I.bs b o e).1
theorem Inv.mod (I : Inv X pins σ H s) : Mod X.K X.mg X.base := I.ok.mod
theorem Inv.kIn (I : Inv X pins σ H s) : X.K.In s.heap := I.ok.mod.kin.keeps I.bk
theorem Inv.lt (I : Inv X pins σ H s) : X.env.locals < s.heap.objs.size := let ⟨_, hn, _⟩ := I.loc; hn.lt
theorem Inv.sz (I : Inv X pins σ H s) : X.s₀.heap.objs.size ≤ s.heap.objs.size := Nat.le_trans I.ok.above (Nat.le_of_lt I.lt)
theorem Inv.nofs (I : Inv X pins σ H s) {a : Addr} (h : s.heap.objs.size ≤ a) : a ∉ X.fs := fun hb => by
  obtain ⟨_, o, ho, _⟩ := I.ok.funs.mem hb
  exact absurd (Nat.lt_of_lt_of_le (Heap.lt_size ho) (Nat.le_trans I.sz h)) (Nat.lt_irrefl _)
theorem Inv.cne (I : Inv X pins σ H s) : ∀ x c, X.env.cells.lookup x = some c → c ≠ X.env.locals := fun x c e z => by
  obtain ⟨v, o, ho, hd⟩ := I.cell x c e
  obtain ⟨m, ⟨o', es, ep, ho', hd', _⟩, _⟩ := I.loc
  rw [z, ho'] at ho; cases ho; rw [hd'] at hd; cases hd
theorem Inv.funs (I : Inv X pins σ H s) : s.heap.FunFrames X.base X.outer := by
  have all : ∀ (l : List Env), (∀ b ∈ frs l, b ∈ X.fs) → X.s₀.heap.FunFrames X.base l → s.heap.FunFrames X.base l := by
    intro l
    induction l with
    | nil => intro _ _; trivial
    | cons env r ih =>
      intro hs hl
      obtain ⟨hk, ⟨L, o, hf, hn, ho, hd⟩, hr⟩ := hl
      have hL : L ∈ X.fs := hs L (by unfold frs; rw [List.filterMap_cons, hf]; exact List.mem_cons_self)
      obtain ⟨sl, e⟩ := I.base.slot L o ho (I.ok.frf L hL) hL fun z => I.ok.exfs L z hL
      exact ⟨hk, ⟨L, _, hf, hn, e, hd⟩, ih (fun b hb => hs b (by unfold frs; rw [List.filterMap_cons, hf]; exact List.mem_cons_of_mem _ hb)) hr⟩
  exact all X.outer (fun _ hb => hb) I.ok.funs

/-- the frames that run, for a call -/
theorem Inv.stack (I : Inv X pins σ H s) : s.heap.FunFrames X.base X.stack := by
  rcases I.ok.stk with e | ⟨e, hf⟩
  · rw [e]; exact I.funs
  · rw [e]
    obtain ⟨m, hn, _⟩ := I.loc
    refine .cons (by rw [I.ok.kind]; decide) hf hn ?_ I.funs
    exact Heap.get?_none_of_le (Nat.le_trans I.ok.bsz I.ok.above)
theorem Inv.stkSub (I : Inv X pins σ H s) : ∀ b ∈ frs X.stack, b ∈ X.env.locals :: X.fs := fun b hb => by
  rcases I.ok.stk with e | ⟨e, hf⟩
  · rw [e] at hb; exact List.mem_cons_of_mem _ hb
  · rw [e] at hb
    unfold frs at hb
    rw [List.filterMap_cons, hf] at hb
    exact hb
theorem Inv.stkFree (I : Inv X pins σ H s) : ∀ b ∈ frs X.stack, H b = none := fun b hb => by
  rcases List.mem_cons.mp (I.stkSub b hb) with e | hb
  · rw [e]; exact I.free
  · obtain ⟨_, o, ho, _⟩ := I.ok.funs.mem hb
    exact I.base.free b o ho (I.ok.frf b hb) fun z => I.ok.exfs b z hb

/-- THE STEP: the untracked objects but the frame and the records at ch are kept (the callers' frames up to slots), the frame's map is kept, the new abstract heap is held -/
theorem Inv.step {g' : Array GenState} {t' : Nat} {d' : Drawn} {ch : List Addr} (I : Inv X pins σ H s)
    (hch : ∀ b ∈ ch, (b ∈ X.ex ∨ X.s₀.heap.objs.size ≤ b) ∧ b ≠ X.env.locals ∧ (∀ x c, X.env.cells.lookup x = some c → c ≠ b) ∧ ∀ p ∈ X.pn ++ pins, p.1 ≠ b)
    (keep : ∀ b o, b ≠ X.env.locals → b ∉ X.fs → b ∉ ch → s.heap.get? b = some o → H b = none → h'.get? b = some o)
    (slot : ∀ b o, b ≠ X.env.locals → b ∈ X.fs → b ∉ ch → s.heap.get? b = some o → H b = none → ∃ sl, h'.get? b = some { o with slots := sl }) (free : ∀ b o, b ∉ ch → s.heap.get? b = some o → H b = none → H' b = none)
    (there : ∀ b o, b ∉ ch → s.heap.get? b = some o → ∃ o', h'.get? b = some o')
    (tups : ∀ b xs, H b = some (.tup xs) → H' b = some (.tup xs)) (frzs : ∀ b o u, H b = some (.frz o u) → H' b = some (.frz o u)) (tbls : ∀ b ps, H b = some (.tbl ps) → ∃ more, H' b = some (.tbl (ps ++ more)))
    (ns : ∀ m, s.heap.Ns X.env.locals m → h'.Ns X.env.locals m) (hok : HOk X.prog X.w H' h') (hg : AllBare g') :
    Inv X pins σ H' { s with heap := h', gens := g', drawn := d', toks := t' } := by
  have neL : ∀ b o, X.s₀.heap.get? b = some o → b ≠ X.env.locals := fun b o e => Nat.ne_of_lt (Nat.lt_of_lt_of_le (Heap.lt_size e) I.ok.above)
  have neC : ∀ b o, X.s₀.heap.get? b = some o → b ∉ X.ex → b ∉ ch := fun b o e hx hb => by
    rcases (hch b hb).1 with z | z
    · exact hx z
    · exact absurd (Nat.lt_of_lt_of_le (Heap.lt_size e) z) (Nat.lt_irrefl _)
  have cellK : ∀ x c, X.env.cells.lookup x = some c → ∀ v, s.heap.IsCell c v → h'.IsCell c v := fun x c e v ⟨o, ho, hd⟩ => by
    have nch : c ∉ ch := fun z => (hch c z).2.2.1 x c e rfl
    by_cases hc : c ∈ X.fs
    · obtain ⟨sl, q⟩ := slot c o (I.cne x c e) hc nch ho (I.freeC x c e)
      exact ⟨_, q, hd⟩
    · exact ⟨o, keep c o (I.cne x c e) hc nch ho (I.freeC x c e), hd⟩
  refine ⟨I.ok, I.os, hg, ⟨fun b o e n hb hx => ?_, fun b o e n hb hx => ?_, fun b o e n hx => ?_, fun b o e hx => ?_, fun b xs e => tups b xs (I.base.tups b xs e), fun b o xs e => frzs b o xs (I.base.frzs b o xs e), fun b ps e => ?_⟩, ?_, fun x c e => ?_, ?_, fun x c e => ?_, fun p hp => ?_, hok, I.len⟩
  · exact keep b o (neL b o e) hb (neC b o e hx) (I.base.keep b o e n hb hx) (I.base.free b o e n hx)
  · obtain ⟨sl, e1⟩ := I.base.slot b o e n hb hx
    obtain ⟨sl', e2⟩ := slot b _ (neL b o e) hb (neC b o e hx) e1 (I.base.free b o e n hx)
    exact ⟨sl', e2⟩
  · obtain ⟨o', e1⟩ := I.base.there b o e hx
    exact free b o' (neC b o e hx) e1 (I.base.free b o e n hx)
  · obtain ⟨o', e1⟩ := I.base.there b o e hx
    exact there b o' (neC b o e hx) e1
  · obtain ⟨m1, e1⟩ := I.base.tbls b ps e
    obtain ⟨m2, e2⟩ := tbls b _ e1
    exact ⟨m1 ++ m2, by rw [e2, Array.append_assoc]⟩
  · obtain ⟨m, hn, hl⟩ := I.loc
    refine ⟨m, ns m hn, fun i x v e1 e2 e3 => ?_⟩
    obtain ⟨u, r, l⟩ := hl i x v e1 e2 e3
    refine ⟨u, r, ?_⟩
    rcases l with l | ⟨k, c, e, z⟩
    · exact .inl l
    · exact .inr ⟨k, c, e, cellK x c e _ z⟩
  · obtain ⟨v, z⟩ := I.cell x c e
    exact ⟨v, cellK x c e v z⟩
  · obtain ⟨m, ⟨o, _, _, ho, _⟩, _⟩ := I.loc
    exact free _ o (fun z => (hch _ z).2.1 rfl) ho I.free
  · obtain ⟨v, o, ho, hd⟩ := I.cell x c e
    exact free c o (fun z => (hch c z).2.2.1 x c e rfl) ho (I.freeC x c e)
  · obtain ⟨e, n, ne, nf, d⟩ := I.pin p hp
    have nch : p.1 ∉ ch := fun z => (hch p.1 z).2.2.2 p hp rfl
    exact ⟨keep p.1 p.2 ne nf nch e n, free p.1 p.2 nch e n, ne, nf, d⟩
/-- .. where the frame's own object is kept too -/
theorem Inv.un {t' : Nat} (I : Inv X pins σ H s) (u : Un X.fs [] H H' s.heap h') (hok : HOk X.prog X.w H' h') : Inv X pins σ H' { s with heap := h', toks := t' } := by
  obtain ⟨m, ⟨o, es, ep, ho, r⟩, _⟩ := id I.loc
  obtain ⟨sl, hL⟩ := u.any ho I.free (by simp)
  exact I.step (g' := s.gens) (d' := s.drawn) (ch := []) (fun _ z => nomatch z) (fun b o _ hb _ e n => u.keep b o e n hb (by simp)) (fun b o _ hb _ e n => u.slot b o e n hb (by simp)) (fun b o _ e n => u.free b o e n (by simp)) (fun b o _ e => u.there b o e (by simp)) u.tups u.frzs u.tbls (fun m' hm => by
    obtain ⟨o', es', ep', ho', r'⟩ := hm
    rw [ho] at ho'; cases ho'
    exact ⟨_, es', ep', hL, r'⟩) hok I.bare
/-- behind a call (or a comprehension's block): the slots of this frame may have changed too, the records at ch may have turned -/
theorem Inv.call {g' : Array GenState} {t' : Nat} {d' : Drawn} {ch : List Addr} (I : Inv X pins σ H s) (u : Un (frs X.stack) ch H H' s.heap h') (hok : HOk X.prog X.w H' h') (hg : AllBare g')
    (hch : ∀ b ∈ ch, (b ∈ X.ex ∨ X.s₀.heap.objs.size ≤ b) ∧ b ≠ X.env.locals ∧ (∀ x c, X.env.cells.lookup x = some c → c ≠ b) ∧ ∀ p ∈ X.pn ++ pins, p.1 ≠ b) :
    Inv X pins σ H' { s with heap := h', gens := g', drawn := d', toks := t' } := by
  obtain ⟨m, ⟨o, es, ep, ho, r⟩, _⟩ := id I.loc
  obtain ⟨sl, hL⟩ := u.any ho I.free fun z => (hch _ z).2.1 rfl
  exact I.step (ch := ch) hch (fun b o hL hb hc e n => u.keep b o e n (fun z => (List.mem_cons.mp (I.stkSub b z)).elim hL hb) hc) (fun b o _ _ hc e n => u.any e n hc) (fun b o hc e n => u.free b o e n hc) (fun b o hc e => u.there b o e hc) u.tups u.frzs u.tbls (fun m' hm => by
    obtain ⟨o', es', ep', ho', r'⟩ := hm
    rw [ho] at ho'; cases ho'
    exact ⟨_, es', ep', hL, r'⟩) hok hg
/-- an untracked record of ours (an iterator) has turned -/
theorem Inv.turned {t' : Nat} {it : Addr} (I : Inv X pins σ H s) (k : ∀ b o, b ≠ it → s.heap.get? b = some o → h'.get? b = some o) (hn : H it = none) (hL : it ≠ X.env.locals)
    (h1 : it ∈ X.ex ∨ X.s₀.heap.objs.size ≤ it) (h2 : ∀ x c, X.env.cells.lookup x = some c → c ≠ it) (h3 : ∀ p ∈ X.pn ++ pins, p.1 ≠ it) : Inv X pins σ H { s with heap := h', toks := t' } := by
  have nit : ∀ b u, H b = some u → b ≠ it := fun b u e z => by rw [z, hn] at e; cases e
  refine I.step (g' := s.gens) (d' := s.drawn) (ch := [it]) (fun b hb => ?_) (fun b o _ _ hc e _ => k b o (fun z => hc (by simp [z])) e) (fun b o _ _ hc e _ => ⟨o.slots, k b o (fun z => hc (by simp [z])) e⟩) (fun _ _ _ _ n => n)
    (fun b o hc e => ⟨o, k b o (fun z => hc (by simp [z])) e⟩) (fun _ _ e => e) (fun _ _ _ e => e) (fun b ps e => ⟨#[], by rw [e]; simp⟩) (fun m hm => ?_) (fun b u e => ?_) I.bare
  · have e : b = it := by simpa using hb
    subst e
    exact ⟨h1, hL, h2, h3⟩
  · obtain ⟨o, es, ep, ho, r⟩ := hm
    exact ⟨o, es, ep, k _ o (Ne.symm hL) ho, r⟩
  · refine (I.hok b u e).stay (fun c v hc q => k c v ?_ q) (fun _ q => q) fun _ _ q => q
    rcases hc with z | z
    · rw [z]; exact nit b u e
    · exact nit c _ z
theorem Inv.tok (I : Inv X pins σ H s) (t : Nat) : Inv X pins σ H { s with toks := t } := I.un (h' := s.heap) (t' := t) Un.refl I.hok
/-- all objects kept -/
theorem Inv.kept {t' : Nat} (I : Inv X pins σ H s) (k : ∀ b u, s.heap.get? b = some u → h'.get? b = some u) : Inv X pins σ H { s with heap := h', toks := t' } := I.un (Un.kept k) (I.hok.kept k)
/-- a new object laid and tracked -/
theorem Inv.laid {a : Addr} {o : HO} {t' : Nat} (I : Inv X pins σ H s) (k : ∀ b u, s.heap.get? b = some u → h'.get? b = some u) (hp : s.heap.objs.size ≤ a) (new : ObjOk X.prog X.w (upd H a o) h' a o) :
    Inv X pins σ (upd H a o) { s with heap := h', toks := t' } := I.un (Un.laid k hp (I.hok.fresh hp)) (I.hok.laid k hp new)
/-- an object written -/
theorem Inv.write {x e : Addr} {o : HO} {t' : Nat} (I : Inv X pins σ H s) (mu : Mut (H x)) (he : e = x ∨ H e = some (.own x)) (k : ∀ b u, b ≠ e → s.heap.get? b = some u → h'.get? b = some u) (heo : ∃ u, h'.get? e = some u)
    (new : ObjOk X.prog X.w (upd H x o) h' x o) : Inv X pins σ (upd H x o) { s with heap := h', toks := t' } := I.un (Un.write mu he k heo) (I.hok.write mu he k heo new)
theorem Inv.pins_of {pins' : List (Addr × Obj)} (I : Inv X pins σ H s) (h : ∀ p ∈ pins', s.heap.get? p.1 = some p.2 ∧ H p.1 = none ∧ p.1 ≠ X.env.locals ∧ p.1 ∉ X.fs ∧ ∀ v, p.2.data ≠ .cell v) : Inv X pins' σ H s :=
  ⟨I.ok, I.os, I.bare, I.base, I.loc, I.cell, I.free, I.freeC, fun p hp => (List.mem_append.mp hp).elim (fun z => I.pin p (List.mem_append_left _ z)) (h p), I.hok, I.len⟩

theorem nodup_ix {N : List Str} (hN : N.Nodup) {i j : Nat} {x : Str} (a : N[i]? = some x) (b : N[j]? = some x) : i = j := by
  obtain ⟨h1, e1⟩ := List.getElem?_eq_some_iff.mp a
  obtain ⟨h2, e2⟩ := List.getElem?_eq_some_iff.mp b
  exact (List.getElem_inj hN).mp (e1.trans e2.symm)

/-- a name is stored; what changed -/
theorem store_ok2 {M : Model} {A : Around} {E : Value → Shared → Prop} {i : Nat} {x : Str} {v : V} {u : Value} {Q : Unit → Shared → Prop} (I : Inv X pins σ H s) (hN : X.N.Nodup) (hi : X.N[i]? = some x) (hx : Loc X.env.scope x) (r : RelV v u)
    (h : ∀ s', Inv X pins (σ.set i (some v)) H s' → (∃ a, Heap.SameBut a s.heap s'.heap ∧ (a = X.env.locals ∨ X.env.cells.lookup x = some a)) → Q () s') (hf : X.fn x = true ∨ X.env.scope.names.lookup x = some .local := by first | exact .inl rfl | exact .inr rfl | assumption) : wpAny M A (storeName X.env x u) Q E s := by
  obtain ⟨m, hn, hl⟩ := id I.loc
  have hcls : (X.env.scope.kind == .class || (X.env.scope.kind == .module && X.env.locals != X.env.globals)) = false := by rw [I.ok.kind]; rfl
  have hiσ : i < σ.length := by rw [I.len]; exact (List.getElem?_eq_some_iff.mp hi).1
  have cne := I.cne
  have tracked : ∀ {a : Addr} {h' : Heap}, (∃ o, s.heap.get? a = some o ∧ H a = none) → Heap.SameBut a s.heap h' → HOk X.prog X.w H h' := fun {a h'} ha hs b ob e => by
    obtain ⟨_, _, hfree⟩ := ha
    refine (I.hok b ob e).stay (fun c w' hc q => (hs.2 c ?_).trans q) (fun _ q => q) fun _ _ q => q
    rintro rfl
    rcases hc with rfl | hc
    · rw [hfree] at e; cases e
    · rw [hfree] at hc; cases hc
  rcases hx with hk | hk
  · refine wpAny_storeName_local hk hn (fun h' hn' hs => ?_) hcls
    obtain ⟨oL, _, _, hoL, _⟩ := id hn
    refine h _ ⟨I.ok, I.os, I.bare, ⟨fun b o e n hb hx => ?_, fun b o e n hb hx => ?_, I.base.free, fun b o e hx => ?_, I.base.tups, I.base.frzs, I.base.tbls⟩, ⟨_, hn', fun j y v' e1 e2 e3 => ?_⟩, fun y c e => ?_, I.free, I.freeC, fun p hp => ?_, tracked ⟨oL, hoL, I.free⟩ hs, by simpa using I.len⟩ ⟨_, hs, .inl rfl⟩
    · exact (hs.2 b (Nat.ne_of_lt (Nat.lt_of_lt_of_le (Heap.lt_size e) I.ok.above))).trans (I.base.keep b o e n hb hx)
    · obtain ⟨sl, e1⟩ := I.base.slot b o e n hb hx
      exact ⟨sl, (hs.2 b (Nat.ne_of_lt (Nat.lt_of_lt_of_le (Heap.lt_size e) I.ok.above))).trans e1⟩
    · obtain ⟨o', e1⟩ := I.base.there b o e hx
      exact ⟨o', (hs.2 b (Nat.ne_of_lt (Nat.lt_of_lt_of_le (Heap.lt_size e) I.ok.above))).trans e1⟩
    · by_cases hj : j = i
      · subst hj
        rw [hi] at e1; cases e1
        rw [List.getElem?_set_self hiσ] at e2
        cases e2
        exact ⟨u, r, .inl ⟨hk, by simp⟩⟩
      · rw [List.getElem?_set_ne (Ne.symm hj)] at e2
        obtain ⟨u', r', q⟩ := hl j y v' e1 e2 e3
        refine ⟨u', r', ?_⟩
        rcases q with ⟨k, e⟩ | ⟨k, c, e, z⟩
        · refine .inl ⟨k, ?_⟩
          have : y ≠ x := fun e => hj (nodup_ix hN e1 (e ▸ hi))
          simp [this, e]
        · exact .inr ⟨k, c, e, z.sameBut hs (cne y c e)⟩
    · obtain ⟨w', z⟩ := I.cell y c e
      exact ⟨w', z.sameBut hs (cne y c e)⟩
    · obtain ⟨e, n, ne, nf, d⟩ := I.pin p hp
      exact ⟨(hs.2 p.1 ne).trans e, n, ne, nf, d⟩
  · have hfn : X.fn x = true := by
      rcases hf with z | z
      · exact z
      · rw [z] at hk; cases hk
    obtain ⟨c, hc⟩ := I.ok.has x (.inl hk)
    obtain ⟨w', z⟩ := I.cell x c hc
    refine wpAny_storeName_cell I.ok.kind hk hc z (fun h' hc' hs => ?_)
    obtain ⟨oc, hoc, hocd⟩ := id z
    refine h { s with heap := h' } ⟨I.ok, I.os, I.bare, ⟨fun b o e n hb hx => ?_, fun b o e n hb hx => ?_, I.base.free, fun b o e hx => ?_, I.base.tups, I.base.frzs, I.base.tbls⟩, ⟨m, hn.sameBut hs (Ne.symm (cne x c hc)), fun j y v' e1 e2 e3 => ?_⟩, fun y c' e => ?_, I.free, I.freeC, fun p hp => ?_, tracked ⟨oc, hoc, I.freeC x c hc⟩ hs, by simpa using I.len⟩ ⟨c, hs, .inr hc⟩
    · exact (hs.2 b (Nat.ne_of_lt (Nat.lt_of_lt_of_le (Heap.lt_size e) (I.ok.cab x c hfn hc)))).trans (I.base.keep b o e n hb hx)
    · obtain ⟨sl, e1⟩ := I.base.slot b o e n hb hx
      exact ⟨sl, (hs.2 b (Nat.ne_of_lt (Nat.lt_of_lt_of_le (Heap.lt_size e) (I.ok.cab x c hfn hc)))).trans e1⟩
    · obtain ⟨o', e1⟩ := I.base.there b o e hx
      exact ⟨o', (hs.2 b (Nat.ne_of_lt (Nat.lt_of_lt_of_le (Heap.lt_size e) (I.ok.cab x c hfn hc)))).trans e1⟩
    · by_cases hj : j = i
      · subst hj
        rw [hi] at e1; cases e1
        rw [List.getElem?_set_self hiσ] at e2
        cases e2
        exact ⟨u, r, .inr ⟨.inl hk, c, hc, hc'⟩⟩
      · rw [List.getElem?_set_ne (Ne.symm hj)] at e2
        obtain ⟨u', r', q⟩ := hl j y v' e1 e2 e3
        refine ⟨u', r', ?_⟩
        rcases q with q | ⟨k, c', e, z'⟩
        · exact .inl q
        · refine .inr ⟨k, c', e, z'.sameBut hs ?_⟩
          rintro rfl
          exact hj (nodup_ix hN e1 (I.ok.inj _ _ _ e hc ▸ hi))
    · by_cases hcc : c' = c
      · subst hcc; exact ⟨_, hc'⟩
      · obtain ⟨w2, z2⟩ := I.cell y c' e
        exact ⟨w2, z2.sameBut hs hcc⟩
    · obtain ⟨e, n, ne, nf, d⟩ := I.pin p hp
      refine ⟨(hs.2 p.1 ?_).trans e, n, ne, nf, d⟩
      intro q
      rw [q, hoc] at e
      have q' : oc = p.2 := Option.some.inj e
      exact d w' (by rw [← q']; exact hocd)
theorem store_ok {M : Model} {A : Around} {E : Value → Shared → Prop} {i : Nat} {x : Str} {v : V} {u : Value} {Q : Unit → Shared → Prop} (I : Inv X pins σ H s) (hN : X.N.Nodup) (hi : X.N[i]? = some x) (hx : Loc X.env.scope x) (r : RelV v u)
    (h : ∀ s', Inv X pins (σ.set i (some v)) H s' → Q () s') (hf : X.fn x = true ∨ X.env.scope.names.lookup x = some .local := by first | exact .inl rfl | exact .inr rfl | assumption) : wpAny M A (storeName X.env x u) Q E s :=
  store_ok2 I hN hi hx r (fun s' I' _ => h s' I') hf
/-- behind a call or a block, the state as it is -/
theorem Inv.call' {s' : Shared} {ch : List Addr} (I : Inv X pins σ H s) (ho : s'.os = s.os) (u : Un (frs X.stack) ch H H' s.heap s'.heap) (hok : HOk X.prog X.w H' s'.heap) (hg : AllBare s'.gens)
    (hch : ∀ b ∈ ch, (b ∈ X.ex ∨ X.s₀.heap.objs.size ≤ b) ∧ b ≠ X.env.locals ∧ (∀ x c, X.env.cells.lookup x = some c → c ≠ b) ∧ ∀ p ∈ X.pn ++ pins, p.1 ≠ b) : Inv X pins σ H' s' := by
  obtain ⟨h', g', d', t', o'⟩ := s'
  have e : o' = s.os := ho
  subst e
  exact I.call (g' := g') (t' := t') (d' := d') u hok hg hch
end

/-! ### the judgements -/
/-- an exception: its class, its own dict's address (where it has one), the abstract heap behind it -/
abbrev XK := Value → Option Addr → Hp → Prop
abbrev St := List (Option V)
abbrev VK := V → Hp → Prop
/-- an expression's reading; a test's; an argument list's -/
abbrev TE := St → Hp → VK → Prop
abbrev TT := St → Hp → (Bool → Hp → Prop) → Prop
abbrev TA := St → Hp → (List V → Hp → Prop) → Prop
/-- what is wanted behind a statement -/
structure Ends where
  nx : St → Hp → Prop
  rt : VK
  bk : St → Hp → Prop := fun _ _ => False
  ct : St → Hp → Prop := fun _ _ => False
abbrev TS := Ends → St → Hp → Prop

def EP (X : Cx) (pins : List (Addr × Obj)) (σ : St) (Q : VK) (u : Value) (s' : Shared) : Prop := ∃ v H', Inv X pins σ H' s' ∧ RelV v u ∧ Q v H'
def TP (X : Cx) (pins : List (Addr × Obj)) (σ : St) (Q : Bool → Hp → Prop) (b : Bool) (s' : Shared) : Prop := ∃ H', Inv X pins σ H' s' ∧ Q b H'
def AP (X : Cx) (pins : List (Addr × Obj)) (σ : St) (Q : List V → Hp → Prop) (us : List Value) (s' : Shared) : Prop := ∃ vs H', Inv X pins σ H' s' ∧ Vals vs us ∧ Q vs H'
def SP (X : Cx) (pins : List (Addr × Obj)) (D : Ends) (f : Flow) (s' : Shared) : Prop :=
  match f with
  | .next => ∃ σ' H', Inv X pins σ' H' s' ∧ D.nx σ' H'
  | .brk => ∃ σ' H', Inv X pins σ' H' s' ∧ D.bk σ' H'
  | .cont => ∃ σ' H', Inv X pins σ' H' s' ∧ D.ct σ' H'
  | .ret u => ∃ v σ' H', Inv X pins σ' H' s' ∧ RelV v u ∧ D.rt v H'

def PE (X : Cx) (e : Expr) (t : TE) : Prop :=
  ∀ (pins : List (Addr × Obj)) (s : Shared) (σ : St) (H : Hp) (Q : VK), Inv X pins σ H s → t σ H Q → wpAny (model X.prog X.w) X.A (eval e X.env) (EP X pins σ Q) X.xe s
def PT (X : Cx) (e : Expr) (t : TT) : Prop :=
  ∀ (pins : List (Addr × Obj)) (s : Shared) (σ : St) (H : Hp) (Q : Bool → Hp → Prop), Inv X pins σ H s → t σ H Q → wpAny (model X.prog X.w) X.A (isTrue e X.env (eval e X.env)) (TP X pins σ Q) X.xe s
/-- a test whatever its 'whole' is (and, or) -/
def PW (X : Cx) (e : Expr) (t : TT) : Prop :=
  ∀ (whole : Sem Value) (pins : List (Addr × Obj)) (s : Shared) (σ : St) (H : Hp) (Q : Bool → Hp → Prop), Inv X pins σ H s → t σ H Q → wpAny (model X.prog X.w) X.A (isTrue e X.env whole) (TP X pins σ Q) X.xe s
theorem PW.pt {X : Cx} {e : Expr} {t : TT} (h : PW X e t) : PT X e t := h _
/-- an argument list (no star), from the left -/
def PA (X : Cx) (es : List Expr) (t : TA) : Prop :=
  ∀ (pos : Pos) (pins : List (Addr × Obj)) (s : Shared) (σ : St) (H : Hp) (Q : List V → Hp → Prop), Inv X pins σ H s → t σ H Q → wpAny (model X.prog X.w) X.A (spliced (backTo pos (starEach es X.env))) (AP X pins σ Q) X.xe s
def PS (X : Cx) (st : Stmt) (t : TS) : Prop :=
  ∀ (pins : List (Addr × Obj)) (s : Shared) (σ : St) (H : Hp) (D : Ends), Inv X pins σ H s → t D σ H → wpAny (model X.prog X.w) X.A (exec st X.env) (SP X pins D) X.xe s
def PSs (X : Cx) (st : List Stmt) (t : TS) : Prop :=
  ∀ (pins : List (Addr × Obj)) (s : Shared) (σ : St) (H : Hp) (D : Ends), Inv X pins σ H s → t D σ H → wpAny (model X.prog X.w) X.A (execs st X.env) (SP X pins D) X.xe s
/-- weaken the end -/
theorem thn {α : Type} {t : Sem α} {Q Q' : α → Shared → Prop} {M : Model} {A : Around} {E : Value → Shared → Prop} {s : Shared} (h : wpAny M A t Q E s) (hQ : ∀ a s, Q a s → Q' a s) : wpAny M A t Q' E s := wpAny_mono h hQ fun _ _ x => x
end L2

namespace L2
open PySem PySem.Spec PyProof.Rows
section
variable {X : Cx}

/-- two expressions in a row -/
theorem bin {a b : Expr} {ta tb : TE} (ha : PE X a ta) (hb : PE X b tb) {pins : List (Addr × Obj)} {s : Shared} {σ : St} {H : Hp} {R : V → V → Hp → Prop} (I : Inv X pins σ H s) (h : ta σ H fun x H1 => tb σ H1 fun y H2 => R x y H2)
    {α : Type} {Q : α → Shared → Prop} {f : Value → Value → Sem α}
    (hf : ∀ v u s2 x y H2, Inv X pins σ H2 s2 → RelV x v → RelV y u → R x y H2 → wpAny (model X.prog X.w) X.A (f v u) Q X.xe s2) :
    wpAny (model X.prog X.w) X.A (eval a X.env) (fun v s₁ => wpAny (model X.prog X.w) X.A (eval b X.env) (fun u s₂ => wpAny (model X.prog X.w) X.A (f v u) Q X.xe s₂) X.xe s₁) X.xe s := by
  refine thn (ha pins s σ H _ I h) fun v s1 ⟨x, H1, I1, r1, q1⟩ => ?_
  refine thn (hb pins s1 σ H1 _ I1 q1) fun u s2 ⟨y, H2, I2, r2, q2⟩ => ?_
  exact hf v u s2 x y H2 I2 r1 r2 q2

/-! ### names and constants -/
def tVar (i : Nat) : TE := fun σ H Q => ∃ v, σ[i]? = some (some v) ∧ Q v H
def tC (v : V) : TE := fun _ H Q => Q v H
theorem pe_var {i : Nat} {x : Str} {pos : Pos} (hN : X.N[i]? = some x) (hv : Vis X.env.scope x) (hd : (x == ("__debug__" : Str)) = false := by decide) (hcd : (x == ("__classdict__" : Str)) = false := by decide) : PE X (.Name x pos) (tVar i) := by
  intro pins s σ H Q I h
  obtain ⟨v, e, h⟩ := h
  obtain ⟨m, hn, hl⟩ := I.loc
  obtain ⟨u, r, l⟩ := hl i x v hN e hv
  have fin : EP X pins σ Q u s := ⟨v, H, I, r, h⟩
  rcases l with ⟨hk, hm⟩ | ⟨hk, c, hc, hcell⟩
  · exact wpAny_Name (wpAny_loadName_local I.ok.kind hk hn hm fin) hd
  · rcases hk with hk | hk
    · exact wpAny_Name (wpAny_loadName_cell I.ok.kind hk hc hcell fin) hd
    · exact wpAny_Name (wpAny_loadName_free I.ok.kind hk hc hcell fin hcd) hd
theorem pe_int {i j pos} : PE X (.Constant (.int i) j pos) (tC (.int i)) := fun _ _ _ H _ I h => wpAny_Constant_int ⟨.int i, H, I.tok _, ⟨_, rfl⟩, h⟩
theorem pe_bl {b j pos} : PE X (.Constant (.bool b) j pos) (tC (.bl b)) := fun _ _ _ H _ I h => Constant_bool ⟨.bl b, H, I, rfl, h⟩
theorem pe_non {j pos} : PE X (.Constant .none j pos) (tC .non) := fun _ _ _ H _ I h => Constant_none ⟨.non, H, I, rfl, h⟩
theorem pe_str {x j pos} : PE X (.Constant (.str x) j pos) (tC (.str x)) := fun _ _ _ H _ I h => Calls.Constant_str ⟨.str x, H, I.tok _, ⟨_, rfl⟩, h⟩

/-- a global name of the def -/
def Gl (X : Cx) (x : Str) : Prop := X.env.kindOf x = some .globalImplicit
theorem ld_glob {E : Value → Shared → Prop} {pins : List (Addr × Obj)} {s : Shared} {σ : St} {H : Hp} {x : Str} {u : Value} {pos : Pos} {Q : Value → Shared → Prop} (I : Inv X pins σ H s) (hg : Gl X x) (hm : X.mg x = some u) (h : Q u s)
    (hd : (x == ("__debug__" : Str)) = false := by decide) : wpAny (model X.prog X.w) X.A (eval (.Name x pos) X.env) Q E s :=
  Calls.Name_function_global I.ok.kind hg (Calls.loadGlobal_global (by rw [I.ok.glob]; exact I.mod.glob.keeps I.bk) hm h) hd
theorem ld_blt {E : Value → Shared → Prop} {pins : List (Addr × Obj)} {s : Shared} {σ : St} {H : Hp} {x : Str} {u : Value} {pos : Pos} {Q : Value → Shared → Prop} (I : Inv X pins σ H s) (hg : Gl X x) (hm : X.mg x = none) (hv : bootBuiltins x = some u) (h : Q u s)
    (hn : x ≠ "__name__" := by decide) (hd : (x == ("__debug__" : Str)) = false := by decide) : wpAny (model X.prog X.w) X.A (eval (.Name x pos) X.env) Q E s := by
  obtain ⟨mb, h1, h2⟩ := I.mod.blt
  exact Calls.Name_function_global I.ok.kind hg (Calls.loadGlobal_builtin (by rw [I.ok.glob]; exact I.mod.glob.keeps I.bk) hm (by rw [I.ok.blt]; exact h1.keeps I.bk) ((h2 x hn).trans hv) h) hd
/-- a module's constant, a class, a function, as a value -/
theorem pe_glob {x : Str} {v : V} {u : Value} {pos : Pos} (hg : Gl X x) (hm : X.mg x = some u) (r : RelV v u) (hd : (x == ("__debug__" : Str)) = false := by decide) : PE X (.Name x pos) (tC v) :=
  fun _ _ _ H _ I h => ld_glob I hg hm ⟨v, H, I, r, h⟩ hd
theorem pe_bltn {x : Str} {v : V} {u : Value} {pos : Pos} (hg : Gl X x) (hm : X.mg x = none) (hv : bootBuiltins x = some u) (r : RelV v u) (hn : x ≠ "__name__" := by decide) (hd : (x == ("__debug__" : Str)) = false := by decide) : PE X (.Name x pos) (tC v) :=
  fun _ _ _ H _ I h => ld_blt I hg hm hv ⟨v, H, I, r, h⟩ hn hd

/-! ### arithmetic -/
variable {a b : Expr} {ta tb : TE} {pos : Pos}
/-! ### comparisons -/
def PC (X : Cx) (op : CmpOp) (a b : Expr) (t : TE) : Prop :=
  ∀ (pins : List (Addr × Obj)) (s : Shared) (σ : St) (H : Hp) (Q : VK), Inv X pins σ H s → t σ H Q →
    wpAny (model X.prog X.w) X.A (eval a X.env) (fun v s₁ => wpAny (model X.prog X.w) X.A (eval b X.env) (fun u s₂ => wpAny (model X.prog X.w) X.A (compareOp op v u) (EP X pins σ Q) X.xe s₂) X.xe s₁) X.xe s
theorem nobehind (b : Expr) {op : CmpOp} (h : op ≠ .In) (h2 : op ≠ .NotIn) : behindInMarks op b = false := by
  have e1 : (op == CmpOp.In) = false := by cases op <;> first | rfl | exact absurd rfl h
  have e2 : (op == CmpOp.NotIn) = false := by cases op <;> first | rfl | exact absurd rfl h2
  cases b <;> simp [behindInMarks, e1, e2]
/-- a comparison as a value, as a test -/
def tB (t : TE) : TT := fun σ H Q => t σ H fun x H1 => ∃ c, x = .bl c ∧ Q c H1
theorem pt_cmp {op : CmpOp} {t : TE} (h : PC X op a b t) (h1 : behindInMarks op b = false := by first | exact nobehind _ (by decide) (by decide) | rfl) : PT X (.Compare a [op] [b] pos) (tB t) := by
  intro pins s σ H Q I hw
  refine wpAny_isTrue_Compare1 (thn (h pins s σ H _ I hw) fun v s1 h1 => thn h1 fun u s2 h2 => thn h2 fun c s3 ⟨x, H1, I1, r1, q1⟩ => ?_) h1
  obtain ⟨d, rfl, q⟩ := q1
  cases r1
  exact wpAny_truthy_bool ⟨H1, I1, q⟩
/-- an expression whose value is a bool, as a test -/
theorem pt_val {e : Expr} {t : TE} (h : PE X e t) (he : ∀ whole, isTrue e X.env whole = (do let v ← whole; standAt e.pos; holding [v] (truthy v)) := by intro _; rfl) : PT X e (tB t) := by
  intro pins s σ H Q I hw
  refine isTrue_plain (thn (h pins s σ H _ I hw) fun v s1 ⟨x, H1, I1, r1, q1⟩ => ?_) (he _)
  obtain ⟨d, rfl, q⟩ := q1
  cases r1
  exact wpAny_truthy_bool ⟨H1, I1, q⟩

/-! ### and, or, not -/
variable {tA tB' : TT} {rest : List Expr}
def tAnd (t u : TT) : TT := fun σ H Q => t σ H fun c H1 => if c = true then u σ H1 Q else Q false H1
def tOr (t u : TT) : TT := fun σ H Q => t σ H fun c H1 => if c = true then Q true H1 else u σ H1 Q
def tNot (t : TT) : TT := fun σ H Q => t σ H fun c H1 => Q (!c) H1
theorem pw_and1 (ha : PT X a tA) : PW X (.BoolOp .And [a] pos) tA := by
  intro wh pins s σ H Q I h
  refine isTrue_and (thn (ha pins s σ H Q I h) fun c s1 e => ?_)
  cases c with
  | true => exact isTrue_and_nil e
  | false => exact e
theorem pw_or1 (ha : PT X a tA) : PW X (.BoolOp .Or [a] pos) tA := by
  intro wh pins s σ H Q I h
  refine isTrue_or (thn (ha pins s σ H Q I h) fun c s1 e => ?_)
  cases c with
  | false => exact isTrue_or_nil e
  | true => exact e
theorem pw_and (ha : PT X a tA) (hb : PW X (.BoolOp .And (b :: rest) pos) tB') : PW X (.BoolOp .And (a :: b :: rest) pos) (tAnd tA tB') := by
  intro wh pins s σ H Q I h
  refine isTrue_and (thn (ha pins s σ H _ I h) fun c s1 ⟨H1, I1, q1⟩ => ?_)
  cases c with
  | true => exact hb wh pins s1 σ H1 Q I1 q1
  | false => exact ⟨H1, I1, q1⟩
theorem pw_or (ha : PT X a tA) (hb : PW X (.BoolOp .Or (b :: rest) pos) tB') : PW X (.BoolOp .Or (a :: b :: rest) pos) (tOr tA tB') := by
  intro wh pins s σ H Q I h
  refine isTrue_or (thn (ha pins s σ H _ I h) fun c s1 ⟨H1, I1, q1⟩ => ?_)
  cases c with
  | true => exact ⟨H1, I1, q1⟩
  | false => exact hb wh pins s1 σ H1 Q I1 q1
theorem pt_not (ha : PT X a tA) : PT X (.UnaryOp .Not a pos) (tNot tA) := by
  intro pins s σ H Q I h
  exact isTrue_not (ha pins s σ H (fun c H1 => Q (!c) H1) I h)
/-- .. as values (bools) -/
def tAndV (ta tb : TE) : TE := fun σ H Q => ta σ H fun x H1 => ∃ c, x = .bl c ∧ if c = true then tb σ H1 Q else Q (.bl false) H1
def tOrV (ta tb : TE) : TE := fun σ H Q => ta σ H fun x H1 => ∃ c, x = .bl c ∧ if c = true then Q (.bl true) H1 else tb σ H1 Q
theorem pe_one {op} {t : TE} (h : PE X a t) : PE X (.BoolOp op [a] pos) t := fun pins s σ H Q I hw => BoolOp_one (h pins s σ H Q I hw)
theorem pe_and (ha : PE X a ta) (hb : PE X (.BoolOp .And (b :: rest) pos) tb) : PE X (.BoolOp .And (a :: b :: rest) pos) (tAndV ta tb) := by
  intro pins s σ H Q I h
  refine BoolOp_and (thn (ha pins s σ H _ I h) fun v s1 ⟨x, H1, I1, r1, q1⟩ => ?_)
  obtain ⟨c, rfl, q1⟩ := q1
  cases r1
  refine wpAny_truthy_bool ?_
  cases c with
  | true => exact hb pins s1 σ H1 Q I1 q1
  | false => exact ⟨.bl false, H1, I1, rfl, q1⟩
theorem pe_or (ha : PE X a ta) (hb : PE X (.BoolOp .Or (b :: rest) pos) tb) : PE X (.BoolOp .Or (a :: b :: rest) pos) (tOrV ta tb) := by
  intro pins s σ H Q I h
  refine BoolOp_or (thn (ha pins s σ H _ I h) fun v s1 ⟨x, H1, I1, r1, q1⟩ => ?_)
  obtain ⟨c, rfl, q1⟩ := q1
  cases r1
  refine wpAny_truthy_bool ?_
  cases c with
  | false => exact hb pins s1 σ H1 Q I1 q1
  | true => exact ⟨.bl true, H1, I1, rfl, q1⟩
end
end L2

namespace L2
open PySem PySem.Spec PyProof.Rows

/-! ### a list, a tuple that is read: tracked, frozen, or an object of the module -/
def SqL (K : PySem.W.Frag) (H : Hp) (a : Addr) (xs : List V) : Prop :=
  Rd H a (.lst xs) ∨
    ∃ (o : Obj) (its : Array Value) (n : Nat), K.lookup a = some o ∧ o.cls = .type "list" ∧ o.dict = none ∧ o.data = .seq its n ∧ its.size ≤ sizeLine ∧ Vals xs its.toList
def SqT (K : PySem.W.Frag) (H : Hp) (a : Addr) (xs : List V) : Prop :=
  Rd H a (.tup xs) ∨
    ∃ (o : Obj) (its : Array Value) (n : Nat), K.lookup a = some o ∧ o.cls = .type "tuple" ∧ o.data = .seq its n ∧ its.size ≤ sizeLine ∧ Vals xs its.toList
def absV : Value → Option V
  | .none => some .non
  | .bool b => some (.bl b)
  | .int i _ => some (.int i)
  | .str x _ => some (.str x)
  | .bytes b _ => some (.byt b)
  | .float b _ => some (.flt b)
  | .ref a => some (.ref a)
  | .type n => some (.ty n)
  | _ => none
theorem RelV.abs {x : V} {u : Value} (r : RelV x u) : absV u = some x := by
  cases x with
  | non => cases r; rfl
  | bl _ => cases r; rfl
  | int _ => obtain ⟨t, rfl⟩ := r; rfl
  | str _ => obtain ⟨t, rfl⟩ := r; rfl
  | byt _ => obtain ⟨t, rfl⟩ := r; rfl
  | flt _ => obtain ⟨t, rfl⟩ := r; rfl
  | ref _ => cases r; rfl
  | ty _ => cases r; rfl
theorem RelV.inj {x y : V} {u : Value} (r : RelV x u) (q : RelV y u) : x = y := Option.some.inj (r.abs.symm.trans q.abs)
theorem Vals.inj : ∀ {xs ys : List V} {us : List Value}, Vals xs us → Vals ys us → xs = ys
  | _, _, _, .nil, .nil => rfl
  | _, _, _, .cons r t, .cons r' t' => by rw [r.inj r', Vals.inj t t']
section
variable {X : Cx} {pins : List (Addr × Obj)} {σ : St} {H : Hp} {s : Shared} {a : Addr} {xs ys : List V}
theorem SqL.of {K : PySem.W.Frag} (h : H a = some (.lst xs)) : SqL K H a xs := .inl (.inl h)
theorem SqT.of {K : PySem.W.Frag} (h : H a = some (.tup xs)) : SqT K H a xs := .inl (.inl h)
theorem Inv.list (I : Inv X pins σ H s) (h : SqL X.K H a xs) : ∃ its : List Value, Vals xs its ∧ PlainL s.heap a its.toArray ∧ xs.length ≤ sizeLine := by
  rcases h with h | ⟨o, its, n, hk, hc, hd, hs, hz, r⟩
  · obtain ⟨z, its, n, r, e⟩ := h.ok I.hok
    exact ⟨its, r, ⟨_, n, e, rfl, rfl, rfl⟩, z⟩
  · refine ⟨its.toList, r, ⟨o, n, I.kIn a o hk, hc, hd, by simpa using hs⟩, ?_⟩
    have e := r.length
    simp only [Array.length_toList] at e
    omega
theorem Inv.tuple (I : Inv X pins σ H s) (h : SqT X.K H a xs) : ∃ its : List Value, Vals xs its ∧ IsTup s.heap a its.toArray ∧ xs.length ≤ sizeLine := by
  rcases h with h | ⟨o, its, n, hk, hc, hs, hz, r⟩
  · obtain ⟨z, its, r, p⟩ := h.ok I.hok
    exact ⟨its, r, p, z⟩
  · refine ⟨its.toList, r, ⟨o, I.kIn a o hk, hc, n, by simpa using hs⟩, ?_⟩
    have e := r.length
    simp only [Array.length_toList] at e
    omega
theorem Inv.list_inj (I : Inv X pins σ H s) (h : SqL X.K H a xs) (h' : SqL X.K H a ys) : xs = ys := by
  obtain ⟨its, r, ⟨o, n, e, _, _, d⟩, _⟩ := I.list h
  obtain ⟨its', r', ⟨o', n', e', _, _, d'⟩, _⟩ := I.list h'
  rw [e] at e'; cases e'
  rw [d] at d'
  injection d' with d1 _
  have : its = its' := by simpa using congrArg Array.toList d1
  subst this
  exact r.inj r'
end

/-! ### another wish about exceptions -/
abbrev Cx.wish (X : Cx) (E : Value → Shared → Prop) : Cx := { X with xe := E }
/-- no exception leaves -/
abbrev Cx.nox (X : Cx) : Cx := X.wish fun _ _ => False
theorem Cx.Ok.wish {X : Cx} (ok : X.Ok) (E : Value → Shared → Prop) : (X.wish E).Ok :=
  ⟨ok.mod, ok.kind, ok.glob, ok.blt, ok.above, ok.inj, ok.has, ok.cab, ok.hd, ok.frames, ok.stk, ok.exf, ok.bs, ok.bsz, ok.noex, ok.exfs, ok.funs, ok.frf⟩
theorem Cx.Ok.unwish {X : Cx} {E : Value → Shared → Prop} (ok : (X.wish E).Ok) : X.Ok :=
  ⟨ok.mod, ok.kind, ok.glob, ok.blt, ok.above, ok.inj, ok.has, ok.cab, ok.hd, ok.frames, ok.stk, ok.exf, ok.bs, ok.bsz, ok.noex, ok.exfs, ok.funs, ok.frf⟩
section
variable {X : Cx} {pins : List (Addr × Obj)} {σ : St} {H : Hp} {s : Shared} {E : Value → Shared → Prop}
theorem Inv.wish (I : Inv X pins σ H s) (E : Value → Shared → Prop) : Inv (X.wish E) pins σ H s := ⟨I.ok.wish E, I.os, I.bare, I.base, I.loc, I.cell, I.free, I.freeC, I.pin, I.hok, I.len⟩
theorem Inv.unwish (I : Inv (X.wish E) pins σ H s) : Inv X pins σ H s := ⟨I.ok.unwish, I.os, I.bare, I.base, I.loc, I.cell, I.free, I.freeC, I.pin, I.hok, I.len⟩
theorem SP.unwish {D : Ends} {f : Flow} {s' : Shared} (h : SP (X.wish E) pins D f s') : SP X pins D f s' := by
  cases f with
  | next => obtain ⟨σ', H', I, q⟩ := h; exact ⟨σ', H', I.unwish, q⟩
  | brk => obtain ⟨σ', H', I, q⟩ := h; exact ⟨σ', H', I.unwish, q⟩
  | cont => obtain ⟨σ', H', I, q⟩ := h; exact ⟨σ', H', I.unwish, q⟩
  | ret u => obtain ⟨v, σ', H', I, r, q⟩ := h; exact ⟨v, σ', H', I.unwish, r, q⟩
theorem PSs.nox {st : List Stmt} {t : TS} (h : PSs X.nox st t) : PSs X st t := fun pins s σ H D I hw =>
  wpAny_mono (h pins s σ H D (I.wish _) hw) (fun _ _ q => q.unwish) fun _ _ z => False.elim z
end

/-! ### blocks and small statements -/
section
variable {X : Cx} {st : Stmt} {rest : List Stmt} {t u : TS} {e : Expr} {te : TE} {pos : Pos}
def tNext : TS := fun D σ H => D.nx σ H
def tSeq (t u : TS) : TS := fun D σ H => t { D with nx := u D } σ H
theorem pss_nil : PSs X [] tNext := fun _ _ σ H _ I h => wpAny_execs_nil ⟨σ, H, I, h⟩
theorem pss_cons (h1 : PS X st t) (h2 : PSs X rest u) : PSs X (st :: rest) (tSeq t u) := by
  intro pins s σ H D I h
  refine wpAny_execs_cons (thn (h1 pins s σ H { D with nx := u D } I h) fun f s1 q => ?_)
  cases f with
  | next =>
    obtain ⟨σ', H', I', q⟩ := q
    exact h2 pins s1 σ' H' D I' q
  | ret v => exact q
  | brk => exact q
  | cont => exact q
theorem pss_one (h1 : PS X st t) : PSs X [st] t := by
  intro pins s σ H D I h
  refine wpAny_execs_cons (thn (h1 pins s σ H D I h) fun f s1 q => ?_)
  cases f with
  | next => exact wpAny_execs_nil q
  | ret v => exact q
  | brk => exact q
  | cont => exact q
/-- in a def's body nothing is shown -/
theorem Inv.quiet {pins : List (Addr × Obj)} {σ : St} {H : Hp} {s : Shared} (I : Inv X pins σ H s) : interactive X.env = false := by simp [interactive, I.ok.kind]
/-- an expression whose value is dropped -/
def tDrop (te : TE) : TS := fun D σ H => te σ H fun _ H1 => D.nx σ H1
theorem ps_expr (he : PE X e te) (hs : swapsWith e none pos.line X.env = pure false := by rfl) : PS X (.Expr e pos) (tDrop te) := by
  intro pins s σ H D I h
  exact wpAny_Expr_any (thn (he pins s σ H _ I h) fun v s1 ⟨x, H1, I1, r1, q1⟩ => ⟨σ, H1, I1, q1⟩) I.quiet hs
def tRet (te : TE) : TS := fun D σ H => te σ H D.rt
theorem ps_ret (he : PE X e te) : PS X (.Return (some e) pos) (tRet te) := by
  intro pins s σ H D I h
  exact wpAny_Return_some (thn (he pins s σ H _ I h) fun v s1 ⟨x, H1, I1, r1, q1⟩ => ⟨x, σ, H1, I1, r1, q1⟩)
def tIfS (c : TT) (t u : TS) : TS := fun D σ H => c σ H fun b H1 => if b = true then t D σ H1 else u D σ H1
theorem ps_if {c : Expr} {a b : List Stmt} {tc : TT} (hc : PT X c tc) (ha : PSs X a t) (hb : PSs X b u) : PS X (.If c a b pos) (tIfS tc t u) := by
  intro pins s σ H D I h
  refine wpAny_If (thn (hc pins s σ H _ I h) fun d s1 ⟨H1, I1, q1⟩ => ?_)
  cases d with
  | true => exact ha pins s1 σ H1 D I1 q1
  | false => exact hb pins s1 σ H1 D I1 q1
end

/-! ### targets -/
abbrev TG := V → St → Hp → (St → Hp → Prop) → Prop
def PG (X : Cx) (target : Expr) (t : TG) : Prop :=
  ∀ (pins : List (Addr × Obj)) (s : Shared) (σ : St) (H : Hp) (v : V) (u : Value) (Q : St → Hp → Prop), Inv X pins σ H s → RelV v u → t v σ H Q →
    wpAny (model X.prog X.w) X.A (assign target X.env u) (fun _ s' => ∃ σ' H', Inv X pins σ' H' s' ∧ Q σ' H') X.xe s
/-- o[i] = v, by values -/
abbrev TSet := V → V → V → Hp → (Hp → Prop) → Prop
def PSet (X : Cx) (t : TSet) : Prop :=
  ∀ (pins : List (Addr × Obj)) (s : Shared) (σ : St) (H : Hp) (o i v : V) (ov iv u : Value) (Q : Hp → Prop), Inv X pins σ H s → RelV o ov → RelV i iv → RelV v u → t o i v H Q →
    wpAny (model X.prog X.w) X.A (setItem ov iv u) (fun _ s' => ∃ H', Inv X pins σ H' s' ∧ Q H') X.xe s
section
variable {X : Cx} {pos : Pos}
def gName (i : Nat) : TG := fun v σ H Q => Q (σ.set i (some v)) H
theorem pg_name {i : Nat} {x : Str} (hN : X.N.Nodup) (hi : X.N[i]? = some x) (hx : Loc X.env.scope x) (hf : X.fn x = true ∨ X.env.scope.names.lookup x = some .local := by first | exact .inl rfl | exact .inr rfl | assumption) : PG X (.Name x pos) (gName i) := by
  intro pins s σ H v u Q I r h
  exact wpAny_assign_Name (store_ok I hN hi hx r (fun s' I' => ⟨_, H, I', h⟩) hf)
/-- o[i] = .. -/
def gSub (to ti : TE) (t : TSet) : TG := fun v σ H Q => to σ H fun o H1 => ti σ H1 fun i H2 => t o i v H2 fun H3 => Q σ H3
theorem pg_sub {o i : Expr} {to ti : TE} {t : TSet} (ho : PE X o to) (hi : PE X i ti) (hs : PSet X t)
    (ha : ∀ v, assign (.Subscript o i pos) X.env v = (do
      let ov ← holding [v] (eval o X.env)
      let iv ← holding [v, ov] (eval i X.env)
      standAt pos
      holding [v, ov, iv] (setItem ov iv v)
      release [v, ov, iv] []) := by intro _; rfl) : PG X (.Subscript o i pos) (gSub to ti t) := by
  intro pins s σ H v u Q I r h
  rw [ha]
  refine wpAny_bind (wpAny_holding (thn (ho pins s σ H _ I h) fun ov s1 ⟨x, H1, I1, r1, q1⟩ => ?_))
  refine wpAny_bind (wpAny_holding (thn (hi pins s1 σ H1 _ I1 q1) fun iv s2 ⟨y, H2, I2, r2, q2⟩ => ?_))
  refine wpAny_bind (wpAny_standAt (wpAny_bind (wpAny_holding (thn (hs pins s2 σ H2 x y v ov iv u _ I2 r1 r2 r q2) fun _ s3 ⟨H3, I3, q3⟩ => ?_))))
  exact wpAny_release ⟨σ, H3, I3, q3⟩
/-- target = value -/
def tAsg (te : TE) (g : TG) : TS := fun D σ H => te σ H fun x H1 => g x σ H1 D.nx
theorem ps_asg {tg e : Expr} {te : TE} {g : TG} (he : PE X e te) (hg : PG X tg g) (hs : swapsWithSole [tg] e pos.line X.env = pure false := by rfl) (hw : swappedStores [tg] e X.env = pure none := by rfl)
    (h1 : (assignEach [tg] X.env).map (·.2) = [assign tg X.env] := by rfl) : PS X (.Assign [tg] e pos) (tAsg te g) := by
  intro pins s σ H D I h
  refine wpAny_Assign_stores (thn (he pins s σ H _ I h) fun v s1 ⟨x, H1, I1, r1, q1⟩ => ?_) hs hw
  rw [h1]
  exact thn (hg pins s1 σ H1 x v _ I1 r1 q1) fun _ s2 q => q
/-- name = value -/
theorem ps_set {i : Nat} {x : Str} {e : Expr} {te : TE} {pos' : Pos} (hN : X.N.Nodup) (hi : X.N[i]? = some x) (hx : Loc X.env.scope x) (he : PE X e te) (hs : swapsWith e (some (.Name x pos')) pos.line X.env = pure false := by rfl) (hf : X.fn x = true ∨ X.env.scope.names.lookup x = some .local := by first | exact .inl rfl | exact .inr rfl | assumption) :
    PS X (.Assign [.Name x pos'] e pos) (tAsg te (gName i)) := by
  intro pins s σ H D I h
  refine wpAny_Assign_Name (thn (he pins s σ H _ I h) fun v s1 ⟨y, H1, I1, r1, q1⟩ => ?_) hs
  exact store_ok I1 hN hi hx r1 (fun s2 I2 => ⟨_, H1, I2, q1⟩) hf
end

/-! ### while -/
section
variable {X : Cx} {pos : Pos}
end

/-! ### what a loop or a comprehension walks -/
/-- at turn i: it yields x (the heap may grow), or it stops -/
structure It where
  go : Nat → Hp → Prop
  yld : Nat → Hp → V → Hp → Prop
  stop : Nat → Hp → Prop
/-- the iterator's own objects may turn: they are not the frame's, not pinned, younger than the entry (or a comprehension's own) -/
def FpOk (X : Cx) (pins : List (Addr × Obj)) (H : Hp) (b : Addr) : Prop :=
  H b = none ∧ b ≠ X.env.locals ∧ b ∉ X.fs ∧ (b ∈ X.ex ∨ X.s₀.heap.objs.size ≤ b) ∧ (∀ x c, X.env.cells.lookup x = some c → c ≠ b) ∧ ∀ p ∈ X.pn ++ pins, p.1 ≠ b
theorem Inv.fpOk {X : Cx} {pins : List (Addr × Obj)} {σ : St} {H H' : Hp} {s : Shared} {b : Addr} (I : Inv X pins σ H s) (hb : s.heap.objs.size ≤ b) (hn : H' b = none) : FpOk X pins H' b := by
  refine ⟨hn, Nat.ne_of_gt (Nat.lt_of_lt_of_le I.lt hb), I.nofs hb, .inr (Nat.le_trans I.sz hb), fun x c e z => ?_, fun p hp z => ?_⟩
  · obtain ⟨v, q⟩ := I.cell x c e
    exact absurd (Nat.lt_of_lt_of_le q.lt (by rw [z]; exact hb)) (Nat.lt_irrefl _)
  · exact absurd (Nat.lt_of_lt_of_le (Heap.lt_size (I.pin p hp).1) (by rw [z]; exact hb)) (Nat.lt_irrefl _)
structure Turn (P : Program) (w : World) (K : PySem.W.Frag) (tg : Expr) (J : It) (fp : List Addr) (it : Addr) (tn : Nat → Heap → Prop) : Prop where
  mem : it ∈ fp
  obj : ∀ i h, tn i h → ∀ b ∈ fp, ∃ o, h.get? b = some o ∧ ∀ v, o.data ≠ .cell v
  keep : ∀ i h h', tn i h → (∀ b ∈ fp, ∀ o, h.get? b = some o → h'.get? b = some o) → tn i h'
  item : ∀ (X : Cx), X.prog = P → X.w = w → X.K = K → X.calm = true → ∀ (i : Nat) (pins : List (Addr × Obj)) (s : Shared) (σ : St) (H : Hp) (E : Value → Shared → Prop), Inv X pins σ H s → (∀ b ∈ fp, FpOk X pins H b) → tn i s.heap → J.go i H →
    wpAny (model P w) X.A (pyNext (.ref it)) (fun r s1 => ∃ u, r = some u ∧
      wpAny (model P w) X.A (letOwnedTupleGo tg (.ref it) u) (fun _ s2 => ∃ x H', Inv X pins σ H' s2 ∧ RelV x u ∧ J.yld i H x H' ∧ tn (i + 1) s2.heap ∧ ∀ b ∈ fp, H' b = none) E s1) E s
  done : ∀ (X : Cx), X.prog = P → X.w = w → X.K = K → X.calm = true → ∀ (i : Nat) (pins : List (Addr × Obj)) (s : Shared) (σ : St) (H : Hp) (E : Value → Shared → Prop), Inv X pins σ H s → (∀ b ∈ fp, FpOk X pins H b) → tn i s.heap → J.stop i H →
    wpAny (model P w) X.A (pyNext (.ref it)) (fun r s1 => r = none ∧ Inv X pins σ H s1) E s
  self : ∀ (A : Around) (i : Nat) (s : Shared) (Q : Value → Shared → Prop) (E : Value → Shared → Prop), tn i s.heap → Q (.ref it) s → wpAny (model P w) A (pyIter (.ref it)) Q E s
abbrev TI := St → Hp → (It → Hp → Prop) → Prop
/-- an iterator has come -/
def PIE (X : Cx) (pins : List (Addr × Obj)) (σ : St) (tg : Expr) (R : It → Hp → Prop) (itv : Value) (s2 : Shared) : Prop :=
  ∃ (it : Addr) (fp : List Addr) (tn : Nat → Heap → Prop) (J : It) (H' : Hp), itv = .ref it ∧ Inv X pins σ H' s2 ∧ Turn X.prog X.w X.K tg J fp it tn ∧ tn 0 s2.heap ∧ (∀ b ∈ fp, FpOk X pins H' b) ∧ R J H'
def PI (X : Cx) (tg iter : Expr) (wi : TI) : Prop :=
  ∀ (pins : List (Addr × Obj)) (s : Shared) (σ : St) (H : Hp) (R : It → Hp → Prop), Inv X pins σ H s → wi σ H R →
    wpAny (model X.prog X.w) X.A (eval iter X.env) (fun v s1 => wpAny (model X.prog X.w) X.A (pyIter v) (PIE X pins σ tg R) X.xe s1) X.xe s

/-- the step ahead of the store is nothing for an iterator that keeps no tuple -/
theorem go_of {M : Model} {A : Around} {E : Value → Shared → Prop} {s : Shared} {tg : Expr} {it : Addr} {u : Value} {o : Obj} {n : String} {vs : Array Value} {Q : Unit → Shared → Prop} (ho : s.heap.get? it = some o) (hc : o.cls = .type n) (hd : o.data = .fields vs)
    (hn : ["enumerate", "zip", "dict_itemiterator", "dict_reverseitemiterator", "odict_iterator", "itertools.zip_longest", "itertools.pairwise"].contains n = false) (hQ : Q () s) : wpAny M A (letOwnedTupleGo tg (.ref it) u) Q E s := by
  unfold letOwnedTupleGo
  cases tg <;> first
    | exact wpAny_pure hQ
    | (cases u <;> first
        | exact wpAny_pure hQ
        | (refine wpAny_bind (wpAny_load ho ?_)
           rw [hc, hd]
           show wpAny M A (if (["enumerate", "zip", "dict_itemiterator", "dict_reverseitemiterator", "odict_iterator", "itertools.zip_longest", "itertools.pairwise"].contains n && vs[0]? == some (rawInt _)) = true then _ else _) Q E s
           rw [if_neg (by intro h; rw [hn, Bool.false_and] at h; cases h)]
           exact wpAny_pure hQ))

/-- the list at a, as it stands at each turn (a loop may append to it) -/
def Itl (K : PySem.W.Frag) (a : Addr) : It :=
  ⟨fun i H => ∃ xs x, SqL K H a xs ∧ xs[i]? = some x, fun i H x H' => H' = H ∧ ∀ xs, SqL K H a xs → xs[i]? = some x, fun i H => ∃ xs, SqL K H a xs ∧ xs.length ≤ i⟩
/-- lo, lo + 1, .. (n of them) -/
def Itr (lo : Int) (n : Nat) : It := ⟨fun i _ => i < n, fun i H x H' => H' = H ∧ x = .int (lo + i), fun i _ => n ≤ i⟩
theorem turn_list {P : Program} {w : World} {K : PySem.W.Frag} {tg : Expr} (a it : Addr) : Turn P w K tg (Itl K a) [it] it (fun i h => h.IsListIter it a i) where
  mem := by simp
  obj := fun i h st b hb => by
    have e : b = it := by simpa using hb
    subst e
    obtain ⟨o, e, c, d⟩ := st
    exact ⟨o, e, fun v z => by rw [d] at z; cases z⟩
  keep := fun i h h' st k => st.at fun o e => k it (by simp) o e
  item := by
    intro X hP hw hK hc i pins s σ H E I hf st hg
    subst hP hw hK
    obtain ⟨xs, x, hq, hx⟩ := hg
    obtain ⟨its, rv, p, hz⟩ := I.list hq
    obtain ⟨u, hu, ru⟩ := rv.get hx
    obtain ⟨f0, f1, f2, f3, f4, f5⟩ := hf it (by simp)
    refine wpAny_pyNext_list_item st p.isList (x := u) (by simpa using hu) fun h' st' sb => ?_
    have I1 : Inv X pins σ H { s with heap := h' } := I.turned (t' := s.toks) (fun b o hb e => (sb.2 b hb).trans e) f0 f1 f3 f4 f5
    obtain ⟨o, e, c, d⟩ := id st'
    exact ⟨u, rfl, go_of (s := { s with heap := h' }) e c d (by decide) ⟨x, H, I1, ru, ⟨rfl, fun ys hy => by rw [I.list_inj hy hq]; exact hx⟩, st', fun b hb => (hf b hb).1⟩⟩
  done := by
    intro X hP hw hK hc i pins s σ H E I hf st hg
    subst hP hw hK
    obtain ⟨xs, hq, hx⟩ := hg
    obtain ⟨its, rv, p, hz⟩ := I.list hq
    obtain ⟨f0, f1, f2, f3, f4, f5⟩ := hf it (by simp)
    have hl := rv.length
    exact wpAny_pyNext_list_end (I.ok.hd hc) st p.isList (by simp; omega) fun h' eb => ⟨rfl, I.turned (t' := s.toks) (fun b o hb e => eb b o hb e) f0 f1 f3 f4 f5⟩
  self := fun _ _ _ _ _ st h => wpAny_pyIter_listiter st h
theorem turn_range {P : Program} {w : World} {K : PySem.W.Frag} {tg : Expr} (it : Addr) (lo : Int) (n : Nat) : Turn P w K tg (Itr lo n) [it] it (fun i h => IsRangeIter h it (lo + (i : Nat) * 1) ((n : Int) - (i : Nat)) 1) where
  mem := by simp
  obj := fun i h st b hb => by
    have e : b = it := by simpa using hb
    subst e
    exact ⟨_, st, fun v z => by
      have z' : Data.fields _ = Data.cell v := z
      cases z'⟩
  keep := fun i h h' st k => k it (by simp) _ st
  item := by
    intro X hP hw hK hc i pins s σ H E I hf st hg
    subst hP hw hK
    obtain ⟨f0, f1, f2, f3, f4, f5⟩ := hf it (by simp)
    have W := Walks.range (prog := X.prog) (w := X.w) (I.ok.hd hc) it lo 1 n
    refine W.item i s _ _ hg st fun v h' tk hv st' kk => ?_
    obtain ⟨t, rfl⟩ := hv
    have I1 : Inv X pins σ H { s with heap := h', toks := tk } := I.turned (fun b o hb e => kk b o (by simpa using hb) e) f0 f1 f3 f4 f5
    refine ⟨_, rfl, go_of (s := { s with heap := h', toks := tk }) (n := "range_iterator") st' rfl rfl (by decide) ⟨.int (lo + i), H, I1, ⟨t, ?_⟩, ⟨rfl, rfl⟩, st', fun b hb => (hf b hb).1⟩⟩
    rw [Int.mul_one]
  done := by
    intro X hP hw hK hc i pins s σ H E I hf st hg
    subst hP hw hK
    obtain ⟨f0, f1, f2, f3, f4, f5⟩ := hf it (by simp)
    exact wpAny_pyNext_range_end (I.ok.hd hc) st (by have : n ≤ i := hg; omega) fun h' eb => ⟨rfl, I.turned (t' := s.toks) (fun b o hb e => eb b o hb e) f0 f1 f3 f4 f5⟩
  self := fun _ _ _ _ _ st h => wpAny_pyIter_rangeiter st h
end L2

namespace L2
open PySem PySem.Spec PyProof.Rows
section
variable {X : Cx} {tg : Expr}
def iList (K : PySem.W.Frag) (tl : TE) : TI := fun σ H R => tl σ H fun x H1 => ∃ a, x = .ref a ∧ (∃ xs, SqL K H1 a xs) ∧ R (Itl K a) H1
theorem pi_list {l : Expr} {tl : TE} (hl : PE X l tl) : PI X tg l (iList X.K tl) := by
  intro pins s σ H R I h
  refine thn (hl pins s σ H _ I h) fun v s1 ⟨x, H1, I1, r1, q1⟩ => ?_
  obtain ⟨a, e, ⟨xs, hq⟩, q⟩ := q1
  subst e
  cases r1
  obtain ⟨its, rv, p, hz⟩ := I1.list hq
  refine wpAny_pyIter_list p.isList ?_
  refine ⟨s1.heap.objs.size, [s1.heap.objs.size], _, _, H1, rfl, I1.kept (t' := s1.toks) fun b o e => Heap.get?_push_of_some _ e, turn_list a _, ⟨_, Heap.get?_push_size _ rfl, rfl, rfl⟩, fun b hb => ?_, q⟩
  have e : b = s1.heap.objs.size := by simpa using hb
  subst e
  exact I1.fpOk (Nat.le_refl _) (I1.hok.fresh (Nat.le_refl _))
/-- a range object just made, walked -/
theorem range_it {pins : List (Addr × Obj)} {σ : St} {H : Hp} {s : Shared} {R : It → Hp → Prop} {E : Value → Shared → Prop} {lo hi : Int} {t u v : Tok} {tk : Nat} (I : Inv X pins σ H s) (h1 : -(2 ^ 62) ≤ lo) (h2 : lo < 2 ^ 62) (h3 : -(2 ^ 62) ≤ hi) (h4 : hi < 2 ^ 62)
    (q : R (Itr lo (hi - lo).toNat) H) : wpAny (model X.prog X.w) X.A (pyIter (.ref s.heap.objs.size)) (PIE X pins σ tg R) E { s with heap := s.heap.push { cls := .type "range", data := .fields #[.int lo t, .int hi u, .int 1 v] }, toks := tk } := by
  refine wpAny_pyIter_range (IsRange.new ..) (small_one h1 h2 h3 h4) ?_
  have I1 : Inv X pins σ H { s with heap := s.heap.push { cls := .type "range", data := .fields #[.int lo t, .int hi u, .int 1 v] }, toks := tk } := I.kept fun b o e => Heap.get?_push_of_some _ e
  refine ⟨(s.heap.push { cls := .type "range", data := .fields #[.int lo t, .int hi u, .int 1 v] }).objs.size, [(s.heap.push { cls := .type "range", data := .fields #[.int lo t, .int hi u, .int 1 v] }).objs.size], _, _, H, rfl,
    I1.kept (t' := tk) fun b o e => Heap.get?_push_of_some _ e, turn_range _ lo (hi - lo).toNat, ?_, fun b hb => ?_, q⟩
  · have e1 : lo + ((0 : Nat) : Int) * 1 = lo := by simp
    have e2 : (((hi - lo).toNat : Nat) : Int) - ((0 : Nat) : Int) = Builtin.Range.rangeSize lo hi 1 := by rw [rangeSize_one]; split <;> omega
    show IsRangeIter _ _ (lo + ((0 : Nat) : Int) * 1) ((((hi - lo).toNat : Nat) : Int) - ((0 : Nat) : Int)) 1
    rw [e1, e2]
    exact Heap.get?_push_size _ rfl
  · have e : b = (s.heap.push { cls := .type "range", data := .fields #[.int lo t, .int hi u, .int 1 v] }).objs.size := by simpa using hb
    subst e
    exact I1.fpOk (Nat.le_refl _) (I1.hok.fresh (Nat.le_refl _))
def iRng1 (ta : TA) : TI := fun σ H R => ta σ H fun vs H1 => ∃ j : Int, vs = [.int j] ∧ -(2 ^ 62) ≤ j ∧ j < 2 ^ 62 ∧ R (Itr 0 j.toNat) H1
theorem pi_range1 {a : Expr} {ta : TA} {p pos : Pos} (hg : Gl X "range") (hm : X.mg "range" = none) (ha : PA X [a] ta) (hs : starEach [a] X.env = [(false, eval a X.env)] := by rfl) : PI X tg (.Call (.Name "range" p) [a] [] pos) (iRng1 ta) := by
  intro pins s σ H R I h
  refine Call_ (ld_blt I hg hm boot_range (PyProof.Rows.callWith_type1 (thn (ha pos pins s σ H _ I h) fun us s1 ⟨vs, H1, I1, r1, q1⟩ => ?_) hs rfl))
  obtain ⟨j, e, q1, q2, q⟩ := q1
  subst e
  cases r1 with
  | cons r rr =>
    cases rr
    obtain ⟨t, rfl⟩ := r
    exact call_range_1 (range_it I1 (by omega) (by omega) q1 q2 (by simpa using q))
/-! ### for -/
/-- W: the invariant by the turn and a measure; N: what the body is to reach -/
def tFor (wi : TI) (g : TG) (tb : TS) : TS := fun D σ H => wi σ H fun J H1 => ∃ W : Nat → Nat → St → Hp → Prop, (∃ m, W 0 m σ H1) ∧ ∀ i m σ H, W i m σ H →
  (J.stop i H ∧ D.nx σ H) ∨ (J.go i H ∧ ∃ N : St → Hp → Prop, (∀ σ' H', N σ' H' → ∃ m', m' < m ∧ W (i + 1) m' σ' H') ∧ ∀ x H', J.yld i H x H' → g x σ H' fun σ2 H2 => tb { D with nx := N, ct := N, bk := D.nx } σ2 H2)
/-- the records at fp as they stand -/
def pinsAt (fp : List Addr) (h : Heap) : List (Addr × Obj) := fp.filterMap fun b => (h.get? b).map fun o => (b, o)
theorem mem_pinsAt {fp : List Addr} {h : Heap} {b : Addr} {o : Obj} (hb : b ∈ fp) (e : h.get? b = some o) : (b, o) ∈ pinsAt fp h := List.mem_filterMap.mpr ⟨b, hb, by rw [e]; rfl⟩
theorem of_pinsAt {fp : List Addr} {h : Heap} {p : Addr × Obj} (hp : p ∈ pinsAt fp h) : p.1 ∈ fp ∧ h.get? p.1 = some p.2 := by
  obtain ⟨b, hb, e⟩ := List.mem_filterMap.mp hp
  cases q : h.get? b with
  | none => rw [q] at e; cases e
  | some o =>
    rw [q] at e
    have e' : (b, o) = p := Option.some.inj e
    subst e'
    exact ⟨hb, q⟩
theorem Inv.pinned {pins : List (Addr × Obj)} {σ : St} {H : Hp} {s : Shared} {fp : List Addr} (I : Inv X pins σ H s) (hf : ∀ b ∈ fp, FpOk X pins H b) (ho : ∀ b ∈ fp, ∃ o, s.heap.get? b = some o ∧ ∀ v, o.data ≠ .cell v) : Inv X (pins ++ pinsAt fp s.heap) σ H s :=
  I.pins_of fun p hp => (List.mem_append.mp hp).elim (fun z => I.pin p (List.mem_append_right _ z)) fun z => by
    obtain ⟨hb, e⟩ := of_pinsAt z
    obtain ⟨f0, f1, f2, _⟩ := hf p.1 hb
    obtain ⟨o, e', d⟩ := ho p.1 hb
    rw [e] at e'; cases e'
    exact ⟨e, f0, f1, f2, d⟩
theorem Inv.unpinned {pins pl : List (Addr × Obj)} {σ : St} {H : Hp} {s : Shared} (I : Inv X (pins ++ pl) σ H s) : Inv X pins σ H s := I.pins_of fun p hp => I.pin p (List.mem_append_right _ (List.mem_append_left _ hp))
theorem ps_for {iter : Expr} {body : List Stmt} {wi : TI} {g : TG} {tb : TS} {pos : Pos} (hp : PassesOwn (model X.prog X.w) X.A X.env X.xe) (hc : X.calm = true) (hi : PI X tg iter wi) (hg : PG X tg g) (hb : PSs X body tb)
    (hs : ∀ x, foldedSetIterable iter X.env x = pure x := by intro _; rfl) : PS X (.For tg iter body [] pos) (tFor wi g tb) := by
  intro pins s σ H D I h
  refine wpAny_For (thn (hi pins s σ H _ I h) fun v s1 h1 => thn h1 fun itv s2 h2 => ?_) hs
  obtain ⟨it, fp, tn, J, H2, e, I2, T, st2, f2, W, ⟨m0, w0⟩, turn⟩ := h2
  subst e
  -- what stays true of the iterator's objects through the loop
  have stat : ∀ {H' : Hp}, (∀ b ∈ fp, H' b = none) → ∀ b ∈ fp, FpOk X pins H' b := fun hn b hb => ⟨hn b hb, (f2 b hb).2⟩
  refine codeAny_forLoop_any (fun n s' => ∃ i σ' H', Inv X pins σ' H' s' ∧ tn i s'.heap ∧ (∀ b ∈ fp, H' b = none) ∧ W i n σ' H') ?_ m0 ⟨0, σ, H2, I2, st2, fun b hb => (f2 b hb).1, w0⟩
  rintro n s3 ⟨i, σ3, H3, I3, st3, fr3, w3⟩
  rcases turn i n σ3 H3 w3 with ⟨stop, qn⟩ | ⟨go, N, hN, step⟩
  · refine wpAny_passesOwn hp (thn (T.done X rfl rfl rfl hc i pins s3 σ3 H3 X.xe I3 (stat fr3) st3 stop) fun r s4 ⟨hr, I4⟩ => ?_)
    subst hr
    exact wpAny_execs_nil ⟨σ3, H3, I4, qn⟩
  · refine wpAny_passesOwn hp (thn (T.item X rfl rfl rfl hc i pins s3 σ3 H3 X.xe I3 (stat fr3) st3 go) fun r s4 ⟨u, hr, h4⟩ => ?_)
    subst hr
    refine wpAny_passesOwn hp (thn h4 fun _ s5 ⟨x, H5, I5, r5, y5, st5, fr5⟩ => ?_)
    have I5' := I5.pinned (stat fr5) (T.obj _ _ st5)
    refine wpAny_passesOwn hp (thn (hg _ s5 σ3 H5 x u _ I5' r5 (step x H5 y5)) fun _ s6 ⟨σ6, H6, I6, q6⟩ => ?_)
    refine wpAny_passesOwn hp (thn (hb _ s6 σ6 H6 _ I6 q6) fun f s7 q7 => ?_)
    have again : ∀ {σ7 : St} {H7 : Hp}, Inv X (pins ++ pinsAt fp s5.heap) σ7 H7 s7 → N σ7 H7 → ∃ m, m < n ∧ ∃ i σ' H', Inv X pins σ' H' s7 ∧ tn i s7.heap ∧ (∀ b ∈ fp, H' b = none) ∧ W i m σ' H' := fun {σ7 H7} I7 n7 => by
      obtain ⟨m', hm, w7⟩ := hN σ7 H7 n7
      refine ⟨m', hm, i + 1, σ7, H7, I7.unpinned, T.keep _ _ _ st5 fun b hb o e => (I7.pin (b, o) (List.mem_append_right _ (List.mem_append_right _ (mem_pinsAt hb e)))).1, fun b hb => ?_, w7⟩
      obtain ⟨o, e, d⟩ := T.obj _ _ st5 b hb
      exact (I7.pin (b, o) (List.mem_append_right _ (List.mem_append_right _ (mem_pinsAt hb e)))).2.1
    cases f with
    | next => obtain ⟨σ7, H7, I7, n7⟩ := q7; exact again I7 n7
    | cont => obtain ⟨σ7, H7, I7, n7⟩ := q7; exact again I7 n7
    | brk => obtain ⟨σ7, H7, I7, q7⟩ := q7; exact ⟨σ7, H7, I7.unpinned, q7⟩
    | ret v => obtain ⟨x7, σ7, H7, I7, r7, q7⟩ := q7; exact ⟨x7, σ7, H7, I7.unpinned, r7, q7⟩
end

/-! ### the forms one uses -/
/-- over a list that the body leaves as it is -/
theorem for_list {K : PySem.W.Frag} {a : Addr} {xs : List V} {g : TG} {tb : TS} {D : Ends} {σ : St} {H : Hp} (Pv : Nat → St → Hp → Prop) (h0 : Pv 0 σ H) (hl : ∀ i σ H, i ≤ xs.length → Pv i σ H → SqL K H a xs)
    (hs : ∀ i x σ H, xs[i]? = some x → Pv i σ H → g x σ H fun σ2 H2 => tb { D with nx := Pv (i + 1), ct := Pv (i + 1), bk := D.nx } σ2 H2) (hd : ∀ σ H, Pv xs.length σ H → D.nx σ H) :
    ∃ W : Nat → Nat → St → Hp → Prop, (∃ m, W 0 m σ H) ∧ ∀ i m σ H, W i m σ H →
      ((Itl K a).stop i H ∧ D.nx σ H) ∨ ((Itl K a).go i H ∧ ∃ N : St → Hp → Prop, (∀ σ' H', N σ' H' → ∃ m', m' < m ∧ W (i + 1) m' σ' H') ∧ ∀ x H', (Itl K a).yld i H x H' → g x σ H' fun σ2 H2 => tb { D with nx := N, ct := N, bk := D.nx } σ2 H2) := by
  refine ⟨fun i m σ H => m = xs.length - i ∧ i ≤ xs.length ∧ Pv i σ H, ⟨xs.length, by simp, Nat.zero_le _, h0⟩, ?_⟩
  rintro i m σ H ⟨rfl, hi, p⟩
  have q := hl i σ H hi p
  by_cases hlt : i < xs.length
  · refine .inr ⟨⟨xs, xs[i], q, by simp [hlt]⟩, Pv (i + 1), fun σ' H' p' => ⟨xs.length - (i + 1), by omega, rfl, hlt, p'⟩, fun x H' y => ?_⟩
    obtain ⟨e, y⟩ := y
    subst e
    exact hs i x σ _ (y xs q) p
  · have e : i = xs.length := by omega
    subst e
    exact .inl ⟨⟨xs, q, Nat.le_refl _⟩, hd σ H p⟩
theorem for_range {lo : Int} {n : Nat} {g : TG} {tb : TS} {D : Ends} {σ : St} {H : Hp} (Pv : Nat → St → Hp → Prop) (h0 : Pv 0 σ H)
    (hs : ∀ i σ H, i < n → Pv i σ H → g (.int (lo + i)) σ H fun σ2 H2 => tb { D with nx := Pv (i + 1), ct := Pv (i + 1), bk := D.nx } σ2 H2) (hd : ∀ σ H, Pv n σ H → D.nx σ H) :
    ∃ W : Nat → Nat → St → Hp → Prop, (∃ m, W 0 m σ H) ∧ ∀ i m σ H, W i m σ H →
      ((Itr lo n).stop i H ∧ D.nx σ H) ∨ ((Itr lo n).go i H ∧ ∃ N : St → Hp → Prop, (∀ σ' H', N σ' H' → ∃ m', m' < m ∧ W (i + 1) m' σ' H') ∧ ∀ x H', (Itr lo n).yld i H x H' → g x σ H' fun σ2 H2 => tb { D with nx := N, ct := N, bk := D.nx } σ2 H2) := by
  refine ⟨fun i m σ H => m = n - i ∧ i ≤ n ∧ Pv i σ H, ⟨n, by simp, Nat.zero_le _, h0⟩, ?_⟩
  rintro i m σ H ⟨rfl, hi, p⟩
  by_cases hlt : i < n
  · refine .inr ⟨hlt, Pv (i + 1), fun σ' H' p' => ⟨n - (i + 1), by omega, rfl, hlt, p'⟩, fun x H' y => ?_⟩
    obtain ⟨e, y⟩ := y
    subst e y
    exact hs i σ _ hlt p
  · have e : i = n := by omega
    subst e
    exact .inl ⟨Nat.le_refl _, hd σ H p⟩
end L2

namespace L2
open PySem PySem.Spec PyProof.Rows

abbrev R2 := V → V → Hp → VK → Prop
/-- a two-place operation on values: f is binaryOp op, inplaceOp op or compareOp op -/
def OpR (X : Cx) (f : Value → Value → Sem Value) (r : R2) : Prop :=
  ∀ (pins : List (Addr × Obj)) (s : Shared) (σ : St) (H : Hp) (x y : V) (v u : Value) (Q : VK), Inv X pins σ H s → RelV x v → RelV y u → r x y H Q →
    wpAny (model X.prog X.w) X.A (f v u) (EP X pins σ Q) X.xe s
/-- a call of a value that is known (a builtin, a type) with values -/
def CallR (X : Cx) (f : Value) (r : List V → Hp → VK → Prop) : Prop :=
  ∀ (pins : List (Addr × Obj)) (s : Shared) (σ : St) (H : Hp) (xs : List V) (us : List Value) (Q : VK), Inv X pins σ H s → Vals xs us → r xs H Q →
    wpAny (model X.prog X.w) X.A (call f us) (EP X pins σ Q) X.xe s
/-- a value's truth -/
def TruR (X : Cx) (r : V → Hp → (Bool → Hp → Prop) → Prop) : Prop :=
  ∀ (pins : List (Addr × Obj)) (s : Shared) (σ : St) (H : Hp) (x : V) (v : Value) (Q : Bool → Hp → Prop), Inv X pins σ H s → RelV x v → r x H Q →
    wpAny (model X.prog X.w) X.A (truthy v) (TP X pins σ Q) X.xe s

def tOp (r : R2) (ta tb : TE) : TE := fun σ H Q => ta σ H fun x H1 => tb σ H1 fun y H2 => r x y H2 Q
/-- ints in, under C, and a value out -/
def rI (C : Int → Int → Prop) (g : Int → Int → V) : R2 := fun x y H Q => ∃ i j, x = .int i ∧ y = .int j ∧ C i j ∧ Q (g i j) H
def rI0 (g : Int → Int → V) : R2 := fun x y H Q => ∃ i j, x = .int i ∧ y = .int j ∧ Q (g i j) H
section
variable {X : Cx} {a b c : Expr} {ta tb tc : TE} {pos : Pos}

theorem binT (ha : PE X a ta) (hb : PE X b tb) {pins : List (Addr × Obj)} {s : Shared} {σ : St} {H : Hp} {R : V → V → Hp → Prop} (I : Inv X pins σ H s)
    (h : ta σ H fun x H1 => tb σ H1 fun y H2 => R x y H2) {Q : Value → Shared → Prop} {f : Value → Value → Sem Value}
    (hf : ∀ v u s2 x y H2, Inv X pins σ H2 s2 → RelV x v → RelV y u → R x y H2 → wpAny (model X.prog X.w) X.A (f v u) Q X.xe s2) :
    wpAny (model X.prog X.w) X.A (eval a X.env) (fun v s₁ => wpAny (model X.prog X.w) X.A (eval b X.env) (fun u s₂ => wpAny (model X.prog X.w) X.A (f v u) Q X.xe s₂) X.xe s₁) X.xe s := by
  refine thn (ha pins s σ H _ I h) fun v s1 ⟨x, H1, I1, r1, q1⟩ => ?_
  refine thn (hb pins s1 σ H1 _ I1 q1) fun u s2 ⟨y, H2, I2, r2, q2⟩ => ?_
  exact hf v u s2 x y H2 I2 r1 r2 q2

theorem pe_op {op : Operator} {r : R2} (ho : OpR X (binaryOp op) r) (ha : PE X a ta) (hb : PE X b tb) : PE X (.BinOp a op b pos) (tOp r ta tb) := by
  intro pins s σ H Q I h
  exact wpAny_BinOp (binT ha hb I h fun v u s2 x y H2 I2 rx ry q => ho pins s2 σ H2 x y v u Q I2 rx ry q)
/-! ### ints -/
theorem opI {f : Value → Value → Sem Value} {C : Int → Int → Prop} {g : Int → Int → Int}
    (rule : ∀ (i j : Int) (t u : Tok) (s : Shared) (Q : Value → Shared → Prop) (E : Value → Shared → Prop), C i j → Q (.int (g i j) s.toks) { s with toks := s.toks + 1 } → wpAny (model X.prog X.w) X.A (f (.int i t) (.int j u)) Q E s) :
    OpR X f (rI C fun i j => .int (g i j)) := by
  intro pins s σ H x y v u Q I rx ry h
  obtain ⟨i, j, rfl, rfl, hc, q⟩ := h
  obtain ⟨t, rfl⟩ := rx
  obtain ⟨t', rfl⟩ := ry
  exact rule i j t t' s _ _ hc ⟨.int (g i j), H, I.tok _, ⟨_, rfl⟩, q⟩
theorem opI0 {f : Value → Value → Sem Value} {g : Int → Int → Int}
    (rule : ∀ (i j : Int) (t u : Tok) (s : Shared) (Q : Value → Shared → Prop) (E : Value → Shared → Prop), Q (.int (g i j) s.toks) { s with toks := s.toks + 1 } → wpAny (model X.prog X.w) X.A (f (.int i t) (.int j u)) Q E s) :
    OpR X f (rI0 fun i j => .int (g i j)) := by
  intro pins s σ H x y v u Q I rx ry h
  obtain ⟨i, j, rfl, rfl, q⟩ := h
  obtain ⟨t, rfl⟩ := rx
  obtain ⟨t', rfl⟩ := ry
  exact rule i j t t' s _ _ ⟨.int (g i j), H, I.tok _, ⟨_, rfl⟩, q⟩
theorem opB0 {f : Value → Value → Sem Value} {g : Int → Int → Bool}
    (rule : ∀ (i j : Int) (t u : Tok) (s : Shared) (Q : Value → Shared → Prop) (E : Value → Shared → Prop), Q (.bool (g i j)) s → wpAny (model X.prog X.w) X.A (f (.int i t) (.int j u)) Q E s) :
    OpR X f (rI0 fun i j => .bl (g i j)) := by
  intro pins s σ H x y v u Q I rx ry h
  obtain ⟨i, j, rfl, rfl, q⟩ := h
  obtain ⟨t, rfl⟩ := rx
  obtain ⟨t', rfl⟩ := ry
  exact rule i j t t' s _ _ ⟨.bl (g i j), H, I, rfl, q⟩

def CDiv (i j : Int) : Prop := 0 < j ∧ j < 1073741824
def CDivN (i j : Int) : Prop := j ≠ 0 ∧ j.natAbs < 1073741824
def CPow (i j : Int) : Prop := 0 ≤ j ∧ j ≤ 1000000 ∧ i.natAbs < 2 ^ 64
def CMul (i j : Int) : Prop := (-(2 ^ 64) < i ∧ i < 2 ^ 64) ∨ (-(2 ^ 64) < j ∧ j < 2 ^ 64)
theorem CMul.ok {i j : Int} (h : CMul i j) : IntMulOk i j := by
  rcases h with ⟨h1, h2⟩ | ⟨h1, h2⟩
  · exact .of_left (intBits_le_64 h1 h2)
  · exact .of_right (intBits_le_64 h1 h2)
theorem op_add : OpR X (binaryOp .Add) (rI0 fun i j => .int (i + j)) := opI0 fun _ _ _ _ _ _ _ q => add_int q
theorem op_sub : OpR X (binaryOp .Sub) (rI0 fun i j => .int (i - j)) := opI0 fun _ _ _ _ _ _ _ q => sub_int q
theorem op_mul : OpR X (binaryOp .Mult) (rI CMul fun i j => .int (i * j)) := opI fun _ _ _ _ _ _ _ hc q => mul_int q hc.ok
/-- // by a positive divisor -/
theorem op_fdiv : OpR X (binaryOp .FloorDiv) (rI CDiv fun i j => .int (i / j)) := opI fun i j _ _ _ _ _ hc q => by
  have h1 : (0 : Int) < j := hc.1
  have h2 : j < 1073741824 := hc.2
  exact floordiv_int (by omega) (by rw [Int.fdiv_eq_ediv_of_nonneg i (by omega)]; exact q) (.inl (PyProof.noPylong_small (by omega)))
/-- % by a positive divisor of any size -/
theorem op_mod : OpR X (binaryOp .Mod) (rI (fun _ j => 0 < j) fun i j => .int (i % j)) := opI fun i j _ _ _ _ _ hc q => by
  have h1 : (0 : Int) < j := hc
  exact mod_int' (by omega) (by rw [Int.fmod_eq_emod_of_nonneg i (by omega)]; exact q)
theorem op_pow : OpR X (binaryOp .Pow) (rI CPow fun i j => .int (i ^ j.toNat)) := opI fun _ _ _ _ _ _ _ hc q => pow_int_small hc.1 hc.2.1 hc.2.2 q
/-! ### bools among ints: n += (a < b) -/
end

/-! ### comparisons -/
/-- the scalars that == tells apart as data does -/
def scal : V → V → Bool
  | .non, .non => true | .non, .int _ => true | .int _, .non => true | .non, .bl _ => true | .bl _, .non => true | .non, .str _ => true | .str _, .non => true
  | .int _, .int _ => true | .bl _, .bl _ => true | .str _, .str _ => true | .byt _, .byt _ => true
  | .int _, .str _ => true | .str _, .int _ => true | .bl _, .str _ => true | .str _, .bl _ => true
  | _, _ => false
def rEq : R2 := fun x y H Q => scal x y = true ∧ Q (.bl (decide (x = y))) H
def rNe : R2 := fun x y H Q => scal x y = true ∧ Q (.bl (!decide (x = y))) H

theorem dec_int {i j : Int} : decide (V.int i = V.int j) = (i == j) := by
  rw [Bool.eq_iff_iff]
  simp
theorem dec_bl {i j : Bool} : decide (V.bl i = V.bl j) = (i == j) := by
  rw [Bool.eq_iff_iff]
  simp
theorem dec_str {i j : Str} : decide (V.str i = V.str j) = (i == j) := by
  rw [Bool.eq_iff_iff]
  simp
theorem dec_byt {i j : Array UInt8} : decide (V.byt i = V.byt j) = (i.toList == j.toList) := by
  rw [Bool.eq_iff_iff]
  cases i
  cases j
  simp

section
variable {X : Cx} {a b c : Expr} {ta tb tc : TE} {pos : Pos}
theorem fin_bl {pins : List (Addr × Obj)} {σ : St} {H : Hp} {s : Shared} {Q : VK} {k k' : Bool} (I : Inv X pins σ H s) (q : Q (.bl k) H) (e : k = k') : EP X pins σ Q (.bool k') s := by
  subst e
  exact ⟨.bl k, H, I, rfl, q⟩
theorem op_eq : OpR X (compareOp .Eq) rEq := by
  intro pins s σ H x y v u Q I rx ry h
  obtain ⟨hs, q⟩ := h
  cases x with
  | non =>
    cases rx
    cases y with
    | non => cases ry; exact PySem.EqNone.eq_none_none (fin_bl I q (by simp))
    | bl j => cases ry; exact PySem.EqNone.eq_none_bool (fin_bl I q (by simp))
    | int j => obtain ⟨t', rfl⟩ := ry; exact PySem.EqNone.eq_none_int (fin_bl I q (by simp))
    | str j => obtain ⟨t', rfl⟩ := ry; exact PySem.EqNone.eq_none_str (fin_bl I q (by simp))
    | _ => exact absurd (show false = true from hs) Bool.false_ne_true
  | bl i =>
    cases rx
    cases y with
    | non => cases ry; exact PySem.EqNone.eq_bool_none (fin_bl I q (by simp))
    | bl j => cases ry; exact eq_bool (fin_bl I q dec_bl)
    | str j => obtain ⟨t', rfl⟩ := ry; exact PySem.EqMixed.eq_bool_str (fin_bl I q (by simp))
    | _ => exact absurd (show false = true from hs) Bool.false_ne_true
  | int i =>
    obtain ⟨t, rfl⟩ := rx
    cases y with
    | non => cases ry; exact PySem.EqNone.eq_int_none (fin_bl I q (by simp))
    | int j => obtain ⟨t', rfl⟩ := ry; exact eq_int (fin_bl I q dec_int)
    | str j => obtain ⟨t', rfl⟩ := ry; exact PySem.EqMixed.eq_int_str (fin_bl I q (by simp))
    | _ => exact absurd (show false = true from hs) Bool.false_ne_true
  | str i =>
    obtain ⟨t, rfl⟩ := rx
    cases y with
    | non => cases ry; exact PySem.EqNone.eq_str_none (fin_bl I q (by simp))
    | bl j => cases ry; exact PySem.EqMixed.eq_str_bool (fin_bl I q (by simp))
    | int j => obtain ⟨t', rfl⟩ := ry; exact PySem.EqMixed.eq_str_int (fin_bl I q (by simp))
    | str j => obtain ⟨t', rfl⟩ := ry; exact eq_str (fin_bl I q dec_str)
    | _ => exact absurd (show false = true from hs) Bool.false_ne_true
  | byt i =>
    obtain ⟨t, rfl⟩ := rx
    cases y with
    | byt j => obtain ⟨t', rfl⟩ := ry; exact PySem.W.eq_bytes (fin_bl I q dec_byt)
    | _ => exact absurd (show false = true from hs) Bool.false_ne_true
  | _ => cases y <;> exact absurd (show false = true from hs) Bool.false_ne_true
theorem op_ne : OpR X (compareOp .NotEq) rNe := by
  intro pins s σ H x y v u Q I rx ry h
  obtain ⟨hs, q⟩ := h
  cases x with
  | non =>
    cases rx
    cases y with
    | non => cases ry; exact PySem.EqNone.ne_none_none (fin_bl I q (by simp))
    | bl j => cases ry; exact PySem.EqNone.ne_none_bool (fin_bl I q (by simp))
    | int j => obtain ⟨t', rfl⟩ := ry; exact PySem.EqNone.ne_none_int (fin_bl I q (by simp))
    | str j => obtain ⟨t', rfl⟩ := ry; exact PySem.EqNone.ne_none_str (fin_bl I q (by simp))
    | _ => exact absurd (show false = true from hs) Bool.false_ne_true
  | bl i =>
    cases rx
    cases y with
    | non => cases ry; exact PySem.EqNone.ne_bool_none (fin_bl I q (by simp))
    | bl j => cases ry; exact ne_bool (fin_bl I q (congrArg not dec_bl))
    | str j => obtain ⟨t', rfl⟩ := ry; exact PySem.EqMixed.ne_bool_str (fin_bl I q (by simp))
    | _ => exact absurd (show false = true from hs) Bool.false_ne_true
  | int i =>
    obtain ⟨t, rfl⟩ := rx
    cases y with
    | non => cases ry; exact PySem.EqNone.ne_int_none (fin_bl I q (by simp))
    | int j => obtain ⟨t', rfl⟩ := ry; exact ne_int (fin_bl I q (congrArg not dec_int))
    | str j => obtain ⟨t', rfl⟩ := ry; exact PySem.EqMixed.ne_int_str (fin_bl I q (by simp))
    | _ => exact absurd (show false = true from hs) Bool.false_ne_true
  | str i =>
    obtain ⟨t, rfl⟩ := rx
    cases y with
    | non => cases ry; exact PySem.EqNone.ne_str_none (fin_bl I q (by simp))
    | bl j => cases ry; exact PySem.EqMixed.ne_str_bool (fin_bl I q (by simp))
    | int j => obtain ⟨t', rfl⟩ := ry; exact PySem.EqMixed.ne_str_int (fin_bl I q (by simp))
    | str j => obtain ⟨t', rfl⟩ := ry; exact ne_str (fin_bl I q (congrArg not dec_str))
    | _ => exact absurd (show false = true from hs) Bool.false_ne_true
  | byt i =>
    obtain ⟨t, rfl⟩ := rx
    cases y with
    | byt j => obtain ⟨t', rfl⟩ := ry; exact PySem.W.ne_bytes (fin_bl I q (congrArg not dec_byt))
    | _ => exact absurd (show false = true from hs) Bool.false_ne_true
  | _ => cases y <;> exact absurd (show false = true from hs) Bool.false_ne_true

theorem op_lt : OpR X (compareOp .Lt) (rI0 fun i j => .bl (decide (i < j))) := opB0 fun _ _ _ _ _ _ _ q => lt_int q
theorem op_le : OpR X (compareOp .LtE) (rI0 fun i j => .bl (decide (i ≤ j))) := opB0 fun _ _ _ _ _ _ _ q => le_int q
/-- is None, is not None: the right side a value none -/
theorem op_isN : OpR X (compareOp .Is) (fun x y H Q => y = .non ∧ Q (.bl (decide (x = .non))) H) := by
  intro pins s σ H x y v u Q I rx ry h
  obtain ⟨rfl, q⟩ := h
  cases ry
  refine is_none_gen (fin_bl I q ?_)
  cases x <;> first
    | (cases rx; rfl)
    | (obtain ⟨t, rfl⟩ := rx; rfl)
theorem op_notN : OpR X (compareOp .IsNot) (fun x y H Q => y = .non ∧ Q (.bl (!decide (x = .non))) H) := by
  intro pins s σ H x y v u Q I rx ry h
  obtain ⟨rfl, q⟩ := h
  cases ry
  refine isnot_none_gen (fin_bl I q ?_)
  cases x <;> first
    | (cases rx; rfl)
    | (obtain ⟨t, rfl⟩ := rx; rfl)

/-- two rules for one operation: by cases -/
theorem OpR.or {f : Value → Value → Sem Value} {r r' : R2} (h : OpR X f r) (h' : OpR X f r') : OpR X f (fun x y H Q => r x y H Q ∨ r' x y H Q) := by
  intro pins s σ H x y v u Q I rx ry q
  rcases q with q | q
  · exact h pins s σ H x y v u Q I rx ry q
  · exact h' pins s σ H x y v u Q I rx ry q

theorem nomark (b : Expr) {op : CmpOp} (h : op ≠ .In := by decide) (h2 : op ≠ .NotIn := by decide) : behindInMarks op b = false := by
  have e1 : (op == CmpOp.In) = false := by cases op <;> first | rfl | exact absurd rfl h
  have e2 : (op == CmpOp.NotIn) = false := by cases op <;> first | rfl | exact absurd rfl h2
  cases b <;> simp [behindInMarks, e1, e2]
/-- a comparison as a value; hm: nomark b, or (for in, not in) by with_unfolding_all rfl -/
theorem pe_cmpR {op : CmpOp} {r : R2} (ho : OpR X (compareOp op) r) (ha : PE X a ta) (hb : PE X b tb) (hm : behindInMarks op b = false) : PE X (.Compare a [op] [b] pos) (tOp r ta tb) := by
  intro pins s σ H Q I h
  exact wpAny_Compare1 (binT ha hb I h fun v u s2 x y H2 I2 rx ry q => ho pins s2 σ H2 x y v u Q I2 rx ry q) hm
/-- a reading of a value as a test -/
def tTest (t : TE) : TT := fun σ H Q => t σ H fun x H' => ∃ k, x = .bl k ∧ Q k H'
theorem pt_cmpR {op : CmpOp} {r : R2} (ho : OpR X (compareOp op) r) (ha : PE X a ta) (hb : PE X b tb) (hm : behindInMarks op b = false) : PT X (.Compare a [op] [b] pos) (tTest (tOp r ta tb)) := by
  intro pins s σ H Q I h
  refine wpAny_isTrue_Compare1 (thn (ha pins s σ H _ I h) fun v s1 ⟨x, H1, I1, r1, q1⟩ => thn (hb pins s1 σ H1 _ I1 q1) fun u s2 ⟨y, H2, I2, r2, q2⟩ =>
    thn (ho pins s2 σ H2 x y v u _ I2 r1 r2 q2) fun c s3 ⟨z, H3, I3, r3, k, e, q3⟩ => ?_) hm
  subst e
  cases r3
  exact wpAny_truthy_bool ⟨H3, I3, q3⟩
/-! ### truth -/
/-- a value's truth by the abstract heap -/
def TruV (K : PySem.W.Frag) (x : V) (H : Hp) (k : Bool) : Prop :=
  match x with
  | .non => k = false
  | .bl b => k = b
  | .int i => k = (i != 0)
  | .str y => y.length ≤ sizeLine ∧ k = ((y.length : Int) != 0)
  | .byt y => y.size ≤ sizeLine ∧ k = ((y.size : Int) != 0)
  | .ref p => (∃ xs, SqL K H p xs ∧ k = !xs.isEmpty) ∨ (∃ xs, SqT K H p xs ∧ k = !xs.isEmpty) ∨ ∃ kvs, H p = some (.dK kvs) ∧ k = !kvs.isEmpty
  | _ => False
theorem isEmpty_kv {κ : Type} {kvs : List (κ × V)} {vs : List (κ × Value)} (r : KV kvs vs) : (!vs.isEmpty) = !kvs.isEmpty := by
  cases r <;> rfl
theorem isEmpty_of {xs : List V} {its : List Value} (r : Vals xs its) : (!its.toArray.isEmpty) = !xs.isEmpty := by
  cases r <;> simp
theorem line63 : (sizeLine : Nat) < 2 ^ 63 := by rw [sizeLine_eq]; decide
theorem tru_ok : TruR X (fun x H Q => ∃ k, TruV X.K x H k ∧ Q k H) := by
  intro pins s σ H x v Q I rx h
  obtain ⟨k, e, q⟩ := h
  have hl := line63
  have hs : sizeLine = 16777216 := sizeLine_eq
  cases x with
  | non =>
    cases rx
    have e' : k = false := e
    subst e'
    exact truthy_none ⟨H, I, q⟩
  | bl b =>
    cases rx
    have e' : k = b := e
    subst e'
    exact wpAny_truthy_bool ⟨H, I, q⟩
  | int i =>
    obtain ⟨t, rfl⟩ := rx
    have e' : k = (i != 0) := e
    subst e'
    exact PySem.P.truthy_int ⟨H, I, q⟩
  | str y =>
    obtain ⟨t, rfl⟩ := rx
    obtain ⟨hy, e'⟩ : y.length ≤ sizeLine ∧ k = ((y.length : Int) != 0) := e
    subst e'
    exact PySem.P.truthy_str (by omega) ⟨H, I.tok _, q⟩
  | byt y =>
    obtain ⟨t, rfl⟩ := rx
    obtain ⟨hy, e'⟩ : y.size ≤ sizeLine ∧ k = ((y.size : Int) != 0) := e
    subst e'
    exact PySem.W.truthy_bytes (by omega) ⟨H, I.tok _, q⟩
  | ref p =>
    cases rx
    have e' : (∃ xs, SqL X.K H p xs ∧ k = !xs.isEmpty) ∨ (∃ xs, SqT X.K H p xs ∧ k = !xs.isEmpty) ∨ ∃ kvs, H p = some (.dK kvs) ∧ k = !kvs.isEmpty := e
    rcases e' with ⟨xs, hx, e'⟩ | ⟨xs, hx, e'⟩ | ⟨kvs, hx, e'⟩
    · subst e'
      obtain ⟨its, r, pl, hz⟩ := I.list hx
      have hlen := r.length
      exact wpAny_truthy_list pl.isList (by simp only [List.size_toArray]; omega) ⟨H, I.tok _, by rw [isEmpty_of r]; exact q⟩
    · subst e'
      obtain ⟨its, r, pl, hz⟩ := I.tuple hx
      have hlen := r.length
      exact truthy_tuple pl (by simp only [List.size_toArray]; omega) ⟨H, I.tok _, by rw [isEmpty_of r]; exact q⟩
    · subst e'
      obtain ⟨hz, hS, vs, r, m⟩ : kvs.length ≤ sizeLine ∧ (p == sysModules) = false ∧ ∃ vs, KV kvs vs ∧ s.heap.DictOf (mixKind X.prog X.w) p vs := I.hok p _ hx
      have hlen : kvs.length = vs.length := Paired.length r
      exact wpAny_truthy_dict hS m (by omega) ⟨H, I.tok _, by rw [isEmpty_kv r]; exact q⟩
  | _ => exact (show False from e).elim
/-- any expression whose test is its value's truth (a name, a call, a subscript, a field ..: he by fun _ => rfl) -/
theorem pt_truth (ha : PE X a ta) (he : ∀ whole, isTrue a X.env whole = (do let v ← whole; standAt a.pos; holding [v] (truthy v))) :
    PT X a (fun σ H Q => ta σ H fun x H' => ∃ k, TruV X.K x H' k ∧ Q k H') := by
  intro pins s σ H Q I h
  exact isTrue_plain (thn (ha pins s σ H _ I h) fun v s1 ⟨x, H1, I1, r1, q1⟩ => tru_ok pins s1 σ H1 x v Q I1 r1 q1) (he _)

/-! ### strs and bytes -/
theorem op_add_str : OpR X (binaryOp .Add) (fun x y H Q => ∃ i j, x = .str i ∧ y = .str j ∧ i.length + j.length ≤ sizeLine ∧ Q (.str (i ++ j)) H) := by
  intro pins s σ H x y v u Q I rx ry h
  obtain ⟨i, j, rfl, rfl, hz, q⟩ := h
  obtain ⟨t, rfl⟩ := rx
  obtain ⟨t', rfl⟩ := ry
  exact add_str (fun t' tk => ⟨.str (i ++ j), H, I.tok _, ⟨_, rfl⟩, q⟩) hz
/-! ### scalar builtins, by CallR -/
theorem vals1 {x : V} {us : List Value} (r : Vals [x] us) : ∃ u, us = [u] ∧ RelV x u := by
  cases r with
  | cons r1 r2 => cases r2; exact ⟨_, rfl, r1⟩
theorem vals2 {x y : V} {us : List Value} (r : Vals [x, y] us) : ∃ u w', us = [u, w'] ∧ RelV x u ∧ RelV y w' := by
  cases r with
  | cons r1 r2 =>
    cases r2 with
    | cons r3 r4 => cases r4; exact ⟨_, _, rfl, r1, r3⟩
theorem call_max2 (hc : X.calm = true) : CallR X (.builtin "max") (fun xs H Q => ∃ i j, xs = [.int i, .int j] ∧ Q (.int (if j > i then j else i)) H) := by
  intro pins s σ H xs us Q I r h
  obtain ⟨i, j, rfl, q⟩ := h
  obtain ⟨u, w', rfl, ⟨t, rfl⟩, ⟨t', rfl⟩⟩ := vals2 r
  refine max_two_ints (I.ok.hd hc) fun h' tk k => ⟨_, H, I.kept k, ?_, q⟩
  by_cases hj : j > i
  · rw [if_pos hj, if_pos hj]; exact ⟨_, rfl⟩
  · rw [if_neg hj, if_neg hj]; exact ⟨_, rfl⟩
theorem call_min2 (hc : X.calm = true) : CallR X (.builtin "min") (fun xs H Q => ∃ i j, xs = [.int i, .int j] ∧ Q (.int (if j < i then j else i)) H) := by
  intro pins s σ H xs us Q I r h
  obtain ⟨i, j, rfl, q⟩ := h
  obtain ⟨u, w', rfl, ⟨t, rfl⟩, ⟨t', rfl⟩⟩ := vals2 r
  refine min_two_ints (I.ok.hd hc) fun h' tk k => ⟨_, H, I.kept k, ?_, q⟩
  by_cases hj : j < i
  · rw [if_pos hj, if_pos hj]; exact ⟨_, rfl⟩
  · rw [if_neg hj, if_neg hj]; exact ⟨_, rfl⟩
end
end L2

namespace L2
open PySem PySem.Spec PyProof.Rows

/-! ### an instance, its attributes a map -/
structure ObjM (h : Heap) (x dx C : Addr) (mA : Str → Option Value) : Prop where
  obj : h.get? x = some (PySem.W.instObj C dx)
  ns : h.Ns1 dx mA
  ne : dx ≠ x

theorem lookIn_ns {h : Heap} {dx : Addr} {mA : Str → Option Value} (n : h.Ns1 dx mA) : ∃ od, h.get? dx = some od ∧ ∀ name, PySem.W.lookIn name od = some (mA name) := by
  obtain ⟨o, es, ep, ho, hd, hk, _, hm⟩ := n
  refine ⟨o, ho, fun name => ?_⟩
  have e := hm name
  unfold nsFind findBy at e
  rw [← Array.find?_toList] at e
  unfold PySem.W.lookIn
  rw [hd]
  dsimp only
  split
  · rename_i y q
    rw [q] at e
    exact congrArg some e
  · rename_i q
    rw [q] at e
    have a : es.toList.any (·.refKey) = false := by
      rw [List.any_eq_false]
      intro y hy
      obtain ⟨z, t, hkey⟩ := hk y (Array.mem_toList_iff.mp hy)
      simp [DictEntry.refKey, hkey]
    have a' : ¬ es.toList.any (·.refKey) = true := by rw [a]; exact Bool.false_ne_true
    rw [if_neg a']
    exact congrArg some e

theorem ObjM.look {h : Heap} {x dx C : Addr} {mA : Str → Option Value} (I : ObjM h x dx C mA) : ∃ od, PySem.W.InstAt h x (PySem.W.instObj C dx) C (some od) ∧ ∀ name, PySem.W.lookIn name od = some (mA name) :=
  let ⟨od, ho, hl⟩ := lookIn_ns I.ns
  ⟨od, ⟨I.obj, rfl, rfl, ho⟩, hl⟩

section
variable {prog : Program} {w : World} {A : Around} {E : Value → Shared → Prop} {s : Shared} {K : PySem.W.Frag} {x dx C f : Addr} {mA : Str → Option Value} {name : Str} {v : Value}

end

/-! ### the attributes as a list of pairs -/
section
variable {P : Program} {w : World} {H H' : Hp} {h h' : Heap} {a C dx : Addr} {fs fs' : List (Str × V)}
theorem ins_get (hok : HOk P w H h) (e : H a = some (.ins C dx fs)) : ∃ mA, ObjM h a dx C mA ∧ (∀ f, RelO (fs.lookup f) (mA f)) ∧ PySem.Within mA (fs.map (·.1)) ∧ fs.length ≤ 1000 ∧ H dx = some (.own a) := by
  obtain ⟨d, z, ne, ob, mA, n, r, q⟩ := (show ObjOk P w H h a (.ins C dx fs) from hok a _ e)
  exact ⟨mA, ⟨ob, n, ne⟩, r, q, z, d⟩
end

/-! ### what of the text a class must have -/
structure Cls (K : PySem.W.Frag) (C : Addr) : Prop where
  pg : PySem.W.plainGet K C Str.empty = true
  hd : PySem.W.hasDictIn K C = true
  po : PySem.W.plainOver K C = true
  sa : PySem.W.findIn K (.ref C) "__setattr__" = some (some (.builtin "object.__setattr__"))
theorem Cls.get {K : PySem.W.Frag} {C : Addr} (c : Cls K C) (f : Str) : PySem.W.plainGet K C f = true := c.pg
/-- a method: a plain def of the class or of one above it -/
structure Meth (K : PySem.W.Frag) (C : Addr) (m : Str) (f : Addr) : Prop where
  at_ : PySem.W.findIn K (.ref C) m = some (some (.ref f))
  fn : PySem.W.isFn K (.ref f) = true
  kp : PySem.W.keepIn K (.ref f) = true

section
variable {X : Cx} {pins : List (Addr × Obj)} {σ : St} {H : Hp} {s : Shared} {a C dx : Addr} {fs : List (Str × V)} {f : Str} {v : V} {A : Around} {E : Value → Shared → Prop}

end

/-! ### readings and rules -/
section
variable {X : Cx} {o e value : Expr} {f : Str} {pos pos' tpos : Pos} {ta tv : TE}
end

/-! ### isinstance -/
section
variable {X : Cx} {pins : List (Addr × Obj)} {σ : St} {H : Hp} {s : Shared} {A : Around} {E : Value → Shared → Prop} {Q : Value → Shared → Prop} {c : Value} {b : Bool}
/-- the type of a value, as the fragment's deciders take it; for an instance its class -/
inductive TyOf (K : PySem.W.Frag) (H : Hp) : V → Value → Prop where
  | non : TyOf K H .non (.type "NoneType")
  | bl (x : Bool) : TyOf K H (.bl x) (.type "bool")
  | int (i : Int) : TyOf K H (.int i) (.type "int")
  | str (x : Str) : TyOf K H (.str x) (.type "str")
  | flt (x : UInt64) : TyOf K H (.flt x) (.type "float")
  | lst {a : Addr} {xs : List V} (e : H a = some (.lst xs)) : TyOf K H (.ref a) (.type "list")
  | frz {a : Addr} {o : Obj} {xs : List V} (e : H a = some (.frz o (.lst xs))) : TyOf K H (.ref a) (.type "list")
  | tup {a : Addr} {xs : List V} (e : H a = some (.tup xs)) : TyOf K H (.ref a) (.type "tuple")
  | dK {a : Addr} {kvs : List (Key × V)} (e : H a = some (.dK kvs)) : TyOf K H (.ref a) (.type "dict")
  | dT {a : Addr} {kvs : List (List Key × V)} (e : H a = some (.dT kvs)) : TyOf K H (.ref a) (.type "dict")
  | ins {a C dx : Addr} {fs : List (Str × V)} (e : H a = some (.ins C dx fs)) (cl : Cls K C) (ha : PySem.W.findIn K (.ref C) "__class__" = some (some (.builtin "object.__class__")))
      (hn : PySem.W.specialIn K (.builtin "object.__class__") "__get__" = some (some (.builtin "getset_descriptor.__get__"))) (htk : PySem.W.takesIn K (.builtin "object.__class__") = some true)
      (hm : PySem.W.mroIn K C (.type "object") = some true) : TyOf K H (.ref a) (.ref C)
/-- isinstance(x, c) for one class c, a built-in or an own one: kitOne's answer -/
theorem isinst_ok {x : V} {u t : Value} (I : Inv X pins σ H s) (rx : RelV x u) (ty : TyOf X.K H x t) (e : PySem.W.kitOne X.K t c = some b) (h : ∀ tk, Q (.bool b) { s with toks := tk }) :
    wpAny (model X.prog X.w) A (call (.builtin "isinstance") [u, c]) Q E s := by
  cases ty with
  | non => cases (show u = Value.none from rx); exact PySem.W.kia_one PySem.W.kitx_none I.kIn True.intro e (fun z => nomatch z) h
  | bl y => cases (show u = Value.bool y from rx); exact PySem.W.kia_one PySem.W.kitx_bool I.kIn True.intro e (fun z => nomatch z) h
  | int i => obtain ⟨t, q⟩ := (show ∃ t, u = Value.int i t from rx); cases q; exact PySem.W.kia_one PySem.W.kitx_int I.kIn True.intro e (fun z => nomatch z) h
  | str y => obtain ⟨t, q⟩ := (show ∃ t, u = Value.str y t from rx); cases q; exact PySem.W.kia_one PySem.W.kitx_str I.kIn True.intro e (fun z => nomatch z) h
  | flt y => obtain ⟨t, q⟩ := (show ∃ t, u = Value.float y t from rx); cases q; exact PySem.W.kia_one PySem.W.kitx_float I.kIn True.intro e (fun z => nomatch z) h
  | @lst a xs ea =>
    cases (show u = Value.ref a from rx)
    obtain ⟨_, _, n, _, h1⟩ := (show ObjOk X.prog X.w H s.heap a (.lst xs) from I.hok a _ ea)
    exact PySem.W.kia_one PySem.W.kitx_list I.kIn ⟨_, h1, rfl⟩ e (fun z => nomatch z) h
  | @frz a ob xs ea =>
    cases (show u = Value.ref a from rx)
    obtain ⟨_, _, _, n, _, h1⟩ := (show ObjOk X.prog X.w H s.heap a (.frz ob (.lst xs)) from I.hok a _ ea)
    exact PySem.W.kia_one PySem.W.kitx_list I.kIn ⟨_, h1, rfl⟩ e (fun z => nomatch z) h
  | @tup a xs ea =>
    cases (show u = Value.ref a from rx)
    obtain ⟨_, _, _, p⟩ := (show ObjOk X.prog X.w H s.heap a (.tup xs) from I.hok a _ ea)
    obtain ⟨o, h1, h2, _⟩ := p
    exact PySem.W.kia_one PySem.W.kitx_tuple I.kIn ⟨o, h1, h2⟩ e (fun z => nomatch z) h
  | @dK a kvs ea =>
    cases (show u = Value.ref a from rx)
    obtain ⟨_, _, vs, _, p⟩ := (show ObjOk X.prog X.w H s.heap a (.dK kvs) from I.hok a _ ea)
    obtain ⟨o, es, ep, h1, h2, _⟩ := p
    exact PySem.W.kia_one PySem.W.kitx_dict I.kIn ⟨o, h1, h2.1⟩ e (fun z => nomatch z) h
  | @dT a kvs ea =>
    cases (show u = Value.ref a from rx)
    obtain ⟨_, _, xs, _, o, es, ep, h1, h2, _⟩ := (show ObjOk X.prog X.w H s.heap a (.dT kvs) from I.hok a _ ea)
    exact PySem.W.kia_one PySem.W.kitx_dict I.kIn ⟨o, h1, h2.1⟩ e (fun z => nomatch z) h
  | @ins a C dx fs ea cl ha hn htk hm =>
    cases (show u = Value.ref a from rx)
    obtain ⟨mA, O, _⟩ := ins_get I.hok ea
    obtain ⟨od, J, _⟩ := O.look
    exact PySem.W.kia_one (PySem.W.kitx_own (cl.get _) cl.hd ha hn htk hm) I.kIn J e (fun z => nomatch z) h
end
end L2

namespace L2
open PySem PySem.Spec PyProof.Rows

/-! ### room -/
structure Room (k : Nat) (A : Around) : Prop where
  hd : A.handled = none
  dp : A.depth + 3 * k + 5 < recursionLimit
  un : A.units + 16 * k + 200 < cLine
theorem Room.mono {j k : Nat} {A : Around} (r : Room k A) (h : j ≤ k) : Room j A := ⟨r.hd, by have := r.dp; omega, by have := r.un; omega⟩
theorem Room.deeper {k : Nat} {A : Around} (r : Room (k + 1) A) (env : Env) : Room k (A.deeper env) :=
  ⟨r.hd, by have := r.dp; show A.depth + 1 + 3 * k + 5 < _; omega, by have := r.un; show A.units + 3 + 16 * k + 200 < _; omega⟩
theorem Room.depth {k : Nat} {A : Around} (r : Room k A) : A.depth < recursionLimit := by have := r.dp; omega
theorem Room.units {k : Nat} {A : Around} (r : Room k A) : A.units + 64 < cLine := by have := r.un; omega
/-! ### argument lists and displays -/
def tNil : TA := fun _ H Q => Q [] H
def tCons (ta : TE) (tr : TA) : TA := fun σ H Q => ta σ H fun x H1 => tr σ H1 fun xs H2 => Q (x :: xs) H2
section
variable {X : Cx} {e : Expr} {es : List Expr} {te : TE} {t : TA} {pos : Pos}
theorem pa_nil : PA X [] tNil := fun _ _ _ _ H Q I h => Calls.spliced_nil ⟨[], H, I, .nil, h⟩
theorem pa_cons (ha : PE X e te) (hr : PA X es t) (hs : starEach (e :: es) X.env = (false, eval e X.env) :: starEach es X.env := by rfl) : PA X (e :: es) (tCons te t) := by
  intro pos pins s σ H Q I h
  rw [hs]
  show wpAny _ _ (spliced ((false, eval e X.env) :: backTo pos (starEach es X.env))) _ _ s
  refine Calls.spliced_cons (thn (ha pins s σ H _ I h) fun u s1 ⟨x, H1, I1, r1, q1⟩ => ?_)
  exact thn (hr pos pins s1 σ H1 _ I1 q1) fun us s2 ⟨xs, H2, I2, r2, q2⟩ => ⟨x :: xs, H2, I2, .cons r1 r2, q2⟩

/-- a tuple, a list of written items -/
def tTup (t : TA) : TE := fun σ H Q => t σ H fun xs H1 => xs.length ≤ sizeLine ∧ ∀ p, H1 p = none → Q (.ref p) (upd H1 p (.tup xs))
def tLst (t : TA) : TE := fun σ H Q => t σ H fun xs H1 => xs.length ≤ sizeLine ∧ ∀ p, H1 p = none → Q (.ref p) (upd H1 p (.lst xs))
theorem pe_tup {x1} (h : PA X es t) : PE X (.Tuple es x1 pos) (tTup t) := by
  intro pins s σ H Q I hq
  refine wpAny_Tuple_spliced (thn (h pos pins s σ H _ I hq) fun us s1 ⟨xs, H1, I1, r, z, q⟩ => ⟨by rw [← r.length]; exact z, ?_⟩)
  have hf : H1 s1.heap.objs.size = none := I1.hok.fresh (Nat.le_refl _)
  refine ⟨.ref s1.heap.objs.size, upd H1 s1.heap.objs.size (.tup xs), I1.laid (t' := s1.toks) (fun b u e => Heap.get?_push_of_some _ e) (Nat.le_refl _) ?_, rfl, q _ hf⟩
  exact ⟨z, us, r, ⟨_, Heap.get?_push_size _ rfl, rfl, _, rfl⟩⟩
theorem pe_lst (h : PA X es t) : PE X (.List es pos) (tLst t) := by
  intro pins s σ H Q I hq
  refine wpAny_List_spliced (thn (h pos pins s σ H _ I hq) fun us s1 ⟨xs, H1, I1, r, z, q⟩ => ⟨by rw [← r.length]; exact z, ?_⟩)
  have hf : H1 s1.heap.objs.size = none := I1.hok.fresh (Nat.le_refl _)
  refine ⟨.ref s1.heap.objs.size, upd H1 s1.heap.objs.size (.lst xs), I1.laid (t' := s1.toks) (fun b u e => Heap.get?_push_of_some _ e) (Nat.le_refl _) ?_, rfl, q _ hf⟩
  exact ⟨z, us, 0, r, Heap.get?_push_size _ rfl⟩
end

/-! ### what a def promises -/
/-- a def's promise: the bound arguments in the parameters' order, the heap, the wanted end, the wanted exception -/
abbrev Sp := List V → Hp → VK → XK → Prop
/-- how an exception lies behind a call (file 08 gives it): the callers' frames, abstract heap and state ahead of the call, the wish, the exception, the state -/
abbrev CXT := List Env → Hp → Shared → XK → Value → Shared → Prop

/-- the state at a call -/
structure Env0 (P : Program) (w : World) (K : PySem.W.Frag) (mg : Str → Option Value) (base : Heap) (A : Around) (outer : List Env) (s : Shared) (H : Hp) : Prop where
  frames : A.frames = some outer
  mod : Mod K mg base
  bs : ∀ b o, base.get? b = some o → s.heap.get? b = some o ∧ H b = none
  bsz : base.objs.size ≤ s.heap.objs.size
  funs : s.heap.FunFrames base outer
  frf : ∀ b ∈ frs outer, H b = none
  hok : HOk P w H s.heap
  bare : AllBare s.gens
/-- a call's end -/
def CE (outer : List Env) (P : Program) (w : World) (H : Hp) (s : Shared) (Q : VK) (u : Value) (s' : Shared) : Prop :=
  ∃ v H', s'.os = s.os ∧ AllBare s'.gens ∧ Un (frs outer) [] H H' s.heap s'.heap ∧ HOk P w H' s'.heap ∧ RelV v u ∧ Q v H'
def CR (CX : CXT) (outer : List Env) (P : Program) (w : World) (H : Hp) (s : Shared) (Q : VK) (E : XK) (r : Result) (s' : Shared) : Prop :=
  match r with
  | .ok (.ret u) => CE outer P w H s Q u s'
  | .ok _ => False
  | .error e => CX outer H s E e s'
structure FnOk (P : Program) (w : World) (K : PySem.W.Frag) (mg : Str → Option Value) (base : Heap) (CX : CXT) (k : Nat) (f : Addr) (fd : FuncData) (ps : List Str) (sp : Sp) : Prop where
  len : ∀ vs H Q E, sp vs H Q E → vs.length = ps.length
  run : ∀ (A : Around) (outer : List Env) (s : Shared) (H : Hp) (args : Args) (us : List Value) (vs : List V) (Q : VK) (E : XK), Room k A → Env0 P w K mg base A outer s H → BindsTo s fd args (ps.zip us) → Vals vs us → sp vs H Q E →
    codeAny (model P w) A (.call (.ref f) args) (CR CX outer P w H s Q E) s
theorem FnOk.mono {P : Program} {w : World} {K : PySem.W.Frag} {mg : Str → Option Value} {base : Heap} {CX : CXT} {j k : Nat} {f : Addr} {fd : FuncData} {ps : List Str} {sp : Sp} (F : FnOk P w K mg base CX j f fd ps sp) (h : j ≤ k) :
    FnOk P w K mg base CX k f fd ps sp := ⟨F.len, fun A outer s H args us vs Q E hr => F.run A outer s H args us vs Q E (hr.mono h)⟩
/-- a weaker promise -/
theorem FnOk.imp {P : Program} {w : World} {K : PySem.W.Frag} {mg : Str → Option Value} {base : Heap} {CX : CXT} {k : Nat} {f : Addr} {fd : FuncData} {ps : List Str} {sp sp' : Sp} (F : FnOk P w K mg base CX k f fd ps sp)
    (h : ∀ vs H Q E, sp' vs H Q E → sp vs H Q E) : FnOk P w K mg base CX k f fd ps sp' :=
  ⟨fun vs H Q E q => F.len vs H Q E (h _ _ _ _ q), fun A outer s H args us vs Q E hr he hb hv hs => F.run A outer s H args us vs Q E hr he hb hv (h _ _ _ _ hs)⟩

section
variable {X : Cx} {pins : List (Addr × Obj)} {σ : St} {H : Hp} {s s' : Shared}
/-- from a body: what a callee wants -/
theorem Inv.env0 (I : Inv X pins σ H s) : Env0 X.prog X.w X.K X.mg X.base X.A X.stack s H :=
  ⟨I.ok.frames, I.ok.mod, I.bs, Nat.le_trans I.ok.bsz I.sz, I.stack, I.stkFree, I.hok, I.bare⟩
/-- behind a call -/
theorem Inv.after {Q : VK} {u : Value} (I : Inv X pins σ H s) (h : CE X.stack X.prog X.w H s Q u s') : EP X pins σ Q u s' := by
  obtain ⟨v, H', os, bare, un, hok, r, q⟩ := h
  obtain ⟨hh, g, d, t, os'⟩ := s'
  obtain rfl : os' = s.os := os
  exact ⟨v, H', I.call (h' := hh) (g' := g) (d' := d) (t' := t) (ch := []) un hok bare (fun b z => absurd z (by simp)), r, q⟩
end

/-! ### calls -/
/-- f(..): the written arguments, then the defaults dvs; E: what is wanted of an exception -/
def tCall (sp : Sp) (dvs : List V) (E : XK) (t : TA) : TE := fun σ H Q => t σ H fun vs H1 => sp (vs ++ dvs) H1 Q E
/-- how the parameters are bound: us the positional arguments, kw the keywords' values by name, ds the defaults that fill up -/
def Binds (K : PySem.W.Frag) (fd : FuncData) (ps : List Str) (ds : List Value) : Prop :=
  ∀ (s : Shared) (us : List Value), K.In s.heap → (us ++ ds).length = ps.length → BindsTo s fd ⟨us, []⟩ (ps.zip (us ++ ds))
/-- every parameter is given -/
theorem Binds.all {K : PySem.W.Frag} {fd : FuncData} {ps : List Str} (h : ∀ us : List Value, us.length = ps.length → bindArgs fd ⟨us, []⟩ = pure (ps.zip us)) : Binds K fd ps [] := fun s us _ hl => by
  rw [List.append_nil] at hl ⊢
  exact .of_eq (h us hl)

/-- an exception of a callee reaches what this body wants of exceptions -/
def Passes (CX : CXT) (X : Cx) (E : XK) : Prop := ∀ (pins : List (Addr × Obj)) (σ : St) (H : Hp) (s : Shared) (e : Value) (s' : Shared), Inv X pins σ H s → CX X.stack H s E e s' → X.xe e s'

section
variable {X : Cx} {CX : CXT} {k : Nat} {f C : Addr} {fd : FuncData} {ps : List Str} {sp : Sp} {dvs : List V} {ds : List Value} {E : XK} {x m : Str} {p pos apos : Pos} {e o : Expr} {es : List Expr} {ta : TE} {t : TA}

/-- the callee runs -/
theorem run_fn {pins : List (Addr × Obj)} {σ : St} {H : Hp} {s : Shared} {Q : VK} {us : List Value} {vs : List V} (F : FnOk X.prog X.w X.K X.mg X.base CX k f fd ps sp) (hr : Room k X.A) (hb : Binds X.K fd ps ds) (hd : Vals dvs ds) (hx : Passes CX X E)
    (I : Inv X pins σ H s) (r : Vals vs us) (h : sp (vs ++ dvs) H Q E) : wpAny (model X.prog X.w) X.A (call (.ref f) us) (EP X pins σ Q) X.xe s := by
  have r2 : Vals (vs ++ dvs) (us ++ ds) := r.append hd
  have hl : (us ++ ds).length = ps.length := by rw [← r2.length]; exact F.len _ _ _ _ h
  refine wpAny_call (codeAny_mono (F.run X.A X.stack s H ⟨us, []⟩ (us ++ ds) (vs ++ dvs) Q E hr I.env0 (hb s us I.kIn hl) r2 h) fun r s' hq => ?_)
  cases r with
  | error e => exact hx pins σ H s e s' I hq
  | ok fl =>
    cases fl with
    | ret u => exact I.after hq
    | next => exact False.elim hq
    | brk => exact False.elim hq
    | cont => exact False.elim hq

theorem pe_call (F : FnOk X.prog X.w X.K X.mg X.base CX k f fd ps sp) (hr : Room k X.A) (hg : Gl X x) (hm : X.mg x = some (.ref f)) (hk : PySem.W.keepIn X.K (.ref f) = true) (hb : Binds X.K fd ps ds) (hd : Vals dvs ds) (hx : Passes CX X E)
    (ha : PA X (e :: es) t) (hdb : (x == ("__debug__" : Str)) = false := by decide) (he : starEach (e :: es) X.env = (false, eval e X.env) :: starEach es X.env := by rfl) (hpl : (backTo pos (starEach es X.env)).any (·.1) = false := by rfl) :
    PE X (.Call (.Name x p) (e :: es) [] pos) (tCall sp dvs E t) := by
  intro pins s σ H Q I h
  refine wpAny_Call_Name_kw (ld_glob I hg hm ?_ hdb)
  refine PySem.W.callWith_K (h₀ := X.base) I.ok.mod.kin hk (thn (ha pos pins s σ H _ I h) fun us s1 ⟨vs, H1, I1, r, q⟩ => ⟨I1.kIn, ?_⟩) he hpl
  exact run_fn F hr hb hd hx I1 r q
end

/-! ### keywords -/
section
variable {X : Cx} {CX : CXT} {k : Nat} {f C : Addr} {fd : FuncData} {ps ks : List Str} {sp : Sp} {E : XK} {x m : Str} {p pos apos kpos : Pos} {e o : Expr} {es : List Expr} {kws : List Keyword} {te ta : TE} {t tk : TA} {nm : Option Str}
variable {g : List Value → List Value → List Value} {gV : List V → List V → List V}
end

/-! ### a def's body keeps its promise -/
/-- names: the parameters first -/
structure FnScope (N P : List Str) (sc : Scope) : Prop where
  kind : sc.kind = .function
  co : sc.isCoroutine = false
  gen : sc.isGenerator = false
  nd : N.Nodup
  pre : N.take P.length = P
  par : ∀ x ∈ P, sc.names.lookup x = some .local ∨ sc.names.lookup x = some .cell
  nofree : ∀ y ∈ sc.names, y.2 ≠ .free

theorem bindL_out {kindOf : Str → Option NameKind} {x : Str} : ∀ {binds : List (Str × Value)} {m : Str → Option Value}, (∀ v, (x, v) ∉ binds) → bindL kindOf binds m x = m x
  | [], _, _ => rfl
  | (n, v) :: r, m, h => by
    unfold bindL
    rw [bindL_out fun w hw => h w (List.mem_cons_of_mem _ hw)]
    split
    · have : x ≠ n := by rintro rfl; exact h v List.mem_cons_self
      simp [this]
    · rfl
theorem bindC_out {kindOf : Str → Option NameKind} {x : Str} : ∀ {binds : List (Str × Value)} {m : Str → Option Value}, (∀ v, (x, v) ∉ binds) → bindC kindOf binds m x = m x
  | [], _, _ => rfl
  | (n, v) :: r, m, h => by
    unfold bindC
    rw [bindC_out fun w hw => h w (List.mem_cons_of_mem _ hw)]
    split
    · rfl
    · have : x ≠ n := by rintro rfl; exact h v List.mem_cons_self
      simp [this]
theorem bindL_get {kindOf : Str → Option NameKind} {x : Str} {v : Value} : ∀ {P : List Str} {vs : List Value} {i : Nat} {m : Str → Option Value}, P.Nodup → P[i]? = some x → vs[i]? = some v → kindOf x = some .local →
    bindL kindOf (P.zip vs) m x = some v
  | [], _, _, _, _, h, _, _ => by simp at h
  | _ :: _, [], _, _, _, _, h, _ => by simp at h
  | p :: P, w :: vs, 0, m, nd, h1, h2, hk => by
    simp at h1 h2; subst h1; subst h2
    show bindL kindOf ((p, w) :: P.zip vs) m p = _
    unfold bindL
    rw [bindL_out fun v hv => (List.nodup_cons.mp nd).1 (List.of_mem_zip hv).1, if_pos hk]
    simp
  | p :: P, w :: vs, i + 1, m, nd, h1, h2, hk => by
    show bindL kindOf ((p, w) :: P.zip vs) m x = _
    unfold bindL
    exact bindL_get (i := i) (List.nodup_cons.mp nd).2 (by simpa using h1) (by simpa using h2) hk
theorem bindC_get {kindOf : Str → Option NameKind} {x : Str} {v : Value} : ∀ {P : List Str} {vs : List Value} {i : Nat} {m : Str → Option Value}, P.Nodup → P[i]? = some x → vs[i]? = some v → kindOf x ≠ some .local →
    bindC kindOf (P.zip vs) m x = some v
  | [], _, _, _, _, h, _, _ => by simp at h
  | _ :: _, [], _, _, _, _, h, _ => by simp at h
  | p :: P, w :: vs, 0, m, nd, h1, h2, hk => by
    simp at h1 h2; subst h1; subst h2
    show bindC kindOf ((p, w) :: P.zip vs) m p = _
    unfold bindC
    rw [bindC_out fun v hv => (List.nodup_cons.mp nd).1 (List.of_mem_zip hv).1, if_neg hk]
    simp
  | p :: P, w :: vs, i + 1, m, nd, h1, h2, hk => by
    show bindC kindOf ((p, w) :: P.zip vs) m x = _
    unfold bindC
    exact bindC_get (i := i) (List.nodup_cons.mp nd).2 (by simpa using h1) (by simpa using h2) hk

/-- the names' values at the entry -/
def start (N : List Str) (vs : List V) : St := vs.map some ++ List.replicate (N.length - vs.length) none

/-- the context of a def's body, at its entry; an exception leaves the frame, then lies as CX says -/
def cxOf (CX : CXT) (P : Program) (w : World) (K : PySem.W.Frag) (mg : Str → Option Value) (base : Heap) (N : List Str) (qual : Str) (scope : Scope) (f : Addr) (cd : Value) (A : Around) (outer : List Env) (s : Shared) (H : Hp) (E : XK) : Cx where
  prog := P
  w := w
  K := K
  mg := mg
  base := base
  A := A.deeper (envOfC qual scope s.heap.objs.size f cd)
  N := N
  s₀ := s
  H₀ := H
  env := envOfC qual scope s.heap.objs.size f cd
  outer := outer
  stack := envOfC qual scope s.heap.objs.size f cd :: outer
  ex := []
  calm := true
  fn := fun _ => true
  pn := []
  xe := fun e s' => wpAny (model P w) (A.deeper (envOfC qual scope s.heap.objs.size f cd)) (leaving (envOfC qual scope s.heap.objs.size f cd) e) (fun _ s'' => CX outer H s E e s'') (fun e' s'' => CX outer H s E e' s'') s'

theorem cell_has {sc : Scope} {n : Nat} {x : Str} (h : sc.names.lookup x = some .cell) : ∃ c, (cellsFrom n sc.names []).lookup x = some c := by
  have q := PySem.W.cellsFrom_some sc.names n [] (.inl h)
  exact Option.isSome_iff_exists.mp q

theorem inv_start {CX : CXT} {P : Program} {w : World} {K : PySem.W.Frag} {mg : Str → Option Value} {base : Heap} {N ps : List Str} {qual : Str} {scope : Scope} {f : Addr} {cd : Value} {A : Around} {outer : List Env} {s s1 : Shared} {H : Hp} {E : XK} {us : List Value} {vs : List V}
    (S : FnScope N ps scope) (hd : A.handled = none) (e0 : Env0 P w K mg base A outer s H) (hl : vs.length = ps.length) (r : Vals vs us)
    (x : InCallC s s.heap.objs.size (bindL (envOfC qual scope s.heap.objs.size f cd).kindOf (ps.zip us) fun _ => none) (cellsFrom (s.heap.objs.size + 1) scope.names []) (bindC (envOfC qual scope s.heap.objs.size f cd).kindOf (ps.zip us) fun _ => none) s1) :
    Inv (cxOf CX P w K mg base N qual scope f cd A outer s H E) [] (start N vs) H s1 := by
  have hpl : ps.length ≤ N.length := by have := congrArg List.length S.pre; rw [List.length_take] at this; omega
  obtain ⟨h1, tk, rfl, hk⟩ := x.done
  have noA : ∀ b : Addr, b ∉ (cxOf CX P w K mg base N qual scope f cd A outer s H E).ex := fun b z => absurd (show b ∈ ([] : List Addr) from z) (by simp)
  refine ⟨⟨e0.mod, S.kind, rfl, rfl, Nat.le_refl _, fun y z c h1 h2 => ?_, fun y hy => ?_, fun y c _ h => ?_, fun _ => hd, Around.frames_deeper e0.frames, .inr ⟨rfl, rfl⟩, fun b z => absurd z (noA b), e0.bs, e0.bsz, fun b _ _ => noA b, fun b z => absurd z (noA b), e0.funs, e0.frf⟩,
    rfl, e0.bare, Un.kept hk, ⟨_, x.toInCall.ns, fun i y v h1 h2 h3 => ?_⟩, fun y c h => ⟨_, x.cell y c h⟩, e0.hok.fresh (Nat.le_refl _), fun y c h => ?_, fun p hp => absurd (show p ∈ ([] : List (Addr × Obj)) from hp) (by simp), e0.hok.kept hk, ?_⟩
  · exact name_of_addr x.apart (PySem.mem_of_lookup h1) (PySem.mem_of_lookup h2)
  · have hy : scope.names.lookup y = some .cell ∨ scope.names.lookup y = some .free := hy
    rcases hy with hy | hy
    · exact cell_has hy
    · exact absurd rfl (S.nofree _ (PySem.mem_of_lookup hy))
  · exact Nat.le_of_lt (x.above y c (PySem.mem_of_lookup h))
  · have hi : i < vs.length := by
      unfold start at h2
      by_cases hi : i < vs.length
      · exact hi
      · rw [List.getElem?_append_right (by simpa using hi)] at h2
        rw [List.getElem?_replicate] at h2
        split at h2 <;> cases h2
    have ha : vs[i]? = some v := by
      unfold start at h2
      rw [List.getElem?_append_left (by simpa using hi), List.getElem?_map] at h2
      cases e : vs[i]? with
      | none => rw [e] at h2; cases h2
      | some a => rw [e] at h2; cases h2; rfl
    obtain ⟨u, hu, rv⟩ := r.get ha
    have hp : ps[i]? = some y := by
      rw [← S.pre, List.getElem?_take_of_lt (by omega)]; exact h1
    have ndP : ps.Nodup := by rw [← S.pre]; exact S.nd.sublist (List.take_sublist _ _)
    refine ⟨u, rv, ?_⟩
    rcases S.par y (List.mem_of_getElem? hp) with k | k
    · exact .inl ⟨k, bindL_get ndP hp hu k⟩
    · obtain ⟨c, e⟩ := cell_has (n := s.heap.objs.size + 1) k
      refine .inr ⟨.inl k, c, e, ?_⟩
      have q := x.cell y c e
      rw [bindC_get ndP hp hu (by show scope.names.lookup y ≠ _; rw [k]; decide)] at q
      exact q
  · exact e0.hok.fresh (Nat.le_of_lt (x.above y c (PySem.mem_of_lookup h)))
  · unfold start
    show _ = N.length
    rw [List.length_append, List.length_map, List.length_replicate]
    omega

/-- THE RULE: a def (or a method) of the text, by its body. The body's reading t is chosen for each entry; it is run at the parameters' values -/
theorem fn_of {CX : CXT} {P : Program} {w : World} {K : PySem.W.Frag} {mg : Str → Option Value} {base : Heap} {k : Nat} {f : Addr} {name qual : Str} {params : Arguments} {body : List Stmt} {scope : Scope} {dV kV doc pm cdv ct oc : Value} {an od : Option Addr}
    {osl : Array (Option Value)} {N ps : List Str} {sp : Sp} (lk : K.lookup f = some ⟨oc, od, .func (PySem.W.fnOf name qual params body scope dV kV doc pm an cdv ct), osl⟩) (hcd : PySem.W.codeIn K cdv qual = true) (S : FnScope N ps scope)
    (len : ∀ vs H Q E, sp vs H Q E → vs.length = ps.length)
    (hbody : ∀ (A : Around) (outer : List Env) (s : Shared) (H : Hp) (vs : List V) (Q : VK) (E : XK), Room k (A.deeper (envOfC qual scope s.heap.objs.size f cdv)) → sp vs H Q E →
      ∃ t, PSs (cxOf CX P w K mg base N qual scope f cdv A outer s H E) body t ∧ t { nx := fun _ H' => Q .non H', rt := Q } (start N vs) H) :
    FnOk P w K mg base CX (k + 1) f (PySem.W.fnOf name qual params body scope dV kV doc pm an cdv ct) ps sp := by
  refine ⟨len, fun A outer s H args us vs Q E hr e0 hb r hsp => ?_⟩
  have hl := len _ _ _ _ hsp
  have KX : K.In s.heap := e0.mod.kin.keeps fun b o e => (e0.bs b o e).1
  have lim : s.heap.NoLimit := e0.mod.nolimit.keeps fun b o e => (e0.bs b o e).1
  have hkind : ∀ y ∈ ps.zip us, scope.names.lookup y.1 = some .local ∨ (scope.names.lookup y.1 = some .cell ∧ ((cellsFrom (s.heap.objs.size + 1) scope.names []).lookup y.1).isSome = true) := fun ⟨n, v⟩ hy => by
    rcases S.par n (List.of_mem_zip hy).1 with q | q
    · exact .inl q
    · exact .inr ⟨q, PySem.W.cellsFrom_some _ _ _ (.inl q)⟩
  refine codeAny_call_function hr.depth (KX _ _ lk) rfl S.co S.gen rfl (PySem.W.codeRec_of KX hcd) (hb _ _ _ _ ?_)
  refine wpAny_newFunctionEnv_cells S.kind hkind fun env he s1 x => ?_
  subst he
  refine ⟨lim.keeps x.toInCall.keep, codeAny_func ?_⟩
  obtain ⟨t, ht, hq⟩ := hbody A outer s H vs Q E (hr.deeper _) hsp
  have I : Inv (cxOf CX P w K mg base N qual scope f cdv A outer s H E) [] (start N vs) H s1 := inv_start S hr.hd e0 hl r x
  refine wpAny_mono (ht [] s1 (start N vs) H _ I hq) (fun fl s' hs => ?_) fun e s' hs => hs
  have fin : ∀ {σ' : St} {H' : Hp} {v : V} {u : Value}, Inv (cxOf CX P w K mg base N qual scope f cdv A outer s H E) [] σ' H' s' → RelV v u → Q v H' → CE outer P w H s Q u s' :=
    fun {σ' H' v u} J rv q => ⟨v, H', J.os, J.bare, J.base, J.hok, rv, q⟩
  cases fl with
  | ret u =>
    obtain ⟨v, σ', H', J, rv, q⟩ := hs
    exact fin J rv q
  | next =>
    obtain ⟨σ', H', J, q⟩ := hs
    exact fin (v := V.non) (u := Value.none) J rfl q
  | brk =>
    obtain ⟨_, _, _, q⟩ := hs
    exact False.elim q
  | cont =>
    obtain ⟨_, _, _, q⟩ := hs
    exact False.elim q
end L2

namespace L2
open PySem PySem.Spec PyProof.Rows
section
variable {X : Cx} {x : Str} {p pos : Pos} {e : Expr} {es : List Expr} {t : TA} {id T : String} {r : List V → Hp → VK → Prop}

def tCB (r : List V → Hp → VK → Prop) (t : TA) : TE := fun σ H Q => t σ H fun vs H1 => r vs H1 Q
/-- f(e, ..), f a built-in function -/
theorem pe_callB (hc : CallR X (.builtin id) r) (hg : Gl X x) (hm : X.mg x = none) (hv : bootBuiltins x = some (.builtin id)) (ha : PA X (e :: es) t) (hn : x ≠ "__name__" := by decide) (hdb : (x == ("__debug__" : Str)) = false := by decide)
    (he : starEach (e :: es) X.env = (false, eval e X.env) :: starEach es X.env := by rfl) (hpl : (backTo pos (starEach es X.env)).any (·.1) = false := by rfl) : PE X (.Call (.Name x p) (e :: es) [] pos) (tCB r t) := by
  intro pins s σ H Q I h
  refine wpAny_Call_Name_kw (ld_blt I hg hm hv ?_ hn hdb)
  exact PyProof.Rows.callWith_builtin1 (thn (ha pos pins s σ H _ I h) fun us s1 ⟨vs, H1, I1, r1, q1⟩ => hc pins s1 σ H1 vs us Q I1 r1 q1) he hpl
/-- T(e, ..), T a built-in type -/
theorem pe_callTy (hc : CallR X (.type T) r) (hg : Gl X x) (hm : X.mg x = none) (hv : bootBuiltins x = some (.type T)) (ha : PA X (e :: es) t) (hn : x ≠ "__name__" := by decide) (hdb : (x == ("__debug__" : Str)) = false := by decide)
    (he : starEach (e :: es) X.env = (false, eval e X.env) :: starEach es X.env := by rfl) (hpl : (backTo pos (starEach es X.env)).any (·.1) = false := by rfl) : PE X (.Call (.Name x p) (e :: es) [] pos) (tCB r t) := by
  intro pins s σ H Q I h
  refine wpAny_Call_Name_kw (ld_blt I hg hm hv ?_ hn hdb)
  exact PyProof.Rows.callWith_type1 (thn (ha pos pins s σ H _ I h) fun us s1 ⟨vs, H1, I1, r1, q1⟩ => hc pins s1 σ H1 vs us Q I1 r1 q1) he hpl
end
end L2

namespace L2
open PySem PySem.Spec PyProof.Rows

/-! ### lists of pairs as tables -/
section
variable {κ : Type} [DecidableEq κ]
def valV (kvs : List (κ × V)) (k : κ) : Option V := (kvs.find? fun kv => decide (kv.1 = k)).map (·.2)
/-- in its place, or at the end -/
def putK (kvs : List (κ × V)) (k : κ) (v : V) : List (κ × V) :=
  if (kvs.any fun kv => decide (kv.1 = k)) = true then kvs.map (fun kv => if kv.1 = k then (kv.1, v) else kv) else kvs ++ [(k, v)]
theorem valV_pos {p : κ × V} {r : List (κ × V)} {k : κ} (e : p.1 = k) : valV (p :: r) k = some p.2 := by simp [valV, List.find?_cons, e]
theorem valV_neg {p : κ × V} {r : List (κ × V)} {k : κ} (e : ¬ p.1 = k) : valV (p :: r) k = valV r k := by simp [valV, List.find?_cons, e]
theorem valV_any (k : κ) : ∀ kvs : List (κ × V), (kvs.any fun kv => decide (kv.1 = k)) = (valV kvs k).isSome
  | [] => rfl
  | p :: r => by
    rw [List.any_cons]
    by_cases e : p.1 = k
    · simp only [valV_pos e, decide_eq_true e, Bool.true_or, Option.isSome_some]
    · rw [valV_neg e, decide_eq_false e, Bool.false_or]; exact valV_any k r
theorem RelO.getD {o : Option V} {u : Option Value} {d : V} {d' : Value} (r : RelO o u) (rd : RelV d d') : RelV (o.getD d) (u.getD d') := by
  cases o with
  | none => cases u with
    | none => exact rd
    | some _ => exact (show False from r).elim
  | some _ => cases u with
    | none => exact (show False from r).elim
    | some _ => exact r

theorem KV.any {kvs : List (κ × V)} {vs : List (κ × Value)} (r : KV kvs vs) (k : κ) : (kvs.any fun kv => decide (kv.1 = k)) = vs.any fun kv => decide (kv.1 = k) := by
  unfold KV at r
  induction r with
  | nil => rfl
  | cons h t ih => rw [List.any_cons, List.any_cons, ih, h.1]
theorem KV.keys {kvs : List (κ × V)} {vs : List (κ × Value)} (r : KV kvs vs) : kvs.map (·.1) = vs.map (·.1) := by
  unfold KV at r
  induction r with
  | nil => rfl
  | cons h t ih => rw [List.map_cons, List.map_cons, ih, h.1]
theorem KV.length {kvs : List (κ × V)} {vs : List (κ × Value)} (r : KV kvs vs) : kvs.length = vs.length := Paired.length r
end


/-! ### a tracked dict, its keys ints and texts or tuples of these -/
section
variable {P : Program} {w : World} {H : Hp} {h : Heap} {a : Addr}
theorem rd_of {u : HO} (ok : HOk P w H h) (e : Rd H a u) : ObjOk P w H h a u := e.ok ok
theorem dk_rd {kvs : List (Key × V)} (ok : HOk P w H h) (e : Rd H a (.dK kvs)) : kvs.length ≤ sizeLine ∧ (a == sysModules) = false ∧ ∃ vs, KV kvs vs ∧ h.DictOf (mixKind P w) a vs :=
  show ObjOk P w H h a (.dK kvs) from rd_of ok e
end

/-- what the dict at a holds at the key y -/
def DGet (H : Hp) (a : Addr) (y : V) (r : Option V) : Prop :=
  (∃ kvs k, Rd H a (.dK kvs) ∧ y = kV k ∧ r = valV kvs k) ∨ ∃ kvs k b, Rd H a (.dT kvs) ∧ y = .ref b ∧ H b = some (.tup (k.map kV)) ∧ r = valV kvs k
/-- the heap behind a[y] = v -/
def DPut (H : Hp) (a : Addr) (y v : V) (H' : Hp) : Prop :=
  (∃ kvs k, H a = some (.dK kvs) ∧ y = kV k ∧ kvs.length < sizeLine ∧ H' = upd H a (.dK (putK kvs k v))) ∨
  ∃ kvs k b, H a = some (.dT kvs) ∧ y = .ref b ∧ H b = some (.tup (k.map kV)) ∧ kvs.length < sizeLine ∧ H' = upd H a (.dT (putK kvs k v))
theorem DGet.k {H : Hp} {a : Addr} {kvs : List (Key × V)} {k : Key} (e : H a = some (.dK kvs)) : DGet H a (kV k) (valV kvs k) := .inl ⟨kvs, k, .inl e, rfl, rfl⟩
theorem DGet.t {H : Hp} {a b : Addr} {kvs : List (List Key × V)} {k : List Key} (e : H a = some (.dT kvs)) (eb : H b = some (.tup (k.map kV))) : DGet H a (.ref b) (valV kvs k) := .inr ⟨kvs, k, b, .inl e, rfl, eb, rfl⟩
theorem DPut.k {H : Hp} {a : Addr} {kvs : List (Key × V)} {k : Key} {v : V} (e : H a = some (.dK kvs)) (hl : kvs.length < sizeLine) : DPut H a (kV k) v (upd H a (.dK (putK kvs k v))) := .inl ⟨kvs, k, e, rfl, hl, rfl⟩
theorem DPut.t {H : Hp} {a b : Addr} {kvs : List (List Key × V)} {k : List Key} {v : V} (e : H a = some (.dT kvs)) (eb : H b = some (.tup (k.map kV))) (hl : kvs.length < sizeLine) :
    DPut H a (.ref b) v (upd H a (.dT (putK kvs k v))) := .inr ⟨kvs, k, b, e, rfl, eb, hl, rfl⟩


section
variable {X : Cx} {pins : List (Addr × Obj)} {σ : St} {H : Hp} {s : Shared} {a : Addr} {y v : V} {u r : Value} {o : Option V} {A : Around} {E : Value → Shared → Prop}

end

section
variable {X : Cx} {pins : List (Addr × Obj)} {σ : St} {H : Hp} {s : Shared} {a : Addr} {kvs : List (Key × V)} {k : Key} {u : Value} {A : Around} {E : Value → Shared → Prop}
/-- len(d) -/
theorem d_len {Q : Value → Shared → Prop} (I : Inv X pins σ H s) (e : Rd H a (.dK kvs)) (h : ∀ t s', Inv X pins σ H s' → Q (.int kvs.length t) s') : wpAny (model X.prog X.w) A (call (.builtin "len") [.ref a]) Q E s := by
  obtain ⟨z, hd, vs, rel, dd⟩ := dk_rd I.hok e
  refine call_len_dict hd dd (by rw [← rel.length]; rw [sizeLine_eq] at z; omega) ?_
  rw [← rel.length]
  exact h _ _ (I.tok _)
end


/-! ### readings and rules -/
section
variable {X : Cx} {o i e value : Expr} {pos pos' tpos : Pos} {td ty tv : TE}
end


/-! ### displays -/
/-- {}, to be a dict of the kind that is wanted -/
def tDNewK : TE := fun _ H Q => ∀ p, H p = none → Q (.ref p) (upd H p (.dK []))
section
variable {X : Cx} {pos : Pos}
end

/-! ### methods -/
/-- a method call o.m(e) of a built-in, with one argument: what must be seen of the text -/
structure M1 (X : Cx) (o : Expr) (m : Str) (apos : Pos) (e : Expr) (cpos : Pos) : Prop where
  base : attributeBase o m X.env (eval o X.env) = eval o X.env
  few : ((backTo cpos (starEach [e] X.env)).all (fun x => !x.1) && (backToKw cpos (keywordEach [] X.env)).all (fun x => x.1.isSome)
    && decide (([e] : List Expr).length + ([] : List Keyword).length + (if ([] : List Keyword).isEmpty then 0 else 1) < 30)) = true
  line : (apos.endLine == cpos.line) = true
  trees : backTo cpos (starEach [e] X.env) = [(false, eval e X.env)]
structure M2 (X : Cx) (o : Expr) (m : Str) (apos : Pos) (e f : Expr) (cpos : Pos) : Prop where
  base : attributeBase o m X.env (eval o X.env) = eval o X.env
  few : ((backTo cpos (starEach [e, f] X.env)).all (fun x => !x.1) && (backToKw cpos (keywordEach [] X.env)).all (fun x => x.1.isSome)
    && decide (([e, f] : List Expr).length + ([] : List Keyword).length + (if ([] : List Keyword).isEmpty then 0 else 1) < 30)) = true
  line : (apos.endLine == cpos.line) = true
  trees : backTo cpos (starEach [e, f] X.env) = [(false, eval e X.env), (false, eval f X.env)]

/-- a is a dict, whatever its keys -/
def IsD (H : Hp) (a : Addr) : Prop := (∃ kvs, Rd H a (.dK kvs)) ∨ ∃ kvs, Rd H a (.dT kvs)
section
variable {X : Cx} {pins : List (Addr × Obj)} {σ : St} {H : Hp} {s : Shared} {a : Addr} {y d : V} {u r : Value} {o : Option V} {A : Around} {E : Value → Shared → Prop}
end

section
variable {X : Cx} {o e f : Expr} {apos cpos : Pos} {td ty tx : TE}
end

/-! ### dict(d): a copy -/
section
variable {X : Cx} {pins : List (Addr × Obj)} {σ : St} {H : Hp} {s : Shared} {a : Addr} {kvs : List (Key × V)} {A : Around} {E : Value → Shared → Prop}
end


section
variable {X : Cx} {pins : List (Addr × Obj)} {σ : St} {H : Hp} {s : Shared} {a : Addr} {y : V} {u : Value} {A : Around} {E : Value → Shared → Prop}
end
end L2

namespace HT
open PySem PyProof.Rows

section
open PySem.SeqAt
open PySem.AutoSeq1 (wpAny_loadPart')
open PySem.MeetsSeq PySem.MeetsSeq2 PySem.MeetsSeq3

end

section
variable {prog : Program} {w : World} {A : Around} {E : Value → Shared → Prop} {s : Shared}

/-- t + u, t not empty -/
theorem cat_tup {t b : Addr} {vs ws : List Value} {Q : Value → Shared → Prop} (ht : IsTup s.heap t vs.toArray) (hb : IsTup s.heap b ws.toArray) (hv : vs ≠ [])
    (h1 : ws = [] → Q (.ref t) s) (h2 : ws ≠ [] → Q (.ref s.heap.objs.size) { s with heap := s.heap.push { cls := .type "tuple", data := .seq (vs ++ ws).toArray } })
    (hsz : vs.length + ws.length ≤ sizeLine) : wpAny (model prog w) A (binaryOp .Add (.ref t) (.ref b)) Q E s := by
  obtain ⟨⟨cls, dd, data, sl⟩, ho, hc, n, hd⟩ := id ht
  obtain ⟨⟨cls2, dd2, data2, sl2⟩, ho2, hc2, n2, hd2⟩ := id hb
  simp only at hc hd hc2 hd2
  subst hc hd hc2 hd2
  have e : vs.toArray ++ ws.toArray = (vs ++ ws).toArray := by simp
  by_cases hw : ws = []
  · exact concat_meets ⟨_, ho, rfl⟩ ⟨_, ho2, rfl⟩ noFill_tuple_add seq_tuple_add PySem.F.slot_tuple_add PySem.F.entry_tuple_add (PySem.F.args_tuple_add_2 _ _)
      (tuple_addW1 t b vs.toArray ws.toArray n n2 dd dd2 sl sl2 (by simpa using hv) (by simp [hw])) ⟨ho, ho2, h1 hw⟩
  · refine concat_meets ⟨_, ho, rfl⟩ ⟨_, ho2, rfl⟩ noFill_tuple_add seq_tuple_add PySem.F.slot_tuple_add PySem.F.entry_tuple_add (PySem.F.args_tuple_add_2 _ _)
      (tuple_addW2 t b vs.toArray ws.toArray n n2 dd dd2 sl sl2 (by simpa using hv) (by simpa using hw) (by rw [List.size_toArray, List.size_toArray]; exact hsz)) ⟨ho, ho2, ?_⟩
    rw [e]
    exact h2 hw

/-! ### t[a:b], not the whole -/
/-- a slice's bound as a place among n (d where it is left out) -/
def sIx (n d : Nat) : Option Int → Nat
  | none => d
  | some v => if v < 0 then (v + (n : Int)).toNat else min v.toNat n
theorem sIx_none (n d : Nat) : sIx n d none = d := rfl
theorem sIx_nat (n d k : Nat) : sIx n d (some (k : Int)) = min k n := by
  show (if (k : Int) < 0 then ((k : Int) + (n : Int)).toNat else min (k : Int).toNat n) = min k n
  rw [if_neg (by omega), Int.toNat_natCast]
theorem sIx_le (n d : Nat) (hd : d ≤ n) (o : Option Int) : sIx n d o ≤ n := by
  cases o with
  | none => exact hd
  | some v =>
    show (if v < 0 then (v + (n : Int)).toNat else min v.toNat n) ≤ n
    by_cases hv : v < 0
    · rw [if_pos hv]; omega
    · rw [if_neg hv]; exact Nat.min_le_right _ _
theorem clip_eq (v : Int) (n d : Nat) : (if v < 0 then max (v + (n : Int)) 0 else min v (n : Int)) = ((sIx n d (some v) : Nat) : Int) := by
  show (if v < 0 then max (v + (n : Int)) 0 else min v (n : Int)) = (((if v < 0 then (v + (n : Int)).toNat else min v.toNat n) : Nat) : Int)
  by_cases hv : v < 0
  · simp only [if_pos hv]; omega
  · simp only [if_neg hv]; omega
theorem adjust_gen (lo hi : Option Int) (n : Nat) : Builtin.Slice.sliceAdjust lo hi 1 (n : Int) = (((sIx n 0 lo : Nat) : Int), ((sIx n n hi : Nat) : Int)) := by
  have h1 : ¬ ((1 : Int) < 0) := by omega
  unfold Builtin.Slice.sliceAdjust
  simp only [h1, if_false]
  refine Prod.ext ?_ ?_
  · cases lo with
    | none => rfl
    | some v => exact clip_eq v n 0
  · cases hi with
    | none => rfl
    | some v => exact clip_eq v n n
theorem places_gen (i j : Nat) : Builtin.Slice.slicePlaces (i : Int) (j : Int) 1 = j - i := by
  unfold Builtin.Slice.slicePlaces
  have h1 : (1 : Int) > 0 := by omega
  simp only [h1, if_true, Int.ediv_one]
  split <;> omega
theorem slicePart_ {v : Value} {o : Option Int} {Q : Option Int → Shared → Prop} (p : IsPart v o) (h : Q o s) : wpAny (model prog w) A (Builtin.Slice.slicePartIndex v) Q E s := by
  cases p with
  | none => exact slicePart_none h
  | int i t => exact slicePart_int h
theorem sliceApplied_gen {sl : Addr} {vl vu : Value} {lo hi : Option Int} {n : Nat} {Q : Int × Int × Nat → Shared → Prop} (hs : s.heap.IsSliceOf sl vl vu .none) (pl : IsPart vl lo) (pu : IsPart vu hi)
    (h : Q (((sIx n 0 lo : Nat) : Int), 1, sIx n n hi - sIx n 0 lo) s) : wpAny (model prog w) A (Builtin.Slice.sliceApplied (.ref sl) (pure (n : Int))) Q E s := by
  obtain ⟨os, hos, hcs, hds⟩ := id hs
  unfold Builtin.Slice.sliceApplied Builtin.Slice.sliceFields
  refine wpAny_bind (wpAny_bind (wpAny_field hos hds (x := vl) rfl (wpAny_bind (wpAny_field hos hds (x := vu) rfl (wpAny_bind (wpAny_field hos hds (x := .none) rfl (wpAny_pure ?_)))))))
  refine wpAny_bind (slicePart_none ?_)
  show wpAny _ _ (if ((1 : Int) == 0) = true then _ else _) _ _ s
  rw [if_neg (by decide)]
  refine wpAny_bind (slicePart_ pl (wpAny_bind (slicePart_ pu (wpAny_bind (wpAny_pure ?_)))))
  show wpAny _ _ (match Builtin.Slice.sliceAdjust lo hi 1 (n : Int) with | (lo, hi) => pure (lo, (1 : Int), Builtin.Slice.slicePlaces lo hi 1)) _ _ s
  rw [adjust_gen lo hi n]
  show wpAny _ _ (pure (((sIx n 0 lo : Nat) : Int), (1 : Int), Builtin.Slice.slicePlaces ((sIx n 0 lo : Nat) : Int) ((sIx n n hi : Nat) : Int) 1)) _ _ s
  rw [places_gen]
  exact wpAny_pure h
theorem pick_gen (xs : Array Value) (i k : Nat) : ((List.range k).filterMap fun (m : Nat) => xs[((i : Int) + (m : Int) * 1).toNat]?).toArray = ((xs.toList.drop i).take k).toArray := by
  have e : (fun (m : Nat) => xs[((i : Int) + (m : Int) * 1).toNat]?) = fun m => xs[i + m]? := by
    funext m
    have : ((i : Int) + (m : Int) * 1).toNat = i + m := by omega
    rw [this]
  rw [e]
  have := pick_run xs i k
  rw [List.filterMap_map] at this
  have e2 : ((fun x => xs[x]?) ∘ fun x => i + x) = fun m => xs[i + m]? := rfl
  rw [e2] at this
  rw [this]

theorem getItem_tuple_cut {t sl : Addr} {items : Array Value} {vl vu : Value} {lo hi : Option Int} {Q : Value → Shared → Prop} (ht : IsTup s.heap t items) (hs : s.heap.IsSliceOf sl vl vu .none) (pl : IsPart vl lo) (pu : IsPart vu hi)
    (hw : ¬ (sIx items.size 0 lo = 0 ∧ sIx items.size items.size hi = items.size))
    (h : Q (.ref s.heap.objs.size) { s with heap := s.heap.push { cls := .type "tuple", data := .seq ((items.toList.drop (sIx items.size 0 lo)).take (sIx items.size items.size hi - sIx items.size 0 lo)).toArray } })
    (hsz : items.size ≤ sizeLine) : wpAny (model prog w) A (getItem (.ref t) (.ref sl)) Q E s := by
  have htake : sizeOk (.seq ((items.toList.drop (sIx items.size 0 lo)).take (sIx items.size items.size hi - sIx items.size 0 lo)).toArray) := by
    show ((items.toList.drop (sIx items.size 0 lo)).take (sIx items.size items.size hi - sIx items.size 0 lo)).toArray.size ≤ sizeLine
    rw [List.size_toArray, List.length_take, List.length_drop, Array.length_toList]
    omega
  have hj : sIx items.size items.size hi ≤ items.size := sIx_le _ _ (Nat.le_refl _) hi
  obtain ⟨os, hos, hcs, hds⟩ := id hs
  have hTs : s.TypeIs (.ref sl) "slice" := ⟨os, hos, hcs⟩
  unfold getItem
  try with_reducible refine wpAny_holding ?_
  first | refine wpAny_bind (wpAny_pure ?_) | skip
  refine wpAny_bind (wpAny_sequenceKey ht.typeIs (by decide) ?_)
  refine wpAny_bind (wpAny_callSpecial?_slot (name := Str.ofString "__getitem__") ht.typeIs PyProof.Rows.slot_tuple_getitem
    (wpAny_call_entry PyProof.Rows.slot_tuple_getitem ht.typeIs entry_tuple_getitem ?_ (args_tuple_getitem _ _)))
  show wpAny _ _ (Builtin.Tuple.tupleItemsOf (.ref t) >>= _) _ _ s
  refine wpAny_bind (tupleItemsOf_ ht ?_)
  refine wpAny_bind (wpAny_typeOf hTs ?_)
  rw [if_pos (by decide)]
  refine wpAny_bind (sliceApplied_gen hs pl pu ?_)
  have hno : ¬ ((((sIx items.size 0 lo : Nat) : Int) == 0 && (1 : Int) == 1 && (sIx items.size items.size hi - sIx items.size 0 lo) == items.size) = true) := by
    intro q
    rw [Bool.and_eq_true, Bool.and_eq_true] at q
    have q1 : ((sIx items.size 0 lo : Nat) : Int) = 0 := eq_of_beq q.1.1
    have q2 : sIx items.size items.size hi - sIx items.size 0 lo = items.size := eq_of_beq q.2
    exact hw ⟨by omega, by omega⟩
  show wpAny _ _ (if (((sIx items.size 0 lo : Nat) : Int) == 0 && (1 : Int) == 1 && (sIx items.size items.size hi - sIx items.size 0 lo) == items.size) = true then _ else _) _ _ s
  rw [if_neg hno, pick_gen]
  first
    | exact wpAny_bind (m := Builtin.Tuple.tupleExact _) (wpAny_newObj_type (wpAny_pure ⟨_, rfl, wpAny_pure h⟩) htake)
    | exact wpAny_bind (m := Builtin.Tuple.tupleExact _) (wpAny_newObj_type (wpAny_bind (wpAny_pure (wpAny_pure ⟨_, rfl, wpAny_pure h⟩))) htake)
    | exact wpAny_bind (wpAny_bind (m := Builtin.Tuple.tupleExact _) (wpAny_newObj_type (wpAny_pure (wpAny_pure ⟨_, rfl, wpAny_pure h⟩)) htake))
    | exact wpAny_bind (wpAny_bind (m := Builtin.Tuple.tupleExact _) (wpAny_newObj_type (wpAny_pure ⟨_, rfl, wpAny_pure h⟩) htake))
end
end HT

namespace L2
open PySem PySem.Spec PyProof.Rows

/-! ### the parts of a slice -/
abbrev TO := St → Hp → (Option Int → Hp → Prop) → Prop
/-- a slice's part (left out, or an int) -/
def PO (X : Cx) (e : Option Expr) (t : TO) : Prop :=
  ∀ (pins : List (Addr × Obj)) (s : Shared) (σ : St) (H : Hp) (Q : Option Int → Hp → Prop), Inv X pins σ H s → t σ H Q →
    wpAny (model X.prog X.w) X.A (evalPart e X.env) (fun u s' => ∃ o H', Inv X pins σ H' s' ∧ IsPart u o ∧ Q o H') X.xe s
def tNoPart : TO := fun _ H Q => Q none H
def tPart (t : TE) : TO := fun σ H Q => t σ H fun x H1 => ∃ i, x = .int i ∧ Q (some i) H1

theorem intsAre_of {ns : List Int} : ∀ {us : List Value}, Vals (ns.map V.int) us → IntsAre us ns := by
  induction ns with
  | nil => intro us r; rw [List.map_nil] at r; cases r; exact .nil
  | cons n ns ih =>
    intro us r
    rw [List.map_cons] at r
    cases r with
    | cons r1 r2 =>
      obtain ⟨t, e⟩ := r1
      subst e
      exact .cons n t (ih r2)

section
variable {X : Cx} {e : Expr} {te : TE} {lo hi : Option Expr} {tl th : TO} {pos p2 : Pos}

theorem po_none : PO X none tNoPart := by
  intro pins s σ H Q I h
  rw [evalPart_none]
  exact wpAny_pure ⟨none, H, I, .none, h⟩
theorem po_some (h : PE X e te) : PO X (some e) (tPart te) := by
  intro pins s σ H Q I hw
  rw [evalPart_some]
  refine thn (h pins s σ H _ I hw) fun u s1 ⟨x, H1, I1, r1, q1⟩ => ?_
  obtain ⟨i, rfl, q⟩ := q1
  obtain ⟨t, rfl⟩ := r1
  exact ⟨some i, H1, I1, .int i t, q⟩

/-- what a slice of a value is, by values: the slice object stands at sl -/
def SlR (X : Cx) (r : V → Option Int → Option Int → Hp → VK → Prop) : Prop :=
  ∀ (pins : List (Addr × Obj)) (s : Shared) (σ : St) (H : Hp) (x : V) (v vl vu : Value) (lo hi : Option Int) (sl : Addr) (Q : VK), Inv X pins σ H s → RelV x v → s.heap.IsSliceOf sl vl vu .none → IsPart vl lo → IsPart vu hi → r x lo hi H Q →
    ∃ T id, typeLookup (.type T) "__getitem__" = pure (some (.builtin id)) ∧ s.TypeIs v T ∧ wpAny (model X.prog X.w) X.A (getItem v (.ref sl)) (EP X pins σ Q) X.xe s
theorem SlR.or {r r' : V → Option Int → Option Int → Hp → VK → Prop} (h : SlR X r) (h' : SlR X r') : SlR X (fun x lo hi H Q => r x lo hi H Q ∨ r' x lo hi H Q) := by
  intro pins s σ H x v vl vu lo hi sl Q I rx hs pl pu q
  rcases q with q | q
  · exact h pins s σ H x v vl vu lo hi sl Q I rx hs pl pu q
  · exact h' pins s σ H x v vl vu lo hi sl Q I rx hs pl pu q
def tSl (r : V → Option Int → Option Int → Hp → VK → Prop) (te : TE) (tl th : TO) : TE := fun σ H Q => te σ H fun x H1 => tl σ H1 fun l H2 => th σ H2 fun u H3 => r x l u H3 Q
/-- a[lo:hi], any a -/
theorem pe_slice {r : V → Option Int → Option Int → Hp → VK → Prop} (hr : SlR X r) (he : PE X e te) (hl : PO X lo tl) (hu : PO X hi th) : PE X (.Subscript e (.Slice lo hi none p2) pos) (tSl r te tl th) := by
  intro pins s σ H Q I h
  refine Subscript_ (thn (he pins s σ H _ I h) fun v s1 ⟨x, H1, I1, r1, q1⟩ => ?_)
  refine wpAny_Slice (thn (hl pins s1 σ H1 _ I1 q1) fun vl s2 ⟨l, H2, I2, pl, q2⟩ => thn (hu pins s2 σ H2 _ I2 q2) fun vu s3 ⟨u, H3, I3, pu, q3⟩ => ?_)
  rw [evalPart_none]
  refine wpAny_pure ?_
  have I4 : Inv X pins σ H3 { s3 with heap := s3.heap.push { cls := .type "slice", data := .fields #[vl, vu, .none] } } := I3.kept (t' := s3.toks) fun b ob q => Heap.get?_push_of_some _ q
  obtain ⟨T, id, hT, ht, hg⟩ := hr pins { s3 with heap := s3.heap.push { cls := .type "slice", data := .fields #[vl, vu, .none] } } σ H3 x v vl vu l u s3.heap.objs.size Q I4 r1 (Heap.IsSliceOf.new ..) pl pu q3
  show wpAny (model X.prog X.w) X.A (subscriptTail e (.Slice lo hi none p2) v (.ref s3.heap.objs.size)) (EP X pins σ Q) X.xe { s3 with heap := s3.heap.push { cls := .type "slice", data := .fields #[vl, vu, .none] } }
  exact tail_any (ops := [.ref s3.heap.objs.size, v]) ht hT hg (by with_unfolding_all rfl)

/-- the items of xs[lo:hi] -/
def cutV (xs : List V) (lo hi : Option Int) : List V := (xs.drop (HT.sIx xs.length 0 lo)).take (HT.sIx xs.length xs.length hi - HT.sIx xs.length 0 lo)
theorem cutV_length (xs : List V) (lo hi : Option Int) : (cutV xs lo hi).length ≤ xs.length := by
  unfold cutV
  rw [List.length_take, List.length_drop]
  omega
/-- t[lo:hi], not the whole of it (the whole would be t itself) -/
def rSlT (K : PySem.W.Frag) : V → Option Int → Option Int → Hp → VK → Prop := fun x lo hi H Q => ∃ a xs, x = .ref a ∧ SqT K H a xs ∧
  ¬ (HT.sIx xs.length 0 lo = 0 ∧ HT.sIx xs.length xs.length hi = xs.length) ∧ ∀ p, H p = none → Q (.ref p) (upd H p (.tup (cutV xs lo hi)))
theorem sl_tup : SlR X (rSlT X.K) := by
  intro pins s σ H x v vl vu lo hi sl Q I rx hs pl pu h
  obtain ⟨a, xs, rfl, hx, hw, q⟩ := h
  cases rx
  obtain ⟨its, r, ht, hz⟩ := I.tuple hx
  have hlen : its.toArray.size = xs.length := by rw [List.size_toArray]; exact r.length.symm
  refine ⟨"tuple", _, PyProof.Rows.slot_tuple_getitem.lookup, ht.typeIs, ?_⟩
  refine HT.getItem_tuple_cut ht hs pl pu (by rw [hlen]; exact hw) ?_ (by rw [hlen]; exact hz)
  rw [hlen]
  refine ⟨.ref s.heap.objs.size, _, I.laid (t' := s.toks) (o := .tup (cutV xs lo hi)) (fun b ob q => Heap.get?_push_of_some _ q) (Nat.le_refl _) ?_, rfl, q _ (I.hok.fresh (Nat.le_refl _))⟩
  exact ⟨Nat.le_trans (cutV_length xs lo hi) hz, _, (r.drop (HT.sIx xs.length 0 lo)).take (HT.sIx xs.length xs.length hi - HT.sIx xs.length 0 lo), IsTup.new _ _⟩

/-! ### t < u, t + u -/
/-- t + u, t not empty: u empty gives t itself -/
def rCatT (K : PySem.W.Frag) : R2 := fun x y H Q => ∃ a b xs ys, x = .ref a ∧ y = .ref b ∧ SqT K H a xs ∧ SqT K H b ys ∧ xs ≠ [] ∧ xs.length + ys.length ≤ sizeLine ∧
  (ys = [] → Q (.ref a) H) ∧ (ys ≠ [] → ∀ p, H p = none → Q (.ref p) (upd H p (.tup (xs ++ ys))))
theorem Vals.nil_iff {xs : List V} {us : List Value} (r : Vals xs us) : us = [] ↔ xs = [] := by
  cases r with
  | nil => simp
  | cons _ _ => simp
theorem op_catT : OpR X (binaryOp .Add) (rCatT X.K) := by
  intro pins s σ H x y v u Q I rx ry h
  obtain ⟨a, b, xs, ys, rfl, rfl, ha, hb, hx, hz, q1, q2⟩ := h
  cases rx
  cases ry
  obtain ⟨its, r1, p1, _⟩ := I.tuple ha
  obtain ⟨its2, r2, p2, _⟩ := I.tuple hb
  refine HT.cat_tup p1 p2 (fun z => hx (r1.nil_iff.mp z)) (fun z => ⟨.ref a, H, I, rfl, q1 (r2.nil_iff.mp z)⟩) (fun z => ?_) (by rw [← r1.length, ← r2.length]; exact hz)
  refine ⟨.ref s.heap.objs.size, _, I.laid (t' := s.toks) (o := .tup (xs ++ ys)) (fun b ob q => Heap.get?_push_of_some _ q) (Nat.le_refl _) ?_, rfl, q2 (fun w => z (r2.nil_iff.mpr w)) _ (I.hok.fresh (Nat.le_refl _))⟩
  exact ⟨by rw [List.length_append]; exact hz, _, r1.append r2, IsTup.new _ _⟩
end
end L2

namespace L2
open PySem PySem.Spec PyProof.Rows

/-! ### places -/
/-- the place that an index of any sign means -/
def ixN (n : Nat) (i : Int) : Option Nat := if 0 ≤ i then (if i < n then some i.toNat else none) else if -(n : Int) ≤ i then some (i + n).toNat else none
def atI {α : Type} (xs : List α) (i : Int) : Option α := (ixN xs.length i).bind fun j => xs[j]?
theorem ixN_seq {n : Nat} {i : Int} {j : Nat} (h : ixN n i = some j) : seqIndex? i n = some j ∧ j < n ∧ -(n : Int) ≤ i ∧ i < n := by
  unfold ixN at h
  by_cases h0 : 0 ≤ i
  · rw [if_pos h0] at h
    by_cases h1 : i < n
    · rw [if_pos h1] at h
      have e : i.toNat = j := Option.some.inj h
      exact ⟨by rw [seqIndex_of h0 h1, e], by omega, by omega, h1⟩
    · rw [if_neg h1] at h; cases h
  · rw [if_neg h0] at h
    by_cases h1 : -(n : Int) ≤ i
    · rw [if_pos h1] at h
      have e : (i + n).toNat = j := Option.some.inj h
      exact ⟨by rw [seqIndex_neg (by omega) h1, e], by omega, h1, by omega⟩
    · rw [if_neg h1] at h; cases h
theorem atI_get {α : Type} {xs : List α} {i : Int} {v : α} (h : atI xs i = some v) : ∃ j, seqIndex? i xs.length = some j ∧ xs[j]? = some v ∧ j < xs.length ∧ -(xs.length : Int) ≤ i ∧ i < xs.length := by
  unfold atI at h
  cases e : ixN xs.length i with
  | none => rw [e] at h; cases h
  | some j =>
    rw [e] at h
    obtain ⟨h1, h2, h3, h4⟩ := ixN_seq e
    exact ⟨j, h1, h, h2, h3, h4⟩
theorem atI_nat {α : Type} {xs : List α} {j : Nat} {v : α} (h : xs[j]? = some v) : atI xs (j : Int) = some v := by
  have hj : j < xs.length := (List.getElem?_eq_some_iff.mp h).1
  have e : ixN xs.length (j : Int) = some j := by
    unfold ixN
    rw [if_pos (by omega), if_pos (by omega)]; simp
  unfold atI; rw [e]; exact h
/-! ### what may be subscripted -/
/-- what stands as an index of a plain subscript -/
def PlainIx (b : Expr) : Prop := ∀ o i, subscripted b false o i = operate [o, i] (getItem o i)
/-- a subscript by values -/
def IxR (X : Cx) (r : R2) : Prop :=
  ∀ (value slice : Expr) (pins : List (Addr × Obj)) (s : Shared) (σ : St) (H : Hp) (x y : V) (v u : Value) (Q : VK), Inv X pins σ H s → RelV x v → RelV y u → r x y H Q →
    subscripted slice false v u = operate [v, u] (getItem v u) → wpAny (model X.prog X.w) X.A (subscriptTail value slice v u) (EP X pins σ Q) X.xe s
/-- a call of a builtin's method by values: the receiver, the arguments -/
def MtR (X : Cx) (id : String) (r : V → List V → Hp → VK → Prop) : Prop :=
  ∀ (pins : List (Addr × Obj)) (s : Shared) (σ : St) (H : Hp) (x : V) (xs : List V) (v : Value) (us : List Value) (Q : VK), Inv X pins σ H s → RelV x v → Vals xs us → r x xs H Q →
    wpAny (model X.prog X.w) X.A (call (.builtin id) (v :: us)) (EP X pins σ Q) X.xe s
section
variable {X : Cx} {a b : Expr} {ta tb : TE} {pos : Pos}
theorem IxR.or {r r' : R2} (h : IxR X r) (h' : IxR X r') : IxR X (fun x y H Q => r x y H Q ∨ r' x y H Q) := by
  intro value slice pins s σ H x y v u Q I rx ry q hs
  rcases q with q | q
  · exact h value slice pins s σ H x y v u Q I rx ry q hs
  · exact h' value slice pins s σ H x y v u Q I rx ry q hs
theorem MtR.or {id : String} {r r' : V → List V → Hp → VK → Prop} (h : MtR X id r) (h' : MtR X id r') : MtR X id (fun x xs H Q => r x xs H Q ∨ r' x xs H Q) := by
  intro pins s σ H x xs v us Q I rx rs q
  rcases q with q | q
  · exact h pins s σ H x xs v us Q I rx rs q
  · exact h' pins s σ H x xs v us Q I rx rs q
/-- a[b] -/
theorem pe_ix {r : R2} (hr : IxR X r) (ha : PE X a ta) (hb : PE X b tb) (hs : PlainIx b) : PE X (.Subscript a b pos) (tOp r ta tb) := by
  intro pins s σ H Q I h
  exact Subscript_ (binT ha hb I h fun v u s2 x y H2 I2 rx ry q => hr a b pins s2 σ H2 x y v u Q I2 rx ry q (hs _ _))

def rIxL (K : PySem.W.Frag) : R2 := fun x y H Q => ∃ p xs i v, x = .ref p ∧ y = .int i ∧ SqL K H p xs ∧ atI xs i = some v ∧ Q v H
def rIxT (K : PySem.W.Frag) : R2 := fun x y H Q => ∃ p xs i v, x = .ref p ∧ y = .int i ∧ SqT K H p xs ∧ atI xs i = some v ∧ Q v H
def rIxS : R2 := fun x y H Q => ∃ z i c, x = .str z ∧ y = .int i ∧ z.length ≤ sizeLine ∧ atI z.cps.toList i = some c ∧ Q (.str ⟨#[c]⟩) H
theorem ix_list : IxR X (rIxL X.K) := by
  intro value slice pins s σ H x y v u Q I rx ry h hs
  obtain ⟨p, xs, i, z, rfl, rfl, hq, he, q⟩ := h
  cases rx
  obtain ⟨t, rfl⟩ := ry
  obtain ⟨its, r, pl, hz⟩ := I.list hq
  obtain ⟨j, h1, h2, h3, h4, h5⟩ := atI_get he
  obtain ⟨w, ew, rw'⟩ := r.get h2
  have hl := r.length
  have hn := line63
  have fin : EP X pins σ Q w s := ⟨z, H, I, rw', q⟩
  by_cases h0 : 0 ≤ i
  · have hj : i.toNat = j := by
      rw [seqIndex_of h0 h5] at h1
      exact Option.some.inj h1
    exact item_listR pl.isList h0 (by omega) (by rw [hj]; simpa using ew) fin hs
  · have hj : (i + (its.toArray.size : Int)).toNat = j := by
      rw [seqIndex_neg (by omega) h4] at h1
      rw [List.size_toArray, ← hl]
      exact Option.some.inj h1
    exact subscriptTail_builtinR (x := w) pl.isList.typeIs slot_list_getitem.lookup
      (wpAny_getItem_list_neg (Q := fun r s' => r = w ∧ EP X pins σ Q r s') pl.isList (by omega) (by rw [List.size_toArray] <;> omega) (by omega) (by rw [hj]; simpa using ew) ⟨rfl, fin⟩) hs
theorem ix_tup : IxR X (rIxT X.K) := by
  intro value slice pins s σ H x y v u Q I rx ry h hs
  obtain ⟨p, xs, i, z, rfl, rfl, hq, he, q⟩ := h
  cases rx
  obtain ⟨t, rfl⟩ := ry
  obtain ⟨its, r, pl, hz⟩ := I.tuple hq
  obtain ⟨j, h1, h2, h3, h4, h5⟩ := atI_get he
  obtain ⟨w, ew, rw'⟩ := r.get h2
  have hl := r.length
  have hn := line63
  have fin : EP X pins σ Q w s := ⟨z, H, I, rw', q⟩
  exact subscriptTail_builtinR (x := w) pl.typeIs slot_tuple_getitem.lookup
    (getItem_tuple (j := j) (Q := fun r s' => r = w ∧ EP X pins σ Q r s') pl (by omega) (by omega) (by rw [List.size_toArray, ← hl]; exact h1) (by simpa using ew) ⟨rfl, fin⟩) hs
theorem ix_str : IxR X rIxS := by
  intro value slice pins s σ H x y v u Q I rx ry h hs
  obtain ⟨z, i, c, rfl, rfl, hz, he, q⟩ := h
  obtain ⟨t, rfl⟩ := rx
  obtain ⟨t', rfl⟩ := ry
  obtain ⟨j, h1, h2, h3, h4, h5⟩ := atI_get he
  have hl : z.cps.toList.length = z.length := by simp [Str.length]
  rw [hl] at h1 h4 h5
  have hn := line63
  exact tail_any (typeIs_str s z t) slot_str_getitem.lookup (getItem_str (c := c) (by
    have e1 : decide (i < -(2 ^ 63 : Int)) = false := decide_eq_false (by omega)
    have e2 : decide (i ≥ 2 ^ 63) = false := decide_eq_false (by omega)
    rw [e1, e2, Bool.or_false]) (by rw [h1]; simpa using h2) ⟨.str ⟨#[c]⟩, H, I.tok _, ⟨_, rfl⟩, q⟩) hs
/-! ### xs[i] = v, any sign -/
/-- the list's object behind a store -/
theorem mapSeq_set (its : List Value) (n j : Nat) (u : Value) : Obj.mapSeq (·.setIfInBounds j u) { cls := .type "list", data := .seq its.toArray n } = { cls := .type "list", data := .seq (its.set j u).toArray n } := by
  simp [Obj.mapSeq]
theorem Inv.lst {pins : List (Addr × Obj)} {σ : St} {H : Hp} {s : Shared} {p : Addr} {xs : List V} (I : Inv X pins σ H s) (h : H p = some (.lst xs)) :
    ∃ (its : List Value) (n : Nat), Vals xs its ∧ s.heap.get? p = some { cls := .type "list", data := .seq its.toArray n } ∧ xs.length ≤ sizeLine := by
  obtain ⟨z, its, n, r, e⟩ := I.hok p _ h
  exact ⟨its, n, r, e, z⟩
/-- the list at p is written by an update of its object -/
theorem Inv.lstUpd {pins : List (Addr × Obj)} {σ : St} {H : Hp} {s : Shared} {p : Addr} {xs ys : List V} {its its' : List Value} {n n' : Nat} {f : Obj → Obj} (I : Inv X pins σ H s) (h : H p = some (.lst xs))
    (ho : s.heap.get? p = some { cls := .type "list", data := .seq its.toArray n }) (hf : f { cls := .type "list", data := .seq its.toArray n } = { cls := .type "list", data := .seq its'.toArray n' }) (r : Vals ys its') (hz : ys.length ≤ sizeLine) (t : Nat) :
    Inv X pins σ (upd H p (.lst ys)) { s with heap := s.heap.update p f, toks := t } := by
  have e : (s.heap.update p f).get? p = some { cls := .type "list", data := .seq its'.toArray n' } := by
    rw [Heap.get?_update_self f ho (by rw [hf] <;> rfl), hf]
  refine I.write (x := p) (e := p) (by rw [h]; trivial) (.inl rfl) (fun b u hb q => (Heap.get?_update_other _ _ (Ne.symm hb)).trans q) ⟨_, e⟩ ?_
  exact ⟨hz, its', n', r, e⟩
def rSetL : V → V → V → Hp → (Hp → Prop) → Prop := fun o i v H Q => ∃ p xs k j, o = .ref p ∧ i = .int k ∧ H p = some (.lst xs) ∧ ixN xs.length k = some j ∧ Q (upd H p (.lst (xs.set j v)))
theorem set_list : PSet X rSetL := by
  intro pins s σ H o i v ov iv u Q I ro ri rv h
  obtain ⟨p, xs, k, j, rfl, rfl, hp, hj, q⟩ := h
  cases ro
  obtain ⟨t, rfl⟩ := ri
  obtain ⟨its, n, r, ho, hz⟩ := I.lst hp
  obtain ⟨h1, h2, h3, h4⟩ := ixN_seq hj
  have hl := r.length
  have hn := line63
  have I' : Inv X pins σ (upd H p (.lst (xs.set j v))) { s with heap := s.heap.update p (Obj.mapSeq (·.setIfInBounds j u)) } :=
    I.lstUpd hp ho (mapSeq_set its n j u) (r.set rv j) (by rw [List.length_set]; exact hz) s.toks
  by_cases h0 : 0 ≤ k
  · have hk : k.toNat = j := by
      rw [seqIndex_of h0 h4] at h1
      exact Option.some.inj h1
    exact PySem.W.ki_setAt ho h0 (by omega) (by rw [List.size_toArray, ← hl]; exact h4) (by rw [hk]; exact ⟨_, I', q⟩)
  · have hk : (k + (its.toArray.size : Int)).toNat = j := by
      rw [seqIndex_neg (by omega) h3] at h1
      rw [List.size_toArray, ← hl]
      exact Option.some.inj h1
    exact PySem.W.ki_setBack ho (by omega) (by rw [List.size_toArray, ← hl]; exact h3) (by omega) (by rw [hk]; exact ⟨_, I', q⟩)

/-! ### slices -/
theorem slice_bounds (lo hi : Option Int) (n : Nat) : (sliceBounds lo hi none n).1 = ((HT.sIx n 0 lo : Nat) : Int) ∧ (sliceBounds lo hi none n).2.1 = ((HT.sIx n n hi : Nat) : Int) ∧ (sliceBounds lo hi none n).2.2 = 1 := by
  refine ⟨?_, ?_, rfl⟩
  · cases lo with
    | none => simp [sliceBounds, HT.sIx]
    | some i =>
      simp only [sliceBounds, HT.sIx, Option.getD_none, show (1 : Int) > 0 by decide, if_true]
      by_cases h : i < 0
      · simp only [h, if_true] <;> omega
      · simp only [h, if_false] <;> omega
  · cases hi with
    | none => simp [sliceBounds, HT.sIx]
    | some i =>
      simp only [sliceBounds, HT.sIx, Option.getD_none, show (1 : Int) > 0 by decide, if_true]
      by_cases h : i < 0
      · simp only [h, if_true] <;> omega
      · simp only [h, if_false] <;> omega
theorem slicePick_cut (its : List Value) (lo hi : Option Int) : slicePick its.toArray lo hi none = ((its.drop (HT.sIx its.length 0 lo)).take (HT.sIx its.length its.length hi - HT.sIx its.length 0 lo)).toArray := by
  obtain ⟨h1, h2, h3⟩ := slice_bounds lo hi its.toArray.size
  unfold slicePick
  rw [h1, h2, h3]
  simp only [sliceRange_one, pick_run, List.size_toArray] <;> rfl
/-- xs[lo:hi] of a list: a new list -/
def rSlL (K : PySem.W.Frag) : V → Option Int → Option Int → Hp → VK → Prop := fun x lo hi H Q => ∃ a xs, x = .ref a ∧ SqL K H a xs ∧ ∀ p, H p = none → Q (.ref p) (upd H p (.lst (cutV xs lo hi)))
theorem sl_list : SlR X (rSlL X.K) := by
  intro pins s σ H x v vl vu lo hi sl Q I rx hs pl pu h
  obtain ⟨a, xs, rfl, hx, q⟩ := h
  cases rx
  obtain ⟨its, r, ht, hz⟩ := I.list hx
  have hlen := r.length
  refine ⟨"list", _, slot_list_getitem.lookup, ht.isList.typeIs, ?_⟩
  refine wpAny_getItem_list_slice ht.isList hs pl pu .none (by simp) ?_ (by rw [List.size_toArray] <;> omega)
  rw [slicePick_cut, ← hlen]
  refine ⟨.ref s.heap.objs.size, _, I.laid (t' := s.toks) (o := .lst (cutV xs lo hi)) (fun b ob q => Heap.get?_push_of_some _ q) (Nat.le_refl _) ?_, rfl, q _ (I.hok.fresh (Nat.le_refl _))⟩
  exact ⟨Nat.le_trans (cutV_length xs lo hi) hz, _, 0, (r.drop (HT.sIx xs.length 0 lo)).take (HT.sIx xs.length xs.length hi - HT.sIx xs.length 0 lo), Heap.get?_push_size _ rfl⟩

/-! ### in, not in: flat items -/
/-! ### len, list(x), tuple(x) of any list or tuple that is read -/
theorem call_len_seq : CallR X (.builtin "len") (fun xs H Q => ∃ p ys, xs = [.ref p] ∧ (SqL X.K H p ys ∨ SqT X.K H p ys) ∧ Q (.int ys.length) H) := by
  intro pins s σ H xs us Q I r h
  obtain ⟨p, ys, rfl, hq, q⟩ := h
  obtain ⟨u, rfl, rx⟩ := vals1 r
  cases rx
  have hn := line63
  rcases hq with hq | hq
  · obtain ⟨its, r', pl, hz⟩ := I.list hq
    have hlen := r'.length
    exact Calls.call_len_list pl.isList (by simp only [List.size_toArray] <;> omega) ⟨.int ys.length, H, I.tok _, ⟨s.toks + 1, by rw [List.size_toArray, hlen]⟩, q⟩
  · obtain ⟨its, r', pl, hz⟩ := I.tuple hq
    have hlen := r'.length
    exact len_tuple pl (by simp only [List.size_toArray] <;> omega) ⟨.int ys.length, H, I.tok _, ⟨s.toks + 1, by rw [List.size_toArray, hlen]⟩, q⟩
theorem CallR.or {f : Value} {r r' : List V → Hp → VK → Prop} (h : CallR X f r) (h' : CallR X f r') : CallR X f (fun xs H Q => r xs H Q ∨ r' xs H Q) := by
  intro pins s σ H xs us Q I rs q
  rcases q with q | q
  · exact h pins s σ H xs us Q I rs q
  · exact h' pins s σ H xs us Q I rs q
theorem call_list_of : CallR X (.type "list") (fun xs H Q => ∃ p ys, xs = [.ref p] ∧ (SqL X.K H p ys ∨ SqT X.K H p ys) ∧ ∀ l, H l = none → Q (.ref l) (upd H l (.lst ys))) := by
  intro pins s σ H xs us Q I r h
  obtain ⟨p, ys, rfl, hq, q⟩ := h
  obtain ⟨u, rfl, rx⟩ := vals1 r
  cases rx
  have fin : ∀ (its : List Value), Vals ys its → ys.length ≤ sizeLine → ∀ (h' : Heap) (c' : Nat), (∀ b o', s.heap.get? b = some o' → h'.get? b = some o') →
      h'.get? s.heap.objs.size = some { cls := .type "list", dict := none, data := .seq its.toArray c', slots := #[] } → EP X pins σ Q (.ref s.heap.objs.size) { s with heap := h' } := fun its r' hz h' c' kp e =>
    ⟨.ref s.heap.objs.size, _, I.laid (t' := s.toks) kp (Nat.le_refl _) (show ObjOk X.prog X.w _ h' _ (.lst ys) from ⟨hz, its, c', r', e⟩), rfl, q _ (I.hok.fresh (Nat.le_refl _))⟩
  rcases hq with hq | hq
  · obtain ⟨its, r', pl, hz⟩ := I.list hq
    have hlen := r'.length
    obtain ⟨o, ho, hc, n, hd⟩ := pl.isList
    exact call_list_seq p (.inl rfl) ho hc hd (fun h' c' kp e => fin its r' hz h' c' kp e) (by simp only [List.size_toArray] <;> omega)
  · obtain ⟨its, r', pl, hz⟩ := I.tuple hq
    have hlen := r'.length
    obtain ⟨o, ho, hc, n, hd⟩ := pl
    exact call_list_seq p (.inr rfl) ho hc hd (fun h' c' kp e => fin its r' hz h' c' kp e) (by simp only [List.size_toArray] <;> omega)
/-! ### the call of a builtin's method: o.m(..) -/
/-- the value is of that builtin type -/
def tyV (K : PySem.W.Frag) (T : String) (x : V) (H : Hp) : Prop := match x with
  | .str _ => T = "str"
  | .int _ => T = "int"
  | .ref p => (T = "list" ∧ ∃ xs, SqL K H p xs) ∨ (T = "tuple" ∧ ∃ o, K.lookup p = some o ∧ o.cls = .type "tuple" ∧ o.dict = none) ∨
      (T = "dict" ∧ ((∃ kvs, H p = some (.dK kvs)) ∨ ∃ kvs, H p = some (.dT kvs))) ∨ (T = "set" ∧ ∃ S n, H p = some (.set S n))
  | _ => False
theorem tyV_is {pins : List (Addr × Obj)} {σ : St} {H : Hp} {s : Shared} {T : String} {x : V} {v : Value} (I : Inv X pins σ H s) (r : RelV x v) (ty : tyV X.K T x H) :
    s.TypeIs v T ∧ ∀ a, v = .ref a → ∃ ob, s.heap.get? a = some ob ∧ ob.dict = none := by
  cases x with
  | str z =>
    obtain ⟨t, rfl⟩ := r
    cases (show T = "str" from ty)
    exact ⟨typeIs_str s z t, fun _ e => nomatch e⟩
  | int i =>
    obtain ⟨t, rfl⟩ := r
    cases (show T = "int" from ty)
    exact ⟨typeIs_int s i t, fun _ e => nomatch e⟩
  | ref p =>
    cases r
    rcases ty with ⟨rfl, xs, hq⟩ | ⟨rfl, o, hk, hc, hd⟩ | ⟨rfl, hk⟩ | ⟨rfl, S, n, hk⟩
    · obtain ⟨its, _, pl, _⟩ := I.list hq
      refine ⟨pl.isList.typeIs, fun a e => ?_⟩
      cases e
      obtain ⟨o, n, e, c, hd, _⟩ := pl
      exact ⟨o, e, hd⟩
    · refine ⟨⟨o, I.kIn p o hk, hc⟩, fun a e => ?_⟩
      cases e
      exact ⟨o, I.kIn _ o hk, hd⟩
    · have z : ∃ o, s.heap.get? p = some o ∧ o.ExactDict := by
        rcases hk with ⟨kvs, hk⟩ | ⟨kvs, hk⟩
        · obtain ⟨_, _, _, _, o, _, _, e, ex, _⟩ := I.hok p _ hk
          exact ⟨o, e, ex⟩
        · obtain ⟨_, _, _, _, o, _, _, e, ex, _⟩ := I.hok p _ hk
          exact ⟨o, e, ex⟩
      obtain ⟨o, e, ex⟩ := z
      refine ⟨⟨o, e, ex.1⟩, fun a e2 => ?_⟩
      cases e2
      exact ⟨o, e, ex.2.1⟩
    · obtain ⟨o, _, _, _, e, ex, _⟩ := I.hok p _ hk
      refine ⟨⟨o, e, ex.1⟩, fun a e2 => ?_⟩
      cases e2
      exact ⟨o, e, ex.2.1⟩
  | _ => exact False.elim ty
def tBM (K : PySem.W.Frag) (T : String) (r : V → List V → Hp → VK → Prop) (to : TE) (t : TA) : TE := fun σ H Q => to σ H fun x H1 => tyV K T x H1 ∧ t σ H1 fun xs H2 => r x xs H2 Q
variable {o e : Expr} {es : List Expr} {to : TE} {t : TA} {name : Str} {apos cpos : Pos} {T id : String} {r : V → List V → Hp → VK → Prop}
theorem pe_bm (pa : PlainAttrs T) (slot : Slot T name id) (hty : typeOf (.builtin id) = pure (.type "method_descriptor")) (hm : MtR X id r) (ho : PE X o to) (ha : PA X (e :: es) t)
    (hbase : attributeBase o name X.env (eval o X.env) = eval o X.env := by rfl)
    (hfew : ((backTo cpos (starEach (e :: es) X.env)).all (fun x => !x.1) && (backToKw cpos (keywordEach [] X.env)).all (fun x => x.1.isSome)
      && decide ((e :: es).length + ([] : List Keyword).length + (if ([] : List Keyword).isEmpty then 0 else 1) < 30)) = true := by rfl)
    (hline : (apos.endLine == cpos.line) = true := by rfl) (hs : starEach (e :: es) X.env = (false, eval e X.env) :: starEach es X.env := by rfl) (hplain : (backTo cpos (starEach es X.env)).any (·.1) = false := by rfl) :
    PE X (.Call (.Attribute o name apos) (e :: es) [] cpos) (tBM X.K T r to t) := by
  intro pins s σ H Q I h
  refine wpAny_Call_method_late hbase hfew hline rfl (thn (ho pins s σ H _ I h) fun v s1 ⟨x, H1, I1, r1, ty, q1⟩ => ?_)
  obtain ⟨h1, h2⟩ := tyV_is I1 r1 ty
  refine ⟨T, id, pa, slot, hty, h1, h2, ?_⟩
  have hA := ha cpos pins s1 σ H1 _ I1 q1
  rw [hs] at hA ⊢
  refine Calls.callWith_builtin (by show (false || (backTo cpos (starEach es X.env)).any (·.1)) = false; rw [hplain] <;> rfl) (Calls.evalArgs_plain ?_)
  exact thn hA fun us s2 ⟨vs, H2, I2, r2, q2⟩ => hm pins s2 σ H2 x vs v us Q I2 r1 r2 q2
/- xs.append(e), list.index on a module's tuple .. are MtR facts of 06m -/
end
end L2

namespace L2
open PySem PySem.Spec PyProof.Rows

def MtM (X : Cx) (id : String) (r : V → List V → Hp → VK → Prop) : Prop :=
  ∀ (pins : List (Addr × Obj)) (s : Shared) (σ : St) (H : Hp) (x : V) (xs : List V) (v : Value) (us : List Value) (Q : VK), Inv X pins σ H s → RelV x v → Vals xs us → r x xs H Q →
    wpAny (model X.prog X.w) X.A (call (.builtin id) (v :: us)) (EP X pins σ Q) X.xe s

/-! ### lists of values -/
theorem Vals.one : ∀ {x : V} {us : List Value}, Vals [x] us → ∃ u, us = [u] ∧ RelV x u
  | _, _, .cons r .nil => ⟨_, rfl, r⟩
theorem Vals.two : ∀ {x y : V} {us : List Value}, Vals [x, y] us → ∃ u v, us = [u, v] ∧ RelV x u ∧ RelV y v
  | _, _, _, .cons r (.cons q .nil) => ⟨_, _, rfl, r, q⟩
theorem Vals.rep {xs : List V} {us : List Value} (h : Vals xs us) : ∀ k : Nat, Vals (List.replicate k xs).flatten (List.replicate k us).flatten
  | 0 => .nil
  | k + 1 => by
    rw [List.replicate_succ, List.replicate_succ, List.flatten_cons, List.flatten_cons]
    exact Vals.append h (Vals.rep h k)
theorem foldl_rep (its : List Value) : ∀ (k : Nat) (acc : List Value),
    List.foldl (fun x1 x2 => x1 ++ x2) acc.toArray (List.replicate k its.toArray) = (acc ++ (List.replicate k its).flatten).toArray
  | 0, acc => by simp
  | k + 1, acc => by
    have e : acc.toArray ++ its.toArray = (acc ++ its).toArray := by simp
    have e2 : (acc ++ its) ++ (List.replicate k its).flatten = acc ++ (List.replicate (k + 1) its).flatten := by
      rw [List.replicate_succ, List.flatten_cons, List.append_assoc]
    rw [← e2, ← foldl_rep its k (acc ++ its), ← e, List.replicate_succ, List.foldl_cons]

section
variable {X : Cx} {pins : List (Addr × Obj)} {σ : St} {H : Hp} {s : Shared} {l b : Addr} {xs ys zs : List V}

/-! ### the two steps: a tracked list is rewritten, a new list is laid -/
theorem Inv.lset {its its' : List Value} {n : Nat} {f : Array Value → Array Value} {t' : Nat} (I : Inv X pins σ H s) (hH : H l = some (.lst xs))
    (e : s.heap.get? l = some { cls := .type "list", data := .seq its.toArray n }) (hf : f its.toArray = its'.toArray) (hv : Vals ys its') (hz : ys.length ≤ sizeLine) :
    Inv X pins σ (upd H l (.lst ys)) { s with heap := s.heap.update l (Obj.mapSeq f), toks := t' } := by
  have q := PySem.IsL.update e f
  rw [hf] at q
  refine I.write (x := l) (e := l) (by rw [hH]; exact trivial) (.inl rfl) (fun b' u hb hu => (Heap.get?_update_other s.heap (Obj.mapSeq f) (Ne.symm hb)).trans hu) ⟨_, q⟩ ?_
  exact ⟨hz, its', _, hv, q⟩
theorem Inv.lnew {its : List Value} {t' : Nat} (I : Inv X pins σ H s) (hv : Vals ys its) (hz : ys.length ≤ sizeLine) :
    Inv X pins σ (upd H s.heap.objs.size (.lst ys)) { s with heap := s.heap.push { cls := .type "list", data := .seq its.toArray }, toks := t' } :=
  I.laid (fun _ _ q => Heap.get?_push_of_some _ q) (Nat.le_refl _) ⟨hz, its, 0, hv, Heap.get?_push_size _ rfl⟩
theorem Inv.fresh (I : Inv X pins σ H s) : H s.heap.objs.size = none := I.hok.fresh (Nat.le_refl _)
theorem Inv.lstM (I : Inv X pins σ H s) (hH : H l = some (.lst xs)) : xs.length ≤ sizeLine ∧ ∃ (its : List Value) (n : Nat), Vals xs its ∧ xs.length = its.length ∧ s.heap.get? l = some { cls := .type "list", data := .seq its.toArray n } := by
  obtain ⟨z, its, n, r, e⟩ := I.hok l _ hH
  exact ⟨z, its, n, r, r.length, e⟩

theorem notLongL {n : Nat} (h : n ≤ sizeLine) : Builtin.List.listTooLong n = false := by
  unfold Builtin.List.listTooLong
  exact decide_eq_false (by omega)
end

section
variable {X : Cx}

/-! ### methods -/
def rAppend : V → List V → Hp → VK → Prop := fun x vs H Q => ∃ l xs y, x = .ref l ∧ vs = [y] ∧ H l = some (.lst xs) ∧ xs.length < sizeLine ∧ Q .non (upd H l (.lst (xs ++ [y])))
theorem mt_append : MtM X "list.append" rAppend := by
  intro pins s σ H x vs v us Q I rx rv h
  obtain ⟨l, xs, y, rfl, rfl, hH, hz, q⟩ := h
  cases rx
  obtain ⟨u, rfl, ru⟩ := rv.one
  obtain ⟨z, its, n, r, hl, e⟩ := I.lstM hH
  refine call_meets F.slot_list_append ⟨_, e, rfl⟩ F.entry_list_append (F.args_list_append_2 _ _) (PySem.list_append l its.toArray n u (by rw [List.size_toArray]; omega)) ⟨e, ?_⟩
  refine ⟨.non, _, I.lset (its' := its ++ [u]) hH e (by simp) (r.append (.cons ru .nil)) ?_, rfl, q⟩
  rw [List.length_append, List.length_singleton]
  omega

def rExtend : V → List V → Hp → VK → Prop := fun x vs H Q => ∃ l b xs zs, x = .ref l ∧ vs = [.ref b] ∧ H l = some (.lst xs) ∧ H b = some (.lst zs) ∧ xs.length + zs.length ≤ sizeLine ∧ Q .non (upd H l (.lst (xs ++ zs)))
theorem mt_extend : MtM X "list.extend" rExtend := by
  intro pins s σ H x vs v us Q I rx rv h
  obtain ⟨l, b, xs, zs, rfl, rfl, hH, hB, hz, q⟩ := h
  cases rx
  obtain ⟨u, rfl, ru⟩ := rv.one
  cases ru
  obtain ⟨z, its, n, r, hl, e⟩ := I.lstM hH
  obtain ⟨z2, its2, n2, r2, hl2, e2⟩ := I.lstM hB
  have hsz : its.toArray.size + its2.toArray.size ≤ sizeLine := by rw [List.size_toArray, List.size_toArray]; omega
  have hlong : ¬ (!its.toArray.isEmpty && Builtin.List.listTooLong (its.toArray.size + its2.toArray.size)) = true := by
    rw [notLongL hsz, Bool.and_false]
    exact Bool.false_ne_true
  refine call_meets F.slot_list_extend ⟨_, e, rfl⟩ F.entry_list_extend (F.args_list_extend_2 _ _)
    (AutoSeq1.list_extend_list_list_0 l its.toArray n b its2.toArray n2 hlong (by rw [List.size_toArray]; omega) (by omega)) ⟨e, e2, ?_⟩
  refine ⟨.non, _, I.lset (its' := its ++ its2) hH e (by simp) (r.append r2) ?_, rfl, q⟩
  rw [List.length_append]
  omega

/-! ### list + list, list += list, list * int -/
def rCat : R2 := fun x y H Q => ∃ l b xs zs, x = .ref l ∧ y = .ref b ∧ H l = some (.lst xs) ∧ H b = some (.lst zs) ∧ xs.length + zs.length ≤ sizeLine ∧ ∀ p, H p = none → Q (.ref p) (upd H p (.lst (xs ++ zs)))
theorem op_cat : OpR X (binaryOp .Add) rCat := by
  intro pins s σ H x y v u Q I rx ry h
  obtain ⟨l, b, xs, zs, rfl, rfl, hH, hB, hz, q⟩ := h
  cases rx
  cases ry
  obtain ⟨z, its, n, r, hl, e⟩ := I.lstM hH
  obtain ⟨z2, its2, n2, r2, hl2, e2⟩ := I.lstM hB
  refine PySem.P.add_list e e2 ?_ (by rw [List.size_toArray, List.size_toArray]; omega)
  have ea : its.toArray ++ its2.toArray = (its ++ its2).toArray := by simp
  rw [ea]
  exact ⟨.ref _, _, I.lnew (t' := s.toks) (r.append r2) (by rw [List.length_append]; omega), rfl, q _ I.fresh⟩
/-- a list times an int (a negative one is nothing) -/
def rRep : R2 := fun x y H Q => ∃ l k xs, x = .ref l ∧ y = .int k ∧ H l = some (.lst xs) ∧ -(2 ^ 63) ≤ k ∧ k < 2 ^ 63 ∧ xs.length * k.toNat ≤ sizeLine ∧
  ∀ p, H p = none → Q (.ref p) (upd H p (.lst (List.replicate k.toNat xs).flatten))
theorem len_rep {α : Type} (xs : List α) (k : Nat) : (List.replicate k xs).flatten.length = k * xs.length := by
  induction k with
  | zero => simp
  | succ k ih => rw [List.replicate_succ, List.flatten_cons, List.length_append, ih, Nat.succ_mul, Nat.add_comm]
theorem op_rep : OpR X (binaryOp .Mult) rRep := by
  intro pins s σ H x y v u Q I rx ry h
  obtain ⟨l, k, xs, rfl, rfl, hH, h1, h2, hz, q⟩ := h
  cases rx
  obtain ⟨t, rfl⟩ := ry
  obtain ⟨z, its, n, r, hl, e⟩ := I.lstM hH
  have hlen : its.toArray.size * k.toNat ≤ sizeLine := by rw [List.size_toArray, ← hl]; exact hz
  have hcap : ¬ its.toArray.size * k.toNat > (2 ^ 63 - 1) / 8 := by
    have : (sizeLine : Nat) ≤ (2 ^ 63 - 1) / 8 := by decide
    omega
  have hfit : ¬ (!Builtin.List.listFitsIndex k) = true := by
    rw [fitsIndex_both h1 h2]
    exact Bool.false_ne_true
  have hlong : ¬ Builtin.List.listTooLong (its.toArray.size * k.toNat) = true := by
    rw [notLongL hlen]
    exact Bool.false_ne_true
  have hnew : List.foldl (fun x1 x2 => x1 ++ x2) #[] (List.replicate (if its.toArray.isEmpty = true then 0 else k.toNat) its.toArray) = (List.replicate k.toNat its).flatten.toArray := by
    have f0 : ∀ m : Nat, List.foldl (fun x1 x2 => x1 ++ x2) #[] (List.replicate m its.toArray) = (List.replicate m its).flatten.toArray := fun m => by
      have := foldl_rep its m []
      rw [List.nil_append] at this
      exact this
    rw [f0]
    cases its with
    | nil => simp
    | cons a r' => rw [if_neg (by simp)]
  refine wpAny_binaryOp_repeat_ref (T := "list") (U := "int") (by decide) ⟨_, e, rfl⟩ (fun s' => typeIs_int s' k t) noFill_list_mul F.fills_int_mul F.slot_int_rmul repeat_list F.slot_int_index.lookup
    (call_meets F.slot_int_rmul (typeIs_int s k t) F.entry_int_rmul (F.args_int_rmul_2 _ _) (int___rmul___int_list k t l its.toArray n)
      ⟨e, rfl, ⟨_, e, rfl⟩, call_meets F.slot_list_mul ⟨_, e, rfl⟩ F.entry_list_mul (F.args_list_mul_2 _ _) (AutoListH.list___mul___list_int_3 l its.toArray n k t hfit hcap hlong) ⟨e, ?_⟩⟩)
  rw [hnew]
  exact ⟨.ref _, _, I.lnew (t' := s.toks) (r.rep k.toNat) (by rw [len_rep, Nat.mul_comm]; exact hz), rfl, q _ I.fresh⟩

/-! ### del xs[i] -/
end

/-! ### xs[a:b] = ys -/
section
variable {prog : Program} {w : World} {A : Around} {E : Value → Shared → Prop} {s : Shared}
end

section
variable {X : Cx}
end
end L2

namespace Att
open PySem PySem.W PySem.Calls PyProof.Rows

/-! ### the script -/
theorem ints_of_wellAll {P : Params} {h : Heap} : ∀ (ns : List Int) (vs : List Value), WellAll P h vs (ns.map WData.int) → IntsAre vs ns := by
  intro ns
  induction ns with
  | nil =>
    intro vs w
    rw [List.map_nil] at w
    cases w
    exact .nil
  | cons n ns ih =>
    intro vs w
    rw [List.map_cons] at w
    cases w with
    | cons a b =>
      cases a
      exact .cons _ _ (ih _ b)

theorem script_of {l : OpenLaw} {n : Nat} (hn : l.most = some n) {P : Params} {h : Heap} {args : List WData} {vals : List Value}
    (hpre : l.row.toRowW.claim.pre args = true) (hwl : WellAll P h vals args) :
    ∃ a vs ns, vals = [Value.ref a] ∧ args = [WData.list (ns.map WData.int)] ∧ h.get? a = some { cls := .type "list", data := .seq vs.toArray } ∧ IntsAre vs ns ∧ ns.length ≤ n := by
  have hsh : WShape.hasAll [] args [.list .int] = true := (pre_splitW hpre).1
  have hc : l.pre.holds [] { args := args } = true := (pre_splitW hpre).2
  obtain ⟨d, r, rfl, h1, h2⟩ := hasAllW_cons hsh
  obtain rfl := hasAllW_nil h2
  obtain ⟨xs, rfl, h3⟩ := hasW_list h1
  obtain ⟨ns, rfl⟩ := items_int h3
  have hlen : ns.length ≤ n := by
    unfold OpenLaw.pre at hc
    have h4 : (WTm.not (.lt (.lit (.int (n : Int))) (.len (.arg 0)))).holds [] { args := [.list (ns.map .int)] } = true := by
      have h4 := (holds_andW hc).1
      rw [hn] at h4
      exact h4
    have h5 := condW_of h4 (w_not (w_lt w_lit (w_len_list (w_arg rfl))))
    rw [List.length_map] at h5
    refine Nat.le_of_not_lt fun q => ?_
    have q' : (n : Int) < ((ns.length : Nat) : Int) := by omega
    first
      | (rw [decide_eq_true q'] at h5; exact absurd h5 (by decide))
      | (simp at h5; omega)
  cases hwl with
  | cons w1 w2 =>
    cases w2
    cases w1 with
    | list ho hall => exact ⟨_, _, ns, rfl, rfl, ho, ints_of_wellAll ns _ hall, hlen⟩

theorem post_true (l : OpenLaw) (args : List WData) : l.row.toRowW.claim.post args (.bool true) args = true :=
  postW_of (r := l.row.toRowW) (X := (true == true))
    (show WShape.has [] (.bool true) .bool = true by first | rfl | decide | simp [WShape.has, WShape.arms, WShape.armsAll])
    (show (WTm.eq .res (.lit (.bool true))).value [] { args := args, res := some (.bool true), after := args } = some (.bool (true == true)) from w_eq_bool (w_res rfl) w_lit) rfl

/-! ### the attachment: holds_open's last premise (the goal 'hc' behind k_head) from a wpAny of the law's body -/
/-! ### rules over ANY heap (no ledger) from facts about the written part K: the library's own take a ledger (News) for what they write -/
section
variable {prog : Program} {w : World} {A : Around} {E : Value → Shared → Prop} {s : Shared} {K : Frag}

/-! the whole heap as the ledger: makes every rule that writes through a ledger a rule over any heap -/
def ledger (h : Heap) (L d : Addr) : List (Addr × Obj) := (List.range h.objs.size).filterMap fun a => if a = L ∨ a = d then none else (h.get? a).map fun o => (a, o)
end
end Att

namespace L2
open PySem PySem.Spec PyProof.Rows

theorem vals_ints : ∀ {vs : List Value} {ns : List Int}, IntsAre vs ns → Vals (ns.map V.int) vs
  | _, _, .nil => .nil
  | _, _, .cons n t h => .cons ⟨t, rfl⟩ (vals_ints h)

/-- nothing is tracked but the script, known to the object (or it is an object of the module) -/
def Only (H : Hp) : Prop := ∀ b, H b = none ∨ ∃ o xs, H b = some (.frz o (.lst xs))

/-- THE HEAD: the law's promise, at the heap behind the top. F, the promise of the law's def, may use that base is part of the heap (so K.In base, base.Ns mainGlobals mg stand in Mod) -/
theorem law_call {P : Program} {w : World} {K : PySem.W.Frag} {mg mb : Str → Option Value} {CX : CXT} {k : Nat} {fa a : Addr} {fd : FuncData} {x : Str} {sp : Sp} {s₁ : Shared} {vs : List Value} {ns : List Int}
    (KX : K.In s₁.heap) (hns : s₁.heap.Ns mainGlobals mg) (hb : s₁.heap.Ns builtinsNs mb) (hbb : ∀ x : Str, x ≠ "__name__" → mb x = bootBuiltins x) (hlim : s₁.heap.NoLimit) (hg : s₁.gens = #[])
    (ha : s₁.heap.get? a = some { cls := .type "list", data := .seq vs.toArray }) (hi : IntsAre vs ns) (hl : ns.length ≤ sizeLine) (hr : Room k callerA)
    (F : ∀ base : Heap, K.In base → base.Ns mainGlobals mg → FnOk P w K mg base CX k fa fd [x] sp) (hbind : ∀ (s : Shared) (u : Value), BindsTo s fd ⟨[u], []⟩ [(x, u)])
    (hsp : ∀ H : Hp, Only H → SqL K H a (ns.map V.int) → sp [.ref a] H (fun v _ => v = .bl true) fun _ _ _ => False)
    (hCX : ∀ H e s', CX [] H s₁ (fun _ _ _ => False) e s' → False) :
    codeAny (model P w) callerA (.call (.ref fa) ⟨[.ref a], []⟩) (fun r s' => r = .ok (.ret (.bool true)) ∧ OldK s₁.heap s'.heap ∧ s'.os = s₁.os ∧ AllBare s'.gens) s₁ := by
  have rv := vals_ints hi
  have lenV := hi.length
  -- from an abstract heap in which nothing but the script may be tracked
  have core : ∀ H : Hp, Only H → SqL K H a (ns.map V.int) → HOk P w H s₁.heap → (∀ b, H b ≠ none → b = a) → (H a ≠ none → K.lookup a = none) →
      codeAny (model P w) callerA (.call (.ref fa) ⟨[.ref a], []⟩) (fun r s' => r = .ok (.ret (.bool true)) ∧ OldK s₁.heap s'.heap ∧ s'.os = s₁.os ∧ AllBare s'.gens) s₁ := by
    intro H hO hS hok hA hK
    have base_of : ∀ {b : Addr} {o : Obj}, s₁.heap.get? b = some o → H b = none → (hidT s₁.heap H).get? b = some o := fun e n => hidT_get e n
    have noA : ∀ {b : Addr} {o : Obj} {es : Array DictEntry} {ep : Nat}, s₁.heap.get? b = some o → o.data = .dict es ep → H b = none := fun {b o es ep} e d => by
      cases q : H b with
      | none => rfl
      | some u =>
        have e' : b = a := hA b (by rw [q]; simp)
        subst e'
        rw [ha] at e; cases e
        have d' : Data.seq vs.toArray _ = Data.dict es ep := d
        cases d'
    have nsK : ∀ {b : Addr} {m : Str → Option Value}, s₁.heap.Ns b m → (hidT s₁.heap H).Ns b m := fun {b m} ⟨o, es, ep, e, d, r⟩ => ⟨o, es, ep, base_of e (noA e d), d, r⟩
    have hKb : K.In (hidT s₁.heap H) := fun b o e => base_of (KX b o e) (by
      cases q : H b with
      | none => rfl
      | some u =>
        have e' : b = a := hA b (by rw [q]; simp)
        subst e'
        rw [hK (by rw [q]; simp)] at e; cases e)
    have hM : Mod K mg (hidT s₁.heap H) := ⟨hKb, nsK hns, ⟨mb, nsK hb, hbb⟩, let ⟨mc, h1, h2⟩ := hlim; ⟨mc, nsK h1, h2⟩⟩
    have e0 : Env0 P w K mg (hidT s₁.heap H) callerA [] s₁ H := ⟨rfl, hM, fun b o e => of_hidT e, Nat.le_of_eq (hidT_size _ _), trivial, fun b hb => absurd (show b ∈ ([] : List Addr) from hb) (by simp), hok, .of_eq hg⟩
    refine codeAny_mono ((F _ hKb (nsK hns)).run callerA [] s₁ H ⟨[.ref a], []⟩ [.ref a] [.ref a] _ _ hr e0 (hbind s₁ (.ref a)) (.cons rfl .nil) (hsp H hO hS)) fun r s' h => ?_
    cases r with
    | error e => exact (hCX H e s' h).elim
    | ok fl =>
      cases fl with
      | next => exact False.elim h
      | brk => exact False.elim h
      | cont => exact False.elim h
      | ret u =>
        obtain ⟨v, H', os, bare, un, hok', r', q⟩ := h
        have q' : v = .bl true := q
        subst q'
        obtain rfl : u = Value.bool true := r'
        refine ⟨rfl, OldK.of_keep fun b o e => ?_, os, bare⟩
        cases q : H b with
        | none => exact un.keep b o e q (by intro z; exact absurd (show b ∈ ([] : List Addr) from z) (by simp)) (by simp)
        | some u =>
          rcases hO b with z | ⟨ob, xs, z⟩
          · rw [q] at z; cases z
          · have z2 := un.frzs b ob _ z
            obtain ⟨e1, _⟩ := hok b _ z
            obtain ⟨e2, _⟩ := hok' b _ z2
            rw [e] at e1; cases e1
            exact e2
  cases hk : K.lookup a with
  | some o =>
    -- the script is one of the module's own objects
    have e := KX a o hk
    rw [ha] at e
    cases e
    refine core (fun _ => none) (fun _ => .inl rfl) (.inr ⟨_, vs.toArray, _, hk, rfl, rfl, rfl, by rw [List.size_toArray, lenV]; exact hl, by simpa using rv⟩) (fun b u z => by have z' : (none : Option HO) = some u := z; cases z') (fun b z => absurd rfl z) fun z => absurd rfl z
  | none =>
    refine core (fun b => if b = a then some (.frz { cls := .type "list", data := .seq vs.toArray } (.lst (ns.map V.int))) else none) (fun b => ?_) (.inl (.inr ⟨{ cls := .type "list", data := .seq vs.toArray }, if_pos rfl⟩)) (fun b u z => ?_) (fun b z => ?_) fun _ => hk
    · by_cases hb : b = a
      · exact .inr ⟨_, _, if_pos hb⟩
      · exact .inl (if_neg hb)
    · by_cases hb : b = a
      · have z' := (if_pos hb).symm.trans z
        cases z'
        subst hb
        exact ⟨ha, by rw [List.length_map]; exact hl, vs, _, rv, ha⟩
      · have z' := (if_neg hb).symm.trans z
        cases z'
    · by_cases hb : b = a
      · exact hb
      · exact absurd (if_neg hb) z
end L2

namespace L2
open PySem PySem.Spec PyProof.Rows

abbrev KOf {K : PySem.W.Frag} {h : Heap} (_ : K.In h) : PySem.W.Frag := K

end L2

/- THE LAST THEOREM (shape; LID, My.* are yours):
   My.Adr: a structure of the addresses that your layer names (classes, functions); My.Txt K t: a structure (Prop) of the equations over K;
   My.txt_mk : {K} {implicit addresses ..} (e1 : nsIn K mainGlobals "law" = some (some (.ref f))) (e2 : K.lookup f = some ⟨oc, od, .func (fnOf "law" "law" params body scope dV kV doc pm an cdv ct), sl⟩) (e3 : codeIn K cdv "law" = true) .. : ∃ t, My.Txt K t

set_option maxRecDepth 100000 in
set_option maxHeartbeats 0 in
theorem PySem.Challenge.cw_LID_holds : PySem.Challenge.rw_LID.Holds := by
  w_on; o_law; k_head; (case hw => w_witness2)
  k_fill
  refine L2.walk_of (l := PySem.Challenge.rw_LID) (n := 63) (k := 40) (x := "script") (CX := fun w => ..) (sp := fun _ => My.sp_law) rfl (by decide) rfl ⟨rfl, by decide, by decide⟩ (fun w h Y => PySem.W.kIn_of Y) ?F ?S ?C
  case F =>
    intro w mg fa h KX G hmg
    have T : ∃ t, My.Txt (L2.KOf KX) t := by
      dsimp only [L2.KOf]                          -- K must stand as «<heap const> w.params» for k_is
      refine' My.txt_mk ?e1 ?e2 ?e3 ..
      (case e1 => PySem.W.k_is)                    -- in the order: a name -> its address -> its object -> its parts
      (case e2 => PySem.W.k_is)
      ..
    obtain ⟨t, T⟩ := T
    have e0 := hmg.symm.trans (PySem.W.mg_of KX G T.law)
    cases e0                                       -- fa is the law's own address
    exact ⟨_, fun s u => .of_eq rfl, fun base kb nb => My.law_fn T kb nb⟩     -- if «.of_eq rfl» comes too early: refine' ⟨_, ?b, fun base kb nb => My.law_fn T kb nb⟩; exact fun s u => .of_eq rfl
  case S => exact fun w H a ns hl hO hS => ..
  case C => exact ..
(the tactic k_is has no namespace: write k_is) -/

/-! SHORT WORDS over the layer: a def of the text, its body, what a loop and a test want. -/
namespace L2
open PySem PySem.Spec PyProof.Rows

/-! ### the text by places -/
def defArgs (s : Stmt) : Arguments := match s with
  | .FunctionDef _ a _ _ _ _ _ _ _ _ => a
  | _ => { posonlyargs := [], args := [], vararg := none, kwonlyargs := [], kw_defaults := [], kwarg := none, defaults := [] }
def defBody (s : Stmt) : List Stmt := match s with
  | .FunctionDef _ _ b _ _ _ _ _ _ _ => b
  | _ => []
def defScope (s : Stmt) : Scope := match s with
  | .FunctionDef _ _ _ _ _ _ sc _ _ _ => sc
  | _ => { kind := .function, names := [], isGenerator := false, isCoroutine := false }

/-! ### no exception leaves a def -/
abbrev E0 : XK := fun _ _ _ => False
/-! ### a def (or method) of the text as it stands behind the top -/
structure Fun (K : PySem.W.Frag) (x qual : Str) (st : Stmt) (f : Addr) (fd : FuncData) : Prop where
  ex : ∃ (oc : Value) (od : Option Addr) (kV doc pm : Value) (an : Option Addr) (cdv ct : Value) (osl : Array (Option Value)),
    fd = PySem.W.fnOf x qual (defArgs st) (defBody st) (defScope st) .none kV doc pm an cdv ct ∧ K.lookup f = some ⟨oc, od, .func fd, osl⟩ ∧ PySem.W.codeIn K cdv qual = true
  kp : PySem.W.keepIn K (.ref f) = true
section
variable {P : Program} {w : World} {K : PySem.W.Frag} {mg : Str → Option Value} {base : Heap}
/-- how its arguments bind (no defaults): h is «fun _ _ _ _ _ _ us hl => match us, hl with | [_, _], _ => rfl», one _ a parameter -/
theorem Fun.binds {x qual : Str} {st : Stmt} {f : Addr} {fd : FuncData} {ps : List Str} (F : Fun K x qual st f fd)
    (h : ∀ (kV doc pm : Value) (an : Option Addr) (cdv ct : Value) (us : List Value), us.length = ps.length → bindArgs (PySem.W.fnOf x qual (defArgs st) (defBody st) (defScope st) .none kV doc pm an cdv ct) ⟨us, []⟩ = pure (ps.zip us)) : Binds K fd ps [] := by
  obtain ⟨oc, od, kV, doc, pm, an, cdv, ct, osl, rfl, lk, hcd⟩ := F.ex
  exact .all (h kV doc pm an cdv ct)
theorem fun_mk {x qual : Str} {st : Stmt} {f : Addr} {oc : Value} {od an : Option Addr} {osl : Array (Option Value)} {kV doc pm cdv ct : Value} (l : K.lookup f = some ⟨oc, od, .func (PySem.W.fnOf x qual (defArgs st) (defBody st) (defScope st) .none kV doc pm an cdv ct), osl⟩)
    (c : PySem.W.codeIn K cdv qual = true) (k : PySem.W.keepIn K (.ref f) = true) : Fun K x qual st f (PySem.W.fnOf x qual (defArgs st) (defBody st) (defScope st) .none kV doc pm an cdv ct) := ⟨⟨oc, od, kV, doc, pm, an, cdv, ct, osl, rfl, l, c⟩, k⟩
end
/-! ### expressions in short: the name that stands in the i-th slot -/
section
variable {X : Cx}
theorem pv (i : Nat) {x : Str} {pos : Pos} (hN : X.N[i]? = some x := by rfl) (hv : Vis X.env.scope x := by first | exact Or.inl rfl | exact Or.inr (Or.inl rfl) | exact Or.inr (Or.inr rfl)) (hd : (x == ("__debug__" : Str)) = false := by decide)
    (hcd : (x == ("__classdict__" : Str)) = false := by decide) : PE X (.Name x pos) (tVar i) := pe_var hN hv hd hcd
/-- len of a dict -/
theorem call_lenD : CallR X (.builtin "len") (fun xs H Q => ∃ a kvs, xs = [V.ref a] ∧ H a = some (.dK kvs) ∧ Q (.int kvs.length) H) := by
  intro pins s σ H xs us Q I r h
  obtain ⟨a, kvs, rfl, ha, q⟩ := h
  obtain ⟨u, rfl, ru⟩ := vals1 r
  cases ru
  exact d_len I (.inl ha) fun t s' I' => ⟨.int kvs.length, H, I', ⟨t, rfl⟩, q⟩
end

/-! ### tests -/
theorem iteF {A B : Prop} (h : B) : if false = true then A else B := by
  rw [if_neg Bool.false_ne_true]
  exact h
theorem iteT {A B : Prop} (h : A) : if true = true then A else B := by
  rw [if_pos rfl]
  exact h
theorem ite2 {c A B : Prop} [Decidable c] (h1 : c → A) (h2 : ¬ c → B) : if c then A else B := by
  by_cases h : c
  · rw [if_pos h]
    exact h1 h
  · rw [if_neg h]
    exact h2 h
/-! ### heaps -/
/-- all that was tracked is as it was -/
def Same (H H' : Hp) : Prop := ∀ b o, H b = some o → H' b = some o
theorem Same.trans {H H1 H2 : Hp} (a : Same H H1) (b : Same H1 H2) : Same H H2 := fun c o h => b c o (a c o h)
theorem Same.free {H H' : Hp} (e : Same H H') {l : Addr} (h : H' l = Option.none) : H l = Option.none := by
  cases q : H l with
  | none => rfl
  | some o =>
    rw [e l o q] at h
    cases h
theorem Same.seq {K : PySem.W.Frag} {H H' : Hp} {a : Addr} {xs : List V} (e : Same H H') (h : SqL K H a xs) : SqL K H' a xs := by
  rcases h with (h | ⟨o, h⟩) | h
  · exact .inl (.inl (e _ _ h))
  · exact .inl (.inr ⟨o, e _ _ h⟩)
  · exact .inr h

/-! ### a dict's pairs: keys that differ -/
section
variable {κ : Type} [DecidableEq κ]
theorem valV_not {kvs : List (κ × V)} {k : κ} (h : valV kvs k = none) : ¬ k ∈ kvs.map (·.1) := by
  intro m
  obtain ⟨p, hp, e⟩ := List.mem_map.mp m
  have q : (kvs.any fun kv => decide (kv.1 = k)) = true := List.any_eq_true.mpr ⟨p, hp, decide_eq_true e⟩
  rw [valV_any, h] at q
  exact absurd q (by simp)
theorem valV_in {kvs : List (κ × V)} {k : κ} {v : V} (h : valV kvs k = some v) : k ∈ kvs.map (·.1) := by
  have q : (kvs.any fun kv => decide (kv.1 = k)) = true := by
    rw [valV_any, h]
    all_goals rfl
  obtain ⟨p, hp, e⟩ := List.any_eq_true.mp q
  exact List.mem_map.mpr ⟨p, hp, of_decide_eq_true e⟩
end
end L2
set_option Elab.async false
set_option linter.all false
set_option maxRecDepth 100000
namespace L2
open PySem PySem.Spec PyProof.Rows

/-! ### refusals: how an exception lies behind a call -/
/-- the exception at ea, of the class cls, is on its way through the frames l; B: what stays through it all -/
structure FlyAt (P : Program) (w : World) (l : List Env) (H : Hp) (h0 : Heap) (H' : Hp) (h : Heap) (ea : Addr) (cls : Value) : Prop where
  un : Un (frs l) [] H H' h0 h
  hok : HOk P w H' h
  new : h0.get? ea = none
  fly : ∃ B a0, Heap.FlyingW B l ea cls a0 h ∧ (∀ b u o, H' b = some u → h.get? b = some o → B.get? b = some o) ∧ ∀ b o o', h0.get? b = some o → h.get? b = some o' → b ∉ frs l → B.get? b = some o'
def CXR (P : Program) (w : World) : CXT := fun outer H s E e s' => ∃ (H' : Hp) (ea : Addr) (cls : Value), e = .ref ea ∧ s'.os = s.os ∧ AllBare s'.gens ∧ FlyAt P w outer H s.heap H' s'.heap ea cls ∧ E cls none H'
theorem passR0 {P : Program} {w : World} {X : Cx} : Passes (CXR P w) X E0 := fun _ _ _ _ _ _ _ ⟨_, _, _, _, _, _, _, h⟩ => h.elim

/-! ### a def of the module, found by its name -/
/-- the def st stands under the name x -/
def Def (K : PySem.W.Frag) (mg : Str → Option Value) (x : Str) (st : Stmt) : Prop := ∃ f fd, mg x = some (.ref f) ∧ Fun K x x st f fd
/-- .. and keeps the promise sp -/
structure FnD (P : Program) (w : World) (K : PySem.W.Frag) (mg : Str → Option Value) (base : Heap) (k : Nat) (x : Str) (ps : List Str) (sp : Sp) : Prop where
  ex : ∃ f fd, mg x = some (.ref f) ∧ PySem.W.keepIn K (.ref f) = true ∧ Binds K fd ps [] ∧ FnOk P w K mg base (CXR P w) k f fd ps sp
theorem FnD.mono {P : Program} {w : World} {K : PySem.W.Frag} {mg : Str → Option Value} {base : Heap} {j k : Nat} {x : Str} {ps : List Str} {sp : Sp} (F : FnD P w K mg base j x ps sp) (h : j ≤ k) : FnD P w K mg base k x ps sp := by
  obtain ⟨f, fd, h1, h2, h3, h4⟩ := F.ex
  exact ⟨f, fd, h1, h2, h3, h4.mono h⟩
section
variable {P : Program} {w : World} {K : PySem.W.Frag} {mg : Str → Option Value} {base : Heap}
theorem Fun.okN {x qual : Str} {st : Stmt} {f : Addr} {fd : FuncData} {N ps : List Str} {k : Nat} {sp : Sp} (F : Fun K x qual st f fd) (S : FnScope N ps (defScope st)) (len : ∀ vs H Q E, sp vs H Q E → vs.length = ps.length)
    (hbody : ∀ (cdv : Value) (A : Around) (outer : List Env) (s : Shared) (H : Hp) (vs : List V) (Q : VK) (E : XK), Room k (A.deeper (envOfC qual (defScope st) s.heap.objs.size f cdv)) → sp vs H Q E →
      ∃ t, PSs (cxOf (CXR P w) P w K mg base N qual (defScope st) f cdv A outer s H E).nox (defBody st) t ∧ t { nx := fun _ H' => Q .non H', rt := Q } (start N vs) H) : FnOk P w K mg base (CXR P w) (k + 1) f fd ps sp := by
  obtain ⟨oc, od, kV, doc, pm, an, cdv, ct, osl, rfl, lk, hcd⟩ := F.ex
  refine fn_of lk hcd S len fun A outer s H vs Q E hr hsp => ?_
  obtain ⟨t, h, q⟩ := hbody cdv A outer s H vs Q E hr hsp
  exact ⟨t, h.nox, q⟩
/-- a def that refuses nothing -/
theorem Def.ok {x : Str} {st : Stmt} {N ps : List Str} {k : Nat} {sp : Sp} (D : Def K mg x st) (S : FnScope N ps (defScope st)) (len : ∀ vs H Q E, sp vs H Q E → vs.length = ps.length)
    (hb : ∀ (kV doc pm : Value) (an : Option Addr) (cdv ct : Value) (us : List Value), us.length = ps.length → bindArgs (PySem.W.fnOf x x (defArgs st) (defBody st) (defScope st) .none kV doc pm an cdv ct) ⟨us, []⟩ = pure (ps.zip us))
    (hbody : ∀ (f : Addr) (cdv : Value) (A : Around) (outer : List Env) (s : Shared) (H : Hp) (vs : List V) (Q : VK) (E : XK), Room k (A.deeper (envOfC x (defScope st) s.heap.objs.size f cdv)) → sp vs H Q E →
      ∃ t, PSs (cxOf (CXR P w) P w K mg base N x (defScope st) f cdv A outer s H E).nox (defBody st) t ∧ t { nx := fun _ H' => Q .non H', rt := Q } (start N vs) H) : FnD P w K mg base (k + 1) x ps sp := by
  obtain ⟨f, fd, hm, F⟩ := D
  refine ⟨f, fd, hm, F.kp, F.binds hb, ?_⟩
  obtain ⟨oc, od, kV, doc, pm, an, cdv, ct, osl, rfl, lk, hcd⟩ := F.ex
  refine fn_of lk hcd S len fun A outer s H vs Q E hr hsp => ?_
  obtain ⟨t, h, q⟩ := hbody f cdv A outer s H vs Q E hr hsp
  exact ⟨t, h.nox, q⟩
end
section
variable {X : Cx} {k : Nat} {ps : List Str} {sp : Sp} {E : XK} {x : Str} {p pos : Pos} {e : Expr} {es : List Expr} {t : TA}
/-- f(e, ..): a def of the module -/
theorem pe_callD (F : FnD X.prog X.w X.K X.mg X.base k x ps sp) (hr : Room k X.A) (hg : Gl X x) (hx : Passes (CXR X.prog X.w) X E) (ha : PA X (e :: es) t)
    (hdb : (x == ("__debug__" : Str)) = false := by decide) (he : starEach (e :: es) X.env = (false, eval e X.env) :: starEach es X.env := by rfl) (hpl : (backTo pos (starEach es X.env)).any (·.1) = false := by rfl) :
    PE X (.Call (.Name x p) (e :: es) [] pos) (tCall sp [] E t) := by
  obtain ⟨f, fd, h1, h2, h3, h4⟩ := F.ex
  exact pe_call h4 hr hg h1 h2 h3 .nil hx ha hdb he hpl
end
section
variable {X : Cx}
/-- isinstance(x, c), c a class (built in, or a class of the module) -/
def rIsi (K : PySem.W.Frag) : List V → Hp → VK → Prop := fun xs H Q => ∃ x c t b, xs = [x, c] ∧ TyOf K H x t ∧ ((∃ n, c = .ty n ∧ PySem.W.kitOne K t (.type n) = some b) ∨ ∃ a, c = .ref a ∧ PySem.W.kitOne K t (.ref a) = some b) ∧ Q (.bl b) H
theorem call_isi : CallR X (.builtin "isinstance") (rIsi X.K) := by
  intro pins s σ H xs us Q I r h
  obtain ⟨x, c, t, b, rfl, ty, hc, q⟩ := h
  obtain ⟨u, v, rfl, ru, rv⟩ := Vals.two r
  rcases hc with ⟨n, rfl, e⟩ | ⟨a, rfl, e⟩
  · cases (show v = Value.type n from rv)
    exact isinst_ok I ru ty e fun tk => ⟨.bl b, H, I.tok tk, rfl, q⟩
  · cases (show v = Value.ref a from rv)
    exact isinst_ok I ru ty e fun tk => ⟨.bl b, H, I.tok tk, rfl, q⟩
end
theorem bt_isinstance : bootBuiltins "isinstance" = some (.builtin "isinstance") := by decide +kernel
theorem bt_len : bootBuiltins "len" = some (.builtin "len") := by decide +kernel
theorem bt_int : bootBuiltins "int" = some (.type "int") := by decide +kernel
theorem bt_bool : bootBuiltins "bool" = some (.type "bool") := by decide +kernel
theorem bt_list : bootBuiltins "list" = some (.type "list") := by decide +kernel
theorem bt_tuple : bootBuiltins "tuple" = some (.type "tuple") := by decide +kernel
theorem bt_min : bootBuiltins "min" = some (.builtin "min") := by decide +kernel
theorem bt_max : bootBuiltins "max" = some (.builtin "max") := by decide +kernel
theorem bt_sum : bootBuiltins "sum" = some (.builtin "sum") := by decide +kernel
/-- the built-in names that the module doesn't lay over -/
structure Blt (mg : Str → Option Value) : Prop where
  isinstance : mg "isinstance" = none
  len : mg "len" = none
  int : mg "int" = none
  bool : mg "bool" = none
  str : mg "str" = none
  list : mg "list" = none
  tuple : mg "tuple" = none
  dict : mg "dict" = none
  range : mg "range" = none
  sorted : mg "sorted" = none
  min : mg "min" = none
  max : mg "max" = none
  all : mg "all" = none
  any : mg "any" = none
  enumerate : mg "enumerate" = none
  sum : mg "sum" = none
  ValueError : mg "ValueError" = none
theorem blt_mk {K : PySem.W.Frag} {h : Heap} {mg : Str → Option Value} (X : K.In h) (G : h.Ns mainGlobals mg)
    (z0 : PySem.W.nsIn K mainGlobals "isinstance" = some none)
    (z1 : PySem.W.nsIn K mainGlobals "len" = some none)
    (z2 : PySem.W.nsIn K mainGlobals "int" = some none)
    (z3 : PySem.W.nsIn K mainGlobals "bool" = some none)
    (z4 : PySem.W.nsIn K mainGlobals "str" = some none)
    (z5 : PySem.W.nsIn K mainGlobals "list" = some none)
    (z6 : PySem.W.nsIn K mainGlobals "tuple" = some none)
    (z7 : PySem.W.nsIn K mainGlobals "dict" = some none)
    (z8 : PySem.W.nsIn K mainGlobals "range" = some none)
    (z9 : PySem.W.nsIn K mainGlobals "sorted" = some none)
    (z10 : PySem.W.nsIn K mainGlobals "min" = some none)
    (z11 : PySem.W.nsIn K mainGlobals "max" = some none)
    (z12 : PySem.W.nsIn K mainGlobals "all" = some none)
    (z13 : PySem.W.nsIn K mainGlobals "any" = some none)
    (z14 : PySem.W.nsIn K mainGlobals "enumerate" = some none)
    (z15 : PySem.W.nsIn K mainGlobals "sum" = some none)
    (z16 : PySem.W.nsIn K mainGlobals "ValueError" = some none)
    : Blt mg := ⟨PySem.W.mg_none_of X G z0, PySem.W.mg_none_of X G z1, PySem.W.mg_none_of X G z2, PySem.W.mg_none_of X G z3, PySem.W.mg_none_of X G z4, PySem.W.mg_none_of X G z5, PySem.W.mg_none_of X G z6, PySem.W.mg_none_of X G z7, PySem.W.mg_none_of X G z8, PySem.W.mg_none_of X G z9, PySem.W.mg_none_of X G z10, PySem.W.mg_none_of X G z11, PySem.W.mg_none_of X G z12, PySem.W.mg_none_of X G z13, PySem.W.mg_none_of X G z14, PySem.W.mg_none_of X G z15, PySem.W.mg_none_of X G z16⟩
/-- a name of the module that holds an int -/
def MgInt (mg : Str → Option Value) (x : Str) (n : Int) : Prop := ∃ t, mg x = some (.int n t)
theorem mgInt_mk {K : PySem.W.Frag} {h : Heap} {mg : Str → Option Value} {x : Str} {n : Int} {t : Tok} (X : K.In h) (G : h.Ns mainGlobals mg) (z : PySem.W.nsIn K mainGlobals x = some (some (.int n t))) : MgInt mg x n := ⟨t, PySem.W.mg_of X G z⟩
theorem pe_gint {X : Cx} {x : Str} {n : Int} {pos : Pos} (h : MgInt X.mg x n) (hg : Gl X x) (hd : (x == ("__debug__" : Str)) = false := by decide) : PE X (.Name x pos) (tC (.int n)) := by
  obtain ⟨t, h⟩ := h
  exact pe_glob hg h ⟨t, rfl⟩ hd
theorem def_mk {K : PySem.W.Frag} {h : Heap} {mg : Str → Option Value} {x : Str} {st : Stmt} {f : Addr} {oc : Value} {od an : Option Addr} {osl : Array (Option Value)} {kV doc pm cdv ct : Value} (X : K.In h) (G : h.Ns mainGlobals mg)
    (a : PySem.W.nsIn K mainGlobals x = some (some (.ref f))) (l : K.lookup f = some ⟨oc, od, .func (PySem.W.fnOf x x (defArgs st) (defBody st) (defScope st) .none kV doc pm an cdv ct), osl⟩)
    (c : PySem.W.codeIn K cdv x = true) (k : PySem.W.keepIn K (.ref f) = true) : Def K mg x st := ⟨f, _, PySem.W.mg_of X G a, fun_mk l c k⟩
theorem law_F {P : Program} {w : World} {K : PySem.W.Frag} {mg : Str → Option Value} {st : Stmt} {fa : Addr} {k : Nat} {sp : Sp} {x : Str} (D : Def K mg "law" st) (hmg : mg "law" = some (.ref fa))
    (hb : ∀ (kV doc pm : Value) (an : Option Addr) (cdv ct u : Value), bindArgs (PySem.W.fnOf "law" "law" (defArgs st) (defBody st) (defScope st) .none kV doc pm an cdv ct) ⟨[u], []⟩ = pure [(x, u)])
    (ok : ∀ (base : Heap) (f : Addr) (fd : FuncData), Fun K "law" "law" st f fd → FnOk P w K mg base (CXR P w) k f fd [x] sp) :
    ∃ fd : FuncData, (∀ (s : Shared) (u : Value), BindsTo s fd ⟨[u], []⟩ [(x, u)]) ∧ ∀ base : Heap, K.In base → base.Ns mainGlobals mg → FnOk P w K mg base (CXR P w) k fa fd [x] sp := by
  obtain ⟨f, fd, hm, F⟩ := D
  rw [hm] at hmg
  cases hmg
  obtain ⟨oc, od, kV, doc, pm, an, cdv, ct, osl, rfl, lk, hcd⟩ := id F.ex
  exact ⟨_, fun s u => .of_eq (hb kV doc pm an cdv ct u), fun base _ _ => ok base _ _ F⟩
end L2
set_option Elab.async false
set_option linter.all false
set_option maxRecDepth 100000
namespace L2
open PySem PySem.Spec PyProof.Rows
/-! ### reading a block part by part: the rest behind a letter -/
/-- an equation that no rewriting uses -/
def Is {α : Sort _} (a b : α) : Prop := a = b
theorem Is.rfl {α : Sort _} {a : α} : Is a a := Eq.refl a
theorem seqI {t u : TS} {D : Ends} {σ : St} {H : Hp} (h : ∀ M, Is M (u D) → t { D with nx := M } σ H) : tSeq t u D σ H := h _ Is.rfl
/-- a loop over a list that is known when it begins -/
def LoopL (K : PySem.W.Frag) (a : Addr) (g : TG) (tb : TS) (D : Ends) (σ : St) (H : Hp) : Prop :=
  ∃ W : Nat → Nat → St → Hp → Prop, (∃ m, W 0 m σ H) ∧ ∀ i m σ H, W i m σ H →
      ((Itl K a).stop i H ∧ D.nx σ H) ∨ ((Itl K a).go i H ∧ ∃ N : St → Hp → Prop, (∀ σ' H', N σ' H' → ∃ m', m' < m ∧ W (i + 1) m' σ' H') ∧ ∀ x H', (Itl K a).yld i H x H' → g x σ H' fun σ2 H2 => tb { D with nx := N, ct := N, bk := D.nx } σ2 H2)
theorem forL {K : PySem.W.Frag} {tl : TE} {g : TG} {tb : TS} {D : Ends} {σ : St} {H : Hp}
    (h : ∀ L, Is L (fun a H1 => LoopL K a g tb D σ H1) → tl σ H fun x H1 => ∃ a, x = .ref a ∧ (∃ xs, SqL K H1 a xs) ∧ L a H1) : tFor (iList K tl) g tb D σ H := h _ Is.rfl
theorem loopL {K : PySem.W.Frag} {a : Addr} {g : TG} {tb : TS} {D : Ends} {σ : St} {H : Hp} (xs : List V) (Pv : Nat → St → Hp → Prop) (h0 : Pv 0 σ H) (hl : ∀ i σ H, i ≤ xs.length → Pv i σ H → SqL K H a xs)
    (hs : ∀ i x σ H, xs[i]? = some x → Pv i σ H → g x σ H fun σ2 H2 => tb { D with nx := Pv (i + 1), ct := Pv (i + 1), bk := D.nx } σ2 H2) (hd : ∀ σ H, Pv xs.length σ H → D.nx σ H) : LoopL K a g tb D σ H := for_list Pv h0 hl hs hd
def LoopR (lo : Int) (n : Nat) (g : TG) (tb : TS) (D : Ends) (σ : St) (H : Hp) : Prop :=
  ∃ W : Nat → Nat → St → Hp → Prop, (∃ m, W 0 m σ H) ∧ ∀ i m σ H, W i m σ H →
      ((Itr lo n).stop i H ∧ D.nx σ H) ∨ ((Itr lo n).go i H ∧ ∃ N : St → Hp → Prop, (∀ σ' H', N σ' H' → ∃ m', m' < m ∧ W (i + 1) m' σ' H') ∧ ∀ x H', (Itr lo n).yld i H x H' → g x σ H' fun σ2 H2 => tb { D with nx := N, ct := N, bk := D.nx } σ2 H2)
theorem forR1 {ta : TA} {g : TG} {tb : TS} {D : Ends} {σ : St} {H : Hp}
    (h : ∀ L, Is L (fun n H1 => LoopR 0 n g tb D σ H1) → ta σ H fun vs H1 => ∃ j : Int, vs = [.int j] ∧ -(2 ^ 62) ≤ j ∧ j < 2 ^ 62 ∧ L j.toNat H1) : tFor (iRng1 ta) g tb D σ H := h _ Is.rfl
theorem loopR {lo : Int} {n : Nat} {g : TG} {tb : TS} {D : Ends} {σ : St} {H : Hp} (Pv : Nat → St → Hp → Prop) (h0 : Pv 0 σ H)
    (hs : ∀ i σ H, i < n → Pv i σ H → g (.int (lo + i)) σ H fun σ2 H2 => tb { D with nx := Pv (i + 1), ct := Pv (i + 1), bk := D.nx } σ2 H2) (hd : ∀ σ H, Pv n σ H → D.nx σ H) : LoopR lo n g tb D σ H := for_range Pv h0 hs hd
theorem iteD {c : Prop} [Decidable c] {A B : Prop} (h1 : c → A) (h2 : ¬ c → B) : if decide c = true then A else B := by
  by_cases h : c
  · rw [decide_eq_true h]; exact iteT (h1 h)
  · rw [decide_eq_false h]; exact iteF (h2 h)
theorem same_upd {H : Hp} {a : Addr} {o : HO} (h : H a = none) : Same H (upd H a o) := fun b o' e => by rw [upd_ne (ne_of_none e h)]; exact e
end L2
set_option Elab.async false
set_option linter.all false
set_option maxRecDepth 100000
namespace L2
open PySem PySem.Spec PyProof.Rows
section
variable {X : Cx}
/-! ### items, where the list or tuple is one that is tracked -/
def rIxA : R2 := fun x y H Q => ∃ p i, x = .ref p ∧ y = .int i ∧ ((∃ xs, H p = some (.lst xs) ∧ ∃ v, atI xs i = some v ∧ Q v H) ∨ (∃ xs, H p = some (.tup xs) ∧ ∃ v, atI xs i = some v ∧ Q v H))
theorem ix_any : IxR X rIxA := by
  intro value slice pins s σ H x y v u Q I rx ry h hs
  obtain ⟨p, i, e1, e2, ⟨xs, hp, z, ha, q⟩ | ⟨xs, hp, z, ha, q⟩⟩ := h
  · exact ix_list value slice pins s σ H x y v u Q I rx ry ⟨p, xs, i, z, e1, e2, SqL.of hp, ha, q⟩ hs
  · exact ix_tup value slice pins s σ H x y v u Q I rx ry ⟨p, xs, i, z, e1, e2, SqT.of hp, ha, q⟩ hs
/-- len of what is tracked: a list, a tuple, a dict -/
def rLenA : List V → Hp → VK → Prop := fun xs H Q => ∃ p, xs = [.ref p] ∧ ((∃ ys, H p = some (.lst ys) ∧ Q (.int ys.length) H) ∨ (∃ ys, H p = some (.tup ys) ∧ Q (.int ys.length) H) ∨ (∃ kvs, H p = some (.dK kvs) ∧ Q (.int kvs.length) H))
theorem call_lenA : CallR X (.builtin "len") rLenA := by
  intro pins s σ H xs us Q I r h
  obtain ⟨p, e1, ⟨ys, hp, q⟩ | ⟨ys, hp, q⟩ | ⟨kvs, hp, q⟩⟩ := h
  · exact call_len_seq pins s σ H xs us Q I r ⟨p, ys, e1, .inl (SqL.of hp), q⟩
  · exact call_len_seq pins s σ H xs us Q I r ⟨p, ys, e1, .inr (SqT.of hp), q⟩
  · exact call_lenD pins s σ H xs us Q I r ⟨p, kvs, e1, hp, q⟩
theorem atI_0 {α : Type} {x : α} {xs : List α} : atI (x :: xs) 0 = some x := atI_nat (j := 0) rfl
theorem atI_1 {α : Type} {x y : α} {xs : List α} : atI (x :: y :: xs) 1 = some y := atI_nat (j := 1) rfl
theorem atI_2 {α : Type} {x y z : α} {xs : List α} : atI (x :: y :: z :: xs) 2 = some z := atI_nat (j := 2) rfl
theorem atI_3 {α : Type} {x y z t : α} {xs : List α} : atI (x :: y :: z :: t :: xs) 3 = some t := atI_nat (j := 3) rfl
theorem atI_4 {α : Type} {x y z t r : α} {xs : List α} : atI (x :: y :: z :: t :: r :: xs) 4 = some r := atI_nat (j := 4) rfl
/-- isinstance of plain values by built-in types, reckoned -/
def isiT (t n : String) : Option Bool := PySem.W.kitOne [] (.type t) (.type n)
/-- the kind of a value by what is tracked -/
def tyN (H : Hp) : V → Option String
  | .non => some "NoneType"
  | .bl _ => some "bool"
  | .int _ => some "int"
  | .str _ => some "str"
  | .ref a => match H a with
    | some (.lst _) => some "list"
    | some (.tup _) => some "tuple"
    | some (.dK _) => some "dict"
    | _ => none
  | _ => none
theorem tyN_ok {K : PySem.W.Frag} {H : Hp} {x : V} {t : String} (h : tyN H x = some t) : TyOf K H x (.type t) := by
  cases x with
  | non => cases h; exact .non
  | bl b => cases h; exact .bl b
  | int i => cases h; exact .int i
  | str i => cases h; exact .str i
  | ref a =>
    unfold tyN at h
    cases e : H a with
    | none => simp only [e] at h; cases h
    | some o =>
      simp only [e] at h
      cases o with
      | lst xs => cases h; exact .lst e
      | tup xs => cases h; exact .tup e
      | dK xs => cases h; exact .dK e
      | _ => cases h
  | _ => cases h
theorem kit_ty (K : PySem.W.Frag) (t n : String) : PySem.W.kitOne K (.type t) (.type n) = isiT t n := by
  unfold isiT PySem.W.kitOne PySem.W.kitCls PySem.W.subIn
  rfl
def rIsiN : List V → Hp → VK → Prop := fun xs H Q => ∃ x n t b, xs = [x, .ty n] ∧ tyN H x = some t ∧ isiT t n = some b ∧ Q (.bl b) H
theorem call_isiN : CallR X (.builtin "isinstance") rIsiN := by
  intro pins s σ H xs us Q I r h
  obtain ⟨x, n, t, b, e1, e2, e3, q⟩ := h
  exact call_isi pins s σ H xs us Q I r ⟨x, .ty n, .type t, b, e1, tyN_ok e2, .inl ⟨n, rfl, by rw [kit_ty]; exact e3⟩, q⟩
theorem isi_int_int : isiT "int" "int" = some true := rfl
theorem isi_int_bool : isiT "int" "bool" = some false := rfl
theorem isi_bool_bool : isiT "bool" "bool" = some true := rfl
theorem isi_list_list : isiT "list" "list" = some true := rfl
theorem isi_tuple_tuple : isiT "tuple" "tuple" = some true := rfl
theorem isi_none_tuple : isiT "NoneType" "tuple" = some false := rfl
/-! ### a list grows by one -/
end
section
variable {X : Cx} {o e : Expr} {to : TE} {t : TA} {apos pos : Pos}
end
/-! ### new objects, the heap behind a letter -/
end L2
set_option Elab.async false
set_option linter.all false
set_option maxRecDepth 100000
namespace L2
open PySem PySem.Spec PyProof.Rows

/-! ### refusals: raised, passed on, caught -/
theorem ObjOk.there {P : Program} {w : World} {H : Hp} {h : Heap} {a : Addr} {o : HO} (x : ObjOk P w H h a o) : ∃ u, h.get? a = some u := by
  cases o with
  | lst xs => obtain ⟨_, _, _, _, e⟩ := x; exact ⟨_, e⟩
  | tup xs => obtain ⟨_, _, _, o, e, _⟩ := x; exact ⟨_, e⟩
  | dK kvs => obtain ⟨_, _, _, _, o, _, _, e, _⟩ := x; exact ⟨_, e⟩
  | dT kvs => obtain ⟨_, _, _, _, o, _, _, e, _⟩ := x; exact ⟨_, e⟩
  | set S n => obtain ⟨o, _, _, _, e, _⟩ := x; exact ⟨_, e⟩
  | ins C dx fs => obtain ⟨_, _, _, e, _⟩ := x; exact ⟨_, e⟩
  | own y => obtain ⟨_, e⟩ := x; exact ⟨_, e⟩
  | xd fs => obtain ⟨_, ⟨_, _, _, e, _⟩, _⟩ := x; exact ⟨_, e⟩
  | rng lo hi => obtain ⟨_, _, _, e⟩ := x; exact ⟨_, e⟩
  | frz ob u => obtain ⟨e, _⟩ := x; exact ⟨_, e⟩
  | tbl ps => exact ⟨_, (show h.get? a = some _ from x)⟩
  | met f y => exact ⟨_, (show h.get? a = some _ from x)⟩
  | ext φ => obtain ⟨_, ⟨_, e⟩, _⟩ := x; exact ⟨_, e⟩

theorem fly_un {P : Program} {w : World} {l : List Env} {H H' : Hp} {h0 h h2 B : Heap} (un : Un (frs l) [] H H' h0 h) (hok : HOk P w H' h) (fr : h.FunFrames B l)
    (tr : ∀ b u o, H' b = some u → h.get? b = some o → B.get? b = some o) (kp : ∀ b o o', h0.get? b = some o → h.get? b = some o' → b ∉ frs l → B.get? b = some o') (st : B.StaysIn h2) (sm : h.UpToSlots h2) :
    Un (frs l) [] H H' h0 h2 ∧ HOk P w H' h2 := by
  refine ⟨⟨fun b o q n hb hx => ?_, fun b o q n hb hx => ?_, un.free, fun b o q hx => ?_, un.tups, un.frzs, un.tbls⟩, fun a o e => ?_⟩
  · exact st b o (kp b o o q (un.keep b o q n hb hx) hb)
  · obtain ⟨sl, e⟩ := un.slot b o q n hb hx
    obtain ⟨_, o', ho', hd⟩ := fr.mem hb
    rw [e] at ho'; cases ho'
    obtain ⟨sl', e'⟩ := sm b _ e hd
    exact ⟨sl', e'⟩
  · obtain ⟨o', e⟩ := un.there b o q hx
    by_cases hb : b ∈ frs l
    · obtain ⟨_, o2, ho2, hd⟩ := fr.mem hb
      obtain ⟨sl', e'⟩ := sm b _ ho2 hd
      exact ⟨_, e'⟩
    · exact ⟨o', st b o' (kp b o o' q e hb)⟩
  · refine (hok a o e).stay (fun b u hb q => ?_) (fun _ q => q) fun _ _ q => q
    rcases hb with rfl | hb
    · exact st b u (tr b _ u e q)
    · exact st b u (tr b _ u hb q)

section
variable {P : Program} {w : World} {K : PySem.W.Frag} {mg : Str → Option Value} {base : Heap} {N : List Str} {qual : Str} {scope : Scope} {f : Addr} {cd : Value} {A : Around} {outer : List Env} {s : Shared} {H : Hp} {E : XK}
theorem frs_cons {L : Addr} {env : Env} {l : List Env} (h : env.frame = some L) : frs (env :: l) = L :: frs l := by unfold frs; rw [List.filterMap_cons, h]
end
section
variable {P : Program} {w : World} {K : PySem.W.Frag} {mg : Str → Option Value} {base : Heap} {N : List Str} {qual : Str} {scope : Scope} {f : Addr} {cd : Value} {A : Around} {outer : List Env} {s : Shared} {H : Hp} {E : XK}
end
end L2
set_option Elab.async false
set_option linter.all false
set_option maxRecDepth 100000
namespace L2
open PySem PySem.Spec PyProof.Rows
/-! ### try .. except C as n -/
/-- within the suite of an except -/
abbrev Cx.caught (X : Cx) (ea : Addr) : Cx := { X with A := X.A.mark (some (.ref ea)), calm := false }
section
variable {X : Cx} {pins : List (Addr × Obj)} {σ : St} {H : Hp} {s : Shared}
theorem Inv.caught (I : Inv X pins σ H s) (ea : Addr) : Inv (X.caught ea) pins σ H s :=
  ⟨⟨I.ok.mod, I.ok.kind, I.ok.glob, I.ok.blt, I.ok.above, I.ok.inj, I.ok.has, I.ok.cab, (fun z => nomatch z), I.ok.frames, I.ok.stk, I.ok.exf, I.ok.bs, I.ok.bsz, I.ok.noex, I.ok.exfs, I.ok.funs, I.ok.frf⟩, I.os, I.bare, I.base, I.loc, I.cell, I.free, I.freeC, I.pin, I.hok, I.len⟩
end
section
variable {X : Cx}
end
end L2
set_option Elab.async false
set_option linter.all false
set_option maxRecDepth 100000
namespace PySem.W
open PySem PySem.Spec PySem.Calls PyProof.Rows Builtin Builtin.ObjectAttr Builtin.Getset_descriptor
section
variable {prog : Program} {w : World} {A : Around} {E : Value → Shared → Prop} {s : Shared} {K : Frag} {x C : Addr} {R : Result → Shared → Prop}
end
end PySem.W
set_option Elab.async false
set_option linter.all false
set_option maxRecDepth 100000
namespace L2
open PySem PySem.Spec PyProof.Rows
section
variable {X : Cx}
end
/-! ### a call within a try -/
section
variable {X : Cx} {k : Nat} {f C : Addr} {fd : FuncData} {ps : List Str} {sp : Sp} {x m : Str} {p pos apos : Pos} {e o : Expr} {es : List Expr} {ta : TE} {t : TA}
end
/-! ### isinstance of a caught exception -/
end L2
set_option Elab.async false
set_option linter.all false
set_option maxRecDepth 100000
namespace L2
open PySem PySem.Spec PyProof.Rows
/-! ### comprehensions -/
def closOf (cells : List (Str × Addr)) : List (Str × NameKind) → List (Str × Addr) → List (Str × Addr)
  | [], cs => cs
  | (n, k) :: r, cs => closOf cells r (if k == .free then (n, (cells.lookup n).getD 0) :: cs else cs)
theorem closureFor_eq {scope : Scope} {env : Env} (h : ∀ y ∈ scope.names, y.2 = .free → ∃ c, env.cells.lookup y.1 = some c) : closureFor scope env = pure (closOf env.cells scope.names []) := by
  simp only [closureFor]
  have all : ∀ (l : List (Str × NameKind)) (cs : List (Str × Addr)), (∀ y ∈ l, y.2 = .free → ∃ c, env.cells.lookup y.1 = some c) →
      (forIn l cs fun (x : Str × NameKind) (r : List (Str × Addr)) => match x with
        | (name, kind) => if (kind == NameKind.free) = true then do
            let __do_lift ← cellOf env name
            pure (ForInStep.yield ((name, __do_lift) :: r))
          else pure (ForInStep.yield r)) = (pure (closOf env.cells l cs) : Sem (List (Str × Addr))) := by
    intro l
    induction l with
    | nil => intro cs _; rfl
    | cons y r ih =>
      intro cs hy
      obtain ⟨n, k⟩ := y
      rw [List.forIn_cons]
      have hr : ∀ y ∈ r, y.2 = .free → ∃ c, env.cells.lookup y.1 = some c := fun y hm => hy y (List.mem_cons_of_mem _ hm)
      by_cases hk : k = .free
      · subst hk
        obtain ⟨c, hc⟩ := hy (n, .free) List.mem_cons_self rfl
        have hc' : env.cells.lookup n = some c := hc
        have e1 : cellOf env n = pure c := by unfold cellOf; rw [hc']
        simp only [beq_self_eq_true, if_true, e1, pure_bind]
        rw [ih _ hr]
        simp only [closOf, beq_self_eq_true, if_true, hc', Option.getD_some]
      · have hb : (k == NameKind.free) = false := by simpa using hk
        simp only [hb, Bool.false_eq_true, if_false, pure_bind]
        rw [ih _ hr]
        simp only [closOf, hb, Bool.false_eq_true, if_false]
  first
    | (rw [all scope.names [] h]; rfl)
    | (have := all scope.names [] h; simp only [this, pure_bind])
theorem closOf_sub {cells : List (Str × Addr)} : ∀ (l : List (Str × NameKind)) (cs : List (Str × Addr)) {y : Str} {c : Addr}, (closOf cells l cs).lookup y = some c → ((y, .free) ∈ l ∧ c = (cells.lookup y).getD 0) ∨ cs.lookup y = some c
  | [], _, _, _, h => .inr h
  | (n, k) :: r, cs, y, c, h => by
    rw [closOf] at h
    rcases closOf_sub r _ h with ⟨a, b⟩ | q
    · exact .inl ⟨List.mem_cons_of_mem _ a, b⟩
    · by_cases hk : k = .free
      · subst hk
        simp only [beq_self_eq_true, if_true, List.lookup_cons] at q
        by_cases hy : y = n
        · subst hy
          simp only [beq_self_eq_true] at q
          cases q
          exact .inl ⟨List.mem_cons_self, rfl⟩
        · have : (y == n) = false := by simpa using hy
          simp only [this] at q
          exact .inr q
      · have hb : (k == NameKind.free) = false := by simpa using hk
        simp only [hb, Bool.false_eq_true, if_false] at q
        exact .inr q
theorem closOf_keeps {cells : List (Str × Addr)} : ∀ (l : List (Str × NameKind)) (cs : List (Str × Addr)) {y : Str}, (∃ c, cs.lookup y = some c) ∨ (y, NameKind.free) ∈ l → ∃ c, (closOf cells l cs).lookup y = some c
  | [], _, _, h => by
    rcases h with h | h
    · exact h
    · cases h
  | (n, k) :: r, cs, y, h => by
    rw [closOf]
    refine closOf_keeps r _ ?_
    rcases h with ⟨c, h⟩ | h
    · refine .inl ?_
      split
      · rw [List.lookup_cons]
        split
        · exact ⟨_, rfl⟩
        · exact ⟨c, h⟩
      · exact ⟨c, h⟩
    · rcases List.mem_cons.mp h with e | e
      · cases e
        refine .inl ⟨(List.lookup n cells).getD 0, ?_⟩
        simp only [beq_self_eq_true, if_true, List.lookup_cons]
      · exact .inr e
/-- a comprehension's scope within a def's -/
structure CompSc (scope es : Scope) (x : Str) (N : List Str) : Prop where
  kind : scope.kind = .function
  cell : ∀ y ∈ scope.names, y.2 ≠ .cell
  nms : ∀ y ∈ scope.names, y.2 = .local → scope.names.lookup y.1 = some .local
  loc : scope.names.lookup x = some .local
  noe : scope.names.lookup ("" : Str) = none
  fre : ∀ y ∈ scope.names, y.2 = .free → es.names.lookup y.1 = some .cell ∨ es.names.lookup y.1 = some .free
  only : ∀ y ∈ scope.names, y.2 = .local → y.1 = x ∨ y.1 ∉ N
  nd : (x :: N.map fun y => if y = x then ("" : Str) else y).Nodup
theorem lookup_mem {α β : Type} [BEq α] [LawfulBEq α] : ∀ {l : List (α × β)} {x : α} {v : β}, l.lookup x = some v → (x, v) ∈ l
  | (n, k) :: r, x, v, h => by
    rw [List.lookup_cons] at h
    split at h
    · rename_i e; cases h; rw [eq_of_beq e]; exact List.mem_cons_self
    · exact List.mem_cons_of_mem _ (lookup_mem h)
theorem relabel_lookup {scope : Scope} {env : Env} : ∀ {l : List (Str × NameKind)} {y : Str} {k : NameKind}, (l.map fun (p : Str × NameKind) => match p with | (n, k) => if (k == .free && env.scope.kind == .function && env.kindOf n == some .cell) then (n, NameKind.cell) else (n, k)).lookup y = some k →
    l.lookup y = some k ∨ (k = .cell ∧ l.lookup y = some .free)
  | [], _, _, h => by simp at h
  | (n, k0) :: r, y, k, h => by
    rw [List.map_cons, List.lookup_cons] at h
    rw [List.lookup_cons]
    dsimp only at h
    split at h
    · rename_i e
      split at e
      · rename_i hc
        dsimp only at e h
        cases h
        have : k0 = .free := by simp only [Bool.and_eq_true, beq_iff_eq] at hc; exact hc.1.1
        subst this
        rw [e, if_pos hc]
        exact .inr ⟨rfl, rfl⟩
      · rename_i hc
        dsimp only at e h
        rw [e]
        rw [if_neg hc] at h
        exact .inl h
    · rename_i e
      have e' : (y == n) = false := by
        split at e <;> exact e
      rw [e']
      exact relabel_lookup (scope := scope) h
/-- what is wanted behind a comprehension's block -/
def compPostX (M : Model) (A : Around) (E : Value → Shared → Prop) (use : Option (Value → Sem Unit)) (Q : Value → Shared → Prop) (acc : Value) (cenv : Env) (r : Result) (s' : Shared) : Prop :=
  match r, use with
  | .ok _, none => ∃ m, s'.heap.Ns cenv.locals m ∧ ∀ h', Heap.SameBut cenv.locals s'.heap h' → Q acc { s' with heap := h' }
  | .ok _, some u => wpAny M A (u acc) (fun _ s'' => ∃ m, s''.heap.Ns cenv.locals m ∧ ∀ h', Heap.SameBut cenv.locals s''.heap h' → Q .none { s'' with heap := h' }) E s'
  | .error x, _ => ∃ m, s'.heap.Ns cenv.locals m ∧ ∀ h', Heap.SameBut cenv.locals s'.heap h' → wpAny M A (passOn "comprehension.variables-let-go" x cenv : Sem Value) (fun _ _ => False) E { s' with heap := h' }
theorem wpAny_comprehensionX {M : Model} {A : Around} {E : Value → Shared → Prop} {s : Shared} {env : Env} {e : Expr} {scope : Scope} {pos : Pos} {newAcc first : Sem Value} {g : Comprehension} {gs : List Comprehension} {cl : List (Str × Addr)} {use : Option (Value → Sem Unit)}
    {Q : Value → Shared → Prop}
    (hcl : clausesOf e = g :: gs) (hs : ∀ x, foldedSetIterable g.iter env x = pure x) (hclos : closureFor scope env = pure cl)
    (hkind : scope.kind = .function) (hnames : ∀ x ∈ scope.names, x.2 = .local → scope.names.lookup x.1 = some .local)
    (h : wpAny M A first (fun x s₁ => wpAny M A (pyIter x) (fun it s₂ => wpAny M A newAcc (fun acc s₃ =>
      wpAny M A (newFunctionEnv scope env.globals cl [] env.qual none .none (some env)) (fun cenv s₄ =>
        codeAny M A (.compStart e 0 it acc { cenv with scope := relabel scope env }) (compPostX M A E use Q acc { cenv with scope := relabel scope env }) s₄) E s₃) E s₂) E s₁) E s) :
    wpAny M A (comprehension e scope env pos newAcc false first use) Q E s := by
  unfold comprehension
  rw [hclos, hcl]
  refine wpAny_bind (wpAny_mono h (fun x s₁ h₁ => wpAny_bind (wpAny_standAt (wpAny_bind (wpAny_of_eq (hs x) (wpAny_bind (wpAny_holding (wpAny_mono h₁ (fun it s₂ h₂ =>
    wpAny_standIf (wpAny_bind (wpAny_mono h₂ (fun acc s₃ h₃ => wpAny_bind (wpAny_pure (wpAny_bind (wpAny_mono h₃ (fun cenv s₄ h₄ => ?_) fun _ _ h' => h')))) fun _ _ h' => h')))
      fun _ _ h' => h'))))))) fun _ _ h' => h')
  dsimp only
  have hv : ∀ x ∈ (scope.names.filter fun x => (x.2 == .local || x.2 == .cell) && x.1 != (".0" : Str)).reverse, x.2 = .local →
      Env.kindOf { cenv with scope := relabel scope env } x.1 = some .local := fun x hx hl => lookup_relabel_local (hnames x (List.mem_filter.mp (List.mem_reverse.mp hx)).1 hl)
  have hv' : ∀ x ∈ (scope.names.filter fun x => (x.2 == .local || x.2 == .cell) && x.1 != (".0" : Str)).reverse.drop 1 ++ (scope.names.filter fun x => (x.2 == .local || x.2 == .cell) && x.1 != (".0" : Str)).reverse.take 1,
      x.2 = .local → Env.kindOf { cenv with scope := relabel scope env } x.1 = some .local := fun x hx hl => by
    rcases List.mem_append.mp hx with h1 | h1
    · exact hv x (List.mem_of_mem_drop h1) hl
    · exact hv x (List.mem_of_mem_take h1) hl
  refine wpAny_holding (wpAny_bind (wpAny_attempt (wpAny_holding (wpAny_run (codeAny_mono h₄ fun r s' hr => ?_)))))
  cases r with
  | ok f =>
    cases use with
    | none =>
      obtain ⟨m, hn, hr⟩ := hr
      exact wpAny_bind (wpAny_holding (wpAny_comp_letGo (cenv := { cenv with scope := relabel scope env }) hkind _ s' m hv hn fun h' m' _ hs' => wpAny_pure (hr h' hs')))
    | some u =>
      refine wpAny_bind (wpAny_rule (wpAny_bind (wpAny_holding (wpAny_mono hr (fun _ s'' hr' => ?_) fun _ _ h' => h'))))
      obtain ⟨m, hn, hr'⟩ := hr'
      exact wpAny_bind (wpAny_comp_letGo (cenv := { cenv with scope := relabel scope env }) hkind _ s'' m hv' hn fun h' m' _ hs' => wpAny_pure (hr' h' hs'))
  | error x =>
    have hr' : ∃ m, s'.heap.Ns cenv.locals m ∧ ∀ h', Heap.SameBut cenv.locals s'.heap h' → wpAny M A (passOn "comprehension.variables-let-go" x { cenv with scope := relabel scope env } : Sem Value) (fun _ _ => False) E { s' with heap := h' } := by cases use <;> exact hr
    obtain ⟨m, hn, hr⟩ := hr'
    exact wpAny_bind (wpAny_holding (wpAny_comp_letGo (cenv := { cenv with scope := relabel scope env }) hkind _ s' m hv hn fun h' m' _ hs' => wpAny_mono (hr h' hs') (fun _ _ f => f.elim) fun _ _ y => y))
/-- the context of a comprehension's block -/
def Cx.comp (X : Cx) (scope : Scope) (x : Str) (pins : List (Addr × Obj)) (fp : List Addr) (s3 : Shared) (H3 : Hp) (E : Value → Shared → Prop) : Cx where
  prog := X.prog
  w := X.w
  K := X.K
  mg := X.mg
  base := X.base
  A := X.A
  N := x :: X.N.map fun y => if y = x then ("" : Str) else y
  s₀ := s3
  H₀ := H3
  env := compEnvC scope (closOf X.env.cells scope.names []) s3.heap.objs.size X.env
  outer := X.stack
  stack := X.stack
  ex := fp
  fn := fun _ => false
  calm := X.calm
  pn := X.pn ++ pins
  xe := E
section
variable {X : Cx} {pins : List (Addr × Obj)} {σ : St} {H3 : Hp} {s3 : Shared} {scope : Scope} {x : Str} {fp : List Addr} {E : Value → Shared → Prop}
theorem comp_kind {y : Str} (h : (compEnvC scope (closOf X.env.cells scope.names []) s3.heap.objs.size X.env).kindOf y = some .cell ∨ (compEnvC scope (closOf X.env.cells scope.names []) s3.heap.objs.size X.env).kindOf y = some .free) (hc : ∀ y ∈ scope.names, y.2 ≠ .cell) : (y, NameKind.free) ∈ scope.names := by
  rcases h with h | h
  · rcases relabel_lookup (scope := scope) (env := X.env) h with q | ⟨_, q⟩
    · exact absurd rfl (hc _ (lookup_mem q))
    · exact lookup_mem q
  · rcases relabel_lookup (scope := scope) (env := X.env) h with q | ⟨z, _⟩
    · exact lookup_mem q
    · cases z
theorem clos_cell (ok : X.Ok) (S : CompSc scope X.env.scope x X.N) {y : Str} {c : Addr} (h : (closOf X.env.cells scope.names []).lookup y = some c) : (y, NameKind.free) ∈ scope.names ∧ X.env.cells.lookup y = some c := by
  rcases closOf_sub scope.names [] h with ⟨a, b⟩ | q
  · obtain ⟨c', e⟩ := ok.has y (S.fre _ a rfl)
    rw [e] at b
    exact ⟨a, by rw [e, b]; rfl⟩
  · simp at q
theorem comp_ok (I : Inv X pins σ H3 s3) (S : CompSc scope X.env.scope x X.N) (hfp : ∀ b ∈ fp, FpOk X pins H3 b) (hfo : ∀ b ∈ fp, ∃ o, s3.heap.get? b = some o) : (X.comp scope x pins fp s3 H3 E).Ok where
  mod := I.ok.mod
  kind := S.kind
  glob := I.ok.glob
  blt := I.ok.blt
  above := Nat.le_refl _
  inj := fun y z c h1 h2 => I.ok.inj y z c (clos_cell I.ok S h1).2 (clos_cell I.ok S h2).2
  has := fun y h => closOf_keeps scope.names [] (.inr (comp_kind h S.cell))
  cab := fun _ _ h => nomatch h
  hd := I.ok.hd
  frames := I.ok.frames
  stk := .inl rfl
  exf := fun b hb => by
    obtain ⟨o, e⟩ := hfo b hb
    refine ⟨Nat.ne_of_lt (Heap.lt_size e), fun y c h => ?_⟩
    exact (hfp b hb).2.2.2.2.1 y c (clos_cell I.ok S h).2
  bs := I.bs
  bsz := Nat.le_trans I.ok.bsz I.sz
  noex := fun b o e hb => by
    rcases (hfp b hb).2.2.2.1 with z | z
    · exact I.ok.noex b o e z
    · exact absurd (Nat.lt_of_lt_of_le (Heap.lt_size e) (Nat.le_trans I.ok.bsz z)) (Nat.lt_irrefl _)
  exfs := fun b hb z => by
    rcases List.mem_cons.mp (I.stkSub b z) with q | q
    · exact (hfp b hb).2.1 q
    · exact (hfp b hb).2.2.1 q
  funs := I.stack
  frf := I.stkFree
/-- the block's first state -/
theorem comp_start {s4 : Shared} (I : Inv X pins σ H3 s3) (S : CompSc scope X.env.scope x X.N) (hfp : ∀ b ∈ fp, FpOk X pins H3 b) (hfo : ∀ b ∈ fp, ∃ o, s3.heap.get? b = some o) {m : Str → Option Value} (hn : s4.heap.Ns s3.heap.objs.size m) (kk : ∀ b o, s3.heap.get? b = some o → s4.heap.get? b = some o)
    (os : s4.os = s3.os) (bare : AllBare s4.gens) : Inv (X.comp scope x pins fp s3 H3 E) [] (none :: σ) H3 s4 := by
  refine ⟨comp_ok I S hfp hfo, os, bare, Un.kept kk, ⟨m, hn, fun i y v h1 h2 h3 => ?_⟩, fun y c h => ?_, I.hok.fresh (Nat.le_refl _), fun y c h => I.freeC y c (clos_cell I.ok S h).2, fun p hp => ?_, I.hok.kept kk, ?_⟩
  · cases i with
    | zero => cases h2
    | succ i =>
      have h1' : (X.N.map fun y => if y = x then ("" : Str) else y)[i]? = some y := h1
      have h2' : σ[i]? = some (some v) := h2
      rw [List.getElem?_map] at h1'
      cases hN : X.N[i]? with
      | none => rw [hN] at h1'; cases h1'
      | some z =>
        rw [hN] at h1'
        have h1'' : (if z = x then ("" : Str) else z) = y := Option.some.inj h1'
        have vis : ∀ y, Vis (relabel scope X.env) y → y ≠ ("" : Str) := fun y hv e => by
          subst e
          have no : ∀ k, (relabel scope X.env).names.lookup ("" : Str) = some k → False := fun k h => by
            rcases relabel_lookup (scope := scope) (env := X.env) h with q | ⟨_, q⟩ <;> (rw [S.noe] at q; cases q)
          rcases hv with q | q | q <;> exact no _ q
        have hz : z ≠ x := fun e => by rw [if_pos e] at h1''; exact vis y h3 h1''.symm
        rw [if_neg hz] at h1''
        subst h1''
        -- z is seen by the block, and is no local of it: it is free there
        have hf : (z, NameKind.free) ∈ scope.names ∨ (relabel scope X.env).names.lookup z = some .local := by
          rcases h3 with q | q | q
          · exact .inr q
          · exact .inl (comp_kind (X := X) (s3 := s3) (.inl q) S.cell)
          · exact .inl (comp_kind (X := X) (s3 := s3) (.inr q) S.cell)
        have hfr : (z, NameKind.free) ∈ scope.names := by
          rcases hf with q | q
          · exact q
          · rcases relabel_lookup (scope := scope) (env := X.env) q with q | ⟨e, _⟩
            · rcases S.only _ (lookup_mem q) rfl with e | e
              · exact absurd e hz
              · exact absurd (List.mem_of_getElem? hN) e
            · cases e
        have hnl : (relabel scope X.env).names.lookup z ≠ some .local := fun q => by
          rcases relabel_lookup (scope := scope) (env := X.env) q with q | ⟨e, _⟩
          · rcases S.only _ (lookup_mem q) rfl with e | e
            · exact absurd e hz
            · exact absurd (List.mem_of_getElem? hN) e
          · cases e
        have hk := S.fre _ hfr rfl
        obtain ⟨m0, hn0, hl0⟩ := I.loc
        obtain ⟨u, r, l⟩ := hl0 i z v hN h2' (hk.elim (fun q => .inr (.inl q)) fun q => .inr (.inr q))
        refine ⟨u, r, .inr ⟨?_, ?_⟩⟩
        · rcases h3 with q | q | q
          · exact absurd q hnl
          · exact .inl q
          · exact .inr q
        · rcases l with ⟨k, _⟩ | ⟨_, c, e, hc⟩
          · have k' : X.env.scope.names.lookup z = some .local := k
            rcases hk with q | q <;> (rw [show List.lookup z X.env.scope.names = _ from k'] at q; cases q)
          · obtain ⟨c', e'⟩ := closOf_keeps (cells := X.env.cells) scope.names [] (.inr hfr)
            have := (clos_cell I.ok S e').2
            rw [e] at this; cases this
            obtain ⟨o, ho, hd⟩ := hc
            exact ⟨c, e', o, kk _ _ ho, hd⟩
  · obtain ⟨v, o, ho, hd⟩ := I.cell y c (clos_cell I.ok S h).2
    exact ⟨v, o, kk _ _ ho, hd⟩
  · have hp' : p ∈ X.pn ++ pins := by simpa [Cx.comp] using hp
    obtain ⟨a, b, c, d, e⟩ := I.pin p hp'
    refine ⟨kk _ _ a, b, Nat.ne_of_lt (Heap.lt_size a), fun z => ?_, e⟩
    rcases List.mem_cons.mp (I.stkSub _ z) with q | q
    · exact c q
    · exact d q
  · show (none :: σ).length = (x :: X.N.map fun y => if y = x then ("" : Str) else y).length
    rw [List.length_cons, List.length_cons, List.length_map, I.len]
end
end L2
set_option Elab.async false
set_option linter.all false
set_option maxRecDepth 100000
namespace L2
open PySem PySem.Spec PyProof.Rows
theorem fly_unX {P : Program} {w : World} {l : List Env} {ex : List Addr} {H H' : Hp} {h0 h h2 B : Heap} (un : Un (frs l) ex H H' h0 h) (hok : HOk P w H' h) (fr : h.FunFrames B l)
    (tr : ∀ b u o, H' b = some u → h.get? b = some o → B.get? b = some o) (kp : ∀ b o o', h0.get? b = some o → h.get? b = some o' → b ∉ frs l → b ∉ ex → B.get? b = some o') (st : B.StaysIn h2)
    (sm : ∀ b ∈ frs l, ∀ o, h.get? b = some o → (∀ vs, o.data ≠ .fields vs) → ∃ sl, h2.get? b = some { o with slots := sl }) : Un (frs l) ex H H' h0 h2 ∧ HOk P w H' h2 := by
  refine ⟨⟨fun b o q n hb hx => ?_, fun b o q n hb hx => ?_, un.free, fun b o q hx => ?_, un.tups, un.frzs, un.tbls⟩, fun a o e => ?_⟩
  · exact st b o (kp b o o q (un.keep b o q n hb hx) hb hx)
  · obtain ⟨sl, e⟩ := un.slot b o q n hb hx
    obtain ⟨_, o', ho', hd⟩ := fr.mem hb
    rw [e] at ho'; cases ho'
    obtain ⟨sl', e'⟩ := sm b hb _ e hd
    exact ⟨sl', e'⟩
  · obtain ⟨o', e⟩ := un.there b o q hx
    by_cases hb : b ∈ frs l
    · obtain ⟨_, o2, ho2, hd⟩ := fr.mem hb
      obtain ⟨sl', e'⟩ := sm b hb _ ho2 hd
      exact ⟨_, e'⟩
    · exact ⟨o', st b o' (kp b o o' q e hb hx)⟩
  · refine (hok a o e).stay (fun b u hb q => ?_) (fun _ q => q) fun _ _ q => q
    rcases hb with rfl | hb
    · exact st b u (tr b _ u e q)
    · exact st b u (tr b _ u hb q)
/-- an exception that this frame has noted already -/
def HXR (X : Cx) (E : XK) : Value → Shared → Prop := fun e s'' => ∃ (pins : List (Addr × Obj)) (σ : St) (H' : Hp) (ea : Addr) (cls a0 : Value) (B : Heap), Inv X pins σ H' s'' ∧ e = .ref ea ∧ X.s₀.heap.get? ea = none ∧ Heap.HeldW B X.stack ea cls a0 X.env.locals s''.heap ∧
  (∀ b u o, H' b = some u → s''.heap.get? b = some o → B.get? b = some o) ∧ (∀ b o o', X.s₀.heap.get? b = some o → s''.heap.get? b = some o' → b ∉ frs X.stack → B.get? b = some o') ∧ E cls none H'
section
variable {P : Program} {w : World} {K : PySem.W.Frag} {mg : Str → Option Value} {base : Heap} {N : List Str} {qual : Str} {scope : Scope} {f : Addr} {cd : Value} {A : Around} {outer : List Env} {s : Shared} {H : Hp} {E : XK}
end
theorem funFrames_same {C : Addr} {h h' base : Heap} (hs : Heap.SameBut C h h') : ∀ {l : List Env}, (∀ b ∈ frs l, b ≠ C) → h.FunFrames base l → h'.FunFrames base l
  | [], _, _ => trivial
  | env :: l, hc, ⟨hk, ⟨L, o, hf, hn, ho, hd⟩, hr⟩ => ⟨hk, ⟨L, o, hf, hn, (hs.2 L (hc L (by rw [frs_cons hf]; exact List.mem_cons_self))).trans ho, hd⟩, funFrames_same hs (fun b hb => hc b (by rw [frs_cons hf]; exact List.mem_cons_of_mem _ hb)) hr⟩
theorem setFlight_held {M : Model} {A : Around} {E : Value → Shared → Prop} {s : Shared} {base : Heap} {l : List Env} {e L : Addr} {cls a0 : Value} {Q : Unit → Shared → Prop} (R : Heap.HeldW base l e cls a0 L s.heap)
    (h : ∀ h', Heap.HeldW base l e cls a0 L h' → s.heap.UpToSlots h' → Q () { s with heap := h' }) : wpAny M A (setFlight (.ref e) (some L)) Q E s := by
  obtain ⟨hkb, hen, hl, oe, vs, T, oT, ts, he, hcls, hd, h1, hnT, hTe, hT, hdT, h3⟩ := R
  have hsz3 : 3 < ts.size := (Array.getElem?_eq_some_iff.mp h3).1
  have other : ∀ b, b ≠ T → (s.heap.update T (Obj.mapFields (·.setIfInBounds 3 ((some L).elim Value.none fun f => rawInt f)))).get? b = s.heap.get? b :=
    fun b hb => Heap.get?_update_other _ _ (Ne.symm hb)
  have noRecord : ∀ b o, s.heap.get? b = some o → (∀ vs, o.data ≠ .fields vs) → b ≠ T := fun b o hb hnf q => by
    rw [q, hT] at hb; injection hb with hb; subst hb; exact hnf ts hdT
  unfold setFlight
  refine wpAny_bind (wpAny_field he hd h1 ?_)
  rw [if_pos (show (Value.ref T != Value.none) = true from by simp)]
  refine wpAny_setField hT hdT hsz3 (h _ ⟨fun b o hbo => (other b fun q => by rw [q, hnT] at hbo; cases hbo).trans (hkb b o hbo), hen,
    hl.of_keeps fun b o hb hnf => ⟨o, (other b (noRecord b o hb hnf)).trans hb, rfl⟩, ?_⟩ fun b o hb hnf => ⟨o.slots, (other b (noRecord b o hb hnf)).trans hb⟩)
  exact ⟨oe, vs, T, _, _, (other e (Ne.symm hTe)).trans he, hcls, hd, h1, hnT, hTe, Heap.get?_update_self _ hT (Obj.isFreed_of_fields (Obj.data_mapFields hdT _)), Obj.data_mapFields hdT _, by simp [hsz3]⟩
theorem passOn_held {α : Type} {M : Model} {A : Around} {E : Value → Shared → Prop} {s : Shared} {base : Heap} {l : List Env} {e L : Addr} {cls a0 : Value} {what : String} {env : Env} {Q : α → Shared → Prop} (hf : env.frame = some L) (R : Heap.HeldW base l e cls a0 L s.heap)
    (h : ∀ h', Heap.HeldW base l e cls a0 L h' → s.heap.UpToSlots h' → E (.ref e) { s with heap := h' }) : wpAny M A (PySem.passOn what (.ref e) env : Sem α) Q E s := by
  obtain ⟨_, _, _, oe, vs, T, oT, ts, he, hcls, hd, h1, _⟩ := id R
  unfold PySem.passOn
  refine wpAny_bind (wpAny_field he hd h1 ?_)
  rw [if_neg (show ¬ ((Value.ref T == Value.none) = true) from by simp), hf]
  first
    | exact wpAny_bind (wpAny_pure (wpAny_bind (setFlight_held R fun h' hh hs => wpAny_throw (h h' hh hs))))
    | exact wpAny_bind (setFlight_held R fun h' hh hs => wpAny_throw (h h' hh hs))
/-- the record where the block keeps its names turns: what is held stays so, over a base without it -/
theorem held_same {C L e : Addr} {h h' B : Heap} {l : List Env} {cls a0 : Value} {m : Str → Option Value} (R : Heap.HeldW B l e cls a0 L h) (hn : h.Ns C m) (hc : ∀ b ∈ frs l, b ≠ C) (hs : Heap.SameBut C h h') : Heap.HeldW (PySem.W.hideAll B [C]) l e cls a0 L h' := by
  have hB : (PySem.W.hideAll B [C]).StaysIn B := fun b o q => PySem.W.of_hideAll _ q
  obtain ⟨f1, f2, f3, oe, vs, T, oT, ts, a1, a2, a3, a4, a5, a6, a7, a8, a9⟩ := PySem.W.heldW_base hB R
  obtain ⟨oC, es, ep, hoC, hdC, _⟩ := hn
  have ne : e ≠ C := fun z => by rw [z, hoC] at a1; cases a1; rw [hdC] at a3; cases a3
  have nT : T ≠ C := fun z => by rw [z, hoC] at a7; cases a7; rw [hdC] at a8; cases a8
  refine ⟨fun b o q => ?_, f2, funFrames_same hs hc f3, oe, vs, T, oT, ts, (hs.2 e ne).trans a1, a2, a3, a4, a5, a6, (hs.2 T nT).trans a7, a8, a9⟩
  have nb : b ≠ C := fun z => by rw [z, PySem.W.hideAll_none _ (by simp)] at q; cases q
  exact (hs.2 b nb).trans (f1 b o q)
section
variable {X : Cx} {pins : List (Addr × Obj)} {σ : St} {H3 : Hp} {s3 : Shared} {scope : Scope} {x : Str} {fp : List Addr}
/-- the block's own wish of exceptions -/
abbrev XC (Xb : Cx) (E : XK) : Value → Shared → Prop := fun e s' => ∃ (pins' : List (Addr × Obj)) (σ' : St) (H1 : Hp) (s1 : Shared), Inv Xb pins' σ' H1 s1 ∧ CXR Xb.prog Xb.w Xb.stack H1 s1 E e s'
theorem noteFrame_eq {e : Value} {env env' : Env} (h : env.frame = env'.frame) : noteFrame e env = noteFrame e env' := by
  unfold noteFrame PySem.frameOf
  rw [h]
/-- what leaves the block leaves the def -/
theorem comp_raised {E : XK} {Q : Value → Shared → Prop} {use : Option (Value → Sem Unit)} {acc : Value} {cenv : Env} {e : Value} {s' : Shared} (hst : X.stack = X.env :: X.outer) (hf : X.env.frame = some X.env.locals) (hex : X.ex = []) (I : Inv X pins σ H3 s3)
    (hfp : ∀ b ∈ fp, FpOk X pins H3 b) (hxh : ∀ e s, HXR X E e s → X.xe e s) (hcf : cenv.frame = X.env.frame) (hcl : cenv.locals = s3.heap.objs.size) (h : XC (X.comp scope x pins fp s3 H3 fun _ _ => False) E e s') :
    notedBy (model X.prog X.w) X.A cenv (fun x s'' => compPostX (model X.prog X.w) X.A X.xe use Q acc cenv (.error x) s'') e s' := by
  obtain ⟨pins', σ', H1, s1, Ib, H', ea, cls, rfl, os, bare, fl, hE⟩ := h
  have fl : FlyAt X.prog X.w X.stack H1 s1.heap H' s'.heap ea cls := fl
  have osb : s1.os = s3.os := Ib.os
  have unb : Un (frs X.stack) fp H3 H1 s3.heap s1.heap := Ib.base
  obtain ⟨B, a0, hfl, tr, kp⟩ := fl.fly
  have fr := hfl.2.2.1
  have hfl' : Heap.FlyingW B (X.env :: X.outer) ea cls a0 s'.heap := by rw [← hst]; exact hfl
  have nfr : ∀ b ∈ frs X.stack, b ≠ s3.heap.objs.size := fun b hb z => by
    obtain ⟨_, o, ho, _⟩ := I.stack.mem hb
    exact absurd (Heap.lt_size ho) (by rw [z]; exact Nat.lt_irrefl _)
  show wpAny _ _ (noteFrame _ cenv) _ _ _
  rw [noteFrame_eq hcf]
  refine wpAny_looks_onW (by rw [I.ok.frames, hst]) hf hfl' fun h4 hh4 sm4 => ?_
  obtain ⟨m1, hn1, _⟩ := Ib.loc
  have hn1 : s1.heap.Ns s3.heap.objs.size m1 := hn1
  obtain ⟨un4, hok4⟩ := fly_un fl.un fl.hok fr tr kp hh4.1 sm4
  have hC1 : H1 s3.heap.objs.size = none := Ib.free
  have hC' : H' s3.heap.objs.size = none := by
    obtain ⟨o, _, _, ho, _⟩ := hn1
    exact fl.un.free _ o ho hC1 (by intro z; cases z)
  have hn4 : h4.Ns s3.heap.objs.size m1 := hn1.at' fun o ho => un4.keep _ o ho hC1 (fun z => nfr _ z rfl) (by intro z; cases z)
  refine ⟨m1, by rw [hcl]; exact hn4, fun h' hs' => ?_⟩
  rw [hcl] at hs'
  have hh' : Heap.HeldW (PySem.W.hideAll B [s3.heap.objs.size]) X.stack ea cls a0 X.env.locals h' := held_same (by rw [hst]; exact hh4) hn4 nfr hs'
  refine passOn_held (s := { s' with heap := h' }) (hcf.trans hf) hh' fun h2 hh2 sm2 => ?_
  have hB : ∀ b o, B.get? b = some o → b ≠ s3.heap.objs.size → (PySem.W.hideAll B [s3.heap.objs.size]).get? b = some o := fun b o q n => PySem.W.hideAll_get _ q (by simpa using n)
  have tr' : ∀ b u o, H' b = some u → s'.heap.get? b = some o → (PySem.W.hideAll B [s3.heap.objs.size]).get? b = some o := fun b u o q qo => hB b o (tr b u o q qo) fun z => by rw [z, hC'] at q; cases q
  have kp' : ∀ b o o', s3.heap.get? b = some o → s'.heap.get? b = some o' → b ∉ frs X.stack → b ∉ fp → (PySem.W.hideAll B [s3.heap.objs.size]).get? b = some o' := fun b o o' q q' hb hx => by
    obtain ⟨o1, e1⟩ := unb.there b o q hx
    exact hB b o' (kp b o1 o' e1 q' hb) (Nat.ne_of_lt (Heap.lt_size q))
  have fr' : s'.heap.FunFrames (PySem.W.hideAll B [s3.heap.objs.size]) X.stack := PySem.W.funFrames_base (fun b o q => PySem.W.of_hideAll _ q) fr
  have sm' : ∀ b ∈ frs X.stack, ∀ o, s'.heap.get? b = some o → (∀ vs, o.data ≠ .fields vs) → ∃ sl, h2.get? b = some { o with slots := sl } := fun b hb o q hd => by
    obtain ⟨sl, e⟩ := sm4 b o q hd
    have e' : h'.get? b = some { o with slots := sl } := (hs'.2 b (nfr b hb)).trans e
    obtain ⟨sl2, e2⟩ := sm2 b _ e' hd
    exact ⟨sl2, e2⟩
  have unA : Un (frs X.stack) fp H3 H' s3.heap s'.heap := unb.trans (fl.un.mono (fun _ z => z) (fun _ z => nomatch z))
  obtain ⟨un2, hok2⟩ := fly_unX unA fl.hok fr' tr' kp' hh2.1 sm'
  have I2 : Inv X pins σ H' { s' with heap := h2 } := I.call' (s' := { s' with heap := h2 }) (ch := fp) (os.trans osb) un2 hok2 bare fun b hb => ⟨(hfp b hb).2.2.2.1, (hfp b hb).2.1, (hfp b hb).2.2.2.2.1, (hfp b hb).2.2.2.2.2⟩
  have nx : ∀ b o, X.s₀.heap.get? b = some o → b ∉ fp := fun b o q z => by
    rcases (hfp b z).2.2.2.1 with y | y
    · rw [hex] at y; cases y
    · exact absurd (Nat.lt_of_lt_of_le (Heap.lt_size q) y) (Nat.lt_irrefl _)
  have in3 : ∀ b o, X.s₀.heap.get? b = some o → ∃ o', s3.heap.get? b = some o' := fun b o q => I.base.there b o q (by rw [hex]; intro z; cases z)
  refine hxh _ _ ⟨pins, σ, H', ea, cls, a0, _, I2, rfl, ?_, hh2, fun b u o q qo => ?_, fun b o o2 q q2 hb => ?_, hE⟩
  · cases q : X.s₀.heap.get? ea with
    | none => rfl
    | some o =>
      obtain ⟨o3, e3⟩ := in3 ea o q
      obtain ⟨o1, e1⟩ := unb.there ea o3 e3 (nx ea o q)
      rw [fl.new] at e1; cases e1
  · obtain ⟨o', e'⟩ := (fl.hok b u q).there
    have h1 := tr' b u o' q e'
    have h2' := hh2.1 b o' h1
    rw [qo] at h2'; cases h2'; exact h1
  · obtain ⟨o3, e3⟩ := in3 b o q
    obtain ⟨o1, e1⟩ := unA.there b o3 e3 (nx b o q)
    have h1 := kp' b o3 o1 e3 e1 hb (nx b o q)
    have h2' := hh2.1 b o1 h1
    rw [q2] at h2'; cases h2'; exact h1
end
end L2
namespace L2
open PySem PySem.Spec PyProof.Rows
/-- [elt for x in .. if ..]: p the new list, W the invariant by the turn, a measure, what is gathered -/
def tComp (wi : TI) (tt : TT) (te : TE) : TE := fun σ H Q => wi σ H fun J H1 => ∀ p, H1 p = none → ∃ W : Nat → Nat → List V → Hp → Prop, (∃ m, W 0 m [] (upd H1 p (.lst []))) ∧ ∀ i m acc H2, W i m acc H2 →
  H2 p = some (.lst acc) ∧ ((J.stop i H2 ∧ Q (.ref p) H2) ∨ (J.go i H2 ∧ ∃ N : List V → Hp → Prop, (∀ acc' H', N acc' H' → ∃ m', m' < m ∧ W (i + 1) m' acc' H') ∧ ∀ x H3, J.yld i H2 x H3 → tt (some x :: σ) H3 fun b H4 =>
    if b = true then te (some x :: σ) H4 fun v H5 => H5 p = some (.lst acc) ∧ acc.length < sizeLine ∧ N (acc ++ [v]) (upd H5 p (.lst (acc ++ [v]))) else N acc H4))
def tYes : TT := fun _ H Q => Q true H
/-- the tests of a comprehension -/
def PTs (X : Cx) (ifs : List Expr) (t : TT) : Prop :=
  ∀ (pins : List (Addr × Obj)) (s : Shared) (σ : St) (H : Hp) (Q : Bool → Hp → Prop), Inv X pins σ H s → t σ H Q → wpAny (model X.prog X.w) X.A (forIn ifs true fun c r => if r = true then do let ok ← isTrue c X.env (eval c X.env); pure (ForInStep.yield ok) else pure (ForInStep.yield r)) (TP X pins σ Q) X.xe s
theorem pts_nil {X : Cx} : PTs X [] tYes := fun pins s σ H Q I h => wpAny_tests_nil ⟨H, I, h⟩
theorem pts_one {X : Cx} {c : Expr} {t : TT} (h : PT X c t) : PTs X [c] t := fun pins s σ H Q I q => wpAny_tests_one (h pins s σ H Q I q)
section
variable {X : Cx} {pins : List (Addr × Obj)} {σ : St} {H3 : Hp} {s3 : Shared} {scope : Scope} {x : Str} {fp : List Addr}
theorem comp_fp {E : Value → Shared → Prop} {H' : Hp} (I : Inv X pins σ H3 s3) (S : CompSc scope X.env.scope x X.N) (hfp : ∀ b ∈ fp, FpOk X pins H3 b) (hfo : ∀ b ∈ fp, ∃ o, s3.heap.get? b = some o) (hn : ∀ b ∈ fp, H' b = none) : ∀ b ∈ fp, FpOk (X.comp scope x pins fp s3 H3 E) [] H' b := fun b hb => by
  obtain ⟨o, e⟩ := hfo b hb
  refine ⟨hn b hb, Nat.ne_of_lt (Heap.lt_size e), fun z => ?_, .inl hb, fun y c h => (hfp b hb).2.2.2.2.1 y c (clos_cell I.ok S h).2, fun p hp => (hfp b hb).2.2.2.2.2 p (by simpa [Cx.comp] using hp)⟩
  rcases List.mem_cons.mp (I.stkSub b z) with q | q
  · exact (hfp b hb).2.1 q
  · exact (hfp b hb).2.2.1 q
/-- the block is left: the def's own state -/
theorem comp_left {E : Value → Shared → Prop} {pins' : List (Addr × Obj)} {σ' : St} {H' : Hp} {s' : Shared} (I : Inv X pins σ H3 s3) (hfp : ∀ b ∈ fp, FpOk X pins H3 b) (J : Inv (X.comp scope x pins fp s3 H3 E) pins' σ' H' s') : Inv X pins σ H' s' :=
  I.call' (ch := fp) J.os J.base J.hok J.bare fun b hb => ⟨(hfp b hb).2.2.2.1, (hfp b hb).2.1, (hfp b hb).2.2.2.2.1, (hfp b hb).2.2.2.2.2⟩
theorem comp_turned {E : Value → Shared → Prop} {H' : Hp} {σ'' : St} {s' s'' : Shared} {h' : Heap} (I : Inv X pins σ H3 s3) (J : Inv X pins σ'' H' s'') (hC : H' s3.heap.objs.size = none) (hs : Heap.SameBut s3.heap.objs.size s''.heap h') : Inv X pins σ'' H' { s'' with heap := h' } := by
  refine J.turned (t' := s''.toks) (fun b o hb e => (hs.2 b hb).trans e) hC (Nat.ne_of_gt I.lt) (.inr I.sz) (fun y c e z => ?_) fun p hp z => ?_
  · obtain ⟨v, q⟩ := I.cell y c e
    exact absurd q.lt (by rw [z]; exact Nat.lt_irrefl _)
  · exact absurd (Heap.lt_size (I.pin p hp).1) (by rw [z]; exact Nat.lt_irrefl _)
theorem compLoop_any {prog : Program} {w : World} {A : Around} {R : Result → Shared → Prop} {s : Shared} {elt target iter : Expr} {ifs : List Expr} {scope : Scope} {pos : Pos} {it acc : Value} {env : Env} (I : Nat → Shared → Prop)
    (turn : ∀ n s, I n s → wpAny (model prog w) A (pyNext it) (fun r s₁ => match r with
      | none => R (.ok .next) s₁
      | some v => wpAny (model prog w) A (letOwnedTupleGo target it v) (fun _ s₁' => wpAny (model prog w) A (assign target env v) (fun _ s₂ =>
          wpAny (model prog w) A (forIn ifs true fun c r => if r = true then do let ok ← isTrue c env (eval c env); pure (ForInStep.yield ok) else pure (ForInStep.yield r)) (fun ok s₃ =>
            if ok = true then wpAny (model prog w) A (eval elt env) (fun x s₄ =>
              wpAny (model prog w) A (call (.builtin "list.append") [acc, x]) (fun _ s₅ => ∃ m, m < n ∧ I m s₅) (notedBy (model prog w) A env fun e s' => R (.error e) s') s₄) (notedBy (model prog w) A env fun e s' => R (.error e) s') s₃
            else ∃ m, m < n ∧ I m s₃) (notedBy (model prog w) A env fun e s' => R (.error e) s') s₂) (notedBy (model prog w) A env fun e s' => R (.error e) s') s₁') (notedBy (model prog w) A env fun e s' => R (.error e) s') s₁) (notedBy (model prog w) A env fun e s' => R (.error e) s') s)
    (n : Nat) (h : I n s) :
    codeAny (model prog w) A (.compLoop (.ListComp elt [⟨target, iter, ifs, 0⟩] scope pos) 0 it acc env) R s := by
  refine codeAny_loop rfl I (fun n s hI => ?_) n h
  show wpAny _ A ((compTurn (.ListComp elt [⟨target, iter, ifs, 0⟩] scope pos) 0 it acc env).onRaise (fun x => do noteFrame x env; theTreesLotGoes x)) _ _ s
  refine wpAny_noted ?_
  rw [compTurn_list]
  refine wpAny_bind (wpAny_standAt (wpAny_bind (wpAny_mono (turn n s hI) (fun r s₁ h₁ => ?_) fun _ _ h' => h')))
  cases r with
  | none => exact wpAny_pure h₁
  | some v =>
    refine wpAny_bind (wpAny_mono h₁ (fun _ s₁' h₁' => ?_) fun _ _ h' => h')
    refine wpAny_bind (wpAny_mono h₁' (fun _ s₂ h₂ => wpAny_bind (wpAny_mono h₂ (fun ok s₃ h₃ => ?_) fun _ _ h' => h')) fun _ _ h' => h')
    cases ok with
    | false => exact wpAny_pure ⟨rfl, h₃⟩
    | true =>
      exact wpAny_bind (wpAny_bind (wpAny_mono h₃ (fun x s₄ h₄ => wpAny_bind (wpAny_mono h₄ (fun _ s₅ h₅ => wpAny_pure (wpAny_pure ⟨rfl, h₅⟩)) fun _ _ h' => h')) fun _ _ h' => h'))
/-- the whole block, over any end -/
theorem comp_block {E : XK} {use : Option (Value → Sem Unit)} {QQ : Value → Shared → Prop} {elt iter : Expr} {px : Pos} {ifs : List Expr} {pos : Pos} {tt : TT} {te : TE} {it : Addr} {tn : Nat → Heap → Prop} {J : It} {Q : VK} {H2 : Hp} {s2 : Shared}
    (hc : X.calm = true) (hst : X.stack = X.env :: X.outer) (hf : X.env.frame = some X.env.locals) (hex : X.ex = []) (hxh : ∀ e s, HXR X E e s → X.xe e s) (S : CompSc scope X.env.scope x X.N)
    (ht : ∀ (pins : List (Addr × Obj)) (fp : List Addr) (s3 : Shared) (H3 : Hp), PTs ((X.comp scope x pins fp s3 H3 fun _ _ => False).wish (XC (X.comp scope x pins fp s3 H3 fun _ _ => False) E)) ifs tt)
    (he : ∀ (pins : List (Addr × Obj)) (fp : List Addr) (s3 : Shared) (H3 : Hp), PE ((X.comp scope x pins fp s3 H3 fun _ _ => False).wish (XC (X.comp scope x pins fp s3 H3 fun _ _ => False) E)) elt te)
    (I2 : Inv X pins σ H2 s2) (T : Turn X.prog X.w X.K (.Name x px) J fp it tn) (st2 : tn 0 s2.heap) (f2 : ∀ b ∈ fp, FpOk X pins H2 b)
    (h : ∀ p, H2 p = none → ∃ W : Nat → Nat → List V → Hp → Prop, (∃ m, W 0 m [] (upd H2 p (.lst []))) ∧ ∀ i m acc H2, W i m acc H2 →
      H2 p = some (.lst acc) ∧ ((J.stop i H2 ∧ Q (.ref p) H2) ∨ (J.go i H2 ∧ ∃ N : List V → Hp → Prop, (∀ acc' H', N acc' H' → ∃ m', m' < m ∧ W (i + 1) m' acc' H') ∧ ∀ x H3, J.yld i H2 x H3 → tt (some x :: σ) H3 fun b H4 =>
        if b = true then te (some x :: σ) H4 fun v H5 => H5 p = some (.lst acc) ∧ acc.length < sizeLine ∧ N (acc ++ [v]) (upd H5 p (.lst (acc ++ [v]))) else N acc H4)))
    (fin : ∀ (s3 : Shared) (H3 : Hp) (p : Addr) (s' : Shared) (H' : Hp) (m : Str → Option Value), Inv X pins σ H3 s3 → Inv X pins σ H' s' → H' s3.heap.objs.size = none → s'.heap.Ns s3.heap.objs.size m → Q (.ref p) H' → ∀ cenv : Env, cenv.locals = s3.heap.objs.size → compPostX (model X.prog X.w) X.A X.xe use QQ (.ref p) cenv (.ok .next) s') :
    wpAny (model X.prog X.w) X.A (newList []) (fun acc s₃ => wpAny (model X.prog X.w) X.A (newFunctionEnv scope X.env.globals (closOf X.env.cells scope.names []) [] X.env.qual none .none (some X.env)) (fun cenv s₄ =>
      codeAny (model X.prog X.w) X.A (.compStart (.ListComp elt [⟨.Name x px, iter, ifs, 0⟩] scope pos) 0 (.ref it) acc { cenv with scope := relabel scope X.env }) (compPostX (model X.prog X.w) X.A X.xe use QQ acc { cenv with scope := relabel scope X.env }) s₄) X.xe s₃) X.xe s2 := by
  have hp : H2 s2.heap.objs.size = none := I2.hok.fresh (Nat.le_refl _)
  obtain ⟨W, ⟨m0, w0⟩, turn⟩ := h _ hp
  refine wpAny_newObj_type (wpAny_newFunctionEnv S.cell (by intro y hy; simp at hy) (fun h₁ hns₁ hsb₁ => ?_) S.kind)
  generalize hs3 : ({ s2 with heap := s2.heap.push { cls := .type "list", dict := none, data := .seq ([] : List Value).toArray } } : Shared) = s3
  have eh3 : s3.heap = s2.heap.push { cls := .type "list", dict := none, data := .seq ([] : List Value).toArray } := by rw [← hs3]
  have I3 : Inv X pins σ (upd H2 s2.heap.objs.size (.lst [])) s3 := by
    rw [← hs3]
    exact I2.laid (t' := s2.toks) (fun b o e => Heap.get?_push_of_some _ e) (Nat.le_refl _) ⟨by show 0 ≤ sizeLine; exact Nat.zero_le _, [], 0, .nil, Heap.get?_push_size _ rfl⟩
  have f3 : ∀ b ∈ fp, FpOk X pins (upd H2 s2.heap.objs.size (.lst [])) b := fun b hb => ⟨by
    obtain ⟨o, e, _⟩ := T.obj _ _ st2 b hb
    rw [upd_ne (Nat.ne_of_lt (Heap.lt_size e))]; exact (f2 b hb).1, (f2 b hb).2⟩
  have o3 : ∀ b ∈ fp, ∃ o, s3.heap.get? b = some o := fun b hb => by
    obtain ⟨o, e, _⟩ := T.obj _ _ st2 b hb
    exact ⟨o, by rw [eh3]; exact Heap.get?_push_of_some _ e⟩
  have hns₁ : h₁.Ns s3.heap.objs.size (fun x => ([] : List (Str × Value)).reverse.lookup x) := by rw [eh3]; exact hns₁
  have kk : ∀ b o, s3.heap.get? b = some o → h₁.get? b = some o := fun b o e => hsb₁.extBut b o (by
    have := Heap.lt_size e
    rw [eh3] at this
    exact Nat.ne_of_lt this) (Heap.get?_push_of_some _ (by rw [← eh3]; exact e))
  generalize hs4 : ({ s3 with heap := h₁, toks := s3.toks + ([] : List (Str × Value)).length } : Shared) = s4
  have eh4 : s4.heap = h₁ := by rw [← hs4]
  have I4 : Inv (X.comp scope x pins fp s3 (upd H2 s2.heap.objs.size (.lst [])) fun _ _ => False) [] (none :: σ) (upd H2 s2.heap.objs.size (.lst [])) s4 := comp_start I3 S f3 o3 (by rw [eh4]; exact hns₁) (by rw [eh4]; exact kk) (by rw [← hs4]) (by rw [← hs4]; exact I3.bare)
  have st4 : tn 0 s4.heap := T.keep _ _ _ st2 fun b hb o e => by rw [eh4]; exact kk b o (by rw [eh3]; exact Heap.get?_push_of_some _ e)
  have loop : codeAny (model X.prog X.w) X.A (.compLoop (.ListComp elt [⟨.Name x px, iter, ifs, 0⟩] scope pos) 0 (.ref it) (.ref s2.heap.objs.size) (compEnvC scope (closOf X.env.cells scope.names []) s3.heap.objs.size X.env))
      (compPostX (model X.prog X.w) X.A X.xe use QQ (.ref s2.heap.objs.size) (compEnvC scope (closOf X.env.cells scope.names []) s3.heap.objs.size X.env)) s4 := by
    have raised : ∀ e s', XC (X.comp scope x pins fp s3 (upd H2 s2.heap.objs.size (.lst [])) fun _ _ => False) E e s' → notedBy (model X.prog X.w) X.A (compEnvC scope (closOf X.env.cells scope.names []) s3.heap.objs.size X.env) (fun x s'' => compPostX (model X.prog X.w) X.A X.xe use QQ (.ref s2.heap.objs.size) (compEnvC scope (closOf X.env.cells scope.names []) s3.heap.objs.size X.env) (.error x) s'') e s' :=
      fun e s' h => comp_raised hst hf hex I3 f3 hxh rfl rfl h
    refine compLoop_any (fun n s' => ∃ i acc H' v0, Inv (X.comp scope x pins fp s3 (upd H2 s2.heap.objs.size (.lst [])) fun _ _ => False) [] (v0 :: σ) H' s' ∧ tn i s'.heap ∧ (∀ b ∈ fp, H' b = none) ∧ W i n acc H') ?_ m0 ⟨0, [], _, none, I4, st4, fun b hb => (f3 b hb).1, w0⟩
    rintro n s5 ⟨i, acc, H5, v0, I5, st5, fr5, w5⟩
    obtain ⟨hacc, hh⟩ := turn i n acc H5 w5
    rcases hh with ⟨stop, q⟩ | ⟨go, N, hN, step⟩
    · refine thn (T.done (X.comp scope x pins fp s3 (upd H2 s2.heap.objs.size (.lst [])) fun _ _ => False) rfl rfl rfl hc i [] s5 _ H5 _ I5 (comp_fp I3 S f3 o3 fr5) st5 stop) fun r s6 ⟨hr, I6⟩ => ?_
      subst hr
      obtain ⟨m6, hn6, _⟩ := id I6.loc
      exact fin s3 _ _ s6 H5 m6 I3 (comp_left I3 f3 I6) I6.free hn6 q _ rfl
    · refine thn (T.item (X.comp scope x pins fp s3 (upd H2 s2.heap.objs.size (.lst [])) fun _ _ => False) rfl rfl rfl hc i [] s5 _ H5 _ I5 (comp_fp I3 S f3 o3 fr5) st5 go) fun r s6 ⟨u, hr, h6⟩ => ?_
      subst hr
      refine thn h6 fun _ s7 ⟨y, H7, I7, r7, y7, st7, fr7⟩ => ?_
      have I7' := I7.pinned (comp_fp I3 S f3 o3 fr7) (T.obj _ _ st7)
      have again : ∀ {n' : List V} {v1 : Option V} {H9 : Hp} {s9 : Shared}, Inv (X.comp scope x pins fp s3 (upd H2 s2.heap.objs.size (.lst [])) fun _ _ => False) ([] ++ pinsAt fp s7.heap) (v1 :: σ) H9 s9 → N n' H9 → ∃ m, m < n ∧ ∃ i acc H' v0, Inv (X.comp scope x pins fp s3 (upd H2 s2.heap.objs.size (.lst [])) fun _ _ => False) [] (v0 :: σ) H' s9 ∧ tn i s9.heap ∧ (∀ b ∈ fp, H' b = none) ∧ W i m acc H' := fun {n' v1 H9 s9} I9 n9 => by
        obtain ⟨m', hm, w9⟩ := hN n' H9 n9
        refine ⟨m', hm, i + 1, n', H9, v1, I9.unpinned, T.keep _ _ _ st7 fun b hb o e => (I9.pin (b, o) (List.mem_append_right _ (List.mem_append_right _ (mem_pinsAt hb e)))).1, fun b hb => ?_, w9⟩
        obtain ⟨o, e, d⟩ := T.obj _ _ st7 b hb
        exact (I9.pin (b, o) (List.mem_append_right _ (List.mem_append_right _ (mem_pinsAt hb e)))).2.1
      refine wpAny_assign_Name (store_ok (X := X.comp scope x pins fp s3 (upd H2 s2.heap.objs.size (.lst [])) fun _ _ => False) (i := 0) I7' S.nd rfl (Or.inl (lookup_relabel_local S.loc)) r7 (fun s8 I8 => ?_) (Or.inr (lookup_relabel_local S.loc)))
      refine wpAny_mono (ht pins fp s3 _ _ s8 _ H7 _ (I8.wish _) (step y H7 y7)) (fun ok s9 ⟨H9, I9, q9⟩ => ?_) raised
      cases ok with
      | false =>
        rw [if_neg Bool.false_ne_true]
        have q9' : N acc H9 := by simpa using q9
        exact again I9.unwish q9'
      | true =>
        rw [if_pos rfl]
        have q9' : te (some y :: σ) H9 (fun v H5 => H5 s2.heap.objs.size = some (.lst acc) ∧ acc.length < sizeLine ∧ N (acc ++ [v]) (upd H5 s2.heap.objs.size (.lst (acc ++ [v])))) := q9
        refine wpAny_mono (he pins fp s3 _ _ s9 _ H9 _ I9 q9') (fun u10 s10 ⟨v, H10, I10, r10, ha, hl, n10⟩ => ?_) raised
        refine wpAny_mono (mt_append (X := (X.comp scope x pins fp s3 (upd H2 s2.heap.objs.size (.lst [])) fun _ _ => False).wish (XC (X.comp scope x pins fp s3 (upd H2 s2.heap.objs.size (.lst [])) fun _ _ => False) E)) _ s10 _ H10 (.ref s2.heap.objs.size) [v] (.ref s2.heap.objs.size) [u10] (fun w H' => w = .non ∧ H' = upd H10 s2.heap.objs.size (.lst (acc ++ [v]))) I10 rfl (.cons r10 .nil) ⟨_, acc, v, rfl, rfl, ha, hl, rfl, rfl⟩) (fun u11 s11 ⟨v11, H11, I11, r11, q11, e11⟩ => ?_) raised
        rw [e11] at I11
        exact again I11.unwish n10
  exact codeAny_compStart_list loop (T.self _ 0 _ _ _ st4 loop)
end
section
variable {X : Cx} {scope : Scope} {x : Str} {E : XK} {elt iter : Expr} {px pos : Pos} {ifs : List Expr} {wi : TI} {tt : TT} {te : TE}
abbrev Cx.blk (X : Cx) (scope : Scope) (x : Str) (pins : List (Addr × Obj)) (fp : List Addr) (s3 : Shared) (H3 : Hp) (E : XK) : Cx := (X.comp scope x pins fp s3 H3 fun _ _ => False).wish (XC (X.comp scope x pins fp s3 H3 fun _ _ => False) E)
/-- [elt for x in iter if ..], a value -/
theorem pe_comp (hc : X.calm = true) (hst : X.stack = X.env :: X.outer) (hf : X.env.frame = some X.env.locals) (hex : X.ex = []) (hxh : ∀ e s, HXR X E e s → X.xe e s) (S : CompSc scope X.env.scope x X.N) (hi : PI X (.Name x px) iter wi)
    (ht : ∀ pins fp s3 H3, PTs (X.blk scope x pins fp s3 H3 E) ifs tt) (he : ∀ pins fp s3 H3, PE (X.blk scope x pins fp s3 H3 E) elt te) (hs : ∀ x, foldedSetIterable iter X.env x = pure x := by intro _; rfl) :
    PE X (.ListComp elt [⟨.Name x px, iter, ifs, 0⟩] scope pos) (tComp wi tt te) := by
  intro pins s σ H Q I h
  rw [eval_ListComp]
  refine wpAny_comprehensionX (use := none) rfl hs (closureFor_eq fun y hy e => I.ok.has y.1 (S.fre y hy e)) S.kind S.nms (thn (hi pins s σ H _ I h) fun v s1 h1 => thn h1 fun itv s2 h2 => ?_)
  obtain ⟨it, fp, tn, J, H2, e, I2, T, st2, f2, hW⟩ := h2
  subst e
  refine comp_block hc hst hf hex hxh S ht he I2 T st2 f2 hW fun s3 H3 p s' H' m I3 I' hC hn q cenv hcl => ?_
  refine ⟨m, by rw [hcl]; exact hn, fun h' hs' => ⟨.ref p, H', comp_turned (E := X.xe) (s' := s') I3 I' hC (by rw [← hcl]; exact hs'), rfl, q⟩⟩
end
end L2
set_option Elab.async false
set_option linter.all false
set_option maxRecDepth 100000
namespace L2
open PySem PySem.Spec PyProof.Rows
/-! ### plain data in the heap, deep equality -/
mutual
inductive DatV (H : Hp) : V → PyData → Prop
  | non : DatV H .non .none
  | bl (b : Bool) : DatV H (.bl b) (.bool b)
  | int (i : Int) : DatV H (.int i) (.int i)
  | str (x : Str) : DatV H (.str x) (.str x)
  | lst {a : Addr} {xs : List V} {ds : List PyData} (e : H a = some (.lst xs)) (h : DatVs H xs ds) : DatV H (.ref a) (.list ds)
  | tup {a : Addr} {xs : List V} {ds : List PyData} (e : H a = some (.tup xs)) (h : DatVs H xs ds) : DatV H (.ref a) (.tuple ds)
inductive DatVs (H : Hp) : List V → List PyData → Prop
  | nil : DatVs H [] []
  | cons {x : V} {xs : List V} {d : PyData} {ds : List PyData} : DatV H x d → DatVs H xs ds → DatVs H (x :: xs) (d :: ds)
end
mutual
theorem DatV.reads {P : Program} {w : World} {H : Hp} {h : Heap} (ok : HOk P w H h) : ∀ {x : V} {d : PyData} {u : Value}, DatV H x d → RelV x u → ∃ as, Reads h u d as
  | _, _, _, .non, r => by cases r; exact ⟨_, .none⟩
  | _, _, _, .bl b, r => by cases r; exact ⟨_, .bool b⟩
  | _, _, _, .int i, r => by obtain ⟨t, rfl⟩ := r; exact ⟨_, .int i t⟩
  | _, _, _, .str x, r => by obtain ⟨t, rfl⟩ := r; exact ⟨_, .str x t⟩
  | _, _, _, .lst e hs, r => by
    cases r
    obtain ⟨_, its, n, rv, ho⟩ := (show ObjOk P w H h _ (.lst _) from ok _ _ e)
    obtain ⟨as, ra⟩ := DatVs.reads ok hs rv
    exact ⟨_, .list ho rfl rfl ra⟩
  | _, _, _, .tup e hs, r => by
    cases r
    obtain ⟨_, its, rv, o, ho, hc, n, hd⟩ := (show ObjOk P w H h _ (.tup _) from ok _ _ e)
    obtain ⟨as, ra⟩ := DatVs.reads ok hs rv
    exact ⟨_, .tuple ho hc hd ra⟩
theorem DatVs.reads {P : Program} {w : World} {H : Hp} {h : Heap} (ok : HOk P w H h) : ∀ {xs : List V} {ds : List PyData} {us : List Value}, DatVs H xs ds → Vals xs us → ∃ as, ReadsAll h us ds as
  | _, _, _, .nil, .nil => ⟨_, .nil⟩
  | _, _, _, .cons a b, .cons r t => by
    obtain ⟨_, ra⟩ := DatV.reads ok a r
    obtain ⟨_, rb⟩ := DatVs.reads ok b t
    exact ⟨_, .cons ra rb⟩
end
mutual
theorem DatV.mono {H H' : Hp} (k : ∀ a xs, H a = some (.lst xs) → H' a = some (.lst xs)) (k2 : ∀ a xs, H a = some (.tup xs) → H' a = some (.tup xs)) : ∀ {x : V} {d : PyData}, DatV H x d → DatV H' x d
  | _, _, .non => .non
  | _, _, .bl b => .bl b
  | _, _, .int i => .int i
  | _, _, .str x => .str x
  | _, _, .lst e hs => .lst (k _ _ e) (DatVs.mono k k2 hs)
  | _, _, .tup e hs => .tup (k2 _ _ e) (DatVs.mono k k2 hs)
theorem DatVs.mono {H H' : Hp} (k : ∀ a xs, H a = some (.lst xs) → H' a = some (.lst xs)) (k2 : ∀ a xs, H a = some (.tup xs) → H' a = some (.tup xs)) : ∀ {xs : List V} {ds : List PyData}, DatVs H xs ds → DatVs H' xs ds
  | _, _, .nil => .nil
  | _, _, .cons a b => .cons (DatV.mono k k2 a) (DatVs.mono k k2 b)
end
theorem DatV.same {H H' : Hp} (s : Same H H') {x : V} {d : PyData} (h : DatV H x d) : DatV H' x d := h.mono (fun _ _ e => s _ _ e) fun _ _ e => s _ _ e
theorem DatVs.same {H H' : Hp} (s : Same H H') {xs : List V} {ds : List PyData} (h : DatVs H xs ds) : DatVs H' xs ds := h.mono (fun _ _ e => s _ _ e) fun _ _ e => s _ _ e
theorem DatVs.append {H : Hp} : ∀ {xs ys : List V} {ds es : List PyData}, DatVs H xs ds → DatVs H ys es → DatVs H (xs ++ ys) (ds ++ es)
  | _, _, _, _, .nil, h => h
  | _, _, _, _, .cons a b, h => .cons a (DatVs.append b h)
theorem DatVs.length {H : Hp} : ∀ {xs : List V} {ds : List PyData}, DatVs H xs ds → xs.length = ds.length
  | _, _, .nil => rfl
  | _, _, .cons _ b => by rw [List.length_cons, List.length_cons, DatVs.length b]
abbrev shaped := PySem.SeqAt.shaped
section
variable {X : Cx}
/-- x == y, x != y of plain data, at any depth -/
def rEqD : R2 := fun x y H Q => ∃ d e, DatV H x d ∧ DatV H y e ∧ shaped d = true ∧ shaped e = true ∧ Q (.bl (PyData.eqv d e)) H
def rNeD : R2 := fun x y H Q => ∃ d e, DatV H x d ∧ DatV H y e ∧ shaped d = true ∧ shaped e = true ∧ Q (.bl (!PyData.eqv d e)) H
theorem op_eqD (hu : X.A.units + 64 < cLine) : OpR X (compareOp .Eq) rEqD := by
  intro pins s σ H x y u v Q I rx ry h
  obtain ⟨d, e, hd, he, sd, se, q⟩ := h
  obtain ⟨_, ra⟩ := hd.reads I.hok rx
  obtain ⟨_, rb⟩ := he.reads I.hok ry
  exact eq_dataH ra rb sd se hu ⟨.bl _, H, I, rfl, q⟩
theorem op_neD (hu : X.A.units + 64 < cLine) : OpR X (compareOp .NotEq) rNeD := by
  intro pins s σ H x y u v Q I rx ry h
  obtain ⟨d, e, hd, he, sd, se, q⟩ := h
  obtain ⟨_, ra⟩ := hd.reads I.hok rx
  obtain ⟨_, rb⟩ := he.reads I.hok ry
  exact ne_dataH ra rb sd se hu ⟨.bl _, H, I, rfl, q⟩
end
end L2
set_option Elab.async false
set_option linter.all false
set_option maxRecDepth 100000
namespace L2
open PySem PySem.Spec PyProof.Rows
/-! ### the law's head, with the script's bound -/
theorem bits_of_weight : ∀ (ns : List Int), ∀ n ∈ ns, Builtin.Int.intBits n ≤ PySem.W.WData.weightAll (ns.map PySem.W.WData.int)
  | m :: r, n, h => by
    simp only [List.map_cons, PySem.W.WData.weightAll]
    rcases List.mem_cons.mp h with rfl | h
    · have : PySem.W.WData.weight (.int n) = Builtin.Int.intBits n := by simp only [PySem.W.WData.weight, Builtin.Int.intBits]
      omega
    · have := bits_of_weight r n h
      omega
theorem bits_of_lay {ns : List Int} (h : PySem.W.WData.layableAll [.list (ns.map PySem.W.WData.int)] = true) : ∀ n ∈ ns, Builtin.Int.intBits n ≤ 1048576 := fun n hn => by
  have h1 : PySem.W.WData.layable (.list (ns.map PySem.W.WData.int)) = true := by simpa [PySem.W.WData.layableAll] using h
  unfold PySem.W.WData.layable at h1
  have h2 := of_decide_eq_true (Bool.and_eq_true_iff.mp h1).2
  have e : (2 : Nat) ^ 20 = 1048576 := by decide
  simp only [PySem.W.WData.weight, e] at h2
  exact Nat.le_trans (bits_of_weight ns n hn) h2
end L2
namespace Att
open PySem PySem.W PySem.Calls PyProof.Rows
theorem attach_callB {l : OpenLaw} {n : Nat} {q : Program} {loose : List Str} {XP : (Str → Option Value) → Heap → Prop} {YP : World → Heap → Prop} {d : DefRec}
    (hn : l.most = some n) (hdf : d.params.defaults = [])
    (call : ∀ (w : World) (s₀ s₁ : Shared) (mg mb : Str → Option Value) (fa : Addr) (o : Obj) (pm cd doc : Value) (a : Addr) (vs : List Value) (ns : List Int),
      Ground q loose [] XP w s₀ mg mb s₁.heap → YP w s₁.heap →
      s₁.heap.get? fa = some o → o.data = .func (docDef d.name d.params d.body d.scope pm cd doc) → s₁.heap.CodeRec cd d.name → mg d.name = some (.ref fa) →
      s₁.heap.get? a = some { cls := .type "list", data := .seq vs.toArray } → IntsAre vs ns → ns.length ≤ n → (∀ n ∈ ns, Builtin.Int.intBits n ≤ 1048576) → s₁.gens = #[] →
      codeAny (model l.prog w) callerA (.call (.ref fa) ⟨[.ref a], []⟩) (fun r s' => r = .ok (.ret (.bool true)) ∧ OldK s₁.heap s'.heap ∧ s'.os = s₁.os ∧ AllBare s'.gens) s₁) :
    WalkO q loose XP YP l.row.toRowW d [] (fun f vs => PySem.call f vs) := by
  intro w s₀ s₁ mg mb G Y fa o pm cd doc dV kV ho hd hcd hD hmg hg args vals as hpre hlay hrd hwl hlo
  obtain rfl : dV = .none := Dflts.none hD hdf
  obtain rfl : kV = .none := Dflts.noKw hD
  obtain ⟨a, vs, ns, rfl, rfl, hobj, hints, hlen⟩ := script_of hn hpre hwl
  refine enter_call (codeAny_mono (call w s₀ s₁ mg mb fa o pm cd doc a vs ns G Y ho (fd_plain hd) hcd hmg hobj hints hlen (L2.bits_of_lay hlay) hg) fun r s' hq => ?_)
  obtain ⟨rfl, h2, h3, h4⟩ := hq
  exact ⟨.inl ⟨.bool true, .bool true, [], rfl, fun _ => rfl, .bool true, post_true l _, fun _ => ⟨List.Pairwise.nil, fun _ hm => (nomatch hm)⟩⟩, h2, h3, h4⟩
end Att
namespace L2
open PySem PySem.Spec PyProof.Rows
/-- the law's promise: a list of at most 63 ints (of at most 2^20 bits) is handed in, True comes out -/
def spLawB (K : PySem.W.Frag) : Sp := fun vs H Q _ => ∃ (a : Addr) (ns : List Int), vs = [.ref a] ∧ SqL K H a (ns.map V.int) ∧ ns.length ≤ 63 ∧ (∀ n ∈ ns, Builtin.Int.intBits n ≤ 1048576) ∧ Only H ∧ ∀ H', Q (.bl true) H'
theorem law_walkB {l : PySem.W.OpenLaw} {q : Program} {loose : List Str} {XP : (Str → Option Value) → Heap → Prop} {YP : World → Heap → Prop} {d : DefRec} {K : Params → PySem.W.Frag} {k : Nat} {x : Str} (hn : l.most = some 63) (hdf : d.params.defaults = [])
    (hr : Room k callerA) (hY : ∀ (w : World) (h : Heap), YP w h → (K w.params).In h)
    (F : ∀ (w : World) (mg : Str → Option Value) (fa : Addr) (h : Heap), (K w.params).In h → h.Ns mainGlobals mg → mg d.name = some (.ref fa) →
      ∃ fd : FuncData, (∀ (s : Shared) (u : Value), BindsTo s fd ⟨[u], []⟩ [(x, u)]) ∧ ∀ base : Heap, (K w.params).In base → base.Ns mainGlobals mg → FnOk l.prog w (K w.params) mg base (CXR l.prog w) k fa fd [x] (spLawB (K w.params))) :
    PySem.W.WalkO q loose XP YP l.row.toRowW d [] (fun f vs => PySem.call f vs) := by
  refine Att.attach_callB hn hdf fun w s₀ s₁ mg mb fa o pm cd doc a vs ns G Y ho hd hcd hmg hobj hints hlen hbits hg => ?_
  have KX := hY w _ Y
  obtain ⟨fd, hb, hF⟩ := F w mg fa _ KX G.T.g hmg
  exact law_call KX G.T.g G.T.b G.T.builtins G.T.nolimit hg hobj hints (Nat.le_trans hlen (by decide)) hr hF hb (fun H hO hS => ⟨a, ns, rfl, hS, hlen, hbits, hO, fun _ => rfl⟩) fun H e s' ⟨_, _, _, _, _, _, _, z⟩ => z
end L2
set_option Elab.async false
set_option linter.all false
set_option maxRecDepth 100000
namespace L2
open PySem PySem.Spec PyProof.Rows
/-! ### short words: names, comprehensions -/
def compChk (scope es : Scope) (x : Str) (N : List Str) : Bool :=
  decide (scope.kind = .function) && (scope.names.all fun y => decide (y.2 ≠ .cell)) && (scope.names.all fun y => decide (y.2 ≠ .local) || decide (scope.names.lookup y.1 = some .local)) && decide (scope.names.lookup x = some .local) &&
  decide (scope.names.lookup ("" : Str) = none) && (scope.names.all fun y => decide (y.2 ≠ .free) || (decide (es.names.lookup y.1 = some .cell) || decide (es.names.lookup y.1 = some .free))) &&
  (scope.names.all fun y => decide (y.2 ≠ .local) || (decide (y.1 = x) || !N.contains y.1)) && decide (x :: N.map fun y => if y = x then ("" : Str) else y).Nodup
theorem compSc_of {scope es : Scope} {x : Str} {N : List Str} (h : compChk scope es x N = true) : CompSc scope es x N := by
  unfold compChk at h
  simp only [Bool.and_eq_true, decide_eq_true_eq, List.all_eq_true, Bool.or_eq_true, Bool.not_eq_true'] at h
  obtain ⟨⟨⟨⟨⟨⟨⟨h1, h2⟩, h3⟩, h4⟩, h5⟩, h6⟩, h7⟩, h8⟩ := h
  refine ⟨h1, h2, fun y hy e => (h3 y hy).resolve_left fun z => z e, h4, h5, fun y hy e => (h6 y hy).resolve_left fun z => z e, fun y hy e => ?_, h8⟩
  rcases (h7 y hy).resolve_left fun z => z e with q | q
  · exact .inl q
  · exact .inr fun m => by
      have : N.contains y.1 = true := List.contains_iff_mem.mpr m
      rw [q] at this; cases this
def visB (sc : Scope) (x : Str) : Bool := match sc.names.lookup x with
  | some .local => true
  | some .cell => true
  | some .free => true
  | _ => false
theorem vis_of {sc : Scope} {x : Str} (h : visB sc x = true) : Vis sc x := by
  unfold visB at h
  unfold Vis
  split at h <;> simp_all
section
variable {X : Cx}
/-- the name in the i-th slot, looked at by the kernel -/
theorem pk (i : Nat) {x : Str} {pos : Pos} (hN : X.N[i]? = some x := by kernel_rfl) (hv : visB X.env.scope x = true := by kernel_rfl) (hd : (x == ("__debug__" : Str)) = false := by decide)
    (hcd : (x == ("__classdict__" : Str)) = false := by decide) : PE X (.Name x pos) (tVar i) := pe_var hN (vis_of hv) hd hcd
theorem noH {X : Cx} : ∀ e s, HXR X E0 e s → X.xe e s := fun _ _ ⟨_, _, _, _, _, _, _, _, _, _, _, _, _, z⟩ => z.elim
end
section
variable {P : Program} {w : World} {K : PySem.W.Frag} {mg : Str → Option Value} {base : Heap}
/-! ### classes of the module -/
structure MethD (P : Program) (w : World) (K : PySem.W.Frag) (mg : Str → Option Value) (base : Heap) (k : Nat) (C : Addr) (m : Str) (ps : List Str) (sp : Sp) : Prop where
  ex : ∃ f fd, Meth K C m f ∧ Binds K fd ps [] ∧ FnOk P w K mg base (CXR P w) k f fd ps sp
theorem MethD.mono {C : Addr} {m : Str} {ps : List Str} {sp : Sp} {j k : Nat} (F : MethD P w K mg base j C m ps sp) (h : j ≤ k) : MethD P w K mg base k C m ps sp := by
  obtain ⟨f, fd, h1, h3, h4⟩ := F.ex
  exact ⟨f, fd, h1, h3, h4.mono h⟩
end
section
variable {X : Cx} {k : Nat} {C : Addr} {ps : List Str} {sp : Sp} {E : XK} {x m : Str} {p pos apos : Pos} {e o : Expr} {es : List Expr} {ta : TE} {t : TA}
end
end L2
set_option Elab.async false
set_option linter.all false
set_option maxRecDepth 100000
namespace L2
open PySem PySem.Spec PyProof.Rows
theorem cpow_59 : CPow 10 59 = True := eq_true ⟨by decide, by decide, by decide⟩
/-! rules whose reading names the written part: given by name, for a context under a binder -/
section
variable {X : Cx} {K : PySem.W.Frag}
theorem ix_listK (h : X.K = K) : IxR X (rIxL K) := by subst h; exact ix_list
theorem sl_listK (h : X.K = K) : SlR X (rSlL K) := by subst h; exact sl_list
theorem call_len_seqK (h : X.K = K) : CallR X (.builtin "len") (fun xs H Q => ∃ p ys, xs = [.ref p] ∧ (SqL K H p ys ∨ SqT K H p ys) ∧ Q (.int ys.length) H) := by subst h; exact call_len_seq
theorem call_list_ofK (h : X.K = K) : CallR X (.type "list") (fun xs H Q => ∃ p ys, xs = [.ref p] ∧ (SqL K H p ys ∨ SqT K H p ys) ∧ ∀ l, H l = none → Q (.ref l) (upd H l (.lst ys))) := by subst h; exact call_list_of
end
end L2
set_option Elab.async false
set_option linter.all false
set_option maxRecDepth 100000
namespace L2
open PySem PySem.Spec PyProof.Rows
/-! ### comprehensions, read: over a list, over a range -/
def CompJ (J : It) (tt : TT) (te : TE) (σ : St) (Q : VK) (H1 : Hp) : Prop := ∀ p, H1 p = none → ∃ W : Nat → Nat → List V → Hp → Prop, (∃ m, W 0 m [] (upd H1 p (.lst []))) ∧ ∀ i m acc H2, W i m acc H2 →
  H2 p = some (.lst acc) ∧ ((J.stop i H2 ∧ Q (.ref p) H2) ∨ (J.go i H2 ∧ ∃ N : List V → Hp → Prop, (∀ acc' H', N acc' H' → ∃ m', m' < m ∧ W (i + 1) m' acc' H') ∧ ∀ x H3, J.yld i H2 x H3 → tt (some x :: σ) H3 fun b H4 =>
    if b = true then te (some x :: σ) H4 fun v H5 => H5 p = some (.lst acc) ∧ acc.length < sizeLine ∧ N (acc ++ [v]) (upd H5 p (.lst (acc ++ [v]))) else N acc H4))
theorem compL {K : PySem.W.Frag} {tl : TE} {tt : TT} {te : TE} {σ : St} {H : Hp} {Q : VK}
    (h : ∀ L, Is L (fun a H1 => CompJ (Itl K a) tt te σ Q H1) → tl σ H fun x H1 => ∃ a, x = .ref a ∧ (∃ xs, SqL K H1 a xs) ∧ L a H1) : tComp (iList K tl) tt te σ H Q := h _ Is.rfl
theorem compR1 {ta : TA} {tt : TT} {te : TE} {σ : St} {H : Hp} {Q : VK}
    (h : ∀ L, Is L (fun n H1 => CompJ (Itr 0 n) tt te σ Q H1) → ta σ H fun vs H1 => ∃ j : Int, vs = [.int j] ∧ -(2 ^ 62) ≤ j ∧ j < 2 ^ 62 ∧ L j.toNat H1) : tComp (iRng1 ta) tt te σ H Q := h _ Is.rfl
/-- over a list, by what holds between two turns -/
theorem compList {K : PySem.W.Frag} {a : Addr} {tt : TT} {te : TE} {σ : St} {Q : VK} {H1 : Hp} (xs : List V) (Pv : Addr → Nat → List V → Hp → Prop) (h0 : ∀ p, H1 p = none → Pv p 0 [] (upd H1 p (.lst [])))
    (hl : ∀ p i acc H, H1 p = none → Pv p i acc H → H p = some (.lst acc) ∧ SqL K H a xs)
    (hs : ∀ p i x acc H, H1 p = none → xs[i]? = some x → Pv p i acc H → tt (some x :: σ) H fun b H4 => if b = true then te (some x :: σ) H4 fun v H5 => H5 p = some (.lst acc) ∧ acc.length < sizeLine ∧ Pv p (i + 1) (acc ++ [v]) (upd H5 p (.lst (acc ++ [v]))) else Pv p (i + 1) acc H4)
    (hd : ∀ p acc H, H1 p = none → Pv p xs.length acc H → Q (.ref p) H) : CompJ (Itl K a) tt te σ Q H1 := by
  intro p hp
  refine ⟨fun i m acc H => Pv p i acc H ∧ i ≤ xs.length ∧ m = xs.length - i, ⟨_, h0 p hp, Nat.zero_le _, rfl⟩, ?_⟩
  rintro i m acc H2 ⟨hP, hi, rfl⟩
  obtain ⟨ha, hq⟩ := hl p i acc H2 hp hP
  refine ⟨ha, ?_⟩
  by_cases e : i = xs.length
  · subst e
    exact .inl ⟨⟨xs, hq, Nat.le_refl _⟩, hd p acc H2 hp hP⟩
  · have hlt : i < xs.length := by omega
    refine .inr ⟨⟨xs, xs[i], hq, by simp [hlt]⟩, fun acc' H' => Pv p (i + 1) acc' H', fun acc' H' h' => ⟨_, ?_, h', hlt, rfl⟩, ?_⟩
    · omega
    · rintro x H3 ⟨rfl, hx⟩
      exact hs p i x acc H3 hp (hx xs hq) hP
theorem compRange {lo : Int} {n : Nat} {tt : TT} {te : TE} {σ : St} {Q : VK} {H1 : Hp} (Pv : Addr → Nat → List V → Hp → Prop) (h0 : ∀ p, H1 p = none → Pv p 0 [] (upd H1 p (.lst [])))
    (hl : ∀ p i acc H, H1 p = none → Pv p i acc H → H p = some (.lst acc))
    (hs : ∀ p i acc H, H1 p = none → i < n → Pv p i acc H → tt (some (.int (lo + i)) :: σ) H fun b H4 => if b = true then te (some (.int (lo + i)) :: σ) H4 fun v H5 => H5 p = some (.lst acc) ∧ acc.length < sizeLine ∧ Pv p (i + 1) (acc ++ [v]) (upd H5 p (.lst (acc ++ [v]))) else Pv p (i + 1) acc H4)
    (hd : ∀ p acc H, H1 p = none → Pv p n acc H → Q (.ref p) H) : CompJ (Itr lo n) tt te σ Q H1 := by
  intro p hp
  refine ⟨fun i m acc H => Pv p i acc H ∧ i ≤ n ∧ m = n - i, ⟨_, h0 p hp, Nat.zero_le _, rfl⟩, ?_⟩
  rintro i m acc H2 ⟨hP, hi, rfl⟩
  refine ⟨hl p i acc H2 hp hP, ?_⟩
  by_cases e : i = n
  · subst e
    exact .inl ⟨Nat.le_refl _, hd p acc H2 hp hP⟩
  · have hlt : i < n := by omega
    refine .inr ⟨hlt, fun acc' H' => Pv p (i + 1) acc' H', fun acc' H' h' => ⟨_, ?_, h', hlt, rfl⟩, ?_⟩
    · omega
    · rintro x H3 ⟨rfl, rfl⟩
      exact hs p i acc H3 hp hlt hP
theorem atI_5 {α : Type} {x0 x1 x2 x3 x4 x5 : α} {xs : List α} : atI (x0 :: x1 :: x2 :: x3 :: x4 :: x5 :: xs) 5 = some x5 := atI_nat (j := 5) rfl
theorem atI_7 {α : Type} {x0 x1 x2 x3 x4 x5 x6 x7 : α} {xs : List α} : atI (x0 :: x1 :: x2 :: x3 :: x4 :: x5 :: x6 :: x7 :: xs) 7 = some x7 := atI_nat (j := 7) rfl
/-! ### slices by plain places -/
/-- a new thing at p, all else as it was -/
structure New (H : Hp) (p : Addr) (H' : Hp) : Prop where
  free : H p = none
  same : Same H H'
theorem New.upd {H : Hp} {p : Addr} {o : HO} (h : H p = none) : New H p (L2.upd H p o) := ⟨h, same_upd h⟩
end L2
set_option Elab.async false
set_option linter.all false
set_option maxRecDepth 100000
namespace L2
open PySem PySem.Spec PyProof.Rows
/-! ### reading step by step: what comes behind stands behind a letter -/
theorem Is.use {α β : Type} {R S : α → β → Prop} (h : Is R S) {x : α} {y : β} (k : S x y) : R x y := by cases h; exact k
def Hid {α β : Type} (S : α → β → Prop) (g : (α → β → Prop) → Prop) : Prop := ∀ R, (∀ x y, S x y → R x y) → g R
theorem hidI {α β : Type} {S : α → β → Prop} {g : (α → β → Prop) → Prop} (h : ∀ R, (∀ x y, S x y → R x y) → g R) : Hid S g := h
section
variable {σ : St} {H : Hp} {Q : VK} {D : Ends} {ta tb tc te : TE} {t u : TA} {r : R2} {b : TS} {QB : Bool → Hp → Prop} {c d : TT} {QA : List V → Hp → Prop}
theorem asgH {g : TG} (h : ∀ R, Is R (fun x H1 => g x σ H1 D.nx) → te σ H R) : tAsg te g D σ H := h _ Is.rfl
theorem dropH (h : ∀ R, Is R (fun _ H1 => D.nx σ H1) → te σ H R) : tDrop te D σ H := h _ Is.rfl
theorem retH (h : ∀ R, Is R (fun x H1 => D.rt x H1) → te σ H R) : tRet te D σ H := h _ Is.rfl
theorem ifH {a b : TS} (h : ∀ R, Is R (fun k H1 => if k = true then a D σ H1 else b D σ H1) → c σ H R) : tIfS c a b D σ H := h _ Is.rfl
theorem testH (h : ∀ R, Is R (fun x H1 => ∃ k, x = .bl k ∧ QB k H1) → te σ H R) : tTest te σ H QB := h _ Is.rfl
theorem tBH (h : ∀ R, Is R (fun x H1 => ∃ k, x = .bl k ∧ QB k H1) → te σ H R) : tB te σ H QB := h _ Is.rfl
theorem notH (h : ∀ R, Is R (fun k H1 => QB (!k) H1) → c σ H R) : tNot c σ H QB := h _ Is.rfl
theorem andH (h : ∀ R, Is R (fun k H1 => if k = true then d σ H1 QB else QB false H1) → c σ H R) : tAnd c d σ H QB := h _ Is.rfl
theorem orH (h : ∀ R, Is R (fun k H1 => if k = true then QB true H1 else d σ H1 QB) → c σ H R) : tOr c d σ H QB := h _ Is.rfl
theorem use2 {α β : Type} {R S : α → β → Prop} (h : ∀ x y, S x y → R x y) {x : α} {y : β} (k : S x y) : R x y := h x y k
theorem andVH (h : ∀ R, Is R (fun x H1 => ∃ c, x = .bl c ∧ if c = true then tb σ H1 Q else Q (.bl false) H1) → ta σ H R) : tAndV ta tb σ H Q := h _ Is.rfl
theorem orVH (h : ∀ R, Is R (fun x H1 => ∃ c, x = .bl c ∧ if c = true then Q (.bl true) H1 else tb σ H1 Q) → ta σ H R) : tOrV ta tb σ H Q := h _ Is.rfl
theorem opH (h : ∀ R, (∀ x H1, Hid (fun y H2 => r x y H2 Q) (fun R2 => tb σ H1 R2) → R x H1) → ta σ H R) : tOp r ta tb σ H Q := h (fun x H1 => tb σ H1 fun y H2 => r x y H2 Q) fun _ _ z => z _ fun _ _ z2 => z2
theorem slH {q : V → Option Int → Option Int → Hp → VK → Prop} {tl th : TO} (h : ∀ R, Is R (fun x H1 => tl σ H1 fun l H2 => th σ H2 fun u H3 => q x l u H3 Q) → te σ H R) : tSl q te tl th σ H Q := h _ Is.rfl
theorem partH {QO : Option Int → Hp → Prop} (h : ∀ R, Is R (fun x H1 => ∃ i, x = .int i ∧ QO (some i) H1) → te σ H R) : tPart te σ H QO := h _ Is.rfl
theorem consH (h : ∀ R, Is R (fun x H1 => t σ H1 fun xs H2 => QA (x :: xs) H2) → te σ H R) : tCons te t σ H QA := h _ Is.rfl
theorem tupH (h : ∀ R, Is R (fun xs H1 => xs.length ≤ sizeLine ∧ ∀ p, H1 p = none → Q (.ref p) (upd H1 p (.tup xs))) → t σ H R) : tTup t σ H Q := h _ Is.rfl
theorem lstH (h : ∀ R, Is R (fun xs H1 => xs.length ≤ sizeLine ∧ ∀ p, H1 p = none → Q (.ref p) (upd H1 p (.lst xs))) → t σ H R) : tLst t σ H Q := h _ Is.rfl
theorem callH {sp : Sp} {dvs : List V} {E : XK} (h : ∀ R, Is R (fun vs H1 => sp (vs ++ dvs) H1 Q E) → t σ H R) : tCall sp dvs E t σ H Q := h _ Is.rfl
theorem cbH {q : List V → Hp → VK → Prop} (h : ∀ R, Is R (fun vs H1 => q vs H1 Q) → t σ H R) : tCB q t σ H Q := h _ Is.rfl
theorem bmH {K : PySem.W.Frag} {T : String} {q : V → List V → Hp → VK → Prop} (h : ∀ R, Is R (fun x H1 => tyV K T x H1 ∧ t σ H1 fun xs H2 => q x xs H2 Q) → ta σ H R) : tBM K T q ta t σ H Q := h _ Is.rfl
theorem gsubH {to ti : TE} {tt : TSet} {v : V} {QS : St → Hp → Prop} (h : ∀ R, (∀ o H1, Hid (fun i H2 => tt o i v H2 fun H3 => QS σ H3) (fun R2 => ti σ H1 R2) → R o H1) → to σ H R) : gSub to ti tt v σ H QS := h (fun o H1 => ti σ H1 fun i H2 => tt o i v H2 fun H3 => QS σ H3) fun _ _ z => z _ fun _ _ z2 => z2
theorem varH {i : Nat} {v : V} (e : σ[i]? = some (some v)) (h : Q v H) : tVar i σ H Q := ⟨v, e, h⟩
theorem conH {v : V} (h : Q v H) : tC v σ H Q := h
theorem nilH (h : QA [] H) : tNil σ H QA := h
theorem noPartH {QO : Option Int → Hp → Prop} (h : QO none H) : tNoPart σ H QO := h
theorem nextH (h : D.nx σ H) : tNext D σ H := h
theorem nameH {i : Nat} {v : V} {QS : St → Hp → Prop} (h : QS (σ.set i (some v)) H) : gName i v σ H QS := h
theorem i0H {g : Int → Int → V} {i j : Int} (h : Q (g i j) H) : rI0 g (.int i) (.int j) H Q := ⟨i, j, rfl, rfl, h⟩
theorem iH {C : Int → Int → Prop} {g : Int → Int → V} {i j : Int} (c : C i j) (h : Q (g i j) H) : rI C g (.int i) (.int j) H Q := ⟨i, j, rfl, rfl, c, h⟩
theorem blH {b : Bool} {S : Bool → Prop} (h : S b) : ∃ k, V.bl b = .bl k ∧ S k := ⟨b, rfl, h⟩
theorem intH {n : Int} {S : Int → Prop} (h : S n) : ∃ k, V.int n = .int k ∧ S k := ⟨n, rfl, h⟩
end
/-! ### the ledger: what is known of the heap, each cell once (tuples and what never changes as often as wanted) -/
def lasts : HO → Bool
  | .tup _ => true
  | .frz _ _ => true
  | _ => false
abbrev Cells := List (Addr × HO)
structure Led (H : Hp) (L : Cells) : Prop where
  at_ : ∀ p ∈ L, H p.1 = some p.2
  nd : ((L.filter fun p => !lasts p.2).map (·.1)).Nodup
theorem Led.get {H : Hp} {L : Cells} (h : Led H L) {a : Addr} {o : HO} (m : (a, o) ∈ L) : H a = some o := h.at_ _ m
theorem Led.nil {H : Hp} : Led H [] := ⟨fun _ h => (nomatch h), List.nodup_nil⟩
theorem Led.new {H : Hp} {L : Cells} (h : Led H L) {p : Addr} {o : HO} (hp : H p = none) : Led (upd H p o) ((p, o) :: L) := by
  have ne : ∀ q ∈ L, q.1 ≠ p := fun q hq e => by have := h.at_ q hq; rw [e, hp] at this; cases this
  refine ⟨fun q hq => ?_, ?_⟩
  · rcases List.mem_cons.mp hq with rfl | hq
    · exact upd_same
    · rw [upd_ne (ne q hq)]; exact h.at_ q hq
  · rw [List.filter_cons]
    split
    · rw [List.map_cons]
      refine List.nodup_cons.mpr ⟨fun m => ?_, h.nd⟩
      obtain ⟨q, hq, e⟩ := List.mem_map.mp m
      exact ne q (List.mem_filter.mp hq).1 e
    · exact h.nd
theorem Led.perm {H : Hp} {L L' : Cells} (h : Led H L) (e : L.Perm L') : Led H L' := by
  refine ⟨fun p hp => h.at_ p (e.mem_iff.mpr hp), ?_⟩
  exact ((e.filter _).map _).nodup_iff.mp h.nd
/-- the cell at a is written -/
theorem Led.put {H : Hp} {L : Cells} {a : Addr} {o o' : HO} (h : Led H ((a, o) :: L)) (hl : lasts o = false) (hl' : lasts o' = false) : Led (upd H a o') ((a, o') :: L) := by
  have ha := h.at_ _ List.mem_cons_self
  have nd := h.nd
  rw [List.filter_cons, if_pos (by simp [hl]), List.map_cons] at nd
  obtain ⟨n1, n2⟩ := List.nodup_cons.mp nd
  have ne : ∀ q ∈ L, q.1 ≠ a := fun q hq e => by
    have hq' := h.at_ q (List.mem_cons_of_mem _ hq)
    rw [e, ha] at hq'
    have e2 : o = q.2 := Option.some.inj hq'
    refine n1 (List.mem_map.mpr ⟨q, List.mem_filter.mpr ⟨hq, by rw [← e2, hl]; rfl⟩, e⟩)
  refine ⟨fun q hq => ?_, ?_⟩
  · rcases List.mem_cons.mp hq with rfl | hq
    · exact upd_same
    · rw [upd_ne (ne q hq)]; exact h.at_ q (List.mem_cons_of_mem _ hq)
  · rw [List.filter_cons, if_pos (by simp [hl']), List.map_cons]
    exact List.nodup_cons.mpr ⟨n1, n2⟩
theorem Led.sub {H : Hp} {L L' : Cells} (h : Led H L) (s : L'.Sublist L) : Led H L' := ⟨fun p hp => h.at_ p (s.subset hp), List.Nodup.sublist ((s.filter _).map _) h.nd⟩
theorem Led.tail {H : Hp} {L : Cells} {p : Addr × HO} (h : Led H (p :: L)) : Led H L := h.sub (List.sublist_cons_self p L)
/-- what lasts may be told once more -/
theorem Led.again {H : Hp} {L : Cells} {a : Addr} {o : HO} (h : Led H L) (ha : H a = some o) (hl : lasts o = true) : Led H ((a, o) :: L) := by
  refine ⟨fun q hq => ?_, ?_⟩
  · rcases List.mem_cons.mp hq with rfl | hq
    · exact ha
    · exact h.at_ q hq
  · rw [List.filter_cons, if_neg (by simp [hl])]; exact h.nd
theorem Led.swap {H : Hp} {L : Cells} {p q : Addr × HO} (h : Led H (p :: q :: L)) : Led H (q :: p :: L) := h.perm (List.Perm.swap q p L)
/-- the i-th cell to the front -/
theorem Led.pull {H : Hp} {L M : Cells} {p : Addr × HO} (h : Led H (L ++ p :: M)) : Led H (p :: (L ++ M)) := h.perm List.perm_middle
theorem Led.push {H : Hp} {L M : Cells} {p : Addr × HO} (h : Led H (p :: (L ++ M))) : Led H (L ++ p :: M) := h.perm List.perm_middle.symm
/-- a new thing, the heap behind a letter -/
theorem Led.alloc {H : Hp} {L : Cells} {o : HO} {Q : VK} (h : Led H L) (k : ∀ p H', H p = none → Led H' ((p, o) :: L) → Same H H' → Q (.ref p) H') : ∀ p, H p = none → Q (.ref p) (upd H p o) := fun p hp => k p _ hp (h.new hp) (same_upd hp)
theorem Led.same {H H' : Hp} {L : Cells} (h : Led H L) (s : Same H H') : Led H' L := ⟨fun p hp => s _ _ (h.at_ p hp), h.nd⟩
theorem FnD.imp {P : Program} {w : World} {K : PySem.W.Frag} {mg : Str → Option Value} {base : Heap} {k : Nat} {x : Str} {ps : List Str} {sp sp' : Sp} (F : FnD P w K mg base k x ps sp) (h : ∀ vs H Q E, sp' vs H Q E → sp vs H Q E) : FnD P w K mg base k x ps sp' := by
  obtain ⟨f, fd, h1, h2, h3, h4⟩ := F.ex
  exact ⟨f, fd, h1, h2, h3, h4.imp h⟩
/-- the script, known through it all -/
def Scr (K : PySem.W.Frag) (L : Cells) (a : Addr) (xs : List V) : Prop := (∃ o, (a, HO.frz o (.lst xs)) ∈ L) ∨ ∀ H, SqL K H a xs
theorem Scr.seq {K : PySem.W.Frag} {L : Cells} {a : Addr} {xs : List V} {H : Hp} (s : Scr K L a xs) (h : Led H L) : SqL K H a xs := by
  rcases s with ⟨o, m⟩ | s
  · exact .inl (.inr ⟨o, h.get m⟩)
  · exact s H
theorem Scr.mono {K : PySem.W.Frag} {L L' : Cells} {a : Addr} {xs : List V} (s : Scr K L a xs) (h : ∀ p ∈ L, p ∈ L') : Scr K L' a xs := by
  rcases s with ⟨o, m⟩ | s
  · exact .inl ⟨o, h _ m⟩
  · exact .inr s
/-- at the law's entry -/
theorem scr_start {K : PySem.W.Frag} {H : Hp} {a : Addr} {xs : List V} (hS : SqL K H a xs) (hO : Only H) : ∃ L, Led H L ∧ Scr K L a xs := by
  rcases hS with (h | ⟨o, h⟩) | h
  · rcases hO a with z | ⟨o, ys, z⟩
    · rw [h] at z; cases z
    · rw [h] at z; cases z
  · exact ⟨[(a, .frz o (.lst xs))], Led.nil.again h rfl, .inl ⟨o, List.mem_cons_self⟩⟩
  · exact ⟨[], Led.nil, .inr fun H' => .inr h⟩
theorem repH {H : Hp} {Q : VK} {l : Addr} {k : Int} {xs : List V} (h1 : H l = some (.lst xs)) (hk : -(2 ^ 63) ≤ k ∧ k < 2 ^ 63) (hl : xs.length * k.toNat ≤ sizeLine) (h : ∀ p, H p = none → Q (.ref p) (upd H p (.lst (List.replicate k.toNat xs).flatten))) : rRep (.ref l) (.int k) H Q := ⟨l, k, xs, rfl, rfl, h1, hk.1, hk.2, hl, h⟩
section
variable {H : Hp} {Q : VK} {x y v : V} {a : Addr} {xs : List V} {i : Int}
theorem eqIH {m n : Int} (h : Q (.bl (decide (m = n))) H) : rEq (.int m) (.int n) H Q := ⟨rfl, by rw [show decide (V.int m = V.int n) = decide (m = n) by simp]; exact h⟩
theorem neIH {m n : Int} (h : Q (.bl (!decide (m = n))) H) : rNe (.int m) (.int n) H Q := ⟨rfl, by rw [show decide (V.int m = V.int n) = decide (m = n) by simp]; exact h⟩
theorem neSH {m n : Str} (h : Q (.bl (!decide (m = n))) H) : rNe (.str m) (.str n) H Q := ⟨rfl, by rw [show decide (V.str m = V.str n) = decide (m = n) by simp]; exact h⟩
theorem isiH {n t : String} {b : Bool} (h1 : tyN H x = some t) (h2 : isiT t n = some b) (h : Q (.bl b) H) : rIsiN [x, .ty n] H Q := ⟨x, n, t, b, rfl, h1, h2, h⟩
theorem ixLH (h1 : H a = some (.lst xs)) (h2 : atI xs i = some v) (h : Q v H) : rIxA (.ref a) (.int i) H Q := ⟨a, i, rfl, rfl, .inl ⟨xs, h1, v, h2, h⟩⟩
theorem ixTH (h1 : H a = some (.tup xs)) (h2 : atI xs i = some v) (h : Q v H) : rIxA (.ref a) (.int i) H Q := ⟨a, i, rfl, rfl, .inr ⟨xs, h1, v, h2, h⟩⟩
theorem lenLH (h1 : H a = some (.lst xs)) (h : Q (.int xs.length) H) : rLenA [.ref a] H Q := ⟨a, rfl, .inl ⟨xs, h1, h⟩⟩
theorem lenTH (h1 : H a = some (.tup xs)) (h : Q (.int xs.length) H) : rLenA [.ref a] H Q := ⟨a, rfl, .inr (.inl ⟨xs, h1, h⟩)⟩
theorem tyL (h : H a = some (.lst xs)) : tyN H (.ref a) = some "list" := by unfold tyN; simp only [h]
theorem tyT (h : H a = some (.tup xs)) : tyN H (.ref a) = some "tuple" := by unfold tyN; simp only [h]
theorem catH {b : Addr} {zs : List V} (h1 : H a = some (.lst xs)) (h2 : H b = some (.lst zs)) (hl : xs.length + zs.length ≤ sizeLine) (h : ∀ p, H p = none → Q (.ref p) (upd H p (.lst (xs ++ zs)))) : rCat (.ref a) (.ref b) H Q := ⟨a, b, xs, zs, rfl, rfl, h1, h2, hl, h⟩
theorem slLH {K : PySem.W.Frag} {lo hi : Option Int} (h1 : SqL K H a xs) (h : ∀ p, H p = none → Q (.ref p) (upd H p (.lst (cutV xs lo hi)))) : rSlL K (.ref a) lo hi H Q := ⟨a, xs, rfl, h1, h⟩
theorem appH {l : Addr} (h1 : H l = some (.lst xs)) (hl : xs.length < sizeLine) (h : Q .non (upd H l (.lst (xs ++ [y])))) : rAppend (.ref l) [y] H Q := ⟨l, xs, y, rfl, rfl, h1, hl, h⟩
theorem setLH {QH : Hp → Prop} {p : Addr} {k : Int} {j : Nat} (h1 : H p = some (.lst xs)) (h2 : ixN xs.length k = some j) (h : QH (upd H p (.lst (xs.set j v)))) : rSetL (.ref p) (.int k) v H QH := ⟨p, xs, k, j, rfl, rfl, h1, h2, h⟩
theorem rtH {n b' c' : St → Hp → Prop} {q : VK} (h : q x H) : (Ends.mk n q b' c').rt x H := h
theorem nxH {n b' c' : St → Hp → Prop} {q : VK} {σ : St} (h : n σ H) : (Ends.mk n q b' c').nx σ H := h
theorem iteNT {A B : Prop} (h : B) : if (!true) = true then A else B := by simpa using h
theorem iteNF {A B : Prop} (h : A) : if (!false) = true then A else B := by simpa using h
theorem iteND {c : Prop} [Decidable c] {A B : Prop} (h1 : ¬ c → A) (h2 : c → B) : if (!decide c) = true then A else B := by
  by_cases h : c
  · rw [decide_eq_true h]; exact iteNT (h2 h)
  · rw [decide_eq_false h]; exact iteNF (h1 h)
theorem powH {m : Int} (e : (10 : Int) ^ i.toNat = m) (c : CPow 10 i) (h : Q (.int m) H) : rI CPow (fun i j => .int (i ^ j.toNat)) (.int 10) (.int i) H Q := ⟨10, i, rfl, rfl, c, by dsimp only; rw [e]; exact h⟩
theorem pow59H (h : Q (.int 100000000000000000000000000000000000000000000000000000000000) H) : rI CPow (fun i j => .int (i ^ j.toNat)) (.int 10) (.int 59) H Q := powH (by decide) (of_eq_true cpow_59) h
theorem tyI {n : Int} : tyN H (.int n) = some "int" := rfl
theorem tyB {n : Bool} : tyN H (.bl n) = some "bool" := rfl
theorem tyO : tyN H .non = some "NoneType" := rfl
theorem tyVL {K : PySem.W.Frag} (h : H a = some (.lst xs)) : tyV K "list" (.ref a) H := .inl ⟨rfl, xs, SqL.of h⟩
end
def Keep (p : Prop) : Prop := p ∧ True
theorem seqK {t u : TS} {D : Ends} {σ : St} {H : Hp} (h : ∀ M, Keep (Is M (u D)) → t { D with nx := M } σ H) : tSeq t u D σ H := h _ ⟨Is.rfl, trivial⟩
theorem Keep.use {M N : St → Hp → Prop} (h : Keep (Is M N)) {σ : St} {H : Hp} (k : N σ H) : M σ H := by cases h.1; exact k
theorem listH {K : PySem.W.Frag} {H : Hp} {Q : VK} {a : Addr} {ys : List V} (h1 : SqL K H a ys) (h : ∀ l, H l = none → Q (.ref l) (upd H l (.lst ys))) : ∃ p ys, [V.ref a] = [.ref p] ∧ (SqL K H p ys ∨ SqT K H p ys) ∧ ∀ l, H l = none → Q (.ref l) (upd H l (.lst ys)) := ⟨a, ys, rfl, .inl h1, h⟩
theorem ixN_of {n : Nat} {i : Int} (h0 : 0 ≤ i) (h1 : i < n) : ixN n i = some i.toNat := by unfold ixN; rw [if_pos h0, if_pos h1]
theorem atI_of {xs : List V} {i : Int} {v : V} (h0 : 0 ≤ i) (h : xs[i.toNat]? = some v) : atI xs i = some v := by
  have hj : i.toNat < xs.length := (List.getElem?_eq_some_iff.mp h).1
  unfold atI
  rw [ixN_of h0 (by omega)]
  exact h
/-- a comprehension over a range, each of whose elements leaves the ledger as it is and has what f says of it -/
theorem compRangeL {lo : Int} {n : Nat} {te : TE} {σ : St} {Q : VK} {H1 : Hp} {L : Cells} (F : Nat → V → Prop) (hL : Led H1 L) (hn : n ≤ sizeLine)
    (hs : ∀ (i : Nat) (H : Hp) (R : VK) (q : Addr × HO), i < n → Led H (q :: L) → (∀ v H', F i v → Led H' (q :: L) → R v H') → te (some (.int (lo + i)) :: σ) H R)
    (hd : ∀ p acc H', acc.length = n → (∀ i v, acc[i]? = some v → F i v) → Led H' ((p, .lst acc) :: L) → Q (.ref p) H') : CompJ (Itr lo n) tYes te σ Q H1 := by
  refine compRange (fun p i acc H => i ≤ n ∧ acc.length = i ∧ (∀ j v, acc[j]? = some v → F j v) ∧ Led H ((p, .lst acc) :: L)) (fun p hp => ⟨Nat.zero_le _, rfl, fun j v h => by simp at h, hL.new hp⟩) (fun p i acc H hp h => h.2.2.2.get List.mem_cons_self) ?_ ?_
  · rintro p i acc H hp hi ⟨_, rfl, hF, hl⟩
    unfold tYes
    dsimp only
    rw [if_pos rfl]
    refine hs _ _ _ (p, .lst acc) hi hl fun v H' fv hl' => ⟨hl'.get List.mem_cons_self, by omega, hi, by simp, fun j u hj => ?_, hl'.put rfl rfl⟩
    rw [List.getElem?_append] at hj
    split at hj
    · exact hF j u hj
    · rename_i hge
      have : j - acc.length = 0 := by
        rcases Nat.lt_or_ge (j - acc.length) 1 with h | h
        · omega
        · rw [List.getElem?_eq_none (by simpa using h)] at hj; cases hj
      rw [this] at hj
      have e : j = acc.length := by omega
      subst e
      cases hj
      exact fv
  · rintro p acc H hp ⟨_, e, hF, hl⟩
    exact hd p acc H e hF hl
end L2
set_option Elab.async false
set_option linter.all false
set_option maxRecDepth 100000
namespace L2
open PySem PySem.Spec PyProof.Rows PySem.W
/-! ### sorted: of a list of ints, of a dict with ints for keys -/
section
variable {X : Cx}
theorem sz64 {n : Nat} (h : n < 64) : n ≤ sizeLine := Nat.le_trans (Nat.le_of_lt h) (by decide)
/-! ### all, any of a list of truths -/
end
end L2
set_option Elab.async false
set_option linter.all false
set_option maxRecDepth 100000
namespace L2
open PySem PySem.Spec PyProof.Rows
/-! ### enumerate of a list, unpacked -/
section
variable {X : Cx} {pins : List (Addr × Obj)} {σ : St} {H : Hp} {s : Shared} {h' : Heap}
end
section
variable {X : Cx}
end
end L2
set_option Elab.async false
set_option linter.all false
set_option maxRecDepth 100000
namespace L2
open PySem PySem.Spec PyProof.Rows
/-! ### fields and dicts, step by step -/
section
variable {H : Hp} {Q : VK} {a : Addr} {σ : St} {D : Ends}
theorem isH {x : V} (h : Q (.bl (decide (x = .non))) H) : V.non = .non ∧ Q (.bl (decide (x = .non))) H := ⟨rfl, h⟩
theorem isnH {x : V} (h : Q (.bl (!decide (x = .non))) H) : V.non = .non ∧ Q (.bl (!decide (x = .non))) H := ⟨rfl, h⟩
end
end L2
set_option Elab.async false
set_option linter.all false
set_option maxRecDepth 100000
namespace L2
open PySem PySem.Spec PyProof.Rows
/-- a comprehension over a list, each of whose elements lays cells of its own -/
theorem compListL {K : PySem.W.Frag} {a : Addr} {te : TE} {σ : St} {Q : VK} {H1 : Hp} {L : Cells} (xs : List V) (G : Nat → V → Cells → Prop) (hL : Led H1 L) (ha : (a, HO.lst xs) ∈ L) (hn : xs.length ≤ sizeLine)
    (hs : ∀ (i : Nat) (x : V) (H : Hp) (R : VK) (M : Cells), xs[i]? = some x → Led H (M ++ L) → (∀ v H' C, G i v C → Led H' (C ++ (M ++ L)) → R v H') → te (some x :: σ) H R)
    (hd : ∀ (p : Addr) (vs : List V) (Cs : List Cells) (H' : Hp), vs.length = xs.length → Cs.length = xs.length → (∀ (i : Nat) v C, vs[i]? = some v → Cs[i]? = some C → G i v C) → Led H' ((p, .lst vs) :: (Cs.flatten ++ L)) → Q (.ref p) H') : CompJ (Itl K a) tYes te σ Q H1 := by
  refine compList xs (fun p i acc H => i ≤ xs.length ∧ acc.length = i ∧ ∃ Cs : List Cells, Cs.length = i ∧ (∀ (j : Nat) v C, acc[j]? = some v → Cs[j]? = some C → G j v C) ∧ Led H ((p, .lst acc) :: (Cs.flatten ++ L))) (fun p hp => ⟨Nat.zero_le _, rfl, [], rfl, fun j v C h => by simp at h, hL.new hp⟩) (fun p i acc H hp h => ?_) ?_ ?_
  · obtain ⟨_, _, Cs, _, _, hl⟩ := h
    exact ⟨hl.get List.mem_cons_self, SqL.of (hl.get (List.mem_cons_of_mem _ (List.mem_append_right _ ha)))⟩
  · rintro p i x acc H hp hx ⟨_, rfl, Cs, hc, hG, hl⟩
    have hi : acc.length < xs.length := (List.getElem?_eq_some_iff.mp hx).1
    unfold tYes
    dsimp only
    rw [if_pos rfl]
    refine hs _ x H _ ((p, .lst acc) :: Cs.flatten) hx hl fun v H' C g hl' => ?_
    have h1 : Led H' ((p, .lst acc) :: (C ++ (Cs.flatten ++ L))) := Led.pull hl'
    refine ⟨h1.get List.mem_cons_self, by omega, hi, by simp, Cs ++ [C], by simp [hc], fun j u D hu hD => ?_, ?_⟩
    · rw [List.getElem?_append] at hu hD
      rw [hc] at hD
      by_cases hj : j < acc.length
      · rw [if_pos hj] at hu hD
        exact hG j u D hu hD
      · rw [if_neg hj] at hu hD
        have h0 : j - acc.length = 0 := by
          rcases Nat.lt_or_ge (j - acc.length) 1 with h | h
          · omega
          · rw [List.getElem?_eq_none (by simpa using h)] at hu; cases hu
        rw [h0] at hu hD
        have e : j = acc.length := by omega
        subst e
        cases hu
        cases hD
        exact g
    · refine (h1.put (o' := .lst (acc ++ [v])) rfl rfl).perm (List.Perm.cons _ ?_)
      rw [List.flatten_append, List.flatten_cons, List.flatten_nil, List.append_nil, List.append_assoc, ← List.append_assoc, ← List.append_assoc]
      exact List.Perm.append_right _ List.perm_append_comm
  · rintro p acc H hp ⟨_, e, Cs, hc, hG, hl⟩
    exact hd p acc Cs H e hc hG hl
end L2
set_option Elab.async false
set_option linter.all false
set_option maxRecDepth 100000
namespace L2
open PySem PySem.Spec PyProof.Rows
/-! ### get and pop with a default -/
section
variable {H : Hp} {Q : VK} {a : Addr} {σ : St} {D : Ends}
end
/-! ### ledgers turned about and thinned -/
section
variable {α : Type} {A B B' X Y : List α} {a b : α}
theorem pcC (h : (a :: B').Perm B) : (a :: b :: B').Perm (b :: B) := (List.Perm.swap _ _ _).trans (h.cons b)
theorem paA (h : (X ++ B').Perm B) : (X ++ (Y ++ B')).Perm (Y ++ B) := by
  refine List.Perm.trans ?_ (List.Perm.append_left Y h)
  rw [← List.append_assoc, ← List.append_assoc]
  exact List.Perm.append_right _ List.perm_append_comm
def SubP (B A : List α) : Prop := ∃ A', B.Perm A' ∧ A'.Sublist A
theorem spR : SubP A A := ⟨A, .refl _, .refl _⟩
theorem spC (h1 : (a :: A).Perm B) (h2 : SubP Y A) : SubP (a :: Y) B := by
  obtain ⟨A', p, s⟩ := h2
  obtain ⟨C, p2, s2⟩ := List.exists_perm_sublist (s.cons₂ a) h1
  exact ⟨C, (p.cons a).trans p2.symm, s2⟩
theorem spD (h : SubP B A) : SubP B (a :: A) := by
  obtain ⟨A', p, s⟩ := h
  exact ⟨A', p, s.cons a⟩
theorem spDA (h : SubP B A) : SubP B (X ++ A) := by
  obtain ⟨A', p, s⟩ := h
  exact ⟨A', p, s.trans (List.sublist_append_right X A)⟩
end
theorem Led.wk {H : Hp} {L L' : Cells} (h : Led H L) (s : SubP L' L) : Led H L' := by
  obtain ⟨A', p, q⟩ := s
  exact (h.sub q).perm p.symm
end L2
set_option Elab.async false
set_option linter.all false
set_option maxRecDepth 100000
namespace L2
open PySem PySem.Spec PyProof.Rows PySem.W
/-! ### equality of plain data, at any depth -/
theorem shaped_kqd {d : Dat} (h : kqdOk 8 d = true) : shaped (kqdP d) = true := by
  have l := kqd_lay 8 d h
  show ((kqdP d).canLay0 && decide ((kqdP d).depth ≤ 64)) = true
  rw [l.1, Bool.true_and]
  exact decide_eq_true (Nat.le_trans l.2 (by decide))
theorem eqv_kqd {d e : Dat} {b : Bool} (h1 : kqdOk 8 d = true) (h2 : kqdOk 8 e = true) (hb : b = true ↔ d = e) : PyData.eqv (kqdP d) (kqdP e) = b := by
  have q := kqd_eqv 8 d e 8 h1 h2
  cases b with
  | true => exact q.mpr (hb.mp rfl)
  | false => exact Bool.eq_false_iff.mpr fun x => absurd (hb.mpr (q.mp x)) Bool.false_ne_true
theorem eqDH {H : Hp} {Q : VK} {x y : V} {d e : Dat} {b : Bool} (hx : DatV H x (kqdP d)) (hy : DatV H y (kqdP e)) (h1 : kqdOk 8 d = true) (h2 : kqdOk 8 e = true) (hb : b = true ↔ d = e) (h : Q (.bl b) H) : rEqD x y H Q := ⟨_, _, hx, hy, shaped_kqd h1, shaped_kqd h2, by rw [eqv_kqd h1 h2 hb]; exact h⟩
theorem neDH {H : Hp} {Q : VK} {x y : V} {d e : Dat} {b : Bool} (hx : DatV H x (kqdP d)) (hy : DatV H y (kqdP e)) (h1 : kqdOk 8 d = true) (h2 : kqdOk 8 e = true) (hb : b = true ↔ d = e) (h : Q (.bl (!b)) H) : rNeD x y H Q := ⟨_, _, hx, hy, shaped_kqd h1, shaped_kqd h2, by rw [eqv_kqd h1 h2 hb]; exact h⟩
theorem kqdPs_map : ∀ ds : List Dat, kqdPs ds = ds.map kqdP
  | [] => rfl
  | d :: ds => by rw [kqdPs, kqdPs_map ds]; rfl
/-! ### a comprehension that leaves out -/
theorem sl_tupK {X : Cx} {K : PySem.W.Frag} (h : X.K = K) : SlR X (rSlT K) := by subst h; exact sl_tup
theorem slTH {H : Hp} {Q : VK} {K : PySem.W.Frag} {a : Addr} {xs : List V} {lo hi : Option Int} (h1 : H a = some (.tup xs)) (h2 : ¬ (HT.sIx xs.length 0 lo = 0 ∧ HT.sIx xs.length xs.length hi = xs.length)) (h : ∀ p, H p = none → Q (.ref p) (upd H p (.tup (cutV xs lo hi)))) : rSlT K (.ref a) lo hi H Q := ⟨a, xs, rfl, SqT.of h1, h2, h⟩
end L2
set_option Elab.async false
set_option linter.all false
set_option maxRecDepth 100000
namespace L2
open PySem PySem.Spec PyProof.Rows
/-! ### plain lists; a law's own dict from ints to values -/
/-! the law's dict -/
structure WD (kvs : List (Key × V)) (f : Int → V) (n : Nat) : Prop where
  nd : (kvs.map (·.1)).Nodup
  ik : ∀ k ∈ kvs.map (·.1), ∃ m : Int, k = Sum.inl m
  le : kvs.length ≤ n
  vl : ∀ m, valV kvs (.inl m) = if f m = .non then none else some (f m)
theorem WD.keys {kvs : List (Key × V)} (h : ∀ k ∈ kvs.map (·.1), ∃ m : Int, k = Sum.inl m) : ∃ ns : List Int, kvs.map (·.1) = ns.map Sum.inl := by
  induction kvs with
  | nil => exact ⟨[], rfl⟩
  | cons p r ih =>
    obtain ⟨ns, e⟩ := ih fun k hk => h k (List.mem_cons_of_mem _ hk)
    obtain ⟨m, hm⟩ := h p.1 List.mem_cons_self
    exact ⟨m :: ns, by rw [List.map_cons, List.map_cons, e, hm]⟩
theorem WD.ns {kvs : List (Key × V)} {f : Int → V} {n : Nat} (h : WD kvs f n) : ∃ ns : List Int, kvs.map (·.1) = ns.map Sum.inl ∧ ns.length ≤ n ∧ ns.Nodup ∧ ∀ m, m ∈ ns ↔ f m ≠ .non := by
  obtain ⟨ns, e⟩ := WD.keys h.ik
  refine ⟨ns, e, ?_, ?_, fun m => ?_⟩
  · have := congrArg List.length e
    rw [List.length_map, List.length_map] at this
    have := h.le
    omega
  · have := h.nd
    rw [e] at this
    exact (List.pairwise_map.mp this).imp fun {a b} hab z => hab (by rw [z])
  · have h1 : m ∈ ns ↔ (Sum.inl m : Key) ∈ kvs.map (·.1) := by
      rw [e, List.mem_map]
      constructor
      · intro hm; exact ⟨m, hm, rfl⟩
      · rintro ⟨m', hm, z⟩; cases z; exact hm
    rw [h1]
    have hv := h.vl m
    constructor
    · intro hk z
      rw [if_pos z] at hv
      exact valV_not hv hk
    · intro z
      rw [if_neg z] at hv
      exact valV_in hv
theorem WD.start : WD [] (fun _ => .non) 0 := ⟨List.nodup_nil, (fun _ h => nomatch h), Nat.le_refl _, fun m => by rw [if_pos rfl]; rfl⟩
theorem WD.mono {kvs : List (Key × V)} {f : Int → V} {n n' : Nat} (h : WD kvs f n) (hn : n ≤ n') : WD kvs f n' := ⟨h.nd, h.ik, Nat.le_trans h.le hn, h.vl⟩
theorem WD.get {kvs : List (Key × V)} {f : Int → V} {n : Nat} (h : WD kvs f n) (m : Int) : (valV kvs (.inl m)).getD .non = f m := by
  rw [h.vl]
  split
  · rename_i e; rw [e]; rfl
  · rfl
theorem cut_ints (ns : List Int) (lo hi : Option Int) : ∃ ms : List Int, cutV (ns.map V.int) lo hi = ms.map V.int ∧ ms.length ≤ ns.length := by
  refine ⟨(ns.drop (HT.sIx (ns.map V.int).length 0 lo)).take (HT.sIx (ns.map V.int).length (ns.map V.int).length hi - HT.sIx (ns.map V.int).length 0 lo), ?_, ?_⟩
  · unfold cutV
    rw [List.map_take, List.map_drop]
  · rw [List.length_take, List.length_drop]
    omega
/-! ### parts of a tuple of four -/
theorem sl4b {H : Hp} {Q : VK} {K : PySem.W.Frag} {p : Addr} {a b c d : V} (h1 : H p = some (.tup [a, b, c, d])) (h : ∀ q, H q = none → Q (.ref q) (upd H q (.tup [c, d]))) : rSlT K (.ref p) (some 2) none H Q := slTH h1 (show ¬ (HT.sIx 4 0 (some 2) = 0 ∧ HT.sIx 4 4 none = 4) by decide) h
/-! ### a loop over a tuple -/
end L2
set_option Elab.async false
set_option linter.all false
set_option maxRecDepth 100000
namespace L2
open PySem PySem.Spec PyProof.Rows
/-! ### dict(d): a copy -/
/-! ### a row of blocks: one taken out, one put back -/
end L2
set_option Elab.async false
set_option linter.all false
set_option maxRecDepth 100000
namespace L2
open PySem PySem.Spec PyProof.Rows PySem.W
/-! ### reversed(list) in a loop -/
section
variable {X : Cx}
end
/-! ### in, not in of plain data, at any depth -/
section
variable {X : Cx}
def rInD (neg : Bool) : R2 := fun x y H Q => ∃ d ds, DatV H x d ∧ DatV H y (.list ds) ∧ d.depth ≤ 60 ∧ shaped d = true ∧ shaped (.list ds) = true ∧ Q (.bl (if neg then !(ds.any fun e => PyData.eqv e d) else ds.any fun e => PyData.eqv e d)) H
theorem shaped_lay {d : PyData} (h : shaped d = true) : d.canLay0 = true ∧ d.depth ≤ 64 := by
  have h' : (d.canLay0 && decide (d.depth ≤ 64)) = true := h
  rw [Bool.and_eq_true, decide_eq_true_iff] at h'
  exact h'
theorem shaped_all {ds : List PyData} (h : shaped (.list ds) = true) : PyData.canLayAll0 ds = true := by
  have := (shaped_lay h).1
  simpa [PyData.canLay0] using this
theorem op_inD (hu : X.A.units + 64 < cLine) : OpR X (compareOp .In) (rInD false) := by
  intro pins s σ H x y u v Q I rx ry h
  obtain ⟨d, ds, hd, he, h60, sd, se, q⟩ := h
  obtain ⟨_, ra⟩ := hd.reads I.hok rx
  obtain ⟨_, rb⟩ := he.reads I.hok ry
  have h1 := shaped_lay sd
  exact SeqAt.in_list_reads rb ra (shaped_all se) h1.1 (by have := Nat.min_le_right (PyData.depthAll ds) d.depth; omega) ⟨.bl _, H, I, rfl, q⟩
theorem op_notInD (hu : X.A.units + 64 < cLine) : OpR X (compareOp .NotIn) (rInD true) := by
  intro pins s σ H x y u v Q I rx ry h
  obtain ⟨d, ds, hd, he, h60, sd, se, q⟩ := h
  obtain ⟨_, ra⟩ := hd.reads I.hok rx
  obtain ⟨_, rb⟩ := he.reads I.hok ry
  have h1 := shaped_lay sd
  exact SeqAt.notIn_list_reads rb ra (shaped_all se) h1.1 (by have := Nat.min_le_right (PyData.depthAll ds) d.depth; omega) ⟨.bl _, H, I, rfl, q⟩
end
/-! ### a comprehension whose items are new tuples of ints -/
theorem at2i {x y i : Int} (h0 : 0 ≤ i) (h1 : i ≤ 1) : atI [V.int x, .int y] i = some (.int (if i = 0 then x else y)) := by
  have h : i = 0 ∨ i = 1 := by omega
  rcases h with rfl | rfl
  · rw [if_pos rfl]; exact atI_0
  · rw [if_neg (by decide)]; exact atI_1
end L2
set_option Elab.async false
set_option linter.all false
set_option maxRecDepth 100000
namespace L2
open PySem PySem.Spec PyProof.Rows PySem.W
/-! ### lists of truths -/
/-! ### the clear of a list -/
/-! ### while, try, behind letters -/
/-! ### a method's call within a try -/
section
variable {X : Cx} {k : Nat} {C : Addr} {ps : List Str} {sp : Sp} {x m : Str} {pos apos : Pos} {e o : Expr} {es : List Expr} {ta : TE} {t : TA}
end
end L2
set_option Elab.async false
set_option linter.all false
set_option maxRecDepth 100000
namespace L2
open PySem PySem.Spec PyProof.Rows PySem.W
/-! ### slices of a text -/
section
variable {X : Cx}
def rSlS : V → Option Int → Option Int → Hp → VK → Prop := fun x lo hi H Q => ∃ z, x = .str z ∧ z.length ≤ sizeLine ∧ Q (.str (Txt.slice z lo hi)) H
theorem part_of {v : Value} {o : Option Int} (h : IsPart v o) : ∃ l : Option (Int × Tok), v = partValue l ∧ o = l.map (·.1) := by
  cases h with
  | none => exact ⟨none, rfl, rfl⟩
  | int i t => exact ⟨some (i, t), rfl, rfl⟩
theorem sl_str : SlR X rSlS := by
  intro pins s σ H x v vl vu lo hi sl Q I rx hs pl pu h
  obtain ⟨z, rfl, hz, q⟩ := h
  obtain ⟨t, rfl⟩ := rx
  obtain ⟨l, rfl, rfl⟩ := part_of pl
  obtain ⟨u, rfl, rfl⟩ := part_of pu
  refine ⟨"str", _, F.slot_str_getitem.lookup, typeIs_str _ z t, wpAny_getItem_str_slice (l := l) (u := u) (st := none) hs rfl ?_⟩
  have hle := Txt.slice_le z (l.map (·.1)) (u.map (·.1))
  unfold sliceMade
  unfold Txt.slice at q hle
  by_cases c : (((none : Option (Int × Tok)).map (·.1)).getD 1 == 1 && (slicePicked z l u none).length == z.length) = true
  · rw [if_pos c]
    have c' : ((1 : Int) == 1 && (Builtin.Str.strSliceIndices (l.map (·.1)) (u.map (·.1)) 1 z.length).length == z.length) = true := c
    rw [if_pos c'] at q
    exact ⟨.str z, H, I, ⟨t, rfl⟩, q⟩
  · rw [if_neg c]
    have c' : ¬ ((1 : Int) == 1 && (Builtin.Str.strSliceIndices (l.map (·.1)) (u.map (·.1)) 1 z.length).length == z.length) = true := c
    rw [if_neg c'] at q hle
    exact ⟨Nat.le_trans hle hz, .str _, H, I.tok _, ⟨_, rfl⟩, q⟩
theorem slSH {H : Hp} {Q : VK} {z : Str} {lo hi : Option Int} (hz : z.length ≤ sizeLine) (h : Q (.str (Txt.slice z lo hi)) H) : rSlS (.str z) lo hi H Q := ⟨z, rfl, hz, h⟩
/-! ### the signs of a text, one by one -/
abbrev sg (c : Nat) : V := .str ⟨#[c]⟩
end
/-! ### sep.join(list of texts) -/
def joinS (sep : Str) : List Str → Str
  | [p] => p
  | l => Builtin.Str.glued sep l
def rJoin : V → List V → Hp → VK → Prop := fun x vs H Q => ∃ (sep : Str) (a : Addr) (ys : List Str), x = .str sep ∧ vs = [.ref a] ∧ H a = some (.lst (ys.map V.str)) ∧ (ys.map (·.length)).sum + ys.length * sep.length ≤ sizeLine ∧ Q (.str (joinS sep ys)) H
theorem strs_of : ∀ {ys : List Str} {us : List Value}, Vals (ys.map V.str) us → ∃ l : List (Str × Tok), us = strValues l ∧ l.map (·.1) = ys
  | [], _, .nil => ⟨[], rfl, rfl⟩
  | y :: ys, _, .cons r t => by
    obtain ⟨l, rfl, e⟩ := strs_of t
    obtain ⟨k, rfl⟩ := r
    exact ⟨(y, k) :: l, rfl, by rw [List.map_cons, e]⟩
theorem fold_len (sep : Str) : ∀ (ys : List Str) (n : Nat), ys.foldl (fun m y => m + y.length + sep.length) n = n + (ys.map (·.length)).sum + ys.length * sep.length
  | [], n => by simp
  | y :: ys, n => by
    rw [List.foldl_cons, fold_len sep ys, List.map_cons, List.sum_cons, List.length_cons, Nat.add_mul]
    omega
theorem joinS_len (sep : Str) (ys : List Str) : (joinS sep ys).length ≤ (ys.map (·.length)).sum + ys.length * sep.length := by
  unfold joinS
  split
  · simp only [List.map_cons, List.map_nil, List.sum_cons, List.sum_nil]; omega
  · rw [size_glued]
    have : (ys.length - 1) * sep.length ≤ ys.length * sep.length := Nat.mul_le_mul_right _ (Nat.sub_le _ _)
    omega
theorem mt_join {X : Cx} : MtR X "str.join" rJoin := by
  intro pins s σ H x vs v us Q I rx rv h
  obtain ⟨sep, a, ys, rfl, rfl, hH, hz, q⟩ := h
  obtain ⟨t, rfl⟩ := rx
  obtain ⟨u, rfl, ru⟩ := vals1 rv
  cases ru
  obtain ⟨its, r, pl, hzl⟩ := I.list (SqL.of (K := X.K) hH)
  obtain ⟨l, rfl, hl⟩ := strs_of r
  have hlen := joinS_len sep ys
  refine call_meets F.slot_str_join (typeIs_str s sep t) F.entry_str_join (F.args_str_join_2 _ _) (meets_str_join_list sep t a l ?_) ⟨pl.isList, ?_⟩
  · rw [hl]
    have := fold_len sep ys 0
    show decide (_ > sizeLine) = false
    refine decide_eq_false ?_
    rw [List.foldl_toArray', this]
    · omega
    all_goals simp
  · subst hl
    cases l with
    | nil => exact ⟨Nat.le_trans hlen hz, .str _, H, I.tok _, ⟨_, rfl⟩, q⟩
    | cons p r3 => cases r3 with
      | nil => exact ⟨.str p.1, H, I, ⟨p.2, rfl⟩, q⟩
      | cons p2 r2 => exact ⟨Nat.le_trans hlen hz, .str _, H, I.tok _, ⟨_, rfl⟩, q⟩
theorem joinH {H : Hp} {Q : VK} {sep : Str} {a : Addr} {ys : List Str} (h1 : H a = some (.lst (ys.map V.str))) (h2 : (ys.map (·.length)).sum + ys.length * sep.length ≤ sizeLine) (h : Q (.str (joinS sep ys)) H) : rJoin (.str sep) [.ref a] H Q := ⟨sep, a, ys, rfl, rfl, h1, h2, h⟩
theorem tyVS {K : PySem.W.Frag} {H : Hp} {z : Str} : tyV K "str" (.str z) H := rfl
/-! ### list(text), a text of the module -/
theorem ixSH {H : Hp} {Q : VK} {z : Str} {i : Int} {c : Nat} (hz : z.length ≤ sizeLine) (h1 : atI z.cps.toList i = some c) (h : Q (sg c) H) : rIxS (.str z) (.int i) H Q := ⟨z, i, c, rfl, rfl, hz, h1, h⟩
theorem addSH {H : Hp} {Q : VK} {i j : Str} (hz : i.length + j.length ≤ sizeLine) (h : Q (.str (i ++ j)) H) : ∃ a b, V.str i = .str a ∧ V.str j = .str b ∧ a.length + b.length ≤ sizeLine ∧ Q (.str (a ++ b)) H := ⟨i, j, rfl, rfl, hz, h⟩
end L2
set_option Elab.async false
set_option linter.all false
set_option maxRecDepth 100000
namespace L2
open PySem PySem.Spec PyProof.Rows PySem.W
section
variable {X : Cx}
/-! ### l.index(x), flat items -/
/-! ### list(d) -/
end
/-! ### a row of entries: number, where its list lies, the list's numbers -/
section
variable {H : Hp} {Q : VK}
end
end L2
set_option Elab.async false
set_option linter.all false
set_option maxRecDepth 100000
namespace L2
open PySem PySem.Spec PyProof.Rows PySem.W
/-! ### zip of two lists, unpacked -/
section
variable {X : Cx} {pins : List (Addr × Obj)} {σ : St} {H : Hp} {s : Shared} {h' : Heap}
end
section
variable {X : Cx}
end
/-! ### x.find(y) -/
def rFind : V → List V → Hp → VK → Prop := fun x vs H Q => ∃ a b : Str, x = .str a ∧ vs = [.str b] ∧ ∀ n : Int, Q (.int n) H
theorem mt_find {X : Cx} : MtR X "str.find" rFind := by
  intro pins s σ H x vs v us Q I rx rv h
  obtain ⟨a, b, rfl, rfl, q⟩ := h
  obtain ⟨t, rfl⟩ := rx
  obtain ⟨u, rfl, ru⟩ := vals1 rv
  obtain ⟨t2, rfl⟩ := ru
  refine call_meets F.slot_str_find (typeIs_str s a t) F.entry_str_find (F.args_str_find_2 _ _) (gives_str_find a b t t2).meets ?_
  exact ⟨.int _, H, I.tok _, ⟨_, rfl⟩, q _⟩
theorem op_catTK {X : Cx} {K : PySem.W.Frag} (h : X.K = K) : OpR X (binaryOp .Add) (rCatT K) := by subst h; exact op_catT
theorem catTH {K : PySem.W.Frag} {H : Hp} {Q : VK} {a b : Addr} {xs ys : List V} (h1 : H a = some (.tup xs)) (h2 : H b = some (.tup ys)) (hx : xs ≠ []) (hy : ys ≠ []) (hz : xs.length + ys.length ≤ sizeLine) (h : ∀ p, H p = none → Q (.ref p) (upd H p (.tup (xs ++ ys)))) : rCatT K (.ref a) (.ref b) H Q := ⟨a, b, xs, ys, rfl, rfl, SqT.of h1, SqT.of h2, hx, hz, fun e => absurd e hy, fun _ => h⟩
end L2
set_option Elab.async false
set_option linter.all false
set_option maxRecDepth 100000
namespace L2
open PySem PySem.Spec PyProof.Rows PySem.W
/-! ### x.startswith(y), x.index(y), int(text), x.split(y) -/
theorem str_ext {x y : Str} (h : x.cps.toList = y.cps.toList) : x = y := by
  cases x with
  | mk a => cases y with
    | mk b => exact congrArg Str.mk (Array.toList_inj.mp h)
end L2
set_option Elab.async false
set_option linter.all false
set_option maxRecDepth 100000
namespace L2
open PySem PySem.Spec PyProof.Rows PySem.W
/-! ### x.split(y) -/
open Builtin Builtin.Str in
/-! ### rows of signs with a blank between -/
/-! ### a number's signs -/
theorem cut_intsM (ns : List Int) (lo hi : Option Int) : ∃ ms : List Int, cutV (ns.map V.int) lo hi = ms.map V.int ∧ ms.length ≤ ns.length ∧ ∀ m ∈ ms, m ∈ ns := by
  refine ⟨(ns.drop (HT.sIx (ns.map V.int).length 0 lo)).take (HT.sIx (ns.map V.int).length (ns.map V.int).length hi - HT.sIx (ns.map V.int).length 0 lo), ?_, ?_, fun m hm => List.mem_of_mem_drop (List.mem_of_mem_take hm)⟩
  · unfold cutV
    rw [List.map_take, List.map_drop]
  · rw [List.length_take, List.length_drop]
    omega
end L2
set_option Elab.async false
set_option linter.all false
set_option maxRecDepth 100000
namespace L2
open PySem PySem.Spec PyProof.Rows PySem.W
section
variable {X : Cx}
/-! ### l.index(x), plain data at any depth -/
def rIndexD : V → List V → Hp → VK → Prop := fun x vs H Q => ∃ l xs y d ds j, x = .ref l ∧ vs = [y] ∧ H l = some (.lst xs) ∧ DatV H y d ∧ DatVs H xs ds ∧ d.depth ≤ 60 ∧ shaped d = true ∧ shaped (.list ds) = true ∧ (∃ e, ds[j]? = some e ∧ PyData.eqv e d = true) ∧ (∀ (m : Nat) e, m < j → ds[m]? = some e → PyData.eqv e d = false) ∧ Q (.int (j : Nat)) H
end
/-- of plain data: the first that is alike -/
theorem idxDH {H : Hp} {Q : VK} {l : Addr} {xs : List V} {y : V} {d : Dat} {ds : List Dat} {j : Nat} (h1 : H l = some (.lst xs)) (hd : DatV H y (kqdP d)) (hds : DatVs H xs (kqdPs ds)) (o1 : kqdOk 8 d = true) (o2 : ∀ e ∈ ds, kqdOk 7 e = true) (hj : ds[j]? = some d) (hno : ∀ (m : Nat) e, m < j → ds[m]? = some e → e ≠ d) (h : Q (.int (j : Nat)) H) : rIndexD (.ref l) [y] H Q := by
  have s1 : kqdOk 8 (.list ds) = true := by rw [kqdOk, List.all_eq_true]; exact o2
  have s2 := shaped_kqd s1
  rw [kqdP] at s2
  have dp := (kqd_lay 8 d o1).2
  refine ⟨l, xs, y, kqdP d, kqdPs ds, j, rfl, rfl, h1, hd, hds, by omega, shaped_kqd o1, s2, ⟨kqdP d, by rw [kqdPs_map, List.getElem?_map, hj]; rfl, (kqd_eqv 8 d d 8 o1 o1).mpr rfl⟩, fun m e hm he => ?_, h⟩
  rw [kqdPs_map, List.getElem?_map] at he
  obtain ⟨e', he', rfl⟩ := Option.map_eq_some_iff.mp he
  exact Bool.eq_false_iff.mpr fun z => hno m e' hm he' ((kqd_eqv 7 e' d 8 (o2 e' (List.mem_of_getElem? he')) o1).mp z)
/-- of plain data: whether it is among them -/
theorem inDH {H : Hp} {Q : VK} {l : Addr} {y : V} {d : Dat} {ds : List Dat} {xs : List V} {neg b : Bool} (h1 : H l = some (.lst xs)) (hd : DatV H y (kqdP d)) (hds : DatVs H xs (kqdPs ds)) (o1 : kqdOk 8 d = true) (o2 : ∀ e ∈ ds, kqdOk 7 e = true) (hb : b = true ↔ d ∈ ds) (h : Q (.bl (if neg then !b else b)) H) : rInD neg y (.ref l) H Q := by
  have s1 : kqdOk 8 (.list ds) = true := by rw [kqdOk, List.all_eq_true]; exact o2
  have s2 := shaped_kqd s1
  rw [kqdP] at s2
  have dp := (kqd_lay 8 d o1).2
  have e : ((kqdPs ds).any fun e => PyData.eqv e (kqdP d)) = b := by
    rw [Bool.eq_iff_iff, hb, kqdPs_map, List.any_map, List.any_eq_true]
    constructor
    · rintro ⟨x, hx, hz⟩
      rw [← (kqd_eqv 7 x d 8 (o2 x hx) o1).mp hz]
      exact hx
    · intro hx
      exact ⟨d, hx, (kqd_eqv 8 d d 8 o1 o1).mpr rfl⟩
  exact ⟨kqdP d, kqdPs ds, hd, .lst h1 hds, by omega, shaped_kqd o1, s2, by rw [e]; exact h⟩
end L2
set_option Elab.async false
set_option linter.all false
set_option maxRecDepth 100000
namespace L2
open PySem PySem.Spec PyProof.Rows PySem.W
section
variable {X : Cx}
/-! ### sorted of a dict with texts for keys -/
theorem vals_strsA : ∀ {us : List Value} {zs : List Str}, StrsAre us zs → Vals (zs.map V.str) us
  | _, _, .nil => .nil
  | _, _, .cons x t r => .cons ⟨t, rfl⟩ (vals_strsA r)
end
/-! ### one order only -/
theorem rising_le : ∀ {l : List Str} {p : Str}, risingS p l = true → ∀ x ∈ l, ¬ x.cps.toList < p.cps.toList
  | [], _, _, _, h => nomatch h
  | y :: l, p, h, x, hx => by
    have h' : (!PySem.Spec.ltCps y.cps.toList p.cps.toList && risingS y l) = true := h
    rw [Bool.and_eq_true, ltCps_eq, Bool.not_eq_true', decide_eq_false_iff_not] at h'
    rcases List.mem_cons.mp hx with rfl | hx
    · exact h'.1
    · have h2 := rising_le h'.2 x hx
      rw [List.not_lt] at *
      exact List.le_trans h'.1 h2
theorem sortedS_uniq : ∀ {a b : List Str}, a.Perm b → sortedS a = true → sortedS b = true → a = b
  | [], b, hp, _, _ => (List.nil_perm.mp hp).symm
  | x :: a, [], hp, _, _ => absurd hp.length_eq (by simp)
  | x :: a, y :: b, hp, ha, hb => by
    have ta : sortedS a = true := by cases a with
      | nil => rfl
      | cons z a => have h : (!PySem.Spec.ltCps z.cps.toList x.cps.toList && risingS z a) = true := ha
                    rw [Bool.and_eq_true] at h; exact h.2
    have tb : sortedS b = true := by cases b with
      | nil => rfl
      | cons z b => have h : (!PySem.Spec.ltCps z.cps.toList y.cps.toList && risingS z b) = true := hb
                    rw [Bool.and_eq_true] at h; exact h.2
    have e : x = y := by
      have m1 : y ∈ x :: a := hp.symm.subset List.mem_cons_self
      have m2 : x ∈ y :: b := hp.subset List.mem_cons_self
      rcases List.mem_cons.mp m1 with h | h
      · exact h.symm
      · rcases List.mem_cons.mp m2 with h2 | h2
        · exact h2
        · have l1 := rising_le (show risingS x a = true from ha) y h
          have l2 := rising_le (show risingS y b = true from hb) x h2
          rw [List.not_lt] at l1 l2
          exact str_ext (List.le_antisymm l1 l2)
    subst e
    rw [sortedS_uniq (List.perm_cons x |>.mp hp) ta tb]
end L2
set_option Elab.async false
set_option linter.all false
set_option maxRecDepth 100000
namespace L2
open PySem PySem.Spec PyProof.Rows PySem.W
/-! ### rows where they lie -/
/-! ### files by name -/
section
variable {H : Hp} {a : Addr} {Q : VK} {D : Ends} {σ : St}
end
end L2
set_option Elab.async false
set_option linter.all false
set_option maxRecDepth 100000
namespace L2
open PySem PySem.Spec PyProof.Rows PySem.W
section
variable {X : Cx}
/-! ### list(d), texts for keys -/
end
/-! ### a thing made within a try -/
section
variable {X : Cx} {k : Nat} {f C : Addr} {fd : FuncData} {ps : List Str} {sp : Sp} {x : Str} {p pos : Pos} {e : Expr} {es : List Expr} {t : TA}
end
end L2
set_option Elab.async false
set_option linter.all false
set_option maxRecDepth 100000
namespace L2
open PySem PySem.Spec PyProof.Rows PySem.W
section
variable {X : Cx}
/-! ### is False, is not False, of None or a truth -/
def rIsF : V → V → Hp → VK → Prop := fun x y H Q => ∃ b, y = .bl b ∧ ((x = .non ∧ Q (.bl false) H) ∨ ∃ c, x = .bl c ∧ Q (.bl (decide (c = b))) H)
theorem isFn {H : Hp} {Q : VK} {b : Bool} (h : Q (.bl false) H) : rIsF .non (.bl b) H Q := ⟨b, rfl, .inl ⟨rfl, h⟩⟩
end
/-! ### defs that are called within the suite of an except -/
section
variable {P : Program} {w : World} {K : PySem.W.Frag} {mg : Str → Option Value} {base : Heap}
end
section
variable {X : Cx} {ea : Addr} {k : Nat} {ps : List Str} {sp : Sp} {x : Str} {p pos : Pos} {e : Expr} {es : List Expr} {t : TA}
end
end L2
set_option Elab.async false
set_option linter.all false
set_option maxRecDepth 100000
namespace L2
open PySem PySem.Spec PyProof.Rows PySem.W
section
variable {X : Cx}
/-! ### sum of a list of numbers -/
def rSum (K : PySem.W.Frag) : List V → Hp → VK → Prop := fun xs H Q => ∃ (p : Addr) (ns : List Int), xs = [.ref p] ∧ SqL K H p (ns.map V.int) ∧ Q (.int ns.sum) H
theorem call_sumL (hc : X.calm = true) : CallR X (.builtin "sum") (rSum X.K) := by
  intro pins s σ H xs us Q I r h
  obtain ⟨p, ns, rfl, hq, q⟩ := h
  obtain ⟨u, rfl, rx⟩ := vals1 r
  cases rx
  obtain ⟨its, r', pl, hz⟩ := I.list hq
  have hi := intsAre_of r'
  have hl := pl.isList
  obtain ⟨xs, hx⟩ := hi.allInts.items
  have hl' : s.heap.IsList p (intItems xs) := hx ▸ hl
  have e1 : ns = xs.toList.map (·.1) := by
    rw [← nums_intItems, ← hx]
    exact (show numsOf its.toArray.toList = ns from hi.numsOf).symm
  have e2 : preSum (numAt xs) xs.size = ns.sum := by
    rw [preSum_eq, List.take_of_length_le (by simp), e1]
  refine sum_intListG (I.ok.hd hc) hl' fun h' tk t' hk => ?_
  rw [e2]
  exact ⟨.int ns.sum, H, I.kept hk, ⟨_, rfl⟩, q⟩
theorem sumH {K : PySem.W.Frag} {H : Hp} {Q : VK} {p : Addr} {ns : List Int} (h1 : SqL K H p (ns.map V.int)) (h : Q (.int ns.sum) H) : rSum K [.ref p] H Q := ⟨p, ns, rfl, h1, h⟩
end
end L2
set_option Elab.async false
set_option linter.all false
set_option maxRecDepth 100000
namespace L2
open PySem PySem.Spec PyProof.Rows PySem.W
/-! ### sets of texts: laid, walked -/
theorem lay_flags (t : SetTable) (es : Array (Int × Value)) (h : Int) (x : Value) : (layNew t es h x).2.1.led = t.led ∧ (layNew t es h x).2.1.plain = t.plain ∨ (layNew t es h x).2.1.led = t.led ∧ (layNew t es h x).2.1.plain = false := by
  unfold layNew
  split
  · dsimp only
    unfold SetTable.orStandIn
    split
    · exact .inl ⟨rfl, rfl⟩
    · exact .inr ⟨rfl, rfl⟩
  · exact .inr ⟨rfl, rfl⟩
theorem relay_flags (t : SetTable) (es : Array (Int × Value)) (n : Nat) : (relayAll t es n).2.1.led = t.led ∧ (t.plain = false → (relayAll t es n).2.1.plain = false) := by
  unfold relayAll
  split
  · rename_i q
    unfold SetTable.relaid SetTable.laid at q
    dsimp only
    split
    · cases hc : SetTable.layClean (SetTable.sizeAbove n - 1) (es.map (·.1)) with
      | none => rw [hc] at q; cases q
      | some ow =>
        rw [hc] at q
        cases q
        exact ⟨rfl, fun z => z⟩
    · exact ⟨rfl, fun _ => rfl⟩
  · exact ⟨rfl, fun _ => rfl⟩
section
variable {prog : Program} {w : World} {A : Around} {E : Value → Shared → Prop} {s : Shared}
/-- whether this world's sets go by their text -/
def byTx (w : World) : Bool := w.params.followText "set-order"
/-- a set of texts, where it lies -/
structure SetT (prog : Program) (w : World) (h : Heap) (a : Addr) (es : Array (Int × Value)) (ep : Nat) (t : SetTable) : Prop where
  g : ∃ o, h.get? a = some o ∧ o.ExactSet ∧ o.data = .set es ep t
  el : ElemsOf (strKind prog w) es.toList
  sz : es.size < scanBound
  ft : t.fits es.size = true
  pl : es.size ≠ 0 → t.plain = false
  ld : t.led = !byTx w
theorem SetT.at' {h h' : Heap} {a : Addr} {es : Array (Int × Value)} {ep : Nat} {t : SetTable} (x : SetT prog w h a es ep t) (e : ∀ o, h.get? a = some o → h'.get? a = some o) : SetT prog w h' a es ep t :=
  ⟨let ⟨o, z, r⟩ := x.g; ⟨o, e o z, r⟩, x.el, x.sz, x.ft, x.pl, x.ld⟩
theorem put_at {h : Heap} {a : Addr} {o : Obj} {es es' : Array (Int × Value)} {ep : Nat} {t t' : SetTable} (z1 : h.get? a = some o) (z2 : o.ExactSet) (z3 : o.data = .set es ep t) : ∃ o', (h.update a (Obj.putSet es' t')).get? a = some o' ∧ o'.ExactSet ∧ o'.data = .set es' (ep + 1) t' := by
  have e := Heap.get?_update_self (Obj.putSet es' t') z1 (by rw [putSet_of es' t' z3]; rfl)
  rw [putSet_of es' t' z3] at e
  exact ⟨_, e, z2, rfl⟩
theorem add_text {a : Addr} {es : Array (Int × Value)} {ep : Nat} {t : SetTable} {z : Str} {tk : Tok} {Q : Bool → Shared → Prop} (S : SetT prog w s.heap a es ep t) (room : es.size + 1 < scanBound)
    (h : ∀ (h' : Heap) (es' : Array (Int × Value)) (ep' : Nat) (t' : SetTable) (b : Bool), Heap.SameBut a s.heap h' → SetT prog w h' a es' ep' t' → (es' = es ∧ (∃ e ∈ es.toList, (strKind prog w).is z e.2 = true) ∨ (¬ ∃ e ∈ es.toList, (strKind prog w).is z e.2 = true) ∧ List.Perm es'.toList (es.toList ++ [((strKind prog w).hash z, .str z tk)])) → Q b { s with heap := h' }) :
    wpAny (model prog w) A (setAddHashed a (.str z tk) ((strKind prog w).hash z)) Q E s := by
  obtain ⟨⟨o, z1, z2, z3⟩, el, sz, ft, pl, ld⟩ := id S
  have key : (strKind prog w).is z (.str z tk) = true := strKind_is _ _ _ _
  have scn : (Value.str z tk).scannable = true := rfl
  unfold setAddHashed setAddHashedIn
  refine wpAny_holding (wpAny_bind (wpAny_setState_of z1 z3 ft ?_))
  dsimp only
  rw [byScan_of scn sz el]
  simp only [↓reduceIte]
  unfold setAddByScan
  refine wpAny_bind ?_
  refine wpAny_bind (wpAny_rule ?_)
  refine wpAny_bind (wpAny_setScan_of key z1 z3 ft el ?_)
  cases hr : List.findIdx? (fun e => (strKind prog w).is z e.2) es.toList with
  | some j =>
    dsimp only
    obtain ⟨hj, pj, _⟩ := List.findIdx?_eq_some_iff_getElem.mp hr
    refine wpAny_pure (wpAny_pure ?_)
    have e0 : s = { s with heap := s.heap } := by cases s; rfl
    rw [e0]
    exact h s.heap es ep t _ (Heap.SameBut.refl a s.heap) S (.inl ⟨rfl, _, List.getElem_mem hj, pj⟩)
  | none =>
    dsimp only
    have hno : ¬ ∃ e ∈ es.toList, (strKind prog w).is z e.2 = true := fun ⟨e, he, q⟩ => by
      have := List.findIdx?_eq_none_iff.mp hr e he
      rw [q] at this
      exact Bool.noConfusion this
    have hgo : ∀ (b : Bool) {s₁ : Shared} {Q' : Unit → Shared → Prop}, Q' () s₁ → wpAny (model prog w) A (match b with | true => rule "set.scan.the-table-gave-way" | false => pure ()) Q' E s₁ :=
      fun b s₁ Q' hq => by cases b <;> first | exact wpAny_pure hq | exact wpAny_rule hq
    have p1 := layNew_perm t es ((strKind prog w).hash z) (.str z tk)
    have f1 := layNew_fits t es ((strKind prog w).hash z) (.str z tk)
    have g1 := lay_flags t es ((strKind prog w).hash z) (.str z tk)
    generalize layNew t es ((strKind prog w).hash z) (.str z tk) = L at p1 f1 g1 ⊢
    obtain ⟨es1, t1, dm, gave⟩ := L
    dsimp only at p1 f1 g1 ⊢
    rw [Array.toList_push] at p1
    have el1 : ElemsOf (strKind prog w) es1.toList := (el.push key scn).perm p1
    have n1 : es1.size = es.size + 1 := by rw [← Array.length_toList, p1.length_eq, List.length_append, Array.length_toList]; rfl
    have l1 : t1.led = t.led := g1.elim (·.1) (·.1)
    refine wpAny_bind (hgo _ ?_)
    -- what is stored: a table that is plain no more
    have fin : ∀ t2 : SetTable, t2.fits es1.size = true → t2.plain = false → t2.led = t.led → wpAny (model prog w) A (do
        storeSet a es1 t2
        if (!dm && t2.tooFull) = true then do
            (match (relayAll t2 es1 (SetTable.grown es1.size)).2.2 with | true => rule "set.scan.the-table-gave-way" | false => pure ())
            storeSet a (relayAll t2 es1 (SetTable.grown es1.size)).1 (relayAll t2 es1 (SetTable.grown es1.size)).2.1
            pure (some true)
          else pure (some true)) (fun r s' => ∃ h' es' ep' t', r = some true ∧ s' = { s with heap := h' } ∧ Heap.SameBut a s.heap h' ∧ SetT prog w h' a es' ep' t' ∧ List.Perm es'.toList (es.toList ++ [((strKind prog w).hash z, .str z tk)])) E s := by
      intro t2 f2 pl2 ld2
      refine wpAny_bind (wpAny_storeSet_of z1 z3 ?_ (fits_of_scanBound (by omega)))
      obtain ⟨o1, y1, y2, y3⟩ := put_at (es' := es1) (t' := t2) z1 z2 z3
      have sb1 := Heap.SameBut.update s.heap a (Obj.putSet es1 t2)
      split
      · have p2 := relayAll_perm t2 es1 (SetTable.grown es1.size)
        have f3 := relayAll_fits t2 es1 (SetTable.grown es1.size)
        have g2 := relay_flags t2 es1 (SetTable.grown es1.size)
        generalize relayAll t2 es1 (SetTable.grown es1.size) = R at p2 f3 g2 ⊢
        obtain ⟨es2, t3, gv⟩ := R
        dsimp only at p2 f3 g2 ⊢
        have n2 : es2.size = es1.size := by rw [← Array.length_toList, p2.length_eq, Array.length_toList]
        refine wpAny_bind (hgo _ ?_)
        refine wpAny_bind (wpAny_storeSet_of y1 y3 ?_ (fits_of_scanBound (by omega)))
        obtain ⟨o2, x1, x2, x3⟩ := put_at (es' := es2) (t' := t3) y1 y2 y3
        exact wpAny_pure ⟨_, es2, _, t3, rfl, rfl, sb1.trans (Heap.SameBut.update _ a _), ⟨⟨o2, x1, x2, x3⟩, el1.perm p2, by omega, f3, fun _ => g2.2 pl2, by rw [g2.1, ld2, ld]⟩, p2.trans p1⟩
      · exact wpAny_pure ⟨_, es1, _, t2, rfl, rfl, sb1, ⟨⟨o1, y1, y2, y3⟩, el1, by omega, f2, fun _ => pl2, by rw [ld2, ld]⟩, p1⟩
    have fin2 : ∀ t2 : SetTable, t2.fits es1.size = true → t2.plain = false → t2.led = t.led → wpAny (model prog w) A (do
        storeSet a es1 t2
        if (!dm && t2.tooFull) = true then do
            (match (relayAll t2 es1 (SetTable.grown es1.size)).2.2 with | true => rule "set.scan.the-table-gave-way" | false => pure ())
            storeSet a (relayAll t2 es1 (SetTable.grown es1.size)).1 (relayAll t2 es1 (SetTable.grown es1.size)).2.1
            pure (some true)
          else pure (some true)) (fun r s' => wpAny (model prog w) A (match r with | some added => pure added | none => setAddHashedIn a (.str z tk) ((strKind prog w).hash z) 99999) Q E s') E s := fun t2 f2 pl2 ld2 => by
      refine wpAny_mono (fin t2 f2 pl2 ld2) (fun r s' hr => ?_) fun _ _ e => e
      obtain ⟨h', es', ep', t', rfl, rfl, sb, S', pp⟩ := hr
      exact wpAny_pure (h h' es' ep' t' _ sb S' (.inr ⟨hno, pp⟩))
    split
    · refine wpAny_bind ?_
      rw [hashByValue_scannable 8 scn]
      refine wpAny_pure ?_
      exact fin2 { t1 with plain := false } (SetTable.fits_plain_off f1) rfl l1
    · rename_i hp
      refine wpAny_bind (wpAny_pure ?_)
      simp only [↓reduceIte]
      exact fin2 t1 f1 (by simpa using hp) l1
def txtOf : Value → Str
  | .str z _ => z
  | _ => Str.empty
def keysT (es : Array (Int × Value)) : List Str := es.toList.map fun e => txtOf e.2
theorem is_txt {v : Value} {z : Str} (h : (strKind prog w).is z v = true) : txtOf v = z := by
  obtain ⟨t, rfl⟩ : ∃ t, v = Value.str z t := Value.isStrOf_shape h
  rfl
theorem keys_iff {es : Array (Int × Value)} (h : ElemsOf (strKind prog w) es.toList) (z : Str) : (∃ e ∈ es.toList, (strKind prog w).is z e.2 = true) ↔ z ∈ keysT es := by
  constructor
  · rintro ⟨e, he, q⟩
    exact List.mem_map.mpr ⟨e, he, is_txt q⟩
  · intro q
    obtain ⟨e, he, rfl⟩ := List.mem_map.mp q
    obtain ⟨⟨k, hk, _⟩, _⟩ := h e he
    refine ⟨e, he, ?_⟩
    rw [is_txt hk]
    exact hk
theorem _root_.PyProof.Rows.StrsAre.str_at : ∀ {vs : List Value} {zs : List Str}, StrsAre vs zs → ∀ (i : Nat) (v : Value), vs[i]? = some v → ∃ z t, zs[i]? = some z ∧ v = .str z t
  | _, _, .nil, i, v, h => by simp at h
  | _, _, .cons z t r, 0, v, h => ⟨z, t, rfl, (Option.some.inj h).symm⟩
  | _, _, .cons z t r, i + 1, v, h => r.str_at i v h
theorem fill_loop {I : Addr} {fp wr : List Addr} {G : Array GenState → Array GenState → Prop} {n : Nat} {P : Nat → Value → Prop} {St : Nat → Shared → Prop} {R : Result → Shared → Prop} (W : WalksS prog w A.in1 I fp wr G n P St) (a : Addr) (ha : a ∉ fp) (zs : List Str) (hn : zs.length = n)
    (hv : ∀ i v, P i v → ∃ z t, zs[i]? = some z ∧ v = .str z t) (hb : n + 1 < scanBound) : ∀ (k i : Nat) (s : Shared) (es : Array (Int × Value)) (ep : Nat) (t : SetTable), n - i = k → i ≤ n → St i s → SetT prog w s.heap a es ep t → (keysT es).Nodup → (∀ z, z ∈ keysT es ↔ z ∈ zs.take i) → es.size ≤ i →
      (∀ s' es' ep' t', Moved (a :: wr) G s s' → SetT prog w s'.heap a es' ep' t' → (keysT es').Nodup → (∀ z, z ∈ keysT es' ↔ z ∈ zs) → R (.ok (.ret .none)) s') →
      codeAny (model prog w) A (.builtin "set.update.loop" ⟨[.ref a, .ref I], []⟩) R s := by
  have haw : a ∉ wr := fun h => ha (W.sub _ h)
  have hsb : ∀ b ∈ wr, b ∈ a :: wr := fun b hb => List.mem_cons_of_mem _ hb
  intro k
  induction k with
  | zero =>
    intro i s es ep t hk hi st S nd hm hz hR
    obtain rfl : i = n := by omega
    refine codeAny_builtin F.entry_set_update_loop ?_
    rw [Around.under_plainId F.plain_set_update_loop _]
    show wpAny _ A.in1 (pyNext (.ref I) >>= _) _ _ s
    refine wpAny_bind (W.done s _ _ st fun s' mv => ?_)
    show wpAny _ A.in1 (ret Value.none) _ _ s'
    exact wpAny_pure (hR s' es ep t (mv.mono hsb) (S.at' fun o e => mv.heap a o haw e) nd (by rw [← hn, List.take_length] at hm; exact hm))
  | succ k ih =>
    intro i s es ep t hk hi st S nd hm hz hR
    have lt : i < n := by omega
    refine codeAny_builtin F.entry_set_update_loop ?_
    rw [Around.under_plainId F.plain_set_update_loop _]
    show wpAny _ A.in1 (pyNext (.ref I) >>= _) _ _ s
    refine wpAny_bind (W.item i s _ _ lt st fun v s' hP st' mv => ?_)
    obtain ⟨z, tk, hzi, rfl⟩ := hv i v hP
    have S' : SetT prog w s'.heap a es ep t := S.at' fun o e => mv.heap a o haw e
    show wpAny _ A.in1 (holding [Value.str z tk] (setAdd a (.str z tk)) >>= _) _ _ s'
    refine wpAny_bind (wpAny_holding ?_)
    unfold setAdd
    refine wpAny_holding ?_
    refine wpAny_bind ((strKind prog w).pyHash (k := z) (strKind_is _ _ _ _) ?_)
    refine add_text (s := { s' with toks := s'.toks + 1 }) S' (by omega) fun h' es' ep' t' b sb S2 hx => ?_
    have hp : ∀ {l : List (Int × Value)}, List.Perm es'.toList l → List.Perm (keysT es') (l.map fun e => txtOf e.2) := fun q => q.map _
    have tk1 : zs.take (i + 1) = zs.take i ++ [z] := by rw [List.take_succ, hzi]; rfl
    have all : (keysT es').Nodup ∧ (∀ y, y ∈ keysT es' ↔ y ∈ zs.take (i + 1)) ∧ es'.size ≤ i + 1 := by
      rcases hx with ⟨rfl, hin⟩ | ⟨hno, pp⟩
      · refine ⟨nd, fun y => ?_, by omega⟩
        rw [tk1, List.mem_append, List.mem_singleton, ← hm y]
        have hz1 := (keys_iff S.el z).mp hin
        exact ⟨.inl, fun q => q.elim id fun e => e ▸ hz1⟩
      · have hz1 : z ∉ keysT es := fun q => hno ((keys_iff S.el z).mpr q)
        have p2 := hp pp
        rw [List.map_append] at p2
        have p3 : List.Perm (keysT es') (keysT es ++ [z]) := p2
        refine ⟨p3.nodup_iff.mpr (List.nodup_append.mpr ⟨nd, by simp, fun x hx y hy e => ?_⟩), fun y => ?_, ?_⟩
        · rw [List.mem_singleton] at hy
          exact hz1 (hy ▸ e ▸ hx)
        · rw [p3.mem_iff, tk1, List.mem_append, List.mem_append, hm y]
        · have := pp.length_eq
          rw [List.length_append, Array.length_toList, Array.length_toList] at this
          simp at this
          omega
    refine wpAny_pure ⟨plainId_quiet F.plain_set_update_loop _, ih (i + 1) _ es' ep' t' (by omega) lt (W.frame _ s' _ _ st' (Nat.le_succ _) fun b hb o e => ?_) S2 all.1 all.2.1 all.2.2 fun s'' e2 p2 t2 mv2 => ?_⟩
    · rw [sb.2 b (fun q : b = a => ha (by rw [← q]; exact hb))]; exact e
    · refine hR s'' e2 p2 t2 (Moved.trans W.gtrans ((mv.mono hsb).then_heap (Nat.le_succ _) fun b o hb e => ?_) mv2)
      rw [sb.2 b (fun q : b = a => hb (by rw [q]; exact List.mem_cons_self))]; exact e
def newSetO (w : World) : Obj := { cls := .type "set", dict := none, data := .set #[] 0 (.fresh 0 0 (!byTx w)) }
theorem code_new_set (v : Value) {Q₁ : Value → Shared → Prop} (h : Q₁ (.ref s.heap.objs.size) { s with heap := s.heap.push (newSetO w) }) :
    codeAny (model prog w) A (.call (.builtin "set.__new__") ⟨[.type "set", v], []⟩) (wants Q₁ E) s := by
  refine codeAny_of_tree ?_
  show wpAny _ A.in1 (do checkBuiltinCall "set.__new__" ⟨[.type "set", v], []⟩; again (.builtin "set.__new__" ⟨[.type "set", v], []⟩)) _ _ s
  refine wpAny_bind (wpAny_of_eq (F.newCall_set_1 v) (wpAny_pure ⟨plainId_quiet F.plain_set_new _, codeAny_builtin F.entry_set_new ?_⟩))
  rw [Around.under_plainId F.plain_set_new _]
  unfold Builtin.«set.__new__» Builtin.Frozenset.newClass
  have z := sub_set_self
  obtain ⟨hp, g, d, tk, os⟩ := s
  dsimp only
  wp_walk
  refine wpAny_askSetting (wpAny_pure ?_)
  dsimp only
  simp only [newObj]
  refine wpAny_bind (wpAny_alloc (wpAny_pure ?_))
  exact wpAny_pure h
theorem new_setT {h : Heap} {b : Addr} (e : h.get? b = some (newSetO w)) : SetT prog w h b #[] 0 (.fresh 0 0 (!byTx w)) :=
  ⟨⟨_, e, ⟨rfl, rfl, rfl⟩, rfl⟩, fun e he => by simp at he, by decide, by rfl, fun z => absurd rfl z, rfl⟩
set_option maxRecDepth 100000 in
set_option maxHeartbeats 3200000 in
theorem call_set_texts {l : Addr} {items : Array Value} {zs : List Str} {Q : Value → Shared → Prop} (hh : A.handled = none) (hl : s.heap.IsList l items) (hi : StrsAre items.toList zs) (hb : items.size + 1 < scanBound)
    (h : ∀ (h' : Heap) (tk : Nat) (es : Array (Int × Value)) (ep : Nat) (t : SetTable), SetT prog w h' s.heap.objs.size es ep t → (keysT es).Nodup → (∀ z, z ∈ keysT es ↔ z ∈ zs) → (∀ b o, b < s.heap.objs.size → s.heap.get? b = some o → h'.get? b = some o) → Q (.ref s.heap.objs.size) { s with heap := h', toks := tk }) :
    wpAny (model prog w) A (call (.type "set") [.ref l]) Q E s := by
  obtain ⟨c, tl, hm⟩ := F.called_set.mro
  have hmade := F.called_set.made
  have hsub := F.called_set.sub
  refine wpAny_call (codeAny_of_tree ?_)
  show wpAny _ _ (callAny (.type "set") _) _ _ _
  refine wpAny_pure ⟨Code.quiet_builtin _ (by decide +kernel), codeAny_builtin F.entry_type_call ?_⟩
  rw [Around.under_plain (weight_type_call_type "set" [.ref l] []) rfl]
  have q1 := F.called_set.notType
  have q2 := F.called_set.canCreate
  have q3 := F.typeCall_set_1 (.ref l)
  repeat (any_goals (first | assumption | wp_step))
  refine codeAny_mono (code_new_set (.ref l) (E := E) (Q₁ := fun obj s₁ => obj = .ref s.heap.objs.size ∧ s₁ = { s with heap := s.heap.push (newSetO w) }) ⟨rfl, rfl⟩) fun r s₁ hr => ?_
  cases r with
  | error e => exact hr
  | ok fl =>
    cases fl with
    | ret obj =>
      obtain ⟨rfl, rfl⟩ := hr
      have hS : (s.heap.push (newSetO w)).get? s.heap.objs.size = some (newSetO w) := Heap.get?_push_size _ rfl
      have hT : Shared.TypeIs { s with heap := s.heap.push (newSetO w) } (.ref s.heap.objs.size) "set" := ⟨_, hS, rfl⟩
      have r1 := F.called_set.init.lookup
      have r2 := F.called_set.init.bind (.ref s.heap.objs.size)
      repeat (any_goals (first | assumption | wp_step))
      refine codeAny_mono (codeAny_call_builtin (R := wants (fun r s₂ => r = .none ∧ ∃ h' tk es ep t, s₂ = { s with heap := h', toks := tk } ∧ SetT prog w h' s.heap.objs.size es ep t ∧ (keysT es).Nodup ∧ (∀ z, z ∈ keysT es ↔ z ∈ zs) ∧ (∀ b o, b < s.heap.objs.size → s.heap.get? b = some o → h'.get? b = some o)) E) F.called_set.init.plain F.entry_set_init (check_set_init_1 hT ?_)) fun r₂ s₂ hr₂ => ?_
      · obtain ⟨⟨oc, od, oda, osl⟩, z1, z2, nl, z3⟩ := id hl
        simp only at z2 z3
        subst z2 z3
        have y1 : (s.heap.push (newSetO w)).get? l = some { cls := .type "list", dict := od, data := .seq items nl, slots := osl } := Heap.get?_push_of_some _ z1
        have y2 := F.sub_list_set
        have y3 := F.sub_list_frozenset
        have y4 : (Value.type "list" == Value.type "dict") = false := by decide
        have y5 : (s.heap.push (newSetO w)).IsList l items := ⟨_, y1, rfl, nl, rfl⟩
        have hS2 := hS
        unfold newSetO SetTable.fresh at hS2
        unfold Builtin.«set.__init__» noKeywords Builtin.Frozenset.updateFrom
        generalize hPI : pyIter = PI
        wp_walk
        subst hPI
        refine wpAny_pyIter_list y5 ?_
        refine wpAny_bind (wpAny_runValue ?_)
        have lt : l < s.heap.objs.size := Heap.lt_size z1
        have hh3 : A.in1.in1.in1.handled = none := by simp [hh]
        have ne1 : l ≠ (s.heap.push (newSetO w)).objs.size := by rw [Heap.size_push]; exact Nat.ne_of_lt (Nat.lt_succ_of_lt lt)
        have ne2 : s.heap.objs.size ∉ [(s.heap.push (newSetO w)).objs.size, l] := by
          rw [Heap.size_push]
          simp only [List.mem_cons, List.mem_singleton, List.not_mem_nil, or_false, not_or]
          exact ⟨Nat.ne_of_lt (Nat.lt_succ_self _), Nat.ne_of_gt lt⟩
        have hlen : zs.length = items.size := by rw [← hi.length, Array.length_toList]
        have hval : ∀ (i : Nat) (v : Value), items[i]? = some v → ∃ z t, zs[i]? = some z ∧ v = .str z t := fun i v hv => hi.str_at i v (by rw [Array.getElem?_toList]; exact hv)
        refine fill_loop ((Walks.list hh3 _ l ne1 items).toS) s.heap.objs.size ne2 zs hlen hval hb (items.size - 0) 0 _ #[] 0 _ (by omega) (Nat.zero_le _) ⟨⟨_, Heap.get?_push_size _ rfl, rfl, rfl⟩, (y5.push _)⟩ (new_setT (Heap.get?_push_of_some _ hS)) (by exact List.nodup_nil) (fun z => by rw [List.take_zero]; exact Iff.rfl) (by simp) fun s' es ep t mv S nd hm => ?_
        obtain ⟨h', g', d', tk', os'⟩ := s'
        have eg : g' = s.gens := mv.gens
        have ed : d' = s.drawn := mv.drawn
        have eo : os' = s.os := mv.os
        subst eg ed eo
        show wpAny _ _ _ _ _ _
        refine wpAny_pure ?_
        show wpAny _ _ (ret Value.none) _ _ _
        refine wpAny_pure ⟨rfl, h', tk', es, ep, t, rfl, S, nd, hm, fun b o hb e => ?_⟩
        refine mv.heap b o ?_ (Heap.get?_push_of_some _ (Heap.get?_push_of_some _ e))
        have n2 : b ≠ (s.heap.push (newSetO w)).objs.size := by rw [Heap.size_push]; exact Nat.ne_of_lt (Nat.lt_succ_of_lt hb)
        simp only [List.mem_cons, List.mem_singleton, List.not_mem_nil, or_false, not_or]
        exact ⟨Nat.ne_of_lt hb, n2⟩
      · cases r₂ with
        | error e => exact hr₂
        | ok fl₂ =>
          cases fl₂ with
          | ret r =>
            obtain ⟨rfl, h', tk, es, ep, t, rfl, x1, x2, x3, x4⟩ := hr₂
            repeat (any_goals (first | assumption | wp_step))
            exact h _ _ es ep t x1 x2 x3 x4
          | _ => exact hr₂.elim
    | _ => exact hr.elim
end
end L2
set_option Elab.async false
set_option linter.all false
set_option maxRecDepth 100000
namespace L2
open PySem PySem.Spec PyProof.Rows PySem.W
/-! ### a set walked: each way it may go, every item comes once -/
namespace SI
theorem own_si : Manifest.owners.lookup (String.ofList ['r', 'o', 't', 'a', 'r', 'e', 't', 'i', '_', 't', 'e', 's'].reverse) = some Manifest.sig_set_iterator := by kernel_rfl
theorem nx_slot : Slot "set_iterator" "__next__" "set_iterator.__next__" :=
  .of (owner := "set_iterator") (n := "__next__") (by rw [typeLookup_type, builtinLookup_eq_fast]; kernel_rfl) (by decide +kernel) (by decide +kernel) (by decide +kernel) (by first | exact .inl (by decide +kernel) | exact .inr (by decide +kernel)) (by rw [isSubtype_type]; kernel_rfl)
theorem nx_entry : entryFor table "set_iterator.__next__" = some Builtin.«set_iterator.__next__» := entryFor_of_tree (by kernel_rfl)
theorem nx_args (a : Value) : argsOk "set_iterator.__next__" ⟨[a], []⟩ := by
  unfold argsOk
  rw [signature?_of (id := "set_iterator.__next__") (n := ['_', '_', 't', 'x', 'e', 'n', '_', '_']) (o := ['r', 'o', 't', 'a', 'r', 'e', 't', 'i', '_', 't', 'e', 's']) (by kernel_rfl) own_si]
  kernel_rfl
theorem it_entry : entryFor table "set.__iter__" = some Builtin.«frozenset.__iter__» :=
  entryFor_alias (id' := "frozenset.__iter__") (by kernel_rfl) (by first | rfl | decide +kernel | (unfold String.splitOn; simp +decide [String.splitOnAux])) (by decide +kernel) (by kernel_rfl)
end SI
theorem er_perm {α : Type} : ∀ (l : List α) (i : Nat) (hi : i < l.length), List.Perm (l[i] :: l.eraseIdx i) l
  | x :: l, 0, _ => .rfl
  | x :: l, i + 1, hi => by
    have hi' : i < l.length := Nat.lt_of_succ_lt_succ hi
    exact (List.Perm.swap x l[i] (l.eraseIdx i)).trans (.cons x (er_perm l i hi'))
section
variable {prog : Program} {w : World} {A : Around} {E : Value → Shared → Prop} {s : Shared}
theorem wp_choose {M : Model} {src : Source} {n : Nat} {Q : Nat → Shared → Prop} (hn : n ≠ 0) (h : ∀ i d, i < n → Q i { s with drawn := d }) : wpAny M A (choose src n) Q E s := fun Γ p _ => ⟨hn, h _ _ (Nat.mod_lt _ (Nat.pos_of_ne_zero hn))⟩
theorem wp_order {α : Type} : ∀ (n : Nat) (xs : List α) (s : Shared) (Q : List α → Shared → Prop), xs.length = n → (∀ ys d, ys.Perm xs → Q ys { s with drawn := d }) → wpAny (model prog w) A (drawOrder n xs) Q E s
  | 0, [], s, Q, _, h => wpAny_pure (h [] s.drawn .nil)
  | n + 1, x :: xs, s, Q, hl, h => by
    unfold drawOrder
    refine wpAny_bind (wp_choose (n := (x :: xs).length) (by simp) fun i d hi => ?_)
    have e : (x :: xs)[i]? = some (x :: xs)[i] := List.getElem?_eq_getElem hi
    rw [e]
    dsimp only
    refine wpAny_bind (wp_order n ((x :: xs).eraseIdx i) _ _ (by rw [List.length_eraseIdx, if_pos hi, hl]; rfl) fun ys d' hp => ?_)
    refine wpAny_pure (h _ d' ?_)
    exact (List.Perm.cons _ hp).trans (er_perm _ _ hi)
  | 0, _ :: _, _, _, hl, _ => nomatch hl
  | n + 1, [], _, _, hl, _ => nomatch hl
end
theorem pick_perm {α : Type} (next : Nat → Nat) : ∀ (n k : Nat) (left : List α) (out : Array α), left.length = n → List.Perm (pickOrder.go next n k left out).toList (out.toList ++ left)
  | 0, k, [], out, _ => by unfold pickOrder.go; simp
  | n + 1, k, left, out, hl => by
    unfold pickOrder.go
    have hi : next k % left.length < left.length := Nat.mod_lt _ (by omega)
    rw [List.getElem?_eq_getElem hi]
    dsimp only
    refine (pick_perm next n (k + 1) _ _ (by rw [List.length_eraseIdx, if_pos hi, hl]; rfl)).trans ?_
    rw [Array.toList_push, List.append_assoc]
    exact List.Perm.append_left _ (er_perm _ _ hi)
  | 0, _, _ :: _, _, hl => nomatch hl
theorem picks (next : Nat → Nat) (es : Array (Int × Value)) : List.Perm (pickOrder next es).toList es.toList := by
  unfold pickOrder
  have := pick_perm next es.size 0 es.toList #[] (by simp)
  simpa using this
end L2
set_option Elab.async false
set_option linter.all false
set_option maxRecDepth 100000
namespace L2
open PySem PySem.Spec PyProof.Rows PySem.W
section
variable {prog : Program} {w : World} {A : Around} {E : Value → Shared → Prop} {s : Shared}
/-- a set's walker -/
def IsSI (h : Heap) (I a : Addr) (f : Value) (i n ep : Nat) : Prop := ∃ o, h.get? I = some o ∧ o.cls = .type "set_iterator" ∧ o.data = .fields #[f, rawInt i, .ref a, rawInt n, rawInt ep]
theorem IsSI.at' {h h' : Heap} {I a : Addr} {f : Value} {i n ep : Nat} (x : IsSI h I a f i n ep) (e : ∀ o, h.get? I = some o → h'.get? I = some o) : IsSI h' I a f i n ep := let ⟨o, z, r⟩ := x; ⟨o, e o z, r⟩
def PlaceT (h : Heap) (T : Addr) (ys : List Nat) : Prop := ∃ o c, h.get? T = some o ∧ o.data = .seq (ys.map fun j : Nat => rawInt j).toArray c
structure ItS (prog : Program) (w : World) (a I T : Addr) (es : Array (Int × Value)) (ep : Nat) (t : SetTable) (ord : List Value) (i : Nat) (h : Heap) : Prop where
  S : SetT prog w h a es ep t
  le : i ≤ ord.length
  m : (byTx w = true ∧ ∃ j : Nat, IsSI h I a (rawInt j) i es.size ep ∧ ord = (pickOrder (w.params.setOrder a ep) es).toList.map (·.2)) ∨
      (byTx w = false ∧ ∃ ys : List Nat, IsSI h I a (.ref T) i es.size ep ∧ T ≠ I ∧ PlaceT h T ys ∧ ord.map some = ys.map fun j => (es[j]?).map (·.2)) ∨
      (byTx w = false ∧ es.size ≤ 1 ∧ ∃ j : Nat, IsSI h I a (rawInt j) i es.size ep ∧ ord = es.toList.map (·.2) ∧ (i = 0 → j = 0) ∧ (i ≠ 0 → j = t.place.getD 0 0 + 1))
theorem drawn_eq (h : Heap) (a : Addr) (es : Array (Int × Value)) (ep : Nat) (t : SetTable) (S : SetT prog w h a es ep t) : (!byTx w && (!t.plain && decide (es.size > 1))) = true ∨ byTx w = true ∧ (!byTx w && (!t.plain && decide (es.size > 1))) = false ∨ byTx w = false ∧ es.size ≤ 1 ∧ (!byTx w && (!t.plain && decide (es.size > 1))) = false := by
  cases hb : byTx w with
  | true => exact .inr (.inl ⟨rfl, rfl⟩)
  | false =>
    by_cases h1 : es.size > 1
    · have := S.pl (by omega)
      rw [this, decide_eq_true h1]
      exact .inl rfl
    · rw [decide_eq_false h1]
      refine .inr (.inr ⟨rfl, by omega, ?_⟩)
      cases t.plain <;> rfl
theorem iter_set {a : Addr} {es : Array (Int × Value)} {ep : Nat} {t : SetTable} {Q : Value → Shared → Prop} (S : SetT prog w s.heap a es ep t)
    (h : ∀ (h' : Heap) (d : Drawn) (I T : Addr) (ord : List Value), (∀ b o, s.heap.get? b = some o → h'.get? b = some o) → s.heap.objs.size ≤ I → (T = a ∨ s.heap.objs.size ≤ T) → ItS prog w a I T es ep t ord 0 h' → ord.Perm (es.toList.map (·.2)) → Q (.ref I) { s with heap := h', drawn := d }) :
    wpAny (model prog w) A (pyIter (.ref a)) Q E s := by
  obtain ⟨o, z1, z2, z3⟩ := id S.g
  have hT : s.TypeIs (.ref a) "set" := ⟨o, z1, z2.1⟩
  refine wpAny_pyIter_slot hT F.slot_set_iter (wpAny_call_entry F.slot_set_iter hT SI.it_entry ?_ (F.args_set_iter_1 _))
  unfold Builtin.«frozenset.__iter__»
  refine wpAny_bind (wpAny_of_eq (a := a) rfl ?_)
  unfold Builtin.Frozenset.sizeOf
  refine wpAny_bind (wpAny_bind (wpAny_setEntries_of z1 z3 S.ft (wpAny_pure ?_)))
  refine wpAny_bind (wpAny_bind ?_)
  refine wpAny_setState_of z1 z3 S.ft ?_
  unfold setsByText
  refine wpAny_bind (wpAny_bind (wpAny_askSetting (wpAny_pure ?_)))
  show wpAny _ _ (pure (!byTx w && (!t.plain && decide (es.size > 1)))) _ _ _
  refine wpAny_pure ?_
  dsimp only
  -- behind the choice: the walker is made
  have tail : ∀ (f : Value) (h1 : Heap) (d : Drawn) (T : Addr) (ord : List Value), (∀ b o, s.heap.get? b = some o → h1.get? b = some o) → s.heap.objs.size ≤ h1.objs.size → (T = a ∨ s.heap.objs.size ≤ T) → (∀ h2 : Heap, (∀ b o, h1.get? b = some o → h2.get? b = some o) → IsSI h2 h1.objs.size a f 0 es.size ep → ItS prog w a h1.objs.size T es ep t ord 0 h2) → ord.Perm (es.toList.map (·.2)) →
      wpAny (model prog w) A.in1 (do
        let e ← setEpoch a
        let x ← newFields "set_iterator" [f, rawInt 0, Value.ref a, rawInt es.size, rawInt e]
        ret x) (fun fin s' => ∃ v, fin = Fin.done (Flow.ret v) ∧ ∃ T' r, s'.TypeIs v T' ∧ typeLookup (Value.type T') (Str.ofString "__next__") = pure (some r) ∧ Q v s') E { s with heap := h1, drawn := d } := by
    intro f h1 d T ord k1 k2 k3 k4 k5
    refine wpAny_bind (wpAny_setEpoch_of (k1 _ _ z1) z3 S.ft ?_)
    simp only [newFields]
    refine wpAny_bind (wpAny_newObj_type ?_ (by size_fits))
    refine wpAny_pure ⟨_, rfl, "set_iterator", _, ⟨_, Heap.get?_push_size _ rfl, rfl⟩, SI.nx_slot.lookup, ?_⟩
    have up : ∀ b o, h1.get? b = some o → (h1.push { cls := .type "set_iterator", data := .fields [f, rawInt 0, Value.ref a, rawInt es.size, rawInt ep].toArray }).get? b = some o := fun b o e => Heap.get?_push_of_some _ e
    exact h _ d _ T ord (fun b o e => up b o (k1 b o e)) k2 k3 (k4 _ up ⟨_, Heap.get?_push_size _ rfl, rfl, rfl⟩) k5
  rcases drawn_eq s.heap a es ep t S with hd | ⟨hb, hd⟩ | ⟨hb, h1, hd⟩
  · rw [if_pos hd]
    have hb : byTx w = false := by
      rw [Bool.and_eq_true, Bool.not_eq_true'] at hd
      exact hd.1
    refine wpAny_bind (wp_order es.size (List.range es.size) _ _ (by simp) fun ys d hp => ?_)
    simp only [newTuple]
    have hz : (Obj.data { cls := .type "tuple", data := .seq (ys.map fun j : Nat => rawInt j).toArray }) = .seq (ys.map fun j : Nat => rawInt j).toArray := rfl
    have hlen : ys.length = es.size := by rw [hp.length_eq, List.length_range]
    refine wpAny_bind (wpAny_newObj_type ?_ (by show (ys.map fun j : Nat => rawInt j).toArray.size ≤ sizeLine; rw [List.size_toArray, List.length_map, hlen]; exact fits_of_scanBound S.sz))
    have hin : ∀ j ∈ ys, j < es.size := fun j hj => List.mem_range.mp (hp.mem_iff.mp hj)
    refine tail _ _ d s.heap.objs.size (ys.map fun j => (es[j]?.map (·.2)).getD .none) (fun b o e => Heap.get?_push_of_some _ e) (by rw [Heap.size_push]; exact Nat.le_succ _) (.inr (Nat.le_refl _)) (fun h2 k2 it => ?_) ?_
    · refine ⟨S.at' fun o e => k2 _ _ (Heap.get?_push_of_some _ e), Nat.zero_le _, .inr (.inl ⟨hb, ys, it, ?_, ⟨_, _, k2 _ _ (Heap.get?_push_size _ rfl), rfl⟩, ?_⟩)⟩
      · rw [Heap.size_push]; exact Nat.ne_of_lt (Nat.lt_succ_self _)
      · rw [List.map_map]
        refine List.map_congr_left fun j hj => ?_
        have := hin j hj
        simp [this]
    · have e1 : (es.toList.map (·.2)) = (List.range es.size).map fun j => (es[j]?.map (·.2)).getD .none := by
        refine List.ext_getElem? fun j => ?_
        rw [List.getElem?_map, List.getElem?_map, Array.getElem?_toList]
        by_cases hj : j < es.size
        · rw [List.getElem?_range hj]
          simp [hj]
        · rw [List.getElem?_eq_none (by rw [List.length_range]; omega), Array.getElem?_eq_none (by omega)]
          rfl
      rw [e1]
      exact hp.map _
  · rw [if_neg (by rw [hd]; decide)]
    refine wpAny_bind (wpAny_pure ?_)
    have e0 : s = { s with heap := s.heap, drawn := s.drawn } := by cases s; rfl
    rw [e0]
    exact tail _ s.heap s.drawn a _ (fun b o e => e) (Nat.le_refl _) (.inl rfl) (fun h2 k2 it => ⟨S.at' fun o e => k2 _ _ e, Nat.zero_le _, .inl ⟨hb, 0, it, rfl⟩⟩) ((picks _ es).map _)
  · rw [if_neg (by rw [hd]; decide)]
    refine wpAny_bind (wpAny_pure ?_)
    have e0 : s = { s with heap := s.heap, drawn := s.drawn } := by cases s; rfl
    rw [e0]
    exact tail _ s.heap s.drawn a _ (fun b o e => e) (Nat.le_refl _) (.inl rfl) (fun h2 k2 it => ⟨S.at' fun o e => k2 _ _ e, Nat.zero_le _, .inr (.inr ⟨hb, h1, 0, it, rfl, fun _ => rfl, fun z => absurd rfl z⟩)⟩) .rfl
theorem si_set0 {h : Heap} {I a : Addr} {f g : Value} {i n ep : Nat} (x : IsSI h I a f i n ep) : IsSI (h.update I (Obj.mapFields (·.setIfInBounds 0 g))) I a g i n ep := by
  obtain ⟨o, z1, z2, z3⟩ := x
  exact ⟨_, Heap.get?_update_self _ z1 (Obj.isFreed_of_fields (Obj.data_mapFields z3 _)), (Obj.cls_mapFields ..).trans z2, by rw [Obj.data_mapFields z3]; simp⟩
theorem si_set1 {h : Heap} {I a : Addr} {f : Value} {i n ep : Nat} (x : IsSI h I a f i n ep) : IsSI (h.update I (Obj.mapFields (·.setIfInBounds 1 (rawInt ((i : Int) + 1))))) I a f (i + 1) n ep := by
  obtain ⟨o, z1, z2, z3⟩ := x
  exact ⟨_, Heap.get?_update_self _ z1 (Obj.isFreed_of_fields (Obj.data_mapFields z3 _)), (Obj.cls_mapFields ..).trans z2, by rw [Obj.data_mapFields z3]; simp⟩
theorem si_type {I a : Addr} {f : Value} {i n ep : Nat} (x : IsSI s.heap I a f i n ep) : s.TypeIs (.ref I) "set_iterator" := let ⟨o, z1, z2, _⟩ := x; ⟨o, z1, z2⟩
theorem ItS.some_i {a I T : Addr} {es : Array (Int × Value)} {ep : Nat} {t : SetTable} {ord : List Value} {i : Nat} {h : Heap} (st : ItS prog w a I T es ep t ord i h) : ∃ f, IsSI h I a f i es.size ep := by
  rcases st.m with ⟨_, j, x, _⟩ | ⟨_, ys, x, _⟩ | ⟨_, _, j, x, _⟩
  · exact ⟨_, x⟩
  · exact ⟨_, x⟩
  · exact ⟨_, x⟩
theorem si_inj {h : Heap} {I a : Addr} {f g : Value} {i n ep : Nat} (x : IsSI h I a f i n ep) (y : IsSI h I a g i n ep) : f = g := by
  obtain ⟨o, z1, _, z3⟩ := x
  obtain ⟨o', y1, _, y3⟩ := y
  rw [z1] at y1
  cases y1
  rw [z3] at y3
  injection y3 with y4
  injection y4 with y5
  injection y5
theorem one_place {t : SetTable} {es : Array (Int × Value)} (h : t.fits es.size = true) (h1 : es.size = 1) : ∃ j, t.place = #[j] := by
  unfold SetTable.fits at h
  rw [Bool.and_eq_true, beq_iff_eq] at h
  have : t.place.size = 1 := by omega
  match hp : t.place, this with
  | ⟨[j]⟩, _ => exact ⟨j, rfl⟩
theorem below1 (j k : Nat) : SetTable.below #[j] k = if j < k then 1 else 0 := by
  unfold SetTable.below
  show SetTable.below.go #[j] k 1 0 1 = _
  unfold SetTable.below.go
  by_cases h : j < k
  · simp [h, SetTable.below.go]
  · simp [h, SetTable.below.go]
theorem next_set {a I T : Addr} {es : Array (Int × Value)} {ep : Nat} {t : SetTable} {ord : List Value} {i : Nat} {Q : Option Value → Shared → Prop} (st : ItS prog w a I T es ep t ord i s.heap) (hi : i < ord.length) (hI : a ≠ I)
    (h : ∀ v h', ord[i]? = some v → ItS prog w a I T es ep t ord (i + 1) h' → Heap.SameBut I s.heap h' → Q (some v) { s with heap := h' }) : wpAny (model prog w) A (pyNext (.ref I)) Q E s := by
  obtain ⟨f, x⟩ := st.some_i
  have hT := si_type x
  obtain ⟨o, z1, z2, z3⟩ := id x
  obtain ⟨oS, y1, y2, y3⟩ := id st.S.g
  unfold pyNext
  refine wpAny_bind (wpAny_attempt (wpAny_callSpecial?_slot (name := Str.ofString "__next__") hT SI.nx_slot (wpAny_call_entry SI.nx_slot hT SI.nx_entry ?_ (SI.nx_args _))))
  unfold Builtin.«set_iterator.__next__»
  refine wpAny_bind (wpAny_of_eq (a := (Value.ref I, [])) rfl ?_)
  dsimp only
  refine wpAny_bind (wpAny_fieldsOf z1 z3 ?_)
  dsimp only [rawInt]
  refine wpAny_bind (wpAny_setEntries_of y1 y3 st.S.ft ?_)
  rw [if_neg (by simp)]
  have ho : ∃ v, ord[i]? = some v := ⟨_, List.getElem?_eq_getElem hi⟩
  obtain ⟨v, hv⟩ := ho
  have up : ∀ (b : Addr) (h1 h2 : Heap), Heap.SameBut I h1 h2 → b ≠ I → ∀ o, h1.get? b = some o → h2.get? b = some o := fun b h1 h2 sb hb o e => (sb.2 b hb).trans e
  rcases st.m with ⟨hb, j, x', hord⟩ | ⟨hb, ys, x', hTI, hP, hord⟩ | ⟨hb, h1, j, x', hord, j0, jn⟩
  · obtain rfl := si_inj x x'
    dsimp only [rawInt]
    simp only [Int.toNat_natCast]
    unfold setNext
    refine wpAny_bind (wpAny_bind (wpAny_setState_of y1 y3 st.S.ft ?_))
    unfold setsByText
    refine wpAny_bind (wpAny_bind (wpAny_askSetting (wpAny_pure ?_)))
    show wpAny _ _ (if byTx w = true then _ else _) _ _ _
    rw [if_pos hb]
    show wpAny _ _ (if (ep != ep) = true then _ else _) _ _ _
    rw [if_neg (by simp)]
    unfold setWalk
    refine wpAny_bind (wpAny_bind (wpAny_setState_of y1 y3 st.S.ft ?_))
    unfold setsByText
    refine wpAny_bind (wpAny_bind (wpAny_askSetting (wpAny_pure ?_)))
    show wpAny _ _ (if byTx w = true then _ else _) _ _ _
    rw [if_pos hb]
    refine wpAny_bind (wpAny_askSetting (wpAny_pure (wpAny_pure ?_)))
    show wpAny _ _ (match (((pickOrder (w.params.setOrder a ep) es)[i]?).map fun e => (e.2, j)) with | some (x, next) => _ | none => _) _ _ _
    have e1 : ((pickOrder (w.params.setOrder a ep) es)[i]?).map (fun e => (e.2, j)) = some (v, j) := by
      rw [hord, List.getElem?_map, Array.getElem?_toList] at hv
      obtain ⟨e, he, rfl⟩ := Option.map_eq_some_iff.mp hv
      rw [he]; rfl
    rw [e1]
    dsimp only
    refine wpAny_bind (wpAny_setField z1 z3 (by simp) ?_)
    have x1 := si_set0 (g := rawInt j) x
    obtain ⟨o1, u1, u2, u3⟩ := id x1
    refine wpAny_bind (wpAny_setField u1 u3 (by simp) ?_)
    have x2 := si_set1 x1
    have sb : Heap.SameBut I s.heap ((s.heap.update I (Obj.mapFields (·.setIfInBounds 0 (rawInt j)))).update I (Obj.mapFields (·.setIfInBounds 1 (rawInt ((i : Int) + 1))))) := (Heap.SameBut.update _ I _).trans (Heap.SameBut.update _ I _)
    exact wpAny_pure ⟨v, rfl, wpAny_pure (h v _ hv ⟨st.S.at' (up a _ _ sb hI), hi, .inl ⟨hb, j, x2, hord⟩⟩ sb)⟩
  · obtain rfl := si_inj x x'
    obtain ⟨oT, cT, t1, t2⟩ := id hP
    dsimp only
    simp only [Int.toNat_natCast]
    refine wpAny_bind (wpAny_seqItems t1 t2 ?_)
    dsimp only
    have hl : ord.length = ys.length := by have := congrArg List.length hord; simpa using this
    obtain ⟨j, hj⟩ : ∃ j, ys[i]? = some j := ⟨_, List.getElem?_eq_getElem (by omega)⟩
    have e1 : ((ys.map fun j : Nat => rawInt j).toArray)[i]? = some (rawInt j) := by simp [hj]
    have e2 : ∃ q, es[j]? = some q ∧ q.2 = v := by
      have := congrArg (·[i]?) hord
      simp only [List.getElem?_map, hv, hj, Option.map_some] at this
      have h3 : (es[j]?).map (·.2) = some v := (Option.some.inj this).symm
      obtain ⟨q, hq, rfl⟩ := Option.map_eq_some_iff.mp h3
      exact ⟨q, hq, rfl⟩
    obtain ⟨q, hq, rfl⟩ := e2
    rw [e1]
    dsimp only [rawInt]
    simp only [Int.toNat_natCast]
    unfold setNextDrawn
    refine wpAny_bind (wpAny_bind (wpAny_setState_of y1 y3 st.S.ft ?_))
    dsimp only
    rw [if_neg (by simp), hq]
    dsimp only
    refine wpAny_pure ?_
    refine wpAny_bind (wpAny_setField z1 z3 (by simp) ?_)
    have x2 := si_set1 x
    have sb : Heap.SameBut I s.heap (s.heap.update I (Obj.mapFields (·.setIfInBounds 1 (rawInt ((i : Int) + 1))))) := Heap.SameBut.update _ I _
    exact wpAny_pure ⟨q.2, rfl, wpAny_pure (h q.2 _ hv ⟨st.S.at' (up a _ _ sb hI), hi, .inr (.inl ⟨hb, ys, x2, hTI, ⟨oT, cT, up T _ _ sb hTI _ t1, t2⟩, hord⟩)⟩ sb)⟩
  · obtain rfl := si_inj x x'
    have hl : ord.length = es.size := by rw [hord, List.length_map, Array.length_toList]
    have i0 : i = 0 := by omega
    subst i0
    obtain rfl := j0 rfl
    have n1 : es.size = 1 := by omega
    obtain ⟨p, hp⟩ := one_place st.S.ft n1
    dsimp only [rawInt]
    simp only [Int.toNat_natCast]
    unfold setNext
    refine wpAny_bind (wpAny_bind (wpAny_setState_of y1 y3 st.S.ft ?_))
    unfold setsByText
    refine wpAny_bind (wpAny_bind (wpAny_askSetting (wpAny_pure ?_)))
    show wpAny _ _ (if byTx w = true then _ else _) _ _ _
    rw [if_neg (by rw [hb]; decide)]
    show wpAny _ _ (if (!t.plain && decide (es.size > 1)) = true then _ else _) _ _ _
    rw [if_neg (by rw [decide_eq_false (by omega)]; simp)]
    refine wpAny_bind ?_
    show wpAny _ _ (if (!t.led && !es.isEmpty) = true then _ else _) _ _ _
    rw [if_neg (by rw [st.S.ld, hb]; simp)]
    refine wpAny_pure ?_
    dsimp only
    refine wpAny_pure ?_
    rw [hp, below1, if_neg (Nat.not_lt_zero _)]
    have e1 : ∃ q, es[0]? = some q ∧ q.2 = v := by
      rw [hord, List.getElem?_map, Array.getElem?_toList] at hv
      obtain ⟨q, hq, rfl⟩ := Option.map_eq_some_iff.mp hv
      exact ⟨q, hq, rfl⟩
    obtain ⟨q, hq, rfl⟩ := e1
    have e2 : (#[p] : Array Nat)[0]? = some p := rfl
    rw [hq, e2]
    dsimp only
    refine wpAny_bind (wpAny_setField z1 z3 (by simp) ?_)
    have x1 := si_set0 (g := rawInt ((p + 1 : Nat) : Int)) x
    obtain ⟨o1, u1, u2, u3⟩ := id x1
    refine wpAny_bind (wpAny_setField u1 u3 (by simp) ?_)
    have x2 := si_set1 x1
    have sb : Heap.SameBut I s.heap ((s.heap.update I (Obj.mapFields (·.setIfInBounds 0 (rawInt ((p + 1 : Nat) : Int))))).update I (Obj.mapFields (·.setIfInBounds 1 (rawInt (((0 : Nat) : Int) + 1))))) := (Heap.SameBut.update _ I _).trans (Heap.SameBut.update _ I _)
    exact wpAny_pure ⟨q.2, rfl, wpAny_pure (h q.2 _ hv ⟨st.S.at' (up a _ _ sb hI), hi, .inr (.inr ⟨hb, h1, _, x2, hord, (fun z => nomatch z), fun _ => by rw [hp]; rfl⟩)⟩ sb)⟩
theorem stop_set {I : Addr} {h1 : Heap} {Q : Option Value → Shared → Prop} (hh : A.handled = none) (hQ : ∀ h', Heap.ExtBut I h1 h' → Q none { s with heap := h' }) :
    wpAny (model prog w) A.in1 (do
      let e ← newExc (Value.type "StopIteration") []
      raiseNew e) (fun fin s' => ∃ v, fin = Fin.done (Flow.ret v) ∧ wpAny (model prog w) A (pure (some v)) Q E s') (fun e s' => wpAny (model prog w) A (do
          let b ← isInstance e (Value.type "StopIteration")
          if b = true then pure none else throw e) Q E s') { s with heap := h1 } := by
  refine wpAny_bind ?_
  simp only [newExc, newTuple]
  refine wpAny_bind (wpAny_newObj_type ?_ (by size_fits))
  refine wpAny_bind (m := firstArgMember _ _) (wpAny_of_eq (a := Value.none) (by first | rfl | (simp only [firstArgMember]; rfl)) ?_)
  refine wpAny_newObj_type ?_ (by size_fits)
  simp only [raiseNew]
  refine wpAny_bind (wpAny_handled ?_)
  rw [show A.in1.handled = none from hh]
  refine wpAny_bind (wpAny_pure (wpAny_throw ?_))
  refine wpAny_bind (wpAny_isInstance (T := "StopIteration") (b := true) ⟨_, Heap.get?_push_size _ rfl, rfl⟩ isSubtype_stop ?_)
  exact wpAny_pure (hQ _ (((Heap.ExtBut.refl _ _).push _).push _))
theorem end_set {a I T : Addr} {es : Array (Int × Value)} {ep : Nat} {t : SetTable} {ord : List Value} {Q : Option Value → Shared → Prop} (hh : A.handled = none) (st : ItS prog w a I T es ep t ord ord.length s.heap) (hI : a ≠ I) (hs : ord.length = es.size)
    (h : ∀ h', (∀ b o, b ≠ I → s.heap.get? b = some o → h'.get? b = some o) → Q none { s with heap := h' }) : wpAny (model prog w) A (pyNext (.ref I)) Q E s := by
  obtain ⟨f, x⟩ := st.some_i
  have hT := si_type x
  obtain ⟨o, z1, z2, z3⟩ := id x
  obtain ⟨oS, y1, y2, y3⟩ := id st.S.g
  unfold pyNext
  refine wpAny_bind (wpAny_attempt (wpAny_callSpecial?_slot (name := Str.ofString "__next__") hT SI.nx_slot (wpAny_call_entry SI.nx_slot hT SI.nx_entry ?_ (SI.nx_args _))))
  unfold Builtin.«set_iterator.__next__»
  refine wpAny_bind (wpAny_of_eq (a := (Value.ref I, [])) rfl ?_)
  dsimp only
  refine wpAny_bind (wpAny_fieldsOf z1 z3 ?_)
  dsimp only [rawInt]
  refine wpAny_bind (wpAny_setEntries_of y1 y3 st.S.ft ?_)
  rw [if_neg (by simp)]
  have fin : ∀ h1 : Heap, Heap.SameBut I s.heap h1 → ∀ h', Heap.ExtBut I h1 h' → Q none { s with heap := h' } := fun h1 sb h' eb => h h' fun b o hb e => eb b o hb ((sb.2 b hb).trans e)
  rcases st.m with ⟨hb, j, x', hord⟩ | ⟨hb, ys, x', hTI, hP, hord⟩ | ⟨hb, h1, j, x', hord, j0, jn⟩
  · obtain rfl := si_inj x x'
    dsimp only [rawInt]
    simp only [Int.toNat_natCast]
    unfold setNext
    refine wpAny_bind (wpAny_bind (wpAny_setState_of y1 y3 st.S.ft ?_))
    unfold setsByText
    refine wpAny_bind (wpAny_bind (wpAny_askSetting (wpAny_pure ?_)))
    show wpAny _ _ (if byTx w = true then _ else _) _ _ _
    rw [if_pos hb]
    show wpAny _ _ (if (ep != ep) = true then _ else _) _ _ _
    rw [if_neg (by simp)]
    unfold setWalk
    refine wpAny_bind (wpAny_bind (wpAny_setState_of y1 y3 st.S.ft ?_))
    unfold setsByText
    refine wpAny_bind (wpAny_bind (wpAny_askSetting (wpAny_pure ?_)))
    show wpAny _ _ (if byTx w = true then _ else _) _ _ _
    rw [if_pos hb]
    refine wpAny_bind (wpAny_askSetting (wpAny_pure (wpAny_pure ?_)))
    have e1 : ((pickOrder (w.params.setOrder a ep) es)[ord.length]?).map (fun e => (e.2, j)) = none := by
      have hl : ord.length = (pickOrder (w.params.setOrder a ep) es).size := by
        have := congrArg List.length hord
        rwa [List.length_map, Array.length_toList] at this
      rw [Array.getElem?_eq_none (by omega)]
      rfl
    show wpAny _ _ (match (((pickOrder (w.params.setOrder a ep) es)[ord.length]?).map fun e => (e.2, j)) with | some (x, next) => _ | none => _) _ _ _
    rw [e1]
    dsimp only
    refine wpAny_bind (wpAny_setField z1 z3 (by simp) ?_)
    exact stop_set hh (fin _ (Heap.SameBut.update _ I _))
  · obtain rfl := si_inj x x'
    obtain ⟨oT, cT, t1, t2⟩ := id hP
    dsimp only
    simp only [Int.toNat_natCast]
    refine wpAny_bind (wpAny_seqItems t1 t2 ?_)
    dsimp only
    have hl : ord.length = ys.length := by have := congrArg List.length hord; simpa using this
    have e1 : ((ys.map fun j : Nat => rawInt j).toArray)[ord.length]? = none := by simp [hl]
    rw [e1]
    dsimp only
    refine wpAny_bind (wpAny_setField z1 z3 (by simp) ?_)
    obtain ⟨o1, u1, u2, u3⟩ := si_set0 (g := rawInt 0) x
    refine wpAny_bind (wpAny_setField u1 u3 (by simp) ?_)
    exact stop_set hh (fin _ ((Heap.SameBut.update _ I _).trans (Heap.SameBut.update _ I _)))
  · obtain rfl := si_inj x x'
    dsimp only [rawInt]
    simp only [Int.toNat_natCast]
    unfold setNext
    refine wpAny_bind (wpAny_bind (wpAny_setState_of y1 y3 st.S.ft ?_))
    unfold setsByText
    refine wpAny_bind (wpAny_bind (wpAny_askSetting (wpAny_pure ?_)))
    show wpAny _ _ (if byTx w = true then _ else _) _ _ _
    rw [if_neg (by rw [hb]; decide)]
    show wpAny _ _ (if (!t.plain && decide (es.size > 1)) = true then _ else _) _ _ _
    rw [if_neg (by rw [decide_eq_false (by omega)]; simp)]
    refine wpAny_bind ?_
    show wpAny _ _ (if (!t.led && !es.isEmpty) = true then _ else _) _ _ _
    rw [if_neg (by rw [st.S.ld, hb]; simp)]
    refine wpAny_pure ?_
    dsimp only
    refine wpAny_pure ?_
    have e1 : es[SetTable.below t.place j]? = none := by
      by_cases n0 : es.size = 0
      · exact Array.getElem?_eq_none (by omega)
      · have n1 : es.size = 1 := by omega
        obtain ⟨p, hp⟩ := one_place st.S.ft n1
        have hj : j = p + 1 := by
          have := jn (by omega)
          rw [hp] at this
          exact this
        rw [hp, below1, hj, if_pos (Nat.lt_succ_self p)]
        exact Array.getElem?_eq_none (by omega)
    rw [e1]
    dsimp only
    refine wpAny_bind (wpAny_setField z1 z3 (by simp) ?_)
    exact stop_set hh (fin _ (Heap.SameBut.update _ I _))
theorem si_iter_slot : Slot "set_iterator" "__iter__" "set_iterator.__iter__" :=
  .of (owner := "set_iterator") (n := "__iter__") (by rw [typeLookup_type, builtinLookup_eq_fast]; kernel_rfl) (by decide +kernel) (by decide +kernel) (by decide +kernel) (by first | exact .inl (by decide +kernel) | exact .inr (by decide +kernel)) (by rw [isSubtype_type]; kernel_rfl)
theorem si_iter_args (a : Value) : argsOk "set_iterator.__iter__" ⟨[a], []⟩ := by
  unfold argsOk
  rw [signature?_of (id := "set_iterator.__iter__") (n := ['_', '_', 'r', 'e', 't', 'i', '_', '_']) (o := ['r', 'o', 't', 'a', 'r', 'e', 't', 'i', '_', 't', 'e', 's']) (by kernel_rfl) SI.own_si]
  kernel_rfl
theorem si_iter_entry : entryFor table "set_iterator.__iter__" = some Builtin.«dict_keyiterator.__iter__» :=
  entryFor_alias (id' := "dict_keyiterator.__iter__") (by kernel_rfl) (by first | rfl | decide +kernel | (unfold String.splitOn; simp +decide [String.splitOnAux])) (by decide +kernel) (by kernel_rfl)
theorem walks_set {a I T : Addr} {es : Array (Int × Value)} {ep : Nat} {t : SetTable} {ord : List Value} (hh : A.handled = none) (hI : a ≠ I) (hs : ord.length = es.size) :
    Walks prog w A I [I, a, T] [I] ord.length (fun i v => ord[i]? = some v) (ItS prog w a I T es ep t ord) where
  sub := fun b hb => by rw [List.mem_singleton] at hb; rw [hb]; exact List.mem_cons_self
  frame := fun i h h' st hk => by
    have k1 := hk I (by simp)
    have k2 := hk a (by simp)
    have k3 := hk T (by simp)
    refine ⟨st.S.at' k2, st.le, ?_⟩
    rcases st.m with ⟨hb, j, x, r⟩ | ⟨hb, ys, x, n, ⟨o, c, t1, t2⟩, r⟩ | ⟨hb, h1, j, x, r⟩
    · exact .inl ⟨hb, j, x.at' k1, r⟩
    · exact .inr (.inl ⟨hb, ys, x.at' k1, n, ⟨o, c, k3 o t1, t2⟩, r⟩)
    · exact .inr (.inr ⟨hb, h1, j, x.at' k1, r⟩)
  item := fun i s Q E hi st hQ => next_set st hi hI fun v h' hv st' sb => hQ v h' s.toks hv st' fun b o hb e => (sb.2 b (fun q => hb (by rw [q]; exact List.mem_singleton.mpr rfl))).trans e
  done := fun s Q E st hQ => end_set hh st hI hs fun h' hk => hQ h' s.toks fun b o hb e => hk b o (fun q => hb (by rw [q]; exact List.mem_singleton.mpr rfl)) e
  self := fun i s Q E st hQ => by
    obtain ⟨f, x⟩ := st.some_i
    have hT := si_type x
    refine wpAny_pyIter_slot hT si_iter_slot (wpAny_call_entry si_iter_slot hT si_iter_entry ?_ (si_iter_args _))
    show wpAny _ _ (ret (.ref I)) _ _ s
    exact wpAny_pure ⟨_, rfl, "set_iterator", _, hT, SI.nx_slot.lookup, hQ⟩
theorem hint_set {r : Addr} {Q : Bool → Shared → Prop} (hT : s.TypeIs (.ref r) "set") (h : Q false s) : wpAny (model prog w) A (Builtin.List.listLengthHint (.ref r)) Q E s := by
  unfold Builtin.List.listLengthHint
  refine wpAny_bind (wpAny_specialOf hT PySem.F.slot_set_len.lookup ?_)
  generalize hid : ("set.__len__" : String) = id0
  wp_delta
  rw [show splitId id0 = some ("set", "__len__") from by subst hid; decide +kernel]
  subst hid
  refine wpAny_bind (wpAny_isInstance (T := "set") (b := true) hT sub_set_self ?_)
  refine wpAny_ite_split (fun q => absurd q (by decide)) (fun _ => ?_)
  refine wpAny_ite_split (fun _ => ?_) (fun q => absurd (by decide +kernel) q)
  refine wpAny_bind (wpAny_typeOf hT ?_)
  exact wpAny_pure h
end
end L2
set_option Elab.async false
set_option linter.all false
set_option maxRecDepth 100000
namespace L2
open PySem PySem.Spec PyProof.Rows PySem.W
section
variable {prog : Program} {w : World} {A : Around} {E : Value → Shared → Prop} {s : Shared}
theorem items_eq {ord : List Value} {acc : Array Value} (h : ItemsOf (fun i v => ord[i]? = some v) acc ord.length) : acc = ord.toArray := by
  have e : acc.toList = ord := by
    refine List.ext_getElem? fun j => ?_
    rw [Array.getElem?_toList]
    have h1 := h.1
    by_cases hj : j < acc.size
    · rw [Array.getElem?_eq_getElem hj, h.2 j acc[j] (Array.getElem?_eq_getElem hj)]
    · rw [Array.getElem?_eq_none (by omega), List.getElem?_eq_none (by omega)]
  rw [← e]
theorem collect_set {a : Addr} {es : Array (Int × Value)} {ep : Nat} {t : SetTable} {R : List Value → Shared → Prop} (hh : A.handled = none) (S : SetT prog w s.heap a es ep t)
    (h : ∀ (h' : Heap) (tk : Nat) (d : Drawn) (ord : List Value), (∀ b o, s.heap.get? b = some o → h'.get? b = some o) → ord.Perm (es.toList.map (·.2)) → R ord { s with heap := h', drawn := d, toks := tk }) :
    wpAny (model prog w) A (collect (.ref a)) R E s := by
  obtain ⟨o, z1, z2, z3⟩ := id S.g
  have lt := Heap.lt_size z1
  unfold collect
  refine wpAny_bind (wpAny_runValue (codeAny_builtin entry_proto_collect' ?_))
  rw [Around.under_plainId PySem.F.plain_proto_collect _]
  show wpAny _ A.in1 (newList [] >>= fun l => again (.builtin "list.__iadd__" ⟨[l, .ref a], []⟩)) _ _ s
  refine wpAny_bind (wpAny_newObj_type ?_)
  refine wpAny_pure ⟨plainId_quiet PySem.F.plain_list_iadd _, codeAny_builtin entry_list_iadd' ?_⟩
  rw [Around.under_plainId PySem.F.plain_list_iadd _]
  obtain ⟨L, hL⟩ : ∃ L, s.heap.objs.size = L := ⟨_, rfl⟩
  have y1 : (s.heap.push { cls := .type "list", data := .seq ([] : List Value).toArray }).get? L = some { cls := .type "list", data := .seq #[] } := by rw [← hL]; exact Heap.get?_push_size _ rfl
  rw [hL]
  have aL : a ≠ L := by rw [← hL]; exact Nat.ne_of_lt lt
  generalize hh1 : s.heap.push { cls := .type "list", data := .seq ([] : List Value).toArray } = h1 at y1 ⊢
  have k1 : ∀ b o, s.heap.get? b = some o → h1.get? b = some o := fun b o e => by rw [← hh1]; exact Heap.get?_push_of_some _ e
  have S1 := S.at' (h' := h1) (k1 a)
  obtain ⟨o1, u1, u2, u3⟩ := id S1.g
  show wpAny _ A.in1 (Builtin.List.listExtendWith (.ref L) (.ref a) (.ref L)) _ _ _
  have hT : Shared.TypeIs { s with heap := h1 } (.ref a) "set" := ⟨o1, u1, u2.1⟩
  obtain ⟨R0, hR0⟩ : ∃ R0 : Result → Shared → Prop, R0 = fun q s' => ∃ (h' : Heap) (tk c' : Nat) (d : Drawn) (ord : List Value), q = .ok (.ret (.ref L)) ∧ s' = { s with heap := h', drawn := d, toks := tk } ∧ (∀ b o, s.heap.get? b = some o → h'.get? b = some o) ∧ h'.get? L = some { cls := .type "list", dict := none, data := .seq ord.toArray c', slots := #[] } ∧ ord.Perm (es.toList.map (·.2)) := ⟨_, rfl⟩
  have main : wpAny (model prog w) A.in1 (Builtin.List.listExtendWith (.ref L) (.ref a) (.ref L)) (fun fin s' => match fin with | .done f => R0 (.ok f) s' | .again c' => c'.quiet = true ∧ codeAny (model prog w) A c' R0 s') (fun e s' => R0 (.error e) s') { s with heap := h1 } := by
    unfold Builtin.List.listExtendWith
    refine wpAny_bind (wpAny_typeOf (T := "set") hT ?_)
    have n1 : Builtin.List.listSameRef (.ref L) (.ref a) = false := by simp [Builtin.List.listSameRef, Ne.symm aL]
    have n2 : (Value.type "set" == Value.type "list") = false := by decide
    have n3 : (Value.type "set" == Value.type "tuple") = false := by decide
    simp only [n1, n2, n3, Bool.or_false, Bool.false_eq_true, if_false]
    refine wpAny_bind (iter_set (s := { s with heap := h1 }) S1 fun h2 d I T ord k2 hI hTT st hp => ?_)
    have ls : L < h1.objs.size := Heap.lt_size y1
    have la : a < h1.objs.size := Heap.lt_size u1
    have hI' : h1.objs.size ≤ I := hI
    have IL : L ≠ I := Nat.ne_of_lt (Nat.lt_of_lt_of_le ls hI)
    have Ia : a ≠ I := Nat.ne_of_lt (Nat.lt_of_lt_of_le la hI)
    have TL : L ≠ T := by
      rcases hTT with rfl | q
      · exact aL.symm
      · exact Nat.ne_of_lt (Nat.lt_of_lt_of_le ls q)
    have hlen : ord.length = es.size := by rw [hp.length_eq, List.length_map, Array.length_toList]
    have hf : L ∉ [I, a, T] := by
      simp only [List.mem_cons, List.not_mem_nil, or_false, not_or]
      exact ⟨IL, aL.symm, TL⟩
    have hh2 : A.in1.handled = none := hh
    have W := walks_set (prog := prog) (w := w) (A := A.in1) (T := T) (ep := ep) (t := t) hh2 Ia hlen
    have key : ∀ (h3 : Heap) (c tk : Nat), ItS prog w a I T es ep t ord 0 h3 → (∀ b o, b ≠ L → h1.get? b = some o → h3.get? b = some o) → h3.get? L = some { cls := .type "list", data := .seq #[] c } →
        codeAny (model prog w) A (.builtin "list.extend.loop" ⟨[.ref L, .ref I, .ref L], []⟩) R0 { s with heap := h3, drawn := d, toks := tk } := by
      intro h3 c tk st3 k3 y3
      refine codeAny_extend_loopS W.toS (by rw [hlen]; exact fits_of_scanBound S.sz) L hf (.ref L) ord.length 0 _ #[] c rfl (Nat.zero_le _) st3 y3 (ItemsOf.nil _) fun s' acc' c' mv y4 hacc => ?_
      rw [Moved.eq_with mv]
      have eacc := items_eq hacc
      subst eacc
      rw [hR0]
      refine ⟨s'.heap, s'.toks, c', d, ord, rfl, rfl, fun b ob e => ?_, y4, hp⟩
      have bl : b ≠ L := by rw [← hL]; exact Nat.ne_of_lt (Heap.lt_size e)
      refine mv.heap b ob (fun hm => ?_) (k3 b ob bl (k1 b ob e))
      rcases List.mem_cons.mp hm with q | hm
      · exact bl q
      · have q := List.mem_singleton.mp hm
        have := Heap.lt_size (k1 b ob e)
        rw [q] at this
        exact absurd this (Nat.not_lt.mpr hI')
    have y2 := k2 _ _ y1
    have hT2 : Shared.TypeIs { s with heap := h2, drawn := d } (.ref a) "set" := ⟨o1, k2 _ _ u1, u2.1⟩
    refine wpAny_bind (wpAny_holding (hint_set hT2 ?_))
    refine wpAny_ite_split (fun _ => ?_) (fun _ => wpAny_pure ⟨plainId_quiet PySem.F.plain_extend_loop _, key h2 0 _ st (fun b o _ e => k2 b o e) y2⟩)
    refine wpAny_bind (wpAny_rule ?_)
    refine wpAny_bind ?_
    show wpAny _ _ (updateSeq L (·.push .none) >>= fun _ => updateSeq L (·.pop)) _ _ _
    refine wpAny_bind (wpAny_updateSeq y2 rfl ?_)
    have y5 := Heap.get?_update_self (Obj.mapSeq (·.push Value.none)) y2 rfl
    refine wpAny_updateSeq (hz := by seq_fits) y5 rfl ?_
    have y6 := Heap.get?_update_self (Obj.mapSeq (·.pop)) y5 rfl
    have other : ∀ b, b ≠ L → ∀ o, h2.get? b = some o → ((h2.update L (Obj.mapSeq (·.push Value.none))).update L (Obj.mapSeq (·.pop))).get? b = some o := fun b hb o e => (Heap.get?_update_other _ _ (Ne.symm hb)).trans ((Heap.get?_update_other _ _ (Ne.symm hb)).trans e)
    exact wpAny_pure ⟨plainId_quiet PySem.F.plain_extend_loop _, key _ _ _ (W.frame 0 _ _ st fun b hb o e => other b (fun q => hf (q ▸ hb)) o e) (fun b o hb e => other b hb o (k2 b o e)) y6⟩
  refine wpAny_mono main (fun fin s' x => ?_) fun e s' x => ?_
  · cases fin with
    | done f =>
      rw [hR0] at x
      obtain ⟨h', tk, c', d, ord, e, rfl, hk, hS', hp⟩ := x
      cases e
      show wpAny _ A (load L >>= _) _ _ _
      refine wpAny_bind (wpAny_load hS' ?_)
      exact wpAny_pure (h h' tk d ord hk hp)
    | again c₁ =>
      refine ⟨x.1, codeAny_mono x.2 fun q s₂ y => ?_⟩
      rw [hR0] at y
      obtain ⟨h', tk, c', d, ord, rfl, rfl, hk, hS', hp⟩ := y
      show wpAny _ A (load L >>= _) _ _ _
      refine wpAny_bind (wpAny_load hS' ?_)
      exact wpAny_pure (h h' tk d ord hk hp)
  · rw [hR0] at x
    obtain ⟨_, _, _, _, _, e', _⟩ := x
    cases e'
theorem keys_of {es : Array (Int × Value)} (h : ElemsOf (strKind prog w) es.toList) {ord : List Value} (hp : ord.Perm (es.toList.map (·.2))) : StrsAre ord (ord.map txtOf) ∧ (ord.map txtOf).Perm (keysT es) := by
  refine ⟨?_, ?_⟩
  · have : ∀ l : List Value, (∀ v ∈ l, v ∈ es.toList.map (·.2)) → StrsAre l (l.map txtOf) := by
      intro l
      induction l with
      | nil => intro _; exact .nil
      | cons v l ih =>
        intro hl
        obtain ⟨e, he, rfl⟩ := List.mem_map.mp (hl v List.mem_cons_self)
        obtain ⟨⟨k, hk, _⟩, _⟩ := h e he
        obtain ⟨t, et⟩ : ∃ t, e.2 = Value.str k t := Value.isStrOf_shape hk
        rw [et, List.map_cons]
        exact .cons k t (ih fun x hx => hl x (List.mem_cons_of_mem _ hx))
    exact this ord fun v hv => hp.mem_iff.mp hv
  · have := hp.map txtOf
    rw [List.map_map] at this
    exact this
end
theorem strs_vals : ∀ {zs : List Str} {us : List Value}, Vals (zs.map V.str) us → StrsAre us zs
  | [], _, h => by cases h; exact .nil
  | z :: zs, _, h => by
    cases h with
    | cons h1 h2 =>
      obtain ⟨t, rfl⟩ := h1
      exact .cons z t (strs_vals h2)
section
variable {X : Cx} {pins : List (Addr × Obj)} {σ : St} {H : Hp} {s : Shared}
theorem Inv.drawnD (I : Inv X pins σ H s) (d : Drawn) : Inv X pins σ H { s with drawn := d } := ⟨I.ok, I.os, I.bare, I.base, I.loc, I.cell, I.free, I.freeC, I.pin, I.hok, I.len⟩
/-! ### sorted(set(texts)) -/
def tSortSet (te : TE) : TE := fun σ H Q => te σ H fun x H1 => ∃ (p : Addr) (zs : List Str), x = .ref p ∧ H1 p = some (.lst (zs.map V.str)) ∧ zs.length < 63 ∧ ∀ (l : Addr) (ms : List Str), H1 l = none → ms.Nodup → (∀ z, z ∈ ms ↔ z ∈ zs) → sortedS ms = true → Q (.ref l) (upd H1 l (.lst (ms.map V.str)))
theorem boot_sorted : bootBuiltins "sorted" = some (.builtin "sorted") := by decide +kernel
theorem boot_set : bootBuiltins "set" = some (.type "set") := by decide +kernel
theorem pe_sortset {e : Expr} {te : TE} {p1 p2 q1 q2 : Pos} (hc : X.calm = true) (hg1 : Gl X "sorted") (hm1 : X.mg "sorted" = none) (hg2 : Gl X "set") (hm2 : X.mg "set" = none) (he : PE X e te)
    (hs1 : starEach [.Call (.Name "set" p2) [e] [] q2] X.env = (false, eval (.Call (.Name "set" p2) [e] [] q2) X.env) :: starEach [] X.env := by rfl) (hs2 : starEach [e] X.env = (false, eval e X.env) :: starEach [] X.env := by rfl) (hpl : ∀ pos, (backTo pos (starEach [] X.env)).any (·.1) = false := by intro _; rfl) :
    PE X (.Call (.Name "sorted" p1) [.Call (.Name "set" p2) [e] [] q2] [] q1) (tSortSet te) := by
  intro pins s σ H Q I h
  refine wpAny_Call_Name_kw (ld_blt I hg1 hm1 boot_sorted ?_)
  refine PyProof.Rows.callWith_builtin1 ?_ hs1 (hpl _)
  rw [hs1]
  show wpAny _ _ (spliced ((false, eval (.Call (.Name "set" p2) [e] [] q2) X.env) :: backTo q1 (starEach [] X.env))) _ _ s
  refine Calls.spliced_cons ?_
  refine wpAny_Call_Name_kw (ld_blt I hg2 hm2 boot_set ?_)
  refine PyProof.Rows.callWith_type1 ?_ hs2 (hpl _)
  rw [hs2]
  show wpAny _ _ (spliced ((false, eval e X.env) :: backTo q2 (starEach [] X.env))) _ _ s
  refine Calls.spliced_cons (thn (he pins s σ H _ I h) fun u s1 ⟨x, H1, I1, r1, q⟩ => Calls.spliced_nil ?_)
  obtain ⟨p, zs, rfl, hp, h63, k⟩ := q
  cases r1
  obtain ⟨its, rv, pl, hz⟩ := I1.list (SqL.of hp)
  have hst := strs_vals rv
  have hlen : its.length = zs.length := hst.length
  have hh : X.A.handled = none := I.ok.hd hc
  refine call_set_texts hh pl.isList (by simpa using hst) (by rw [List.size_toArray, hlen]; unfold scanBound; omega) fun h2 tk2 es ep t S nd hm hk => ?_
  have hk2 : ∀ b o, s1.heap.get? b = some o → h2.get? b = some o := fun b o e => hk b o (Heap.lt_size e) e
  refine Calls.spliced_nil ?_
  refine Calls.call_function_entry kind_sorted plain_sorted entry_sorted (args_sorted1 _) ?_
  unfold Builtin.«sorted»
  refine wpAny_bind (m := checkCount "sorted" 1 1 _) (wpAny_pure ?_)
  refine wpAny_bind (collect_set (A := X.A.in1) (s := { s1 with heap := h2, toks := tk2 }) hh S fun h3 tk3 d ord hk3 hp3 => ?_)
  obtain ⟨hso, hpo⟩ := keys_of S.el hp3
  have hnk : (keysT es).length ≤ zs.length := nd.length_le_of_subset fun z hz => (hm z).mp hz
  have h64 : ord.length < 64 := by
    have := hpo.length_eq
    rw [List.length_map] at this
    omega
  refine wpAny_bind (wpAny_newList ?_ (sz64 h64))
  have hoL : (h3.push (seqObj "list" ord.toArray 0)).get? h3.objs.size = some (seqObj "list" ord.toArray 0) := Heap.get?_push_size _ rfl
  refine wpAny_bind (wpAny_holding (wpAny_call_entry slot_list_sort ⟨_, hoL, rfl⟩ entry_list_sort (list_sort_treeK strKind_oneLt hoL hso.keysOf (fun v₁ v₂ rest e => keyKind_strs (by rw [← e]; exact hso)) (by omega) fun st' hp' hs' => ⟨_, rfl, ?_⟩) (args_list_sort _)))
  obtain ⟨ms, a1, a2, a3⟩ := sorted_out_str hso hp' hs'
  obtain ⟨n, hn⟩ := sortedHeap_at (out := (arrOf st').map (·.2)) hoL
  have hms : ms.length < 64 := by rw [a2.length_eq, List.length_map]; exact h64
  have I2 : Inv X pins σ H1 { s1 with heap := h3, drawn := d, toks := tk3 } := (I1.kept (t' := tk3) (h' := h3) fun b o e => hk3 b o (hk2 b o e)).drawnD d
  have hmp : ms.Perm (keysT es) := a2.trans hpo
  refine wpAny_pure ⟨_, rfl, .ref h3.objs.size, _, I2.laid (t' := tk3) (fun b o hb => ?_) (Nat.le_refl _) (show ObjOk X.prog X.w _ _ _ (.lst (ms.map V.str)) from ⟨by rw [List.length_map]; exact sz64 hms, ((arrOf st').map (·.2)).toList, n, vals_strsA a1, hn⟩), rfl, k _ ms (I2.hok.fresh (Nat.le_refl _)) (hmp.nodup_iff.mpr nd) (fun z => (hmp.mem_iff).trans (hm z)) a3⟩
  have lt := Heap.lt_size hb
  rw [sortedHeap_old (Nat.ne_of_lt lt) (by rw [size_push']; exact Nat.lt_succ_of_lt lt)]
  exact Heap.get?_push_of_some _ hb
end
/-! ### reading it -/
theorem sortSetI {te : TE} {σ : St} {H : Hp} {Q : VK} (h : ∀ M : VK, Is M (fun x H1 => ∃ (p : Addr) (zs : List Str), x = .ref p ∧ H1 p = some (.lst (zs.map V.str)) ∧ zs.length < 63 ∧ ∀ (l : Addr) (ms : List Str), H1 l = none → ms.Nodup → (∀ z, z ∈ ms ↔ z ∈ zs) → sortedS ms = true → Q (.ref l) (upd H1 l (.lst (ms.map V.str)))) → te σ H M) : tSortSet te σ H Q := h _ Is.rfl
/-- the items that stand the test, each by its value -/
theorem compFiltM {K : PySem.W.Frag} {β : Type} {a : Addr} {tt : TT} {te : TE} {σ : St} {Q : VK} {H1 : Hp} {L : Cells} (ys : List β) (g f : β → V) (p : β → Bool) (hL : Led H1 L) (ha : (a, HO.lst (ys.map g)) ∈ L) (hn : ys.length ≤ sizeLine)
    (ht : ∀ (y : β) (H : Hp) (R : Bool → Hp → Prop) (q : Addr × HO), y ∈ ys → Led H (q :: L) → (∀ H', Led H' (q :: L) → R (p y) H') → tt (some (g y) :: σ) H R)
    (he : ∀ (y : β) (H : Hp) (R : VK) (q : Addr × HO), y ∈ ys → p y = true → Led H (q :: L) → (∀ H', Led H' (q :: L) → R (f y) H') → te (some (g y) :: σ) H R)
    (hd : ∀ (r : Addr) (H' : Hp), Led H' ((r, .lst ((ys.filter p).map f)) :: L) → Q (.ref r) H') : CompJ (Itl K a) tt te σ Q H1 := by
  refine compList (ys.map g) (fun r i acc H => acc = ((ys.take i).filter p).map f ∧ Led H ((r, .lst acc) :: L)) (fun r hr => ⟨rfl, hL.new hr⟩) (fun r i acc H hr h => ⟨h.2.get List.mem_cons_self, SqL.of (h.2.get (List.mem_cons_of_mem _ ha))⟩) ?_ ?_
  · rintro r i x acc H hr hx ⟨rfl, hl⟩
    rw [List.getElem?_map] at hx
    obtain ⟨y, hy, rfl⟩ := Option.map_eq_some_iff.mp hx
    have hm : y ∈ ys := List.mem_of_getElem? hy
    have hi : i < ys.length := (List.getElem?_eq_some_iff.mp hy).1
    have e : ys.take (i + 1) = ys.take i ++ [y] := by rw [List.take_succ, hy]; rfl
    have hlen : (((ys.take i).filter p).map f).length < sizeLine := by
      rw [List.length_map]
      have h1 := List.length_filter_le p (ys.take i)
      rw [List.length_take] at h1
      omega
    refine ht y H _ _ hm hl fun H2 hl2 => ?_
    cases hp : p y with
    | true =>
      rw [if_pos rfl]
      refine he y H2 _ _ hm hp hl2 fun H3 hl3 => ⟨hl3.get List.mem_cons_self, hlen, ?_, hl3.put rfl rfl⟩
      rw [e, List.filter_append, List.map_append, List.filter_cons, if_pos hp]
      rfl
    | false =>
      rw [if_neg Bool.false_ne_true]
      refine ⟨?_, hl2⟩
      rw [e, List.filter_append, List.map_append, List.filter_cons, if_neg (by rw [hp]; exact Bool.false_ne_true)]
      simp
  · rintro r acc H hr ⟨rfl, hl⟩
    rw [List.length_map, List.take_length] at hl
    exact hd r H hl
/-- a set's names in their order are one list -/
theorem one_order {a b : List Str} (ha : a.Nodup) (hb : b.Nodup) (h : ∀ z, z ∈ a ↔ z ∈ b) (sa : sortedS a = true) (sb : sortedS b = true) : a = b :=
  sortedS_uniq ((List.perm_ext_iff_of_nodup ha hb).mpr h) sa sb
end L2
set_option Elab.async false
set_option linter.all false
set_option maxRecDepth 100000
set_option maxHeartbeats 4000000
namespace My
open PySem PySem.Spec PyProof.Rows L2
def top (i : Nat) : Stmt := PySem.Challenge.pw_paneworks_k11_states.main.body.getD i (.Pass ⟨0, 0, 0, 0⟩)
/-! end_of -/
abbrev s_end_of : Stmt := top 6
theorem sc_end_of : FnScope ["stretch"] ["stretch"] (defScope s_end_of) := ⟨rfl, rfl, rfl, by decide +kernel, rfl, by decide +kernel, by decide +kernel⟩
/-! file_page_at -/
abbrev s_file_page_at : Stmt := top 7
theorem sc_file_page_at : FnScope ["stretch", "page"] ["stretch", "page"] (defScope s_file_page_at) := ⟨rfl, rfl, rfl, by decide +kernel, rfl, by decide +kernel, by decide +kernel⟩
/-! state_at -/
abbrev s_state_at : Stmt := top 8
theorem sc_state_at : FnScope ["plan", "page", "stretch"] ["plan", "page"] (defScope s_state_at) := ⟨rfl, rfl, rfl, by decide +kernel, rfl, by decide +kernel, by decide +kernel⟩
/-! cut -/
abbrev s_cut : Stmt := top 9
theorem sc_cut : FnScope ["plan", "low", "high", "pieces", "stretch", "first", "end"] ["plan", "low", "high"] (defScope s_cut) := ⟨rfl, rfl, rfl, by decide +kernel, rfl, by decide +kernel, by decide +kernel⟩
/-! covers -/
abbrev s_covers : Stmt := top 10
theorem sc_covers : FnScope ["plan", "first", "many"] ["plan", "first", "many"] (defScope s_covers) := ⟨rfl, rfl, rfl, by decide +kernel, rfl, by decide +kernel, by decide +kernel⟩
/-! names_of -/
abbrev s_names_of : Stmt := top 11
theorem sc_names_of : FnScope ["plan"] ["plan"] (defScope s_names_of) := ⟨rfl, rfl, rfl, by decide +kernel, rfl, by decide +kernel, by decide +kernel⟩
/-! _law_cell_at -/
abbrev s_l_cell_at : Stmt := top 13
theorem sc_l_cell_at : FnScope ["_law_script", "_law_k"] ["_law_script", "_law_k"] (defScope s_l_cell_at) := ⟨rfl, rfl, rfl, by decide +kernel, rfl, by decide +kernel, by decide +kernel⟩
/-! _law_mixed -/
abbrev s_l_mixed : Stmt := top 14
theorem sc_l_mixed : FnScope ["_law_cell", "_law_k"] ["_law_cell", "_law_k"] (defScope s_l_mixed) := ⟨rfl, rfl, rfl, by decide +kernel, rfl, by decide +kernel, by decide +kernel⟩
/-! _law_words -/
abbrev s_l_words : Stmt := top 15
theorem sc_l_words : FnScope ["_law_cell", "_law_letters", "_law_size", "_law_at", "_law_word", "_law_turned", "_law_other", "_law_longer"] ["_law_cell"] (defScope s_l_words) := ⟨rfl, rfl, rfl, by decide +kernel, rfl, by decide +kernel, by decide +kernel⟩
/-! _law_state_by -/
abbrev s_l_state_by : Stmt := top 16
theorem sc_l_state_by : FnScope ["_law_cell", "_law_k", "_law_words_here", "_law_draw", "_law_name", "_law_start"] ["_law_cell", "_law_k", "_law_words_here"] (defScope s_l_state_by) := ⟨rfl, rfl, rfl, by decide +kernel, rfl, by decide +kernel, by decide +kernel⟩
/-! _law_joins -/
abbrev s_l_joins : Stmt := top 17
theorem sc_l_joins : FnScope ["_law_one", "_law_other"] ["_law_one", "_law_other"] (defScope s_l_joins) := ⟨rfl, rfl, rfl, by decide +kernel, rfl, by decide +kernel, by decide +kernel⟩
/-! _law_stretch_by -/
abbrev s_l_stretch_by : Stmt := top 18
theorem sc_l_stretch_by : FnScope ["_law_three", "_law_k", "_law_last", "_law_words_here", "_law_draw", "_law_first", "_law_many", "_law_state", "_law_start", "_law_one"] ["_law_three", "_law_k", "_law_last", "_law_words_here"] (defScope s_l_stretch_by) := ⟨rfl, rfl, rfl, by decide +kernel, rfl, by decide +kernel, by decide +kernel⟩
/-! _law_plan_by -/
abbrev s_l_plan_by : Stmt := top 19
theorem sc_l_plan_by : FnScope ["_law_script", "_law_words_here", "_law_some", "_law_last", "_law_k", "_law_one"] ["_law_script"] (defScope s_l_plan_by) := ⟨rfl, rfl, rfl, by decide +kernel, rfl, by decide +kernel, by decide +kernel⟩
/-! _law_states_of -/
abbrev s_l_states_of : Stmt := top 20
theorem sc_l_states_of : FnScope ["_law_plan", "_law_states", "_law_one", "_law_k", "_law_step"] ["_law_plan"] (defScope s_l_states_of) := ⟨rfl, rfl, rfl, by decide +kernel, rfl, by decide +kernel, by decide +kernel⟩
/-! _law_is_state -/
abbrev s_l_is_state : Stmt := top 21
theorem sc_l_is_state : FnScope ["_law_found", "_law_due", "_law_num"] ["_law_found", "_law_due"] (defScope s_l_is_state) := ⟨rfl, rfl, rfl, by decide +kernel, rfl, by decide +kernel, by decide +kernel⟩
/-! law -/
abbrev s_law : Stmt := top 22
theorem sc_law : FnScope ["_law_script", "_law_plan", "_law_states", "_law_handed", "_law_some", "_law_k", "_law_page", "_law_one", "_law_many", "_law_due", "_law_said", "_law_told"] ["_law_script"] (defScope s_law) := ⟨rfl, rfl, rfl, by decide +kernel, rfl, by decide +kernel, by decide +kernel⟩
structure Txt (K : PySem.W.Frag) (mg : Str → Option Value)  : Prop where
  FIRST : MgInt mg "FIRST" 0
  MANY : MgInt mg "MANY" 1
  KIND : MgInt mg "KIND" 2
  NAME : MgInt mg "NAME" 4
  START : MgInt mg "START" 5
  b_set : mg "set" = none
  d_end_of : Def K mg "end_of" s_end_of
  d_file_page_at : Def K mg "file_page_at" s_file_page_at
  d_state_at : Def K mg "state_at" s_state_at
  d_cut : Def K mg "cut" s_cut
  d_covers : Def K mg "covers" s_covers
  d_names_of : Def K mg "names_of" s_names_of
  d_l_cell_at : Def K mg "_law_cell_at" s_l_cell_at
  d_l_mixed : Def K mg "_law_mixed" s_l_mixed
  d_l_words : Def K mg "_law_words" s_l_words
  d_l_state_by : Def K mg "_law_state_by" s_l_state_by
  d_l_joins : Def K mg "_law_joins" s_l_joins
  d_l_stretch_by : Def K mg "_law_stretch_by" s_l_stretch_by
  d_l_plan_by : Def K mg "_law_plan_by" s_l_plan_by
  d_l_states_of : Def K mg "_law_states_of" s_l_states_of
  d_l_is_state : Def K mg "_law_is_state" s_l_is_state
  d_law : Def K mg "law" s_law
theorem txt_mk {K : PySem.W.Frag} {h : Heap} {mg : Str → Option Value}  {tFIRST : Tok} {tMANY : Tok} {tKIND : Tok} {tNAME : Tok} {tSTART : Tok} {fend_of : Addr} {fend_ofoc : Value} {fend_ofod fend_ofan : Option Addr} {fend_ofosl : Array (Option Value)} {fend_ofkV fend_ofdoc fend_ofpm fend_ofcdv fend_ofct : Value} {ffile_page_at : Addr} {ffile_page_atoc : Value} {ffile_page_atod ffile_page_atan : Option Addr} {ffile_page_atosl : Array (Option Value)} {ffile_page_atkV ffile_page_atdoc ffile_page_atpm ffile_page_atcdv ffile_page_atct : Value} {fstate_at : Addr} {fstate_atoc : Value} {fstate_atod fstate_atan : Option Addr} {fstate_atosl : Array (Option Value)} {fstate_atkV fstate_atdoc fstate_atpm fstate_atcdv fstate_atct : Value} {fcut : Addr} {fcutoc : Value} {fcutod fcutan : Option Addr} {fcutosl : Array (Option Value)} {fcutkV fcutdoc fcutpm fcutcdv fcutct : Value} {fcovers : Addr} {fcoversoc : Value} {fcoversod fcoversan : Option Addr} {fcoversosl : Array (Option Value)} {fcoverskV fcoversdoc fcoverspm fcoverscdv fcoversct : Value} {fnames_of : Addr} {fnames_ofoc : Value} {fnames_ofod fnames_ofan : Option Addr} {fnames_ofosl : Array (Option Value)} {fnames_ofkV fnames_ofdoc fnames_ofpm fnames_ofcdv fnames_ofct : Value} {fl_cell_at : Addr} {fl_cell_atoc : Value} {fl_cell_atod fl_cell_atan : Option Addr} {fl_cell_atosl : Array (Option Value)} {fl_cell_atkV fl_cell_atdoc fl_cell_atpm fl_cell_atcdv fl_cell_atct : Value} {fl_mixed : Addr} {fl_mixedoc : Value} {fl_mixedod fl_mixedan : Option Addr} {fl_mixedosl : Array (Option Value)} {fl_mixedkV fl_mixeddoc fl_mixedpm fl_mixedcdv fl_mixedct : Value} {fl_words : Addr} {fl_wordsoc : Value} {fl_wordsod fl_wordsan : Option Addr} {fl_wordsosl : Array (Option Value)} {fl_wordskV fl_wordsdoc fl_wordspm fl_wordscdv fl_wordsct : Value} {fl_state_by : Addr} {fl_state_byoc : Value} {fl_state_byod fl_state_byan : Option Addr} {fl_state_byosl : Array (Option Value)} {fl_state_bykV fl_state_bydoc fl_state_bypm fl_state_bycdv fl_state_byct : Value} {fl_joins : Addr} {fl_joinsoc : Value} {fl_joinsod fl_joinsan : Option Addr} {fl_joinsosl : Array (Option Value)} {fl_joinskV fl_joinsdoc fl_joinspm fl_joinscdv fl_joinsct : Value} {fl_stretch_by : Addr} {fl_stretch_byoc : Value} {fl_stretch_byod fl_stretch_byan : Option Addr} {fl_stretch_byosl : Array (Option Value)} {fl_stretch_bykV fl_stretch_bydoc fl_stretch_bypm fl_stretch_bycdv fl_stretch_byct : Value} {fl_plan_by : Addr} {fl_plan_byoc : Value} {fl_plan_byod fl_plan_byan : Option Addr} {fl_plan_byosl : Array (Option Value)} {fl_plan_bykV fl_plan_bydoc fl_plan_bypm fl_plan_bycdv fl_plan_byct : Value} {fl_states_of : Addr} {fl_states_ofoc : Value} {fl_states_ofod fl_states_ofan : Option Addr} {fl_states_ofosl : Array (Option Value)} {fl_states_ofkV fl_states_ofdoc fl_states_ofpm fl_states_ofcdv fl_states_ofct : Value} {fl_is_state : Addr} {fl_is_stateoc : Value} {fl_is_stateod fl_is_statean : Option Addr} {fl_is_stateosl : Array (Option Value)} {fl_is_statekV fl_is_statedoc fl_is_statepm fl_is_statecdv fl_is_statect : Value} {flaw : Addr} {flawoc : Value} {flawod flawan : Option Addr} {flawosl : Array (Option Value)} {flawkV flawdoc flawpm flawcdv flawct : Value} (X : K.In h) (G : h.Ns mainGlobals mg)
    (z1 : PySem.W.nsIn K mainGlobals "FIRST" = some (some (.int 0 tFIRST)))
    (z2 : PySem.W.nsIn K mainGlobals "MANY" = some (some (.int 1 tMANY)))
    (z3 : PySem.W.nsIn K mainGlobals "KIND" = some (some (.int 2 tKIND)))
    (z4 : PySem.W.nsIn K mainGlobals "NAME" = some (some (.int 4 tNAME)))
    (z5 : PySem.W.nsIn K mainGlobals "START" = some (some (.int 5 tSTART)))
    (z6 : PySem.W.nsIn K mainGlobals "set" = some none)
    (z7 : PySem.W.nsIn K mainGlobals "end_of" = some (some (.ref fend_of)))
    (z8 : K.lookup fend_of = some ⟨fend_ofoc, fend_ofod, .func (PySem.W.fnOf "end_of" "end_of" (defArgs s_end_of) (defBody s_end_of) (defScope s_end_of) .none fend_ofkV fend_ofdoc fend_ofpm fend_ofan fend_ofcdv fend_ofct), fend_ofosl⟩)
    (z9 : PySem.W.codeIn K fend_ofcdv "end_of" = true)
    (z10 : PySem.W.keepIn K (.ref fend_of) = true)
    (z11 : PySem.W.nsIn K mainGlobals "file_page_at" = some (some (.ref ffile_page_at)))
    (z12 : K.lookup ffile_page_at = some ⟨ffile_page_atoc, ffile_page_atod, .func (PySem.W.fnOf "file_page_at" "file_page_at" (defArgs s_file_page_at) (defBody s_file_page_at) (defScope s_file_page_at) .none ffile_page_atkV ffile_page_atdoc ffile_page_atpm ffile_page_atan ffile_page_atcdv ffile_page_atct), ffile_page_atosl⟩)
    (z13 : PySem.W.codeIn K ffile_page_atcdv "file_page_at" = true)
    (z14 : PySem.W.keepIn K (.ref ffile_page_at) = true)
    (z15 : PySem.W.nsIn K mainGlobals "state_at" = some (some (.ref fstate_at)))
    (z16 : K.lookup fstate_at = some ⟨fstate_atoc, fstate_atod, .func (PySem.W.fnOf "state_at" "state_at" (defArgs s_state_at) (defBody s_state_at) (defScope s_state_at) .none fstate_atkV fstate_atdoc fstate_atpm fstate_atan fstate_atcdv fstate_atct), fstate_atosl⟩)
    (z17 : PySem.W.codeIn K fstate_atcdv "state_at" = true)
    (z18 : PySem.W.keepIn K (.ref fstate_at) = true)
    (z19 : PySem.W.nsIn K mainGlobals "cut" = some (some (.ref fcut)))
    (z20 : K.lookup fcut = some ⟨fcutoc, fcutod, .func (PySem.W.fnOf "cut" "cut" (defArgs s_cut) (defBody s_cut) (defScope s_cut) .none fcutkV fcutdoc fcutpm fcutan fcutcdv fcutct), fcutosl⟩)
    (z21 : PySem.W.codeIn K fcutcdv "cut" = true)
    (z22 : PySem.W.keepIn K (.ref fcut) = true)
    (z23 : PySem.W.nsIn K mainGlobals "covers" = some (some (.ref fcovers)))
    (z24 : K.lookup fcovers = some ⟨fcoversoc, fcoversod, .func (PySem.W.fnOf "covers" "covers" (defArgs s_covers) (defBody s_covers) (defScope s_covers) .none fcoverskV fcoversdoc fcoverspm fcoversan fcoverscdv fcoversct), fcoversosl⟩)
    (z25 : PySem.W.codeIn K fcoverscdv "covers" = true)
    (z26 : PySem.W.keepIn K (.ref fcovers) = true)
    (z27 : PySem.W.nsIn K mainGlobals "names_of" = some (some (.ref fnames_of)))
    (z28 : K.lookup fnames_of = some ⟨fnames_ofoc, fnames_ofod, .func (PySem.W.fnOf "names_of" "names_of" (defArgs s_names_of) (defBody s_names_of) (defScope s_names_of) .none fnames_ofkV fnames_ofdoc fnames_ofpm fnames_ofan fnames_ofcdv fnames_ofct), fnames_ofosl⟩)
    (z29 : PySem.W.codeIn K fnames_ofcdv "names_of" = true)
    (z30 : PySem.W.keepIn K (.ref fnames_of) = true)
    (z31 : PySem.W.nsIn K mainGlobals "_law_cell_at" = some (some (.ref fl_cell_at)))
    (z32 : K.lookup fl_cell_at = some ⟨fl_cell_atoc, fl_cell_atod, .func (PySem.W.fnOf "_law_cell_at" "_law_cell_at" (defArgs s_l_cell_at) (defBody s_l_cell_at) (defScope s_l_cell_at) .none fl_cell_atkV fl_cell_atdoc fl_cell_atpm fl_cell_atan fl_cell_atcdv fl_cell_atct), fl_cell_atosl⟩)
    (z33 : PySem.W.codeIn K fl_cell_atcdv "_law_cell_at" = true)
    (z34 : PySem.W.keepIn K (.ref fl_cell_at) = true)
    (z35 : PySem.W.nsIn K mainGlobals "_law_mixed" = some (some (.ref fl_mixed)))
    (z36 : K.lookup fl_mixed = some ⟨fl_mixedoc, fl_mixedod, .func (PySem.W.fnOf "_law_mixed" "_law_mixed" (defArgs s_l_mixed) (defBody s_l_mixed) (defScope s_l_mixed) .none fl_mixedkV fl_mixeddoc fl_mixedpm fl_mixedan fl_mixedcdv fl_mixedct), fl_mixedosl⟩)
    (z37 : PySem.W.codeIn K fl_mixedcdv "_law_mixed" = true)
    (z38 : PySem.W.keepIn K (.ref fl_mixed) = true)
    (z39 : PySem.W.nsIn K mainGlobals "_law_words" = some (some (.ref fl_words)))
    (z40 : K.lookup fl_words = some ⟨fl_wordsoc, fl_wordsod, .func (PySem.W.fnOf "_law_words" "_law_words" (defArgs s_l_words) (defBody s_l_words) (defScope s_l_words) .none fl_wordskV fl_wordsdoc fl_wordspm fl_wordsan fl_wordscdv fl_wordsct), fl_wordsosl⟩)
    (z41 : PySem.W.codeIn K fl_wordscdv "_law_words" = true)
    (z42 : PySem.W.keepIn K (.ref fl_words) = true)
    (z43 : PySem.W.nsIn K mainGlobals "_law_state_by" = some (some (.ref fl_state_by)))
    (z44 : K.lookup fl_state_by = some ⟨fl_state_byoc, fl_state_byod, .func (PySem.W.fnOf "_law_state_by" "_law_state_by" (defArgs s_l_state_by) (defBody s_l_state_by) (defScope s_l_state_by) .none fl_state_bykV fl_state_bydoc fl_state_bypm fl_state_byan fl_state_bycdv fl_state_byct), fl_state_byosl⟩)
    (z45 : PySem.W.codeIn K fl_state_bycdv "_law_state_by" = true)
    (z46 : PySem.W.keepIn K (.ref fl_state_by) = true)
    (z47 : PySem.W.nsIn K mainGlobals "_law_joins" = some (some (.ref fl_joins)))
    (z48 : K.lookup fl_joins = some ⟨fl_joinsoc, fl_joinsod, .func (PySem.W.fnOf "_law_joins" "_law_joins" (defArgs s_l_joins) (defBody s_l_joins) (defScope s_l_joins) .none fl_joinskV fl_joinsdoc fl_joinspm fl_joinsan fl_joinscdv fl_joinsct), fl_joinsosl⟩)
    (z49 : PySem.W.codeIn K fl_joinscdv "_law_joins" = true)
    (z50 : PySem.W.keepIn K (.ref fl_joins) = true)
    (z51 : PySem.W.nsIn K mainGlobals "_law_stretch_by" = some (some (.ref fl_stretch_by)))
    (z52 : K.lookup fl_stretch_by = some ⟨fl_stretch_byoc, fl_stretch_byod, .func (PySem.W.fnOf "_law_stretch_by" "_law_stretch_by" (defArgs s_l_stretch_by) (defBody s_l_stretch_by) (defScope s_l_stretch_by) .none fl_stretch_bykV fl_stretch_bydoc fl_stretch_bypm fl_stretch_byan fl_stretch_bycdv fl_stretch_byct), fl_stretch_byosl⟩)
    (z53 : PySem.W.codeIn K fl_stretch_bycdv "_law_stretch_by" = true)
    (z54 : PySem.W.keepIn K (.ref fl_stretch_by) = true)
    (z55 : PySem.W.nsIn K mainGlobals "_law_plan_by" = some (some (.ref fl_plan_by)))
    (z56 : K.lookup fl_plan_by = some ⟨fl_plan_byoc, fl_plan_byod, .func (PySem.W.fnOf "_law_plan_by" "_law_plan_by" (defArgs s_l_plan_by) (defBody s_l_plan_by) (defScope s_l_plan_by) .none fl_plan_bykV fl_plan_bydoc fl_plan_bypm fl_plan_byan fl_plan_bycdv fl_plan_byct), fl_plan_byosl⟩)
    (z57 : PySem.W.codeIn K fl_plan_bycdv "_law_plan_by" = true)
    (z58 : PySem.W.keepIn K (.ref fl_plan_by) = true)
    (z59 : PySem.W.nsIn K mainGlobals "_law_states_of" = some (some (.ref fl_states_of)))
    (z60 : K.lookup fl_states_of = some ⟨fl_states_ofoc, fl_states_ofod, .func (PySem.W.fnOf "_law_states_of" "_law_states_of" (defArgs s_l_states_of) (defBody s_l_states_of) (defScope s_l_states_of) .none fl_states_ofkV fl_states_ofdoc fl_states_ofpm fl_states_ofan fl_states_ofcdv fl_states_ofct), fl_states_ofosl⟩)
    (z61 : PySem.W.codeIn K fl_states_ofcdv "_law_states_of" = true)
    (z62 : PySem.W.keepIn K (.ref fl_states_of) = true)
    (z63 : PySem.W.nsIn K mainGlobals "_law_is_state" = some (some (.ref fl_is_state)))
    (z64 : K.lookup fl_is_state = some ⟨fl_is_stateoc, fl_is_stateod, .func (PySem.W.fnOf "_law_is_state" "_law_is_state" (defArgs s_l_is_state) (defBody s_l_is_state) (defScope s_l_is_state) .none fl_is_statekV fl_is_statedoc fl_is_statepm fl_is_statean fl_is_statecdv fl_is_statect), fl_is_stateosl⟩)
    (z65 : PySem.W.codeIn K fl_is_statecdv "_law_is_state" = true)
    (z66 : PySem.W.keepIn K (.ref fl_is_state) = true)
    (z67 : PySem.W.nsIn K mainGlobals "law" = some (some (.ref flaw)))
    (z68 : K.lookup flaw = some ⟨flawoc, flawod, .func (PySem.W.fnOf "law" "law" (defArgs s_law) (defBody s_law) (defScope s_law) .none flawkV flawdoc flawpm flawan flawcdv flawct), flawosl⟩)
    (z69 : PySem.W.codeIn K flawcdv "law" = true)
    (z70 : PySem.W.keepIn K (.ref flaw) = true) : Txt K mg  :=
  ⟨mgInt_mk X G z1, mgInt_mk X G z2, mgInt_mk X G z3, mgInt_mk X G z4, mgInt_mk X G z5, PySem.W.mg_none_of X G z6, def_mk X G z7 z8 z9 z10, def_mk X G z11 z12 z13 z14, def_mk X G z15 z16 z17 z18, def_mk X G z19 z20 z21 z22, def_mk X G z23 z24 z25 z26, def_mk X G z27 z28 z29 z30, def_mk X G z31 z32 z33 z34, def_mk X G z35 z36 z37 z38, def_mk X G z39 z40 z41 z42, def_mk X G z43 z44 z45 z46, def_mk X G z47 z48 z49 z50, def_mk X G z51 z52 z53 z54, def_mk X G z55 z56 z57 z58, def_mk X G z59 z60 z61 z62, def_mk X G z63 z64 z65 z66, def_mk X G z67 z68 z69 z70⟩

local macro_rules | `(tactic| walk_at "mem") => `(tactic| repeat (first | with_reducible exact List.mem_cons_self | with_reducible assumption | with_reducible refine List.mem_cons_of_mem _ ?_))
local macro_rules | `(tactic| walk_at "sub") => `(tactic| repeat (first | with_reducible exact List.Sublist.refl _ | with_reducible apply List.Sublist.cons₂ | with_reducible apply List.Sublist.cons))
local macro_rules | `(tactic| walk_at "led") => `(tactic| first | with_reducible assumption | exact L2.Led.sub (by assumption) (by walk_at "sub"))
local macro_rules | `(tactic| walk_at "cell") => `(tactic| first | with_reducible assumption | with_reducible exact L2.Led.get (by assumption) (by walk_at "mem"))
local macro_rules | `(tactic| walk_at "atc") => `(tactic| first | with_reducible assumption | with_reducible exact L2.atI_0 | with_reducible exact L2.atI_1 | with_reducible exact L2.atI_2 | with_reducible exact L2.atI_3 | with_reducible exact L2.atI_4 | with_reducible exact L2.atI_5 | with_reducible exact L2.atI_6 | with_reducible exact L2.atI_7)
local macro_rules | `(tactic| walk_at "szs") => `(tactic| first | decide | (simp only [List.length_cons, List.length_nil, List.length_append, List.length_map]; have hsz := PySem.sizeLine_eq; omega) | (have hsz := PySem.sizeLine_eq; omega))
local macro_rules | `(tactic| walk_at "tyc") => `(tactic| first | with_reducible exact L2.tyI | with_reducible exact L2.tyB | with_reducible exact L2.tyS | with_reducible exact L2.tyO | exact L2.tyL (by walk_at "cell") | exact L2.tyT (by walk_at "cell") | exact L2.tyD (by walk_at "cell") | with_reducible assumption)
local macro_rules | `(tactic| walk_at "cnd") => `(tactic| first | omega | (unfold L2.CDiv; omega) | (unfold L2.CMul; omega) | (unfold L2.CDivN; omega) | (dsimp only; omega) | exact PySem.IntMulOk.of_right (by decide +kernel) | exact PySem.IntMulOk.of_left (by decide +kernel))
local macro_rules | `(tactic| walk_at "seq") => `(tactic| first | assumption | exact L2.SqL.of (by walk_at "cell") | exact L2.Same.seq (by assumption) (by assumption) | exact L2.Scr.seq (by assumption) (by walk_at "led"))
local macro_rules | `(tactic| walk_at "isi") => `(tactic| first | with_reducible exact L2.isi_int_int | with_reducible exact L2.isi_int_bool | with_reducible exact L2.isi_bool_int | with_reducible exact L2.isi_bool_bool | with_reducible exact L2.isi_none_int | with_reducible exact L2.isi_none_bool | with_reducible exact L2.isi_str_int | with_reducible exact L2.isi_str_bool | with_reducible exact L2.isi_list_int | with_reducible exact L2.isi_list_bool | with_reducible exact L2.isi_tuple_int | with_reducible exact L2.isi_tuple_bool | with_reducible exact L2.isi_list_list | with_reducible exact L2.isi_tuple_tuple | with_reducible exact L2.isi_tuple_list | with_reducible exact L2.isi_list_tuple | with_reducible exact L2.isi_none_list | with_reducible exact L2.isi_none_tuple | with_reducible exact L2.isi_str_list | with_reducible exact L2.isi_int_list | with_reducible exact L2.isi_bool_list | with_reducible exact L2.isi_int_tuple | with_reducible exact L2.isi_bool_tuple | with_reducible exact L2.isi_str_str | with_reducible exact L2.isi_str_tuple | with_reducible exact L2.isi_int_str | with_reducible exact L2.isi_bool_str | with_reducible exact L2.isi_none_str | with_reducible exact L2.isi_list_str | with_reducible exact L2.isi_tuple_str | rfl)
local macro_rules | `(tactic| walk_at "cl") => `(tactic| ((repeat (with_reducible rename L2.Is _ _ => zz; clear zz)); (repeat (with_reducible rename L2.Same _ _ => zz; clear zz)); (repeat (with_reducible rename L2.VK => zz; clear zz))))
local macro_rules | `(tactic| walk_at "g1") => `(tactic| first
  | with_reducible refine L2.hidI fun _ _ => ?_
  | with_reducible refine L2.varH rfl ?_
  | with_reducible refine L2.conH ?_
  | with_reducible refine L2.nilH ?_
  | with_reducible refine L2.i0H ?_
  | with_reducible refine L2.consH fun _ _ => ?_
  | with_reducible refine L2.opH fun _ _ => ?_
  | with_reducible refine L2.nameH ?_
  | with_reducible refine L2.nextH ?_
  | with_reducible refine L2.seqI fun _ _ => ?_
  | with_reducible refine L2.asgH fun _ _ => ?_
  | with_reducible refine L2.retH fun _ _ => ?_
  | with_reducible refine L2.dropH fun _ _ => ?_
  | with_reducible refine L2.ifH fun _ _ => ?_
  | with_reducible refine L2.testH fun _ _ => ?_
  | with_reducible refine L2.tBH fun _ _ => ?_
  | with_reducible refine L2.notH fun _ _ => ?_
  | with_reducible refine L2.andH fun _ _ => ?_
  | with_reducible refine L2.orH fun _ _ => ?_
  | with_reducible refine L2.andVH fun _ _ => ?_
  | with_reducible refine L2.orVH fun _ _ => ?_
  | with_reducible refine L2.notVH fun _ _ => ?_
  | with_reducible refine L2.ifXH fun _ _ => ?_
  | with_reducible refine L2.unH fun _ _ => ?_
  | with_reducible refine L2.uH ?_
  | with_reducible refine L2.slH fun _ _ => ?_
  | with_reducible refine L2.partH fun _ _ => ?_
  | with_reducible refine L2.noPartH ?_
  | with_reducible refine L2.tupH fun _ _ => ?_
  | with_reducible refine L2.lstH fun _ _ => ?_
  | with_reducible refine L2.callH fun _ _ => ?_
  | with_reducible refine L2.cbH fun _ _ => ?_
  | with_reducible refine L2.methH fun _ _ => ?_
  | with_reducible refine L2.makeH fun _ _ => ?_
  | with_reducible refine L2.fldH fun _ _ => ?_
  | with_reducible refine L2.sfldH fun _ _ => ?_
  | with_reducible refine L2.bmH fun _ _ => ?_
  | with_reducible refine L2.bm0H fun _ _ => ?_
  | with_reducible refine L2.dputH fun _ _ => ?_
  | with_reducible refine L2.gsubH fun _ _ => ?_
  | with_reducible refine L2.dgetH fun _ _ => ?_
  | with_reducible refine L2.dinH fun _ _ => ?_
  | with_reducible refine L2.dninH fun _ _ => ?_
  | with_reducible refine L2.Is.use (by assumption) ?_
  | with_reducible refine L2.use2 (by assumption) ?_
  | with_reducible refine L2.blH ?_
  | with_reducible refine L2.intH ?_
  | with_reducible refine L2.eqIH ?_
  | with_reducible refine L2.neIH ?_
  | with_reducible refine L2.eqSH ?_
  | with_reducible refine L2.neSH ?_
  | with_reducible refine L2.eqBH ?_
  | with_reducible refine L2.neBH ?_
  | with_reducible refine L2.iteT ?_
  | with_reducible refine L2.iteF ?_
  | with_reducible refine L2.iteD (fun _ => ?_) (fun _ => ?_)
  | with_reducible refine L2.iteND (fun _ => ?_) (fun _ => ?_)
  | with_reducible refine L2.iteNT ?_
  | with_reducible refine L2.iteNF ?_
  | ((with_reducible show L2.Ends.rt _ _ _); with_reducible refine L2.rtH ?_)
  | ((with_reducible show L2.Ends.nx _ _ _); with_reducible refine L2.nxH ?_)
  | with_reducible refine L2.pow60H ?_
  | with_reducible refine L2.pow59H ?_
  | with_reducible refine L2.pow20H ?_
  | with_reducible refine L2.pow40H ?_
  | with_reducible refine L2.pow30H ?_
  | with_reducible refine L2.pow9H ?_
  | with_reducible refine L2.pow6H ?_
  | ((with_reducible show L2.rI _ _ _ _ _ _); with_reducible refine L2.iH (by walk_at "cnd") ?_)
  | ((with_reducible show (_ ≤ PySem.sizeLine) ∧ _); with_reducible refine And.intro (by walk_at "szs") (L2.Led.alloc (by assumption) fun _ _ _ _ _ => ?_))
  | ((with_reducible show L2.rIxA _ _ _ _); with_reducible refine L2.ixLH (by walk_at "cell") (by walk_at "atc") ?_)
  | ((with_reducible show L2.rIxA _ _ _ _); with_reducible refine L2.ixTH (by walk_at "cell") (by walk_at "atc") ?_)
  | ((with_reducible show L2.rLenA _ _ _); with_reducible refine L2.lenLH (by walk_at "cell") ?_)
  | ((with_reducible show L2.rLenA _ _ _); with_reducible refine L2.lenTH (by walk_at "cell") ?_)
  | ((with_reducible show L2.rLenA _ _ _); with_reducible refine L2.lenDH (by walk_at "cell") ?_)
  | ((with_reducible show L2.rIsiN _ _ _); with_reducible refine L2.isiH (by walk_at "tyc") (by walk_at "isi") ?_)
  | ((with_reducible show L2.rCat _ _ _ _); with_reducible refine L2.catH (by walk_at "cell") (by walk_at "cell") (by walk_at "szs") (L2.Led.alloc (by assumption) fun _ _ _ _ _ => ?_))
  | ((with_reducible show ∃ (p : Addr) (ys : List L2.V), _ = [L2.V.ref p] ∧ _); with_reducible refine L2.listH (by walk_at "seq") (L2.Led.alloc (by assumption) fun _ _ _ _ _ => ?_))
  | ((with_reducible show ∃ (p : Addr) (ys : List L2.V), _ = [L2.V.ref p] ∧ _); with_reducible refine L2.tupOfH (by walk_at "seq") (L2.Led.alloc (by assumption) fun _ _ _ _ _ => ?_))
  | ((with_reducible show L2.rSlL _ _ _ _ _ _); with_reducible refine L2.slLH (by first | assumption | exact L2.SqL.of (by walk_at "cell") | exact L2.Same.seq (by assumption) (by assumption) | exact L2.Scr.seq (by assumption) (by walk_at "led")) (L2.Led.alloc (by assumption) fun _ _ _ _ _ => ?_)))
local macro_rules | `(tactic| walk_at "g2") => `(tactic| first
  | walk_at "g1"
  | ((with_reducible show ∃ (b : Addr) (dx : Addr) (fs : List (Str × L2.V)) (v : L2.V), _ ∧ _); with_reducible refine L2.fldR (by walk_at "cell") (by first | assumption | with_unfolding_all rfl) ?_)
  | ((with_reducible show ∃ (b : Addr) (dx : Addr) (fs : List (Str × L2.V)), _ ∧ _); with_reducible refine L2.methR (by walk_at "cell") (by first | assumption | with_unfolding_all rfl) ?_)
  | ((with_reducible show ∃ (b : Addr) (dx : Addr) (fs : List (Str × L2.V)), _ ∧ _); with_reducible refine L2.sfldR (by walk_at "cell") (by first | decide | with_unfolding_all exact Nat.le_of_ble_eq_true rfl) ?_)
  | ((with_reducible show ∃ (b : Addr) (o : Option L2.V), _ ∧ _); with_reducible refine L2.dinR (by walk_at "cell") ?_)
  | ((with_reducible show L2.tDNewK _ _ _); with_reducible refine L2.newDH (by assumption) fun _ _ _ _ _ => ?_)
  | with_reducible refine L2.isH ?_
  | with_reducible refine L2.isnH ?_)
local macro_rules | `(tactic| walk_at "pf") => `(tactic| repeat (first | with_reducible exact List.Perm.refl _ | with_reducible apply L2.pcC | with_reducible apply L2.pcA | with_reducible apply L2.paC | with_reducible apply L2.paA))
local macro_rules | `(tactic| walk_at "sp") => `(tactic| repeat (first | (with_reducible apply L2.spC; · walk_at "pf") | (with_reducible apply L2.spA; · walk_at "pf") | with_reducible exact L2.spR | with_reducible exact L2.spN | with_reducible apply L2.spD | with_reducible apply L2.spDA))
local macro_rules | `(tactic| walk_at "g3") => `(tactic| first
  | walk_at "g2"
  | with_reducible refine L2.dget1H fun _ _ => ?_
  | with_reducible refine L2.dpop2H (fun _ _ => ?_) L2.tcMono
  | ((with_reducible show (∃ (a : Addr), _ ∧ L2.IsD _ _) ∧ _); with_reducible refine And.intro (L2.isD_of (by walk_at "cell")) ?_)
  | ((with_reducible show ∃ (b : Addr) (o : Option L2.V), _ ∧ _); with_reducible refine L2.dget1R (by walk_at "cell") ?_)
  | ((with_reducible show L2.rSlT _ _ none (some 2) _ _); with_reducible refine L2.sl4a (by walk_at "cell") (L2.Led.alloc (by assumption) fun _ _ _ _ _ => ?_))
  | ((with_reducible show L2.rSlT _ _ (some 2) none _ _); with_reducible refine L2.sl4b (by walk_at "cell") (L2.Led.alloc (by assumption) fun _ _ _ _ _ => ?_)))
local macro_rules | `(tactic| walk_at "ge") => `(tactic| repeat' walk_at "g3")

section
variable {P : Program} {w : World} {K : PySem.W.Frag} {mg : Str → Option Value} {base : Heap}
/-- a stretch -/
structure Sr where
  f : Int
  m : Int
  kd : Str
  r : Int
  nm : Option Str
  st : Int
def nmV : Option Str → V
  | none => .non
  | some z => .str z
def srV (s : Sr) : List V := [.int s.f, .int s.m, .str s.kd, .int s.r, nmV s.nm, .int s.st]
theorem cutne (s : Sr) : ¬ (HT.sIx (srV s).length 0 (some 2) = 0 ∧ HT.sIx (srV s).length (srV s).length (some 5) = (srV s).length) := by
  show ¬ (HT.sIx 6 0 (some 2) = 0 ∧ HT.sIx 6 6 (some 5) = 6)
  decide
def OkZ (z : Str) : Prop := PyData.strOk z = true
def OkS (s : Sr) : Prop := OkZ s.kd ∧ (∀ z, s.nm = some z → OkZ z) ∧ 0 ≤ s.m
def joinsB (s t : Sr) : Bool := decide (s.f + s.m = t.f) && (decide (s.kd = t.kd) && (decide (s.r = t.r) && (decide (s.nm = t.nm) && (decide (s.nm = none) || decide (t.st = s.st + s.m)))))
def datN : Option Str → PySem.W.Dat
  | none => .none
  | some z => .str z
theorem datN_V {H : Hp} (n : Option Str) : DatV H (nmV n) (PySem.W.kqdP (datN n)) := by
  cases n with
  | none => rw [datN, PySem.W.kqdP]; exact .non
  | some z => rw [datN, PySem.W.kqdP]; exact .str z
theorem datN_ok {n : Option Str} (h : ∀ z, n = some z → OkZ z) (k : Nat) : PySem.W.kqdOk k (datN n) = true := by
  cases n with
  | none => cases k <;> rfl
  | some z => cases k <;> exact h z rfl
theorem datN_inj {n n' : Option Str} : datN n = datN n' ↔ n = n' := by
  cases n <;> cases n' <;> simp [datN]
theorem nmV_non (n : Option Str) : decide (nmV n = .non) = decide (n = none) := by
  cases n <;> simp [nmV]
def spEnd : Sp := fun vs H Q _ => ∃ (a : Addr) (s : Sr), vs = [.ref a] ∧ H a = some (.tup (srV s)) ∧ Q (.int (s.f + s.m)) H
theorem ok_end (D : Def K mg "end_of" s_end_of) (T : Txt K mg ) : FnD P w K mg base 1 "end_of" ["stretch"] spEnd := by
  refine D.ok sc_end_of (fun vs H Q E h => ?_) (fun _ _ _ _ _ _ us hl => match us, hl with | [_], _ => rfl) (fun f cdv A outer s H vs Q E hr h => ?_)
  · obtain ⟨_, _, rfl, _⟩ := h; rfl
  · obtain ⟨a, t, rfl, ha, k⟩ := h
    have sc := sc_end_of
    unfold srV at ha
    refine ⟨_, (@pss_one _ _ _ (@ps_ret _ _ _ _ (@pe_op _ _ _ _ _ _ _ _ op_add (@pe_ix _ _ _ _ _ _ _ ix_any (@pv _ 0 _ _ (by rfl) (by first | exact Or.inl rfl | exact Or.inr (Or.inl rfl) | exact Or.inr (Or.inr rfl)) (by decide) (by decide)) (@pe_gint _ _ _ _ T.FIRST (by rfl) (by decide)) (fun _ _ => rfl)) (@pe_ix _ _ _ _ _ _ _ ix_any (@pv _ 0 _ _ (by rfl) (by first | exact Or.inl rfl | exact Or.inr (Or.inl rfl) | exact Or.inr (Or.inr rfl)) (by decide) (by decide)) (@pe_gint _ _ _ _ T.MANY (by rfl) (by decide)) (fun _ _ => rfl))))), ?_⟩
    walk_at "ge"
    exact k
def spJoin : Sp := fun vs H Q _ => ∃ (a b : Addr) (s t : Sr) (L : Cells), vs = [.ref a, .ref b] ∧ Led H L ∧ (a, HO.tup (srV s)) ∈ L ∧ (b, HO.tup (srV t)) ∈ L ∧ OkS s ∧ OkS t ∧ ∀ H', Led H' L → Q (.bl (joinsB s t)) H'
theorem cut25 (s : Sr) : cutV (srV s) (some 2) (some 5) = [.str s.kd, .int s.r, nmV s.nm] := by
  unfold srV
  rfl
theorem ok_ljoins (D : Def K mg "_law_joins" s_l_joins) (B : Blt mg) (T : Txt K mg ) : FnD P w K mg base 1 "_law_joins" ["_law_one", "_law_other"] spJoin := by
  refine D.ok sc_l_joins (fun vs H Q E h => ?_) (fun _ _ _ _ _ _ us hl => match us, hl with | [_, _], _ => rfl) (fun f cdv A outer s H vs Q E hr h => ?_)
  · obtain ⟨_, _, _, _, _, rfl, _⟩ := h; rfl
  · obtain ⟨a, b, u, v, L, rfl, hL, ia, ib, oku, okv, k⟩ := h
    have sc := sc_l_joins
    have ha := hL.get ia
    have hb := hL.get ib
    unfold srV at ha hb
    refine ⟨_, (@pss_cons _ _ _ _ _ (@ps_if _ _ _ _ _ _ _ _ (@PW.pt _ _ _ (@pw_or _ _ _ _ _ _ _ (@pt_cmpR _ _ _ _ _ _ _ _ op_ne (@pe_op _ _ _ _ _ _ _ _ op_add (@pe_ix _ _ _ _ _ _ _ ix_any (@pv _ 0 _ _ (by rfl) (by first | exact Or.inl rfl | exact Or.inr (Or.inl rfl) | exact Or.inr (Or.inr rfl)) (by decide) (by decide)) (@pe_int _ _ _ _) (fun _ _ => rfl)) (@pe_ix _ _ _ _ _ _ _ ix_any (@pv _ 0 _ _ (by rfl) (by first | exact Or.inl rfl | exact Or.inr (Or.inl rfl) | exact Or.inr (Or.inr rfl)) (by decide) (by decide)) (@pe_int _ _ _ _) (fun _ _ => rfl))) (@pe_ix _ _ _ _ _ _ _ ix_any (@pv _ 1 _ _ (by rfl) (by first | exact Or.inl rfl | exact Or.inr (Or.inl rfl) | exact Or.inr (Or.inr rfl)) (by decide) (by decide)) (@pe_int _ _ _ _) (fun _ _ => rfl)) (nomark _)) (@pw_or _ _ _ _ _ _ _ (@pt_cmpR _ _ _ _ _ _ _ _ op_ne (@pe_ix _ _ _ _ _ _ _ ix_any (@pv _ 0 _ _ (by rfl) (by first | exact Or.inl rfl | exact Or.inr (Or.inl rfl) | exact Or.inr (Or.inr rfl)) (by decide) (by decide)) (@pe_int _ _ _ _) (fun _ _ => rfl)) (@pe_ix _ _ _ _ _ _ _ ix_any (@pv _ 1 _ _ (by rfl) (by first | exact Or.inl rfl | exact Or.inr (Or.inl rfl) | exact Or.inr (Or.inr rfl)) (by decide) (by decide)) (@pe_int _ _ _ _) (fun _ _ => rfl)) (nomark _)) (@pw_or _ _ _ _ _ _ _ (@pt_cmpR _ _ _ _ _ _ _ _ op_ne (@pe_ix _ _ _ _ _ _ _ ix_any (@pv _ 0 _ _ (by rfl) (by first | exact Or.inl rfl | exact Or.inr (Or.inl rfl) | exact Or.inr (Or.inr rfl)) (by decide) (by decide)) (@pe_int _ _ _ _) (fun _ _ => rfl)) (@pe_ix _ _ _ _ _ _ _ ix_any (@pv _ 1 _ _ (by rfl) (by first | exact Or.inl rfl | exact Or.inr (Or.inl rfl) | exact Or.inr (Or.inr rfl)) (by decide) (by decide)) (@pe_int _ _ _ _) (fun _ _ => rfl)) (nomark _)) (@pw_or1 _ _ _ _ (@pt_cmpR _ _ _ _ _ _ _ _ (op_neD hr.units) (@pe_ix _ _ _ _ _ _ _ ix_any (@pv _ 0 _ _ (by rfl) (by first | exact Or.inl rfl | exact Or.inr (Or.inl rfl) | exact Or.inr (Or.inr rfl)) (by decide) (by decide)) (@pe_int _ _ _ _) (fun _ _ => rfl)) (@pe_ix _ _ _ _ _ _ _ ix_any (@pv _ 1 _ _ (by rfl) (by first | exact Or.inl rfl | exact Or.inr (Or.inl rfl) | exact Or.inr (Or.inr rfl)) (by decide) (by decide)) (@pe_int _ _ _ _) (fun _ _ => rfl)) (nomark _))))))) (@pss_one _ _ _ (@ps_ret _ _ _ _ (@pe_bl _ _ _ _))) (@pss_nil _)) (@pss_one _ _ _ (@ps_ret _ _ _ _ (@pe_or _ _ _ _ _ _ _ (@pe_cmpR _ _ _ _ _ _ _ _ op_isN (@pe_ix _ _ _ _ _ _ _ ix_any (@pv _ 0 _ _ (by rfl) (by first | exact Or.inl rfl | exact Or.inr (Or.inl rfl) | exact Or.inr (Or.inr rfl)) (by decide) (by decide)) (@pe_int _ _ _ _) (fun _ _ => rfl)) (@pe_non _ _ _) (nomark _)) (@pe_one _ _ _ _ _ (@pe_cmpR _ _ _ _ _ _ _ _ op_eq (@pe_op _ _ _ _ _ _ _ _ op_add (@pe_ix _ _ _ _ _ _ _ ix_any (@pv _ 0 _ _ (by rfl) (by first | exact Or.inl rfl | exact Or.inr (Or.inl rfl) | exact Or.inr (Or.inr rfl)) (by decide) (by decide)) (@pe_int _ _ _ _) (fun _ _ => rfl)) (@pe_ix _ _ _ _ _ _ _ ix_any (@pv _ 0 _ _ (by rfl) (by first | exact Or.inl rfl | exact Or.inr (Or.inl rfl) | exact Or.inr (Or.inr rfl)) (by decide) (by decide)) (@pe_int _ _ _ _) (fun _ _ => rfl))) (@pe_ix _ _ _ _ _ _ _ ix_any (@pv _ 1 _ _ (by rfl) (by first | exact Or.inl rfl | exact Or.inr (Or.inl rfl) | exact Or.inr (Or.inr rfl)) (by decide) (by decide)) (@pe_int _ _ _ _) (fun _ _ => rfl)) (nomark _))))))), ?_⟩
    refine seqK fun M1 K1 => ?_
    walk_at "ge"
    · have e : joinsB u v = false := by unfold joinsB; rw [decide_eq_false (p := u.f + u.m = v.f) (by assumption)]; rfl
      rw [← e]; exact k _ hL
    · have e : joinsB u v = false := by unfold joinsB; rw [decide_eq_false (p := u.kd = v.kd) (by assumption), Bool.false_and, Bool.and_false]
      rw [← e]; exact k _ hL
    · have e : joinsB u v = false := by unfold joinsB; rw [decide_eq_false (p := u.r = v.r) (by assumption), Bool.false_and, Bool.and_false, Bool.and_false]
      rw [← e]; exact k _ hL
    have e1 : u.f + u.m = v.f := by assumption
    have e2 : u.kd = v.kd := by assumption
    have e3 : u.r = v.r := by assumption
    refine neDH (d := datN u.nm) (e := datN v.nm) (b := decide (u.nm = v.nm)) (datN_V _) (datN_V _) (datN_ok oku.2.1 8) (datN_ok okv.2.1 8) (by rw [decide_eq_true_iff, datN_inj]) ?_
    cases hc : decide (u.nm = v.nm) with
    | false =>
      walk_at "ge"
      have e : joinsB u v = false := by unfold joinsB; rw [hc, Bool.false_and, Bool.and_false, Bool.and_false, Bool.and_false]
      rw [← e]; exact k _ hL
    | true =>
      walk_at "ge"
      refine K1.use ?_
      walk_at "cl"
      clear K1
      have ej : joinsB u v = (decide (u.nm = none) || decide (v.st = u.st + u.m)) := by
        unfold joinsB
        rw [decide_eq_true e1, decide_eq_true e2, decide_eq_true e3, hc]
        rfl
      walk_at "ge"
      · have hn : nmV u.nm = .non := by assumption
        have e : joinsB u v = true := by rw [ej, ← nmV_non, decide_eq_true hn]; rfl
        rw [← e]; exact k _ hL
      · have hn : ¬ nmV u.nm = .non := by assumption
        have e : joinsB u v = decide (u.st + u.m = v.st) := by rw [ej, ← nmV_non, decide_eq_false hn, Bool.false_or]; exact decide_eq_decide.mpr ⟨Eq.symm, Eq.symm⟩
        rw [← e]; exact k _ hL
/-- the file page of a page of a stretch -/
def fpg (s : Sr) (p : Int) : Int := if s.nm = none then 0 else s.st + p - s.f
def spFpg : Sp := fun vs H Q _ => ∃ (a : Addr) (s : Sr) (p : Int), vs = [.ref a, .int p] ∧ H a = some (.tup (srV s)) ∧ Q (.int (fpg s p)) H
theorem ok_fpg (D : Def K mg "file_page_at" s_file_page_at) (T : Txt K mg ) : FnD P w K mg base 1 "file_page_at" ["stretch", "page"] spFpg := by
  refine D.ok sc_file_page_at (fun vs H Q E h => ?_) (fun _ _ _ _ _ _ us hl => match us, hl with | [_, _], _ => rfl) (fun f cdv A outer s H vs Q E hr h => ?_)
  · obtain ⟨_, _, _, rfl, _⟩ := h; rfl
  · obtain ⟨a, t, p, rfl, ha, k⟩ := h
    have sc := sc_file_page_at
    unfold srV at ha
    unfold fpg at k
    have hn := nmV_non t.nm
    refine ⟨_, (@pss_cons _ _ _ _ _ (@ps_if _ _ _ _ _ _ _ _ (@pt_cmpR _ _ _ _ _ _ _ _ op_isN (@pe_ix _ _ _ _ _ _ _ ix_any (@pv _ 0 _ _ (by rfl) (by first | exact Or.inl rfl | exact Or.inr (Or.inl rfl) | exact Or.inr (Or.inr rfl)) (by decide) (by decide)) (@pe_gint _ _ _ _ T.NAME (by rfl) (by decide)) (fun _ _ => rfl)) (@pe_non _ _ _) (nomark _)) (@pss_one _ _ _ (@ps_ret _ _ _ _ (@pe_int _ _ _ _))) (@pss_nil _)) (@pss_one _ _ _ (@ps_ret _ _ _ _ (@pe_op _ _ _ _ _ _ _ _ op_sub (@pe_op _ _ _ _ _ _ _ _ op_add (@pe_ix _ _ _ _ _ _ _ ix_any (@pv _ 0 _ _ (by rfl) (by first | exact Or.inl rfl | exact Or.inr (Or.inl rfl) | exact Or.inr (Or.inr rfl)) (by decide) (by decide)) (@pe_gint _ _ _ _ T.START (by rfl) (by decide)) (fun _ _ => rfl)) (@pv _ 1 _ _ (by rfl) (by first | exact Or.inl rfl | exact Or.inr (Or.inl rfl) | exact Or.inr (Or.inr rfl)) (by decide) (by decide))) (@pe_ix _ _ _ _ _ _ _ ix_any (@pv _ 0 _ _ (by rfl) (by first | exact Or.inl rfl | exact Or.inr (Or.inl rfl) | exact Or.inr (Or.inr rfl)) (by decide) (by decide)) (@pe_gint _ _ _ _ T.FIRST (by rfl) (by decide)) (fun _ _ => rfl)))))), ?_⟩
    walk_at "ge"
    · have h1 : nmV t.nm = .non := by assumption
      rw [decide_eq_true h1] at hn
      rw [if_pos (of_decide_eq_true hn.symm)] at k
      exact k
    · have h1 : ¬ nmV t.nm = .non := by assumption
      rw [decide_eq_false h1] at hn
      rw [if_neg (of_decide_eq_false hn.symm)] at k
      exact k
end

section
variable {P : Program} {w : World} {K : PySem.W.Frag} {mg : Str → Option Value} {base : Heap}
/-- the script's k-th number, 0 behind its end -/
def spCellAt (K : PySem.W.Frag) : Sp := fun vs H Q _ => ∃ (a : Addr) (ns : List Int) (j : Int), vs = [.ref a, .int j] ∧ 0 ≤ j ∧ SqL K H a (ns.map V.int) ∧ Q (.int (ns.getD j.toNat 0)) H
theorem ok_cell_at (D : Def K mg "_law_cell_at" s_l_cell_at) (B : Blt mg) : FnD P w K mg base 1 "_law_cell_at" ["_law_script", "_law_k"] (spCellAt K) := by
  refine D.ok sc_l_cell_at (fun vs H Q E h => ?_) (fun _ _ _ _ _ _ us hl => match us, hl with | [_, _], _ => rfl) (fun f cdv A outer s H vs Q E hr h => ?_)
  · obtain ⟨_, _, _, rfl, _⟩ := h; rfl
  · obtain ⟨a, ns, j, rfl, hj0, hS, k⟩ := h
    obtain ⟨j, rfl⟩ := Int.eq_ofNat_of_zero_le hj0
    refine ⟨_, (@pss_cons _ _ _ _ _ (@ps_if _ _ _ _ _ _ _ _ (@pt_cmpR _ _ _ _ _ _ _ _ op_lt (@pv _ 1 _ _ (by rfl) (by first | exact Or.inl rfl | exact Or.inr (Or.inl rfl) | exact Or.inr (Or.inr rfl)) (by decide) (by decide)) (@pe_callB _ _ _ _ _ _ _ _ _ (call_len_seqK (K := K) rfl) (by rfl) B.len bt_len (@pa_cons _ _ _ _ _ (@pv _ 0 _ _ (by rfl) (by first | exact Or.inl rfl | exact Or.inr (Or.inl rfl) | exact Or.inr (Or.inr rfl)) (by decide) (by decide)) (@pa_nil _) (by rfl)) (by decide) (by decide) (by rfl) (by rfl)) (nomark _)) (@pss_one _ _ _ (@ps_ret _ _ _ _ (@pe_ix _ _ _ _ _ _ _ (ix_listK (K := K) rfl) (@pv _ 0 _ _ (by rfl) (by first | exact Or.inl rfl | exact Or.inr (Or.inl rfl) | exact Or.inr (Or.inr rfl)) (by decide) (by decide)) (@pv _ 1 _ _ (by rfl) (by first | exact Or.inl rfl | exact Or.inr (Or.inl rfl) | exact Or.inr (Or.inr rfl)) (by decide) (by decide)) (fun _ _ => rfl)))) (@pss_nil _)) (@pss_one _ _ _ (@ps_ret _ _ _ _ (@pe_int _ _ _ _)))), ?_⟩
    simp only [tSeq, tIfS, tTest, tOp, tVar, L2.start, List.map_cons, List.map_nil, List.length_cons, List.length_nil, Nat.zero_add, Nat.reduceAdd, Nat.reduceSub, List.replicate, List.append_nil, List.getElem?_cons_succ, List.getElem?_cons_zero, Option.some.injEq, tCB, tCons, tNil, List.cons.injEq, and_true, rI0, V.int.injEq, V.bl.injEq, tRet, rIxL, exists_and_left, exists_eq_left', V.ref.injEq, tNext, tC, decide_eq_true_eq]
    refine ⟨_, .inl hS, ?_⟩
    rw [List.length_map]
    rw [Int.toNat_natCast] at k
    refine ite2 (fun hlt => ?_) (fun hge => ?_)
    · refine ⟨_, hS, _, atI_nat (j := j) (v := V.int (ns.getD j 0)) ?_, k⟩
      have hj : j < ns.length := by omega
      simp [hj]
    · rw [List.getD_eq_getElem?_getD, List.getElem?_eq_none (by omega)] at k
      exact k
/-- a row of stretches, where they lie -/
abbrev SrA := Addr × Sr
def sRefs (ws : List SrA) : List V := ws.map fun x => V.ref x.1
theorem sRefs_len (ws : List SrA) : (sRefs ws).length = ws.length := by unfold sRefs; rw [List.length_map]
abbrev stV (kd : Str) (r : Int) (nm : Option Str) (st : Int) : List V := [.str kd, .int r, nmV nm, .int st]
def hasP (p : Int) (s : Sr) : Bool := decide (s.f ≤ p) && decide (p < s.f + s.m)
def finP (ws : List SrA) (p : Int) : Option SrA := ws.find? fun x => hasP p x.2
theorem finP_at {p : Int} : ∀ {ws : List SrA} {i : Nat} {x : SrA}, ws[i]? = some x → hasP p x.2 = true → (∀ (j : Nat) y, j < i → ws[j]? = some y → hasP p y.2 = false) → finP ws p = some x
  | [], i, x, h, _, _ => by simp at h
  | y :: ws, 0, x, h, hx, _ => by
    cases h
    unfold finP
    rw [List.find?_cons, hx]
  | y :: ws, i + 1, x, h, hx, hno => by
    have h0 := hno 0 y (Nat.succ_pos _) rfl
    unfold finP
    rw [List.find?_cons, h0]
    exact finP_at (ws := ws) (i := i) h hx fun j z hj hz => hno (j + 1) z (Nat.succ_lt_succ hj) hz
theorem finP_no {p : Int} {ws : List SrA} (h : ∀ (j : Nat) y, ws[j]? = some y → hasP p y.2 = false) : finP ws p = none := by
  unfold finP
  rw [List.find?_eq_none]
  intro y hy
  obtain ⟨j, hj⟩ := List.getElem?_of_mem hy
  rw [h j y hj]
  decide
def spStateAt : Sp := fun vs H Q _ => ∃ (l : Addr) (ws : List SrA) (p : Int) (L : Cells), vs = [.ref l, .int p] ∧ Led H L ∧ (l, HO.lst (sRefs ws)) ∈ L ∧ (∀ x ∈ ws, (x.1, HO.tup (srV x.2)) ∈ L) ∧ (finP ws p = none → Q .non H) ∧
  ∀ (r : Addr) (x : SrA) (H' : Hp), finP ws p = some x → Led H' ((r, .tup (stV x.2.kd x.2.r x.2.nm (fpg x.2 p))) :: L) → Q (.ref r) H'
theorem ok_state_at (D : Def K mg "state_at" s_state_at) (B : Blt mg) (T : Txt K mg ) (G_end_of : FnD P w K mg base 1 "end_of" ["stretch"] spEnd) (G_file_page_at : FnD P w K mg base 1 "file_page_at" ["stretch", "page"] spFpg) : FnD P w K mg base 2 "state_at" ["plan", "page"] spStateAt := by
  refine D.ok sc_state_at (fun vs H Q E h => ?_) (fun _ _ _ _ _ _ us hl => match us, hl with | [_, _], _ => rfl) (fun f cdv A outer s H vs Q E hr h => ?_)
  · obtain ⟨_, _, _, _, rfl, _⟩ := h; rfl
  · obtain ⟨l, ws, p, L, rfl, hL, i_l, i_w, k0, k1⟩ := h
    have sc := sc_state_at
    have c_l := hL.get i_l
    refine ⟨_, (@pss_cons _ _ _ _ _ (@ps_for _ _ _ _ _ _ _ _ PassesOwn.never rfl (@pi_list _ _ _ _ (@pv _ 0 _ _ (by rfl) (by first | exact Or.inl rfl | exact Or.inr (Or.inl rfl) | exact Or.inr (Or.inr rfl)) (by decide) (by decide))) (@pg_name _ _ 2 _ sc.nd rfl (by first | exact Or.inl rfl | exact Or.inr rfl) (by first | exact .inl rfl | exact .inr rfl | assumption)) (@pss_one _ _ _ (@ps_if _ _ _ _ _ _ _ _ (@PW.pt _ _ _ (@pw_and _ _ _ _ _ _ _ (@pt_cmpR _ _ _ _ _ _ _ _ op_le (@pe_ix _ _ _ _ _ _ _ ix_any (@pv _ 2 _ _ (by rfl) (by first | exact Or.inl rfl | exact Or.inr (Or.inl rfl) | exact Or.inr (Or.inr rfl)) (by decide) (by decide)) (@pe_gint _ _ _ _ T.FIRST (by rfl) (by decide)) (fun _ _ => rfl)) (@pv _ 1 _ _ (by rfl) (by first | exact Or.inl rfl | exact Or.inr (Or.inl rfl) | exact Or.inr (Or.inr rfl)) (by decide) (by decide)) (nomark _)) (@pw_and1 _ _ _ _ (@pt_cmpR _ _ _ _ _ _ _ _ op_lt (@pv _ 1 _ _ (by rfl) (by first | exact Or.inl rfl | exact Or.inr (Or.inl rfl) | exact Or.inr (Or.inr rfl)) (by decide) (by decide)) (@pe_callD _ _ _ _ _ _ _ _ _ _ _ G_end_of (hr.mono (by omega)) (by rfl) passR0 (@pa_cons _ _ _ _ _ (@pv _ 2 _ _ (by rfl) (by first | exact Or.inl rfl | exact Or.inr (Or.inl rfl) | exact Or.inr (Or.inr rfl)) (by decide) (by decide)) (@pa_nil _) (by rfl)) (by decide) (by rfl) (by rfl)) (nomark _))))) (@pss_one _ _ _ (@ps_ret _ _ _ _ (@pe_op _ _ _ _ _ _ _ _ (op_catTK (K := K) rfl) (@pe_slice _ _ _ _ _ _ _ _ _ _ (sl_tupK (K := K) rfl) (@pv _ 2 _ _ (by rfl) (by first | exact Or.inl rfl | exact Or.inr (Or.inl rfl) | exact Or.inr (Or.inr rfl)) (by decide) (by decide)) (@po_some _ _ _ (@pe_gint _ _ _ _ T.KIND (by rfl) (by decide))) (@po_some _ _ _ (@pe_gint _ _ _ _ T.START (by rfl) (by decide)))) (@pe_tup _ _ _ _ _ (@pa_cons _ _ _ _ _ (@pe_callD _ _ _ _ _ _ _ _ _ _ _ G_file_page_at (hr.mono (by omega)) (by rfl) passR0 (@pa_cons _ _ _ _ _ (@pv _ 2 _ _ (by rfl) (by first | exact Or.inl rfl | exact Or.inr (Or.inl rfl) | exact Or.inr (Or.inr rfl)) (by decide) (by decide)) (@pa_cons _ _ _ _ _ (@pv _ 1 _ _ (by rfl) (by first | exact Or.inl rfl | exact Or.inr (Or.inl rfl) | exact Or.inr (Or.inr rfl)) (by decide) (by decide)) (@pa_nil _) (by rfl)) (by rfl)) (by decide) (by rfl) (by rfl)) (@pa_nil _) (by rfl)))))) (@pss_nil _))) (by intro _; rfl)) (@pss_one _ _ _ (@ps_ret _ _ _ _ (@pe_non _ _ _)))), ?_⟩
    refine seqK fun M1 K1 => ?_
    refine forL fun Lr hLr => ?_
    walk_at "ge"
    refine ⟨l, rfl, ⟨_, SqL.of c_l⟩, hLr.use ?_⟩
    clear hLr
    refine loopL (sRefs ws) (fun i σ H' => H' = H ∧ (∀ (j : Nat) y, j < i → ws[j]? = some y → hasP p y.2 = false) ∧ ∃ v1, σ = [some (.ref l), some (.int p), v1]) ⟨rfl, (fun j y hj => absurd hj (Nat.not_lt_zero _)), _, rfl⟩ (fun i σ H' _ h => by obtain ⟨rfl, _⟩ := h; exact SqL.of c_l) ?_ ?_
    · clear K1
      rintro i v σ H' hv ⟨rfl, hno, v1, rfl⟩
      unfold sRefs at hv
      rw [List.getElem?_map] at hv
      obtain ⟨x, hx, rfl⟩ := Option.map_eq_some_iff.mp hv
      have ix := i_w x (List.mem_of_getElem? hx)
      have cx := hL.get ix
      have cx2 := cx
      unfold srV at cx2
      have nxt : hasP p x.2 = false → ∀ (j : Nat) y, j < i + 1 → ws[j]? = some y → hasP p y.2 = false := fun h j y hj hy => by
        by_cases e : j = i
        · subst e
          rw [hx] at hy
          cases hy
          exact h
        · exact hno j y (by omega) hy
      walk_at "ge"
      · have h1 : x.2.f ≤ p := by assumption
        refine ⟨x.1, x.2, rfl, cx, ?_⟩
        walk_at "ge"
        · have h2 : p < x.2.f + x.2.m := by assumption
          have hh : hasP p x.2 = true := by unfold hasP; rw [decide_eq_true h1, decide_eq_true h2]; rfl
          have hfi := finP_at hx hh hno
          refine slTH cx (cutne _) (Led.alloc hL fun p1 H1 _ hl1 _ => ?_)
          rw [cut25] at hl1
          have cx3 := hl1.get (List.mem_cons_of_mem _ ix)
          clear cx cx2 c_l
          walk_at "ge"
          refine ⟨x.1, x.2, p, rfl, cx3, ?_⟩
          walk_at "ge"
          rename Led _ _ => hl5
          refine catTH (hl5.get (List.mem_cons_of_mem _ List.mem_cons_self)) (hl5.get List.mem_cons_self) (by simp) (by simp) (by have := sizeLine_eq; simp only [List.length_cons, List.length_nil]; omega) (Led.alloc hl5.tail.tail fun u H6 _ hl6 _ => ?_)
          walk_at "ge"
          exact k1 u x _ hfi hl6
        · have h2 : ¬ p < x.2.f + x.2.m := by assumption
          exact ⟨rfl, nxt (by unfold hasP; rw [decide_eq_false h2, Bool.and_false]), _, rfl⟩
      · have h1 : ¬ x.2.f ≤ p := by assumption
        exact ⟨rfl, nxt (by unfold hasP; rw [decide_eq_false h1, Bool.false_and]), _, rfl⟩
    · rintro σ H' ⟨rfl, hno, v1, rfl⟩
      walk_at "ge"
      refine K1.use ?_
      walk_at "ge"
      exact k0 (finP_no fun j y hy => hno j y (by rw [sRefs_len]; exact (List.getElem?_eq_some_iff.mp hy).1) hy)
end

section
variable {P : Program} {w : World} {K : PySem.W.Frag} {mg : Str → Option Value} {base : Heap}
theorem mxe (i j : Int) : (if j > i then j else i) = max i j := by split <;> omega
theorem mne (i j : Int) : (if j < i then j else i) = min i j := by split <;> omega
def pceS (lo hi : Int) (s : Sr) : Option Sr := if max s.f lo < min (s.f + s.m) hi then some ⟨max s.f lo, min (s.f + s.m) hi - max s.f lo, s.kd, s.r, s.nm, fpg s (max s.f lo)⟩ else none
def cutS (ss : List Sr) (lo hi : Int) : List Sr := ss.filterMap (pceS lo hi)
def spCut : Sp := fun vs H Q _ => ∃ (l : Addr) (ws : List SrA) (lo hi : Int) (L : Cells), vs = [.ref l, .int lo, .int hi] ∧ Led H L ∧ (l, HO.lst (sRefs ws)) ∈ L ∧ (∀ x ∈ ws, (x.1, HO.tup (srV x.2)) ∈ L) ∧ ws.length ≤ 1000 ∧
  ∀ (u : Addr) (ps : List SrA) (L' : Cells) (H' : Hp), Led H' ((u, .lst (sRefs ps)) :: L') → (∀ c ∈ L, c ∈ L') → (∀ x ∈ ps, (x.1, HO.tup (srV x.2)) ∈ L') → ps.map (·.2) = cutS (ws.map (·.2)) lo hi → ps.length ≤ ws.length → Q (.ref u) H'
theorem ok_cut (D : Def K mg "cut" s_cut) (B : Blt mg) (T : Txt K mg ) (G_end_of : FnD P w K mg base 1 "end_of" ["stretch"] spEnd) (G_file_page_at : FnD P w K mg base 1 "file_page_at" ["stretch", "page"] spFpg) : FnD P w K mg base 2 "cut" ["plan", "low", "high"] spCut := by
  refine D.ok sc_cut (fun vs H Q E h => ?_) (fun _ _ _ _ _ _ us hl => match us, hl with | [_, _, _], _ => rfl) (fun f cdv A outer s H vs Q E hr h => ?_)
  · obtain ⟨_, _, _, _, _, rfl, _⟩ := h; rfl
  · obtain ⟨l, ws, lo, hi, L, rfl, hL, i_l, i_w, h1000, kk⟩ := h
    have sc := sc_cut
    refine ⟨_, (@pss_cons _ _ _ _ _ (@ps_set _ _ 3 _ _ _ _ sc.nd rfl (by first | exact Or.inl rfl | exact Or.inr rfl) (@pe_lst _ _ _ _ (@pa_nil _)) (by rfl) (by first | exact .inl rfl | exact .inr rfl | assumption)) (@pss_cons _ _ _ _ _ (@ps_for _ _ _ _ _ _ _ _ PassesOwn.never rfl (@pi_list _ _ _ _ (@pv _ 0 _ _ (by rfl) (by first | exact Or.inl rfl | exact Or.inr (Or.inl rfl) | exact Or.inr (Or.inr rfl)) (by decide) (by decide))) (@pg_name _ _ 4 _ sc.nd rfl (by first | exact Or.inl rfl | exact Or.inr rfl) (by first | exact .inl rfl | exact .inr rfl | assumption)) (@pss_cons _ _ _ _ _ (@ps_set _ _ 5 _ _ _ _ sc.nd rfl (by first | exact Or.inl rfl | exact Or.inr rfl) (@pe_callB _ _ _ _ _ _ _ _ _ (call_max2 rfl) (by rfl) B.max bt_max (@pa_cons _ _ _ _ _ (@pe_ix _ _ _ _ _ _ _ ix_any (@pv _ 4 _ _ (by rfl) (by first | exact Or.inl rfl | exact Or.inr (Or.inl rfl) | exact Or.inr (Or.inr rfl)) (by decide) (by decide)) (@pe_gint _ _ _ _ T.FIRST (by rfl) (by decide)) (fun _ _ => rfl)) (@pa_cons _ _ _ _ _ (@pv _ 1 _ _ (by rfl) (by first | exact Or.inl rfl | exact Or.inr (Or.inl rfl) | exact Or.inr (Or.inr rfl)) (by decide) (by decide)) (@pa_nil _) (by rfl)) (by rfl)) (by decide) (by decide) (by rfl) (by rfl)) (by rfl) (by first | exact .inl rfl | exact .inr rfl | assumption)) (@pss_cons _ _ _ _ _ (@ps_set _ _ 6 _ _ _ _ sc.nd rfl (by first | exact Or.inl rfl | exact Or.inr rfl) (@pe_callB _ _ _ _ _ _ _ _ _ (call_min2 rfl) (by rfl) B.min bt_min (@pa_cons _ _ _ _ _ (@pe_callD _ _ _ _ _ _ _ _ _ _ _ G_end_of (hr.mono (by omega)) (by rfl) passR0 (@pa_cons _ _ _ _ _ (@pv _ 4 _ _ (by rfl) (by first | exact Or.inl rfl | exact Or.inr (Or.inl rfl) | exact Or.inr (Or.inr rfl)) (by decide) (by decide)) (@pa_nil _) (by rfl)) (by decide) (by rfl) (by rfl)) (@pa_cons _ _ _ _ _ (@pv _ 2 _ _ (by rfl) (by first | exact Or.inl rfl | exact Or.inr (Or.inl rfl) | exact Or.inr (Or.inr rfl)) (by decide) (by decide)) (@pa_nil _) (by rfl)) (by rfl)) (by decide) (by decide) (by rfl) (by rfl)) (by rfl) (by first | exact .inl rfl | exact .inr rfl | assumption)) (@pss_one _ _ _ (@ps_if _ _ _ _ _ _ _ _ (@pt_cmpR _ _ _ _ _ _ _ _ op_lt (@pv _ 5 _ _ (by rfl) (by first | exact Or.inl rfl | exact Or.inr (Or.inl rfl) | exact Or.inr (Or.inr rfl)) (by decide) (by decide)) (@pv _ 6 _ _ (by rfl) (by first | exact Or.inl rfl | exact Or.inr (Or.inl rfl) | exact Or.inr (Or.inr rfl)) (by decide) (by decide)) (nomark _)) (@pss_one _ _ _ (@ps_expr _ _ _ _ (@pe_bm _ _ _ _ _ _ _ _ _ _ _ _ PySem.F.plainAttrs_list PySem.F.slot_list_append PySem.F.type_list_append mt_append (@pv _ 3 _ _ (by rfl) (by first | exact Or.inl rfl | exact Or.inr (Or.inl rfl) | exact Or.inr (Or.inr rfl)) (by decide) (by decide)) (@pa_cons _ _ _ _ _ (@pe_op _ _ _ _ _ _ _ _ (op_catTK (K := K) rfl) (@pe_op _ _ _ _ _ _ _ _ (op_catTK (K := K) rfl) (@pe_tup _ _ _ _ _ (@pa_cons _ _ _ _ _ (@pv _ 5 _ _ (by rfl) (by first | exact Or.inl rfl | exact Or.inr (Or.inl rfl) | exact Or.inr (Or.inr rfl)) (by decide) (by decide)) (@pa_cons _ _ _ _ _ (@pe_op _ _ _ _ _ _ _ _ op_sub (@pv _ 6 _ _ (by rfl) (by first | exact Or.inl rfl | exact Or.inr (Or.inl rfl) | exact Or.inr (Or.inr rfl)) (by decide) (by decide)) (@pv _ 5 _ _ (by rfl) (by first | exact Or.inl rfl | exact Or.inr (Or.inl rfl) | exact Or.inr (Or.inr rfl)) (by decide) (by decide))) (@pa_nil _) (by rfl)) (by rfl))) (@pe_slice _ _ _ _ _ _ _ _ _ _ (sl_tupK (K := K) rfl) (@pv _ 4 _ _ (by rfl) (by first | exact Or.inl rfl | exact Or.inr (Or.inl rfl) | exact Or.inr (Or.inr rfl)) (by decide) (by decide)) (@po_some _ _ _ (@pe_gint _ _ _ _ T.KIND (by rfl) (by decide))) (@po_some _ _ _ (@pe_gint _ _ _ _ T.START (by rfl) (by decide))))) (@pe_tup _ _ _ _ _ (@pa_cons _ _ _ _ _ (@pe_callD _ _ _ _ _ _ _ _ _ _ _ G_file_page_at (hr.mono (by omega)) (by rfl) passR0 (@pa_cons _ _ _ _ _ (@pv _ 4 _ _ (by rfl) (by first | exact Or.inl rfl | exact Or.inr (Or.inl rfl) | exact Or.inr (Or.inr rfl)) (by decide) (by decide)) (@pa_cons _ _ _ _ _ (@pv _ 5 _ _ (by rfl) (by first | exact Or.inl rfl | exact Or.inr (Or.inl rfl) | exact Or.inr (Or.inr rfl)) (by decide) (by decide)) (@pa_nil _) (by rfl)) (by rfl)) (by decide) (by rfl) (by rfl)) (@pa_nil _) (by rfl)))) (@pa_nil _) (by rfl)) (by rfl) (by rfl) (by rfl) (by rfl) (by rfl)) (by rfl))) (@pss_nil _))))) (by intro _; rfl)) (@pss_one _ _ _ (@ps_ret _ _ _ _ (@pv _ 3 _ _ (by rfl) (by first | exact Or.inl rfl | exact Or.inr (Or.inl rfl) | exact Or.inr (Or.inr rfl)) (by decide) (by decide)))))), ?_⟩
    refine seqK fun M1 K1 => ?_
    walk_at "ge"
    rename_i u H1 _ hl1 _
    refine K1.use ?_
    walk_at "cl"
    clear K1 hL
    refine seqK fun M1 K1 => ?_
    refine forL fun Lr hLr => ?_
    have c_l := hl1.get (List.mem_cons_of_mem _ i_l)
    walk_at "ge"
    refine ⟨l, rfl, ⟨_, SqL.of c_l⟩, hLr.use ?_⟩
    clear hLr
    refine loopL (sRefs ws) (fun i σ H' => ∃ (ps : List SrA) (M : Cells), Led H' ((u, .lst (sRefs ps)) :: M) ∧ (∀ c ∈ L, c ∈ M) ∧ (∀ x ∈ ps, (x.1, HO.tup (srV x.2)) ∈ M) ∧ ps.map (·.2) = cutS ((ws.take i).map (·.2)) lo hi ∧ ps.length ≤ i ∧ ∃ v1 v2 v3, σ = [some (.ref l), some (.int lo), some (.int hi), some (.ref u), v1, v2, v3]) ⟨[], L, hl1, (fun c h => h), (fun x h => nomatch h), rfl, Nat.le_refl _, _, _, _, rfl⟩ (fun i σ H' _ h => by obtain ⟨ps, M, hl', hm, _⟩ := h; exact SqL.of (hl'.get (List.mem_cons_of_mem _ (hm _ i_l)))) ?_ ?_
    · clear K1 hl1 c_l kk
      rintro i v σ H' hv ⟨ps, M, hl', hm, i_p, hps, hpl, v1, v2, v3, rfl⟩
      unfold sRefs at hv
      rw [List.getElem?_map] at hv
      obtain ⟨x, hx, rfl⟩ := Option.map_eq_some_iff.mp hv
      have hil : i < ws.length := (List.getElem?_eq_some_iff.mp hx).1
      have ix := hm _ (i_w x (List.mem_of_getElem? hx))
      have htk : ws.take (i + 1) = ws.take i ++ [x] := by rw [List.take_succ, hx]; rfl
      have cx0 := hl'.get (List.mem_cons_of_mem _ ix)
      have cx := cx0
      unfold srV at cx
      refine seqK fun M2 K2 => ?_
      walk_at "ge"
      refine ⟨_, _, rfl, ?_⟩
      rw [mxe]
      walk_at "ge"
      refine K2.use ?_
      walk_at "cl"
      clear K2
      refine seqK fun M2 K2 => ?_
      walk_at "ge"
      refine ⟨x.1, x.2, rfl, cx0, ?_⟩
      walk_at "ge"
      refine ⟨_, _, rfl, ?_⟩
      rw [mne]
      walk_at "ge"
      refine K2.use ?_
      walk_at "cl"
      clear K2
      walk_at "ge"
      · have hlt : max x.2.f lo < min (x.2.f + x.2.m) hi := by assumption
        have hpc : pceS lo hi x.2 = some ⟨max x.2.f lo, min (x.2.f + x.2.m) hi - max x.2.f lo, x.2.kd, x.2.r, x.2.nm, fpg x.2 (max x.2.f lo)⟩ := by unfold pceS; rw [if_pos hlt]
        refine ⟨tyVL (hl'.get List.mem_cons_self), ?_⟩
        walk_at "ge"
        rename Led _ _ => hl2
        refine slTH (xs := srV x.2) (hl2.get (List.mem_cons_of_mem _ (List.mem_cons_of_mem _ ix))) (cutne _) (Led.alloc hl2 fun p1 H3 _ hl3 _ => ?_)
        rw [cut25] at hl3
        clear cx cx0 hl'
        walk_at "ge"
        refine catTH (hl3.get (List.mem_cons_of_mem _ List.mem_cons_self)) (hl3.get List.mem_cons_self) (by simp) (by simp) (by have := sizeLine_eq; simp only [List.length_cons, List.length_nil]; omega) (Led.alloc hl3.tail.tail fun p2 H4 _ hl4 _ => ?_)
        have cx := hl4.get (List.mem_cons_of_mem _ (List.mem_cons_of_mem _ ix))
        clear hl3 hl2
        walk_at "ge"
        refine ⟨x.1, x.2, _, rfl, cx, ?_⟩
        walk_at "ge"
        rename Led _ _ => hl5
        refine catTH (hl5.get (List.mem_cons_of_mem _ List.mem_cons_self)) (hl5.get List.mem_cons_self) (by simp) (by simp) (by have := sizeLine_eq; simp only [List.length_append, List.length_cons, List.length_nil]; omega) (Led.alloc hl5.tail.tail fun p3 H6 _ hl6 _ => ?_)
        clear hl5 hl4 cx
        walk_at "ge"
        have hl7 := hl6.swap
        refine appH (hl7.get List.mem_cons_self) (by rw [sRefs_len]; have := sizeLine_eq; omega) ?_
        have hl8 := hl7.put (o' := .lst (sRefs ps ++ [.ref p3])) rfl rfl
        generalize upd H6 u (.lst (sRefs ps ++ [.ref p3])) = H8 at hl8 ⊢
        rw [show sRefs ps ++ [V.ref p3] = sRefs (ps ++ [(p3, ⟨max x.2.f lo, min (x.2.f + x.2.m) hi - max x.2.f lo, x.2.kd, x.2.r, x.2.nm, fpg x.2 (max x.2.f lo)⟩)]) by unfold sRefs; rw [List.map_append]; rfl] at hl8
        clear hl6 hl7
        walk_at "ge"
        refine ⟨_, _, hl8, (fun c hc => List.mem_cons_of_mem _ (hm c hc)), (fun y hy => ?_), ?_, by rw [List.length_append, List.length_singleton]; omega, _, _, _, rfl⟩
        · rcases List.mem_append.mp hy with hy | hy
          · exact List.mem_cons_of_mem _ (i_p y hy)
          · obtain rfl := List.mem_singleton.mp hy
            exact List.mem_cons_self
        · rw [htk, List.map_append, List.map_append, hps]
          unfold cutS
          rw [List.filterMap_append]
          show _ = _ ++ [x.2].filterMap _
          rw [List.filterMap_cons, hpc]
          rfl
      · have hlt : ¬ max x.2.f lo < min (x.2.f + x.2.m) hi := by assumption
        have hpc : pceS lo hi x.2 = none := by unfold pceS; rw [if_neg hlt]
        refine ⟨ps, M, hl', hm, i_p, ?_, by omega, _, _, _, rfl⟩
        rw [htk, List.map_append, hps]
        unfold cutS
        rw [List.filterMap_append]
        show _ = _ ++ [x.2].filterMap _
        rw [List.filterMap_cons, hpc]
        simp
    · rintro σ H' ⟨ps, M, hl', hm, i_p, hps, hpl, v1, v2, v3, rfl⟩
      walk_at "ge"
      refine K1.use ?_
      walk_at "ge"
      rw [sRefs_len] at hpl hps
      rw [List.take_length] at hps
      exact kk u ps M _ hl' hm i_p hps hpl
end

section
variable {P : Program} {w : World} {K : PySem.W.Frag} {mg : Str → Option Value} {base : Heap}
/-! ### plans, page by page -/
abbrev St4 := Str × Int × Option Str × Int
def stS (s : Sr) (p : Int) : St4 := (s.kd, s.r, s.nm, fpg s p)
def stA (ss : List Sr) (p : Int) : Option St4 := (ss.find? (hasP p)).map (stS · p)
theorem stA_app (x y : List Sr) (p : Int) : stA (x ++ y) p = (stA x p).or (stA y p) := by
  unfold stA
  rw [List.find?_append]
  cases x.find? (hasP p) <;> rfl
theorem stA_one (s : Sr) (p : Int) : stA [s] p = if hasP p s = true then some (stS s p) else none := by
  unfold stA
  rw [List.find?_cons]
  cases hasP p s <;> rfl
theorem hasP_iff {p : Int} {s : Sr} : hasP p s = true ↔ s.f ≤ p ∧ p < s.f + s.m := by
  unfold hasP
  rw [Bool.and_eq_true, decide_eq_true_eq, decide_eq_true_eq]
def Nrm (s : Sr) : Prop := s.nm = none → s.st = 0
def Vd : Int → List Sr → Prop
  | _, [] => True
  | lo, s :: ss => lo ≤ s.f ∧ 1 ≤ s.m ∧ Nrm s ∧ Vd (s.f + s.m) ss
def endS : Int → List Sr → Int
  | lo, [] => lo
  | _, s :: ss => endS (s.f + s.m) ss
theorem Vd.low {l l' : Int} {ss : List Sr} (h : Vd l' ss) (hl : l ≤ l') : Vd l ss := by
  cases ss with
  | nil => trivial
  | cons s ss => exact ⟨Int.le_trans hl h.1, h.2⟩
theorem endS_app (l : Int) (x y : List Sr) : endS l (x ++ y) = endS (endS l x) y := by
  induction x generalizing l with
  | nil => rfl
  | cons s x ih => exact ih _
theorem Vd_app {l : Int} {x y : List Sr} : Vd l (x ++ y) ↔ Vd l x ∧ Vd (endS l x) y := by
  induction x generalizing l with
  | nil => exact ⟨fun h => ⟨trivial, h⟩, fun h => h.2⟩
  | cons s x ih =>
    show (_ ∧ _ ∧ _ ∧ Vd _ (x ++ y)) ↔ (_ ∧ _ ∧ _ ∧ Vd _ x) ∧ Vd (endS _ x) y
    rw [ih]
    exact ⟨fun ⟨a, b, c, d, e⟩ => ⟨⟨a, b, c, d⟩, e⟩, fun ⟨⟨a, b, c, d⟩, e⟩ => ⟨a, b, c, d, e⟩⟩
theorem Vd.le_end {l : Int} {ss : List Sr} (h : Vd l ss) : l ≤ endS l ss := by
  induction ss generalizing l with
  | nil => exact Int.le_refl _
  | cons s ss ih =>
    have := ih h.2.2.2
    obtain ⟨a, b, _⟩ := h
    show _ ≤ endS (s.f + s.m) ss
    omega
/-- behind the end there is nothing, below the beginning neither -/
theorem Vd.none_hi {l p : Int} {ss : List Sr} (h : Vd l ss) (hp : endS l ss ≤ p) : stA ss p = none := by
  induction ss generalizing l with
  | nil => rfl
  | cons s ss ih =>
    have h1 := ih h.2.2.2 hp
    have h2 := h.2.2.2.le_end
    have h3 : endS (s.f + s.m) ss ≤ p := hp
    have hn : hasP p s = false := by
      rw [Bool.eq_false_iff]; intro z; rw [hasP_iff] at z; omega
    show stA ([s] ++ ss) p = none
    rw [stA_app, h1, stA_one, hn]
    rfl
theorem Vd.none_lo {l p : Int} {ss : List Sr} (h : Vd l ss) (hp : p < l) : stA ss p = none := by
  induction ss generalizing l with
  | nil => rfl
  | cons s ss ih =>
    obtain ⟨a, b, _, d⟩ := h
    have h1 := ih d (by omega)
    have hn : hasP p s = false := by
      rw [Bool.eq_false_iff]; intro z; rw [hasP_iff] at z; omega
    show stA ([s] ++ ss) p = none
    rw [stA_app, h1, stA_one, hn]
    rfl
/-! the list of a row of states -/
/-! joined -/
/-! cut -/
theorem stA_cut (P : List Sr) (lo hi p : Int) : stA (cutS P lo hi) p = if lo ≤ p ∧ p < hi then stA P p else none := by
  induction P with
  | nil => unfold cutS; split <;> rfl
  | cons s P ih =>
    have e : cutS (s :: P) lo hi = cutS [s] lo hi ++ cutS P lo hi := by unfold cutS; rw [← List.filterMap_append]; rfl
    rw [e, show s :: P = [s] ++ P from rfl, stA_app, stA_app, ih]
    have h1 : stA (cutS [s] lo hi) p = if lo ≤ p ∧ p < hi then stA [s] p else none := by
      unfold cutS pceS
      rw [List.filterMap_cons]
      by_cases q : max s.f lo < min (s.f + s.m) hi
      · rw [if_pos q]
        show stA [_] p = _
        rw [stA_one, stA_one]
        by_cases h : hasP p s = true
        · have h' := hasP_iff.mp h
          rw [if_pos h]
          by_cases w : lo ≤ p ∧ p < hi
          · rw [if_pos w, if_pos (hasP_iff.mpr (by dsimp only; omega))]
            unfold stS fpg
            dsimp only
            split
            · rfl
            · rw [show s.st + max s.f lo - s.f + p - max s.f lo = s.st + p - s.f by omega]
          · rw [if_neg w, if_neg]
            rw [hasP_iff]; dsimp only; omega
        · rw [if_neg h]
          rw [hasP_iff] at h
          rw [if_neg (by rw [hasP_iff]; dsimp only; omega)]
          split <;> rfl
      · rw [if_neg q]
        show none = _
        rw [stA_one]
        split
        · rw [if_neg]
          rw [hasP_iff]; omega
        · rfl
    rw [h1]
    split <;> rfl
theorem Vd_cut {l : Int} {P : List Sr} (h : Vd l P) (lo hi k : Int) (hk : k ≤ max l lo) : Vd k (cutS P lo hi) ∧ endS k (cutS P lo hi) ≤ max k hi := by
  induction P generalizing l k with
  | nil => exact ⟨trivial, Int.le_max_left _ _⟩
  | cons s P ih =>
    obtain ⟨a, b, c, d⟩ := h
    unfold cutS
    rw [List.filterMap_cons]
    by_cases q : max s.f lo < min (s.f + s.m) hi
    · have e : pceS lo hi s = some ⟨max s.f lo, min (s.f + s.m) hi - max s.f lo, s.kd, s.r, s.nm, fpg s (max s.f lo)⟩ := by unfold pceS; rw [if_pos q]
      rw [e]
      dsimp only
      obtain ⟨i1, i2⟩ := ih d (max s.f lo + (min (s.f + s.m) hi - max s.f lo)) (by omega)
      refine ⟨⟨by dsimp only; omega, by dsimp only; omega, fun z => by unfold fpg; exact if_pos z, i1⟩, ?_⟩
      show endS (max s.f lo + (min (s.f + s.m) hi - max s.f lo)) (cutS P lo hi) ≤ _
      omega
    · have e : pceS lo hi s = none := by unfold pceS; rw [if_neg q]
      rw [e]
      exact ih d k (by omega)
theorem cov {hi : Int} : ∀ {X : List Sr} {f : Int}, Vd f X → endS f X ≤ hi → (X.map (·.m)).sum ≤ hi - f ∧ ((X.map (·.m)).sum = hi - f ↔ ∀ p, f ≤ p → p < hi → stA X p ≠ none)
  | [], f, _, he => by
    have he' : f ≤ hi := he
    refine ⟨by show (0 : Int) ≤ _; omega, fun h p h1 h2 => ?_, fun h => ?_⟩
    · have : (0 : Int) = hi - f := h
      omega
    · show (0 : Int) = hi - f
      by_cases q : f < hi
      · exact absurd rfl (h f (Int.le_refl _) q)
      · omega
  | s :: X, f, hv, he => by
    obtain ⟨h1, h2, h3, h4⟩ := hv
    obtain ⟨i1, i2⟩ := cov h4 (show endS (s.f + s.m) X ≤ hi from he)
    have hsum : ((s :: X).map (·.m)).sum = s.m + (X.map (·.m)).sum := by rw [List.map_cons, List.sum_cons]
    have hst : ∀ p, stA (s :: X) p = (stA [s] p).or (stA X p) := fun p => stA_app [s] X p
    rw [hsum]
    refine ⟨by omega, fun h p p1 p2 => ?_, fun h => ?_⟩
    · have e1 : s.f = f := by omega
      have e2 := i2.mp (by omega)
      rw [hst, stA_one]
      by_cases q : p < s.f + s.m
      · rw [if_pos (by rw [hasP_iff]; omega)]
        exact fun z => nomatch z
      · rw [if_neg (by rw [hasP_iff]; omega), Option.none_or]
        exact e2 p (by omega) p2
    · have hle := h4.le_end
      have he2 : endS (s.f + s.m) X ≤ hi := he
      have e1 : s.f = f := by
        by_cases q : f < s.f
        · have := h f (Int.le_refl _) (by omega)
          rw [hst, stA_one, if_neg (by rw [hasP_iff]; omega), Option.none_or, h4.none_lo (by omega)] at this
          exact absurd rfl this
        · omega
      have := i2.mpr fun p p1 p2 => by
        have := h p (by omega) p2
        rw [hst, stA_one, if_neg (by rw [hasP_iff]; omega), Option.none_or] at this
        exact this
      omega
theorem cov_iff {ss : List Sr} (hv : Vd 0 ss) {f m : Int} (m0 : 0 ≤ m) : ((cutS ss f (f + m)).map (·.m)).sum = m ↔ ∀ p, f ≤ p → p < f + m → stA ss p ≠ none := by
  obtain ⟨a1, a2⟩ := Vd_cut hv f (f + m) f (by omega)
  obtain ⟨_, b⟩ := cov a1 (hi := f + m) (by omega)
  rw [show f + m - f = m by omega] at b
  rw [b]
  constructor
  · intro h p p1 p2
    have := h p p1 p2
    rw [stA_cut, if_pos ⟨p1, p2⟩] at this
    exact this
  · intro h p p1 p2
    rw [stA_cut, if_pos ⟨p1, p2⟩]
    exact h p p1 p2
def covB (ss : List Sr) (f m : Int) : Bool := decide (((cutS ss f (f + m)).map (·.m)).sum = m)
abbrev PlnAt (l : Addr) (ws : List SrA) (L : Cells) : Prop := (l, HO.lst (sRefs ws)) ∈ L ∧ (∀ x ∈ ws, (x.1, HO.tup (srV x.2)) ∈ L ∧ OkS x.2) ∧ ws.length ≤ 600
def spCovers : Sp := fun vs H Q _ => ∃ (l : Addr) (ws : List SrA) (f m : Int) (L : Cells), vs = [.ref l, .int f, .int m] ∧ Led H L ∧ PlnAt l ws L ∧ ∀ (L' : Cells) (H' : Hp), Led H' L' → (∀ c ∈ L, c ∈ L') → Q (.bl (covB (ws.map (·.2)) f m)) H'
theorem ms_of {ps : List SrA} {vs : List V} (hl : vs.length = ps.length) (h : ∀ (i : Nat) v, vs[i]? = some v → ∃ x, ps[i]? = some x ∧ v = V.int x.2.m) : vs = ((ps.map (·.2)).map (·.m)).map V.int := by
  refine List.ext_getElem? fun i => ?_
  rw [List.getElem?_map, List.getElem?_map, List.getElem?_map]
  by_cases hi : i < vs.length
  · obtain ⟨x, hx, e⟩ := h i _ (List.getElem?_eq_getElem hi)
    rw [List.getElem?_eq_getElem hi, e, hx]
    rfl
  · rw [List.getElem?_eq_none (by omega), List.getElem?_eq_none (by omega)]
    rfl
theorem ok_covers (D : Def K mg "covers" s_covers) (B : Blt mg) (T : Txt K mg ) (G_cut : FnD P w K mg base 2 "cut" ["plan", "low", "high"] spCut) : FnD P w K mg base 3 "covers" ["plan", "first", "many"] spCovers := by
  have sc := sc_covers
  refine D.ok sc_covers (fun vs H Q E h => ?_) (fun _ _ _ _ _ _ us hl => match us, hl with | [_, _, _], _ => rfl) (fun f cdv A outer s H vs Q E hr h => ?_)
  · obtain ⟨_, _, _, _, _, rfl, _⟩ := h; rfl
  · obtain ⟨l, ws, fi, mn, L, rfl, hL, ⟨i_l, i_w, h6⟩, kk⟩ := h
    have hsz := sizeLine_eq
    refine ⟨_, (@pss_one _ _ _ (@ps_ret _ _ _ _ (@pe_cmpR _ _ _ _ _ _ _ _ op_eq (@pe_callB _ _ _ _ _ _ _ _ _ (call_sumL rfl) (by rfl) B.sum bt_sum (@pa_cons _ _ _ _ _ (@pe_comp _ _ "piece" _ _ _ _ _ _ _ _ _ rfl rfl rfl rfl noH (compSc_of (by kernel_rfl)) (@pi_list _ _ _ _ (@pe_callD _ _ _ _ _ _ _ _ _ _ _ G_cut (hr.mono (by omega)) (by rfl) passR0 (@pa_cons _ _ _ _ _ (@pv _ 0 _ _ (by rfl) (by first | exact Or.inl rfl | exact Or.inr (Or.inl rfl) | exact Or.inr (Or.inr rfl)) (by decide) (by decide)) (@pa_cons _ _ _ _ _ (@pv _ 1 _ _ (by rfl) (by first | exact Or.inl rfl | exact Or.inr (Or.inl rfl) | exact Or.inr (Or.inr rfl)) (by decide) (by decide)) (@pa_cons _ _ _ _ _ (@pe_op _ _ _ _ _ _ _ _ op_add (@pv _ 1 _ _ (by rfl) (by first | exact Or.inl rfl | exact Or.inr (Or.inl rfl) | exact Or.inr (Or.inr rfl)) (by decide) (by decide)) (@pv _ 2 _ _ (by rfl) (by first | exact Or.inl rfl | exact Or.inr (Or.inl rfl) | exact Or.inr (Or.inr rfl)) (by decide) (by decide))) (@pa_nil _) (by rfl)) (by rfl)) (by rfl)) (by decide) (by rfl) (by rfl))) (fun _ _ _ _ => (@pts_nil _)) (fun _ _ _ _ => (@pe_ix _ _ _ _ _ _ _ ix_any (@pk _ 0 _ _ (by kernel_rfl) (by kernel_rfl) (by decide) (by decide)) (@pe_gint _ _ _ _ T.MANY (by rfl) (by decide)) (fun _ _ => rfl))) (by intro _; rfl)) (@pa_nil _) (by rfl)) (by decide) (by decide) (by rfl) (by rfl)) (@pv _ 2 _ _ (by rfl) (by first | exact Or.inl rfl | exact Or.inr (Or.inl rfl) | exact Or.inr (Or.inr rfl)) (by decide) (by decide)) (nomark _)))), ?_⟩
    walk_at "ge"
    refine compL fun Lc hLc => ?_
    walk_at "ge"
    refine ⟨l, ws, fi, fi + mn, L, rfl, hL, i_l, (fun x hx => (i_w x hx).1), by omega, fun u ps L1 H1 hl1 s1 c1 e1 n1 => ?_⟩
    refine ⟨u, rfl, ⟨_, SqL.of (hl1.get List.mem_cons_self)⟩, hLc.use ?_⟩
    clear hLc
    refine compListL (sRefs ps) (fun i v C => C = [] ∧ ∃ x, ps[i]? = some x ∧ v = V.int x.2.m) hl1 List.mem_cons_self (by rw [sRefs_len]; omega) (fun i y H2 R M hy hl2 hR => ?_) (fun p vs Cs H2 hv hc hG hl2 => ?_)
    · unfold sRefs at hy
      rw [List.getElem?_map] at hy
      obtain ⟨x, hx, rfl⟩ := Option.map_eq_some_iff.mp hy
      have cx := hl2.get (List.mem_append_right _ (List.mem_cons_of_mem _ (c1 x (List.mem_of_getElem? hx))))
      unfold srV at cx
      walk_at "ge"
      exact hR _ _ [] ⟨rfl, x, hx, rfl⟩ hl2
    · rw [sRefs_len] at hv hc
      have hvs := ms_of hv fun i v hi => by
        have hlt : i < Cs.length := by have := (List.getElem?_eq_some_iff.mp hi).1; omega
        exact (hG i v _ hi (List.getElem?_eq_getElem hlt)).2
      rw [e1] at hvs
      rw [hvs] at hl2
      walk_at "ge"
      refine sumH (SqL.of (hl2.get List.mem_cons_self)) ?_
      walk_at "ge"
      exact kk _ _ hl2 fun c hc => List.mem_cons_of_mem _ (List.mem_append_right _ (List.mem_cons_of_mem _ (s1 c hc)))
def namesS (ss : List Sr) : List Str := ss.filterMap (·.nm)
/-- the names of a row of stretches, in order, each once -/
def NmOf (ss : List Sr) (ms : List Str) : Prop := ms.Nodup ∧ sortedS ms = true ∧ ∀ z, z ∈ ms ↔ z ∈ namesS ss
theorem NmOf.uniq {ss : List Sr} {a b : List Str} (ha : NmOf ss a) (hb : NmOf ss b) : a = b := one_order ha.1 hb.1 (fun z => (ha.2.2 z).trans (hb.2.2 z).symm) ha.2.1 hb.2.1
theorem names_vals : ∀ ws : List SrA, (ws.filter fun x => x.2.nm.isSome).map (fun x => nmV x.2.nm) = (namesS (ws.map (·.2))).map V.str
  | [] => rfl
  | x :: ws => by
    unfold namesS
    rw [List.filter_cons, List.map_cons, List.filterMap_cons]
    cases hn : x.2.nm with
    | none => rw [if_neg (by rw [Option.isSome_none]; decide)]; exact names_vals ws
    | some z =>
      rw [if_pos (by rw [Option.isSome_some])]
      dsimp only
      rw [List.map_cons, List.map_cons, hn]
      exact congrArg (V.str z :: ·) (names_vals ws)
theorem names_len (ws : List SrA) : (namesS (ws.map (·.2))).length ≤ ws.length := by
  unfold namesS
  have := List.length_filterMap_le (·.nm) (ws.map (·.2))
  rwa [List.length_map] at this
def spNames : Sp := fun vs H Q _ => ∃ (l : Addr) (ws : List SrA) (L : Cells), vs = [.ref l] ∧ Led H L ∧ (l, HO.lst (sRefs ws)) ∈ L ∧ (∀ x ∈ ws, (x.1, HO.tup (srV x.2)) ∈ L) ∧ ws.length < 63 ∧ ∀ (u : Addr) (ms : List Str) (L' : Cells) (H' : Hp), NmOf (ws.map (·.2)) ms → Led H' ((u, .lst (ms.map V.str)) :: L') → (∀ c ∈ L, c ∈ L') → Q (.ref u) H'
theorem nmV_some (n : Option Str) : (!decide (nmV n = .non)) = n.isSome := by cases n <;> simp [nmV]
theorem ok_names (D : Def K mg "names_of" s_names_of) (B : Blt mg) (T : Txt K mg ) : FnD P w K mg base 1 "names_of" ["plan"] spNames := by
  have sc := sc_names_of
  refine D.ok sc_names_of (fun vs H Q E h => ?_) (fun _ _ _ _ _ _ us hl => match us, hl with | [_], _ => rfl) (fun f cdv A outer s H vs Q E hr h => ?_)
  · obtain ⟨_, _, _, rfl, _⟩ := h; rfl
  · obtain ⟨l, ws, L, rfl, hL, i_l, i_w, h63, kk⟩ := h
    have hsz := sizeLine_eq
    have c_l := hL.get i_l
    refine ⟨_, (@pss_one _ _ _ (@ps_ret _ _ _ _ (@pe_sortset _ _ _ _ _ _ _ rfl (by rfl) B.sorted (by rfl) T.b_set (@pe_comp _ _ "stretch" _ _ _ _ _ _ _ _ _ rfl rfl rfl rfl noH (compSc_of (by kernel_rfl)) (@pi_list _ _ _ _ (@pv _ 0 _ _ (by rfl) (by first | exact Or.inl rfl | exact Or.inr (Or.inl rfl) | exact Or.inr (Or.inr rfl)) (by decide) (by decide))) (fun _ _ _ _ => (@pts_one _ _ _ (@pt_cmpR _ _ _ _ _ _ _ _ op_notN (@pe_ix _ _ _ _ _ _ _ ix_any (@pk _ 0 _ _ (by kernel_rfl) (by kernel_rfl) (by decide) (by decide)) (@pe_gint _ _ _ _ T.NAME (by rfl) (by decide)) (fun _ _ => rfl)) (@pe_non _ _ _) (nomark _)))) (fun _ _ _ _ => (@pe_ix _ _ _ _ _ _ _ ix_any (@pk _ 0 _ _ (by kernel_rfl) (by kernel_rfl) (by decide) (by decide)) (@pe_gint _ _ _ _ T.NAME (by rfl) (by decide)) (fun _ _ => rfl))) (by intro _; rfl)) (by rfl) (by rfl) (by exact fun _ => rfl)))), ?_⟩
    walk_at "ge"
    refine sortSetI fun M hM => ?_
    refine compL fun Lc hLc => ?_
    walk_at "ge"
    refine ⟨l, rfl, ⟨_, SqL.of c_l⟩, hLc.use ?_⟩
    clear hLc
    refine compFiltM ws (fun x => V.ref x.1) (fun x => nmV x.2.nm) (fun x => x.2.nm.isSome) hL i_l (by omega) (fun y H2 R q hy hl2 hR => ?_) (fun y H2 R q hy hp hl2 hR => ?_) (fun r H2 hl2 => ?_)
    · have cy := hl2.get (List.mem_cons_of_mem _ (i_w y hy))
      unfold srV at cy
      walk_at "ge"
      rw [nmV_some]
      exact hR _ hl2
    · have cy := hl2.get (List.mem_cons_of_mem _ (i_w y hy))
      unfold srV at cy
      walk_at "ge"
      exact hR _ hl2
    · rw [names_vals] at hl2
      refine hM.use ⟨r, _, rfl, hl2.get List.mem_cons_self, by have := names_len ws; omega, fun u ms hu nd hm sd => ?_⟩
      have hl3 := hl2.new (o := .lst (ms.map V.str)) hu
      generalize upd H2 u (.lst (ms.map V.str)) = H3 at hl3 ⊢
      walk_at "ge"
      exact kk u ms _ _ ⟨nd, sd, hm⟩ hl3 fun c hc => List.mem_cons_of_mem _ hc
end

section
variable {P : Program} {w : World} {K : PySem.W.Frag} {mg : Str → Option Value} {base : Heap}
theorem endS_last (l : Int) (x : List Sr) (s : Sr) : endS l (x ++ [s]) = s.f + s.m := by rw [endS_app]; rfl
abbrev letters : Str := Str.ofString "abcdefghijklmnopqrstuvwxyz"
theorem okz_iff {z : Str} : OkZ z ↔ ∀ c ∈ z.cps.toList, c < 0x110000 := by
  unfold OkZ PyData.strOk
  rw [← Array.all_toList, List.all_eq_true]
  exact ⟨fun h c hc => of_decide_eq_true (h c hc), fun h c hc => decide_eq_true (h c hc)⟩
theorem okz_letters : OkZ letters := by
  show PyData.strOk _ = true
  decide +kernel
theorem okz_at {z : Str} {j : Int} {c : Nat} (h : OkZ z) (hc : atI z.cps.toList j = some c) : OkZ ⟨#[c]⟩ := by
  rw [okz_iff] at h ⊢
  intro d hd
  have e : d = c := by simpa using hd
  subst e
  unfold atI at hc
  cases hi : ixN z.cps.toList.length j with
  | none => rw [hi] at hc; cases hc
  | some i => rw [hi] at hc; exact h d (List.mem_of_getElem? hc)
theorem okz_cat {x y : Str} (hx : OkZ x) (hy : OkZ y) : OkZ (x ++ y) := by
  rw [okz_iff] at *
  intro c hc
  have e : (x ++ y).cps.toList = x.cps.toList ++ y.cps.toList := by show (x.cps ++ y.cps).toList = _; simp
  rw [e] at hc
  rcases List.mem_append.mp hc with h | h
  · exact hx c h
  · exact hy c h
theorem okz_slice {z : Str} (lo hi : Option Int) (h : OkZ z) : OkZ (Txt.slice z lo hi) := by
  unfold Txt.slice
  split
  · exact h
  · rw [okz_iff] at *
    intro c hc
    have hc' : c ∈ (Builtin.Str.strSliceIndices lo hi 1 z.length).filterMap (z.cps[·]?) := by simpa using hc
    obtain ⟨i, _, hi2⟩ := List.mem_filterMap.mp hc'
    exact h c (by rw [Array.mem_toList_iff]; exact Array.mem_of_getElem? hi2)
theorem okz_fold (sep : Str) (hs : OkZ sep) : ∀ (ys : List Str) (acc : Array Nat), (∀ y ∈ ys, OkZ y) → (∀ c ∈ acc.toList, c < 0x110000) → ∀ c ∈ (ys.foldl (fun acc p => acc ++ sep.cps ++ p.cps) acc).toList, c < 0x110000
  | [], acc, _, h => h
  | y :: ys, acc, hy, h => by
    rw [List.foldl_cons]
    refine okz_fold sep hs ys _ (fun z hz => hy z (List.mem_cons_of_mem _ hz)) fun c hc => ?_
    have e : (acc ++ sep.cps ++ y.cps).toList = acc.toList ++ sep.cps.toList ++ y.cps.toList := by simp
    rw [e] at hc
    rcases List.mem_append.mp hc with hc | hc
    · rcases List.mem_append.mp hc with hc | hc
      · exact h c hc
      · exact okz_iff.mp hs c hc
    · exact okz_iff.mp (hy y List.mem_cons_self) c hc
theorem okz_join {sep : Str} (hs : OkZ sep) {ys : List Str} (hy : ∀ y ∈ ys, OkZ y) : OkZ (joinS sep ys) := by
  unfold joinS
  split
  · exact hy _ List.mem_cons_self
  · rw [okz_iff]
    unfold Builtin.Str.glued
    refine okz_fold sep hs _ _ (fun y h => hy y (List.mem_of_mem_drop h)) ?_
    cases ys with
    | nil => intro c hc; simp [Str.empty] at hc
    | cons y ys => exact okz_iff.mp (hy y List.mem_cons_self)
theorem join_len {ys : List Str} (h0 : (Str.ofString "").length = 0) : (joinS (Str.ofString "") ys).length = (ys.map (·.length)).sum := by
  unfold joinS
  split
  · simp
  · rw [size_glued, h0, Nat.mul_zero, Nat.add_zero]
theorem strAt {z : Str} {j : Int} (h0 : 0 ≤ j) (h1 : j < z.length) : ∃ c, atI z.cps.toList j = some c := by
  have hj : j.toNat < z.cps.toList.length := by rw [Array.length_toList]; show j.toNat < z.length; omega
  refine ⟨z.cps.toList[j.toNat], ?_⟩
  unfold atI
  rw [ixN_of h0 (by omega)]
  exact List.getElem?_eq_getElem hj
theorem sgsOk : ∀ {vs : List V}, (∀ (i : Nat) v, vs[i]? = some v → ∃ c : Nat, v = sg c ∧ OkZ ⟨#[c]⟩) → ∃ cs : List Nat, vs = (cs.map fun c => (⟨#[c]⟩ : Str)).map V.str ∧ ∀ c ∈ cs, OkZ ⟨#[c]⟩
  | [], _ => ⟨[], rfl, fun c hc => nomatch hc⟩
  | v :: vs, h => by
    obtain ⟨c, rfl, hc⟩ := h 0 v rfl
    obtain ⟨cs, rfl, hcs⟩ := sgsOk (vs := vs) fun i u hu => h (i + 1) u hu
    refine ⟨c :: cs, rfl, fun d hd => ?_⟩
    rcases List.mem_cons.mp hd with rfl | hd
    · exact hc
    · exact hcs d hd
theorem sum_sgs : ∀ cs : List Nat, ((cs.map fun c => (⟨#[c]⟩ : Str)).map (·.length)).sum = cs.length
  | [] => rfl
  | c :: cs => by rw [List.map_cons, List.map_cons, List.sum_cons, sum_sgs cs, List.length_cons]; show 1 + cs.length = _; omega
theorem catLen (x y : Str) : (x ++ y).length = x.length + y.length := strLen_append x y
def spWords : Sp := fun vs H Q _ => ∃ (c : Int) (L : Cells), vs = [.int c] ∧ Led H L ∧ ∀ (r : Addr) (z1 z2 z3 : Str) (H' : Hp), OkZ z1 → OkZ z2 → OkZ z3 → Led H' ((r, .lst [.str z1, .str z2, .str z3]) :: L) → Q (.ref r) H'
theorem ok_words (D : Def K mg "_law_words" s_l_words) (B : Blt mg) (T : Txt K mg ) : FnD P w K mg base 1 "_law_words" ["_law_cell"] spWords := by
  refine D.ok sc_l_words (fun vs H Q E h => ?_) (fun _ _ _ _ _ _ us hl => match us, hl with | [_], _ => rfl) (fun f cdv A outer s H vs Q E hr h => ?_)
  · obtain ⟨_, _, rfl, _⟩ := h; rfl
  · obtain ⟨c, L, rfl, hL, kk⟩ := h
    have sc := sc_l_words
    have h26 : letters.length = 26 := by decide +kernel
    have hlz : letters.length ≤ sizeLine := by decide +kernel
    refine ⟨_, (@pss_cons _ _ _ _ _ (@ps_set _ _ 1 _ _ _ _ sc.nd rfl (by first | exact Or.inl rfl | exact Or.inr rfl) (@pe_str _ _ _ _) (by rfl) (by first | exact .inl rfl | exact .inr rfl | assumption)) (@pss_cons _ _ _ _ _ (@ps_set _ _ 2 _ _ _ _ sc.nd rfl (by first | exact Or.inl rfl | exact Or.inr rfl) (@pe_op _ _ _ _ _ _ _ _ op_add (@pe_int _ _ _ _) (@pe_op _ _ _ _ _ _ _ _ op_mod (@pv _ 0 _ _ (by rfl) (by first | exact Or.inl rfl | exact Or.inr (Or.inl rfl) | exact Or.inr (Or.inr rfl)) (by decide) (by decide)) (@pe_int _ _ _ _))) (by rfl) (by first | exact .inl rfl | exact .inr rfl | assumption)) (@pss_cons _ _ _ _ _ (@ps_set _ _ 3 _ _ _ _ sc.nd rfl (by first | exact Or.inl rfl | exact Or.inr rfl) (@pe_op _ _ _ _ _ _ _ _ op_mod (@pe_op _ _ _ _ _ _ _ _ op_fdiv (@pv _ 0 _ _ (by rfl) (by first | exact Or.inl rfl | exact Or.inr (Or.inl rfl) | exact Or.inr (Or.inr rfl)) (by decide) (by decide)) (@pe_int _ _ _ _)) (@pv _ 2 _ _ (by rfl) (by first | exact Or.inl rfl | exact Or.inr (Or.inl rfl) | exact Or.inr (Or.inr rfl)) (by decide) (by decide))) (by rfl) (by first | exact .inl rfl | exact .inr rfl | assumption)) (@pss_cons _ _ _ _ _ (@ps_set _ _ 4 _ _ _ _ sc.nd rfl (by first | exact Or.inl rfl | exact Or.inr rfl) (@pe_bm _ _ _ _ _ _ _ _ _ _ _ _ PySem.F.plainAttrs_str PySem.F.slot_str_join PySem.F.type_str_join mt_join (@pe_str _ _ _ _) (@pa_cons _ _ _ _ _ (@pe_comp _ _ "_law_k" _ _ _ _ _ _ _ _ _ rfl rfl rfl rfl noH (compSc_of (by kernel_rfl)) (@pi_range1 _ _ _ _ _ _ (by rfl) B.range (@pa_cons _ _ _ _ _ (@pv _ 2 _ _ (by rfl) (by first | exact Or.inl rfl | exact Or.inr (Or.inl rfl) | exact Or.inr (Or.inr rfl)) (by decide) (by decide)) (@pa_nil _) (by rfl)) (by rfl)) (fun _ _ _ _ => (@pts_nil _)) (fun _ _ _ _ => (@pe_ix _ _ _ _ _ _ _ ix_str (@pk _ 2 _ _ (by kernel_rfl) (by kernel_rfl) (by decide) (by decide)) (@pe_op _ _ _ _ _ _ _ _ op_mod (@pe_op _ _ _ _ _ _ _ _ op_add (@pe_op _ _ _ _ _ _ _ _ op_fdiv (@pk _ 1 _ _ (by kernel_rfl) (by kernel_rfl) (by decide) (by decide)) (@pe_int _ _ _ _)) (@pe_op _ _ _ _ _ _ _ _ op_mul (@pk _ 0 _ _ (by kernel_rfl) (by kernel_rfl) (by decide) (by decide)) (@pk _ 0 _ _ (by kernel_rfl) (by kernel_rfl) (by decide) (by decide)))) (@pe_int _ _ _ _)) (fun _ _ => rfl))) (by intro _; rfl)) (@pa_nil _) (by rfl)) (by rfl) (by rfl) (by rfl) (by rfl) (by rfl)) (by rfl) (by first | exact .inl rfl | exact .inr rfl | assumption)) (@pss_cons _ _ _ _ _ (@ps_set _ _ 5 _ _ _ _ sc.nd rfl (by first | exact Or.inl rfl | exact Or.inr rfl) (@pe_ix _ _ _ _ _ _ _ ix_str (@pv _ 1 _ _ (by rfl) (by first | exact Or.inl rfl | exact Or.inr (Or.inl rfl) | exact Or.inr (Or.inr rfl)) (by decide) (by decide)) (@pe_op _ _ _ _ _ _ _ _ op_mod (@pe_op _ _ _ _ _ _ _ _ op_add (@pe_bm _ _ _ _ _ _ _ _ _ _ _ _ PySem.F.plainAttrs_str PySem.F.slot_str_find PySem.F.type_str_find mt_find (@pv _ 1 _ _ (by rfl) (by first | exact Or.inl rfl | exact Or.inr (Or.inl rfl) | exact Or.inr (Or.inr rfl)) (by decide) (by decide)) (@pa_cons _ _ _ _ _ (@pe_ix _ _ _ _ _ _ _ ix_str (@pv _ 4 _ _ (by rfl) (by first | exact Or.inl rfl | exact Or.inr (Or.inl rfl) | exact Or.inr (Or.inr rfl)) (by decide) (by decide)) (@pv _ 3 _ _ (by rfl) (by first | exact Or.inl rfl | exact Or.inr (Or.inl rfl) | exact Or.inr (Or.inr rfl)) (by decide) (by decide)) (fun _ _ => rfl)) (@pa_nil _) (by rfl)) (by rfl) (by rfl) (by rfl) (by rfl) (by rfl)) (@pe_int _ _ _ _)) (@pe_int _ _ _ _)) (fun _ _ => rfl)) (by rfl) (by first | exact .inl rfl | exact .inr rfl | assumption)) (@pss_cons _ _ _ _ _ (@ps_set _ _ 6 _ _ _ _ sc.nd rfl (by first | exact Or.inl rfl | exact Or.inr rfl) (@pe_op _ _ _ _ _ _ _ _ op_add_str (@pe_op _ _ _ _ _ _ _ _ op_add_str (@pe_slice _ _ _ _ _ _ _ _ _ _ sl_str (@pv _ 4 _ _ (by rfl) (by first | exact Or.inl rfl | exact Or.inr (Or.inl rfl) | exact Or.inr (Or.inr rfl)) (by decide) (by decide)) (@po_none _) (@po_some _ _ _ (@pv _ 3 _ _ (by rfl) (by first | exact Or.inl rfl | exact Or.inr (Or.inl rfl) | exact Or.inr (Or.inr rfl)) (by decide) (by decide)))) (@pv _ 5 _ _ (by rfl) (by first | exact Or.inl rfl | exact Or.inr (Or.inl rfl) | exact Or.inr (Or.inr rfl)) (by decide) (by decide))) (@pe_slice _ _ _ _ _ _ _ _ _ _ sl_str (@pv _ 4 _ _ (by rfl) (by first | exact Or.inl rfl | exact Or.inr (Or.inl rfl) | exact Or.inr (Or.inr rfl)) (by decide) (by decide)) (@po_some _ _ _ (@pe_op _ _ _ _ _ _ _ _ op_add (@pv _ 3 _ _ (by rfl) (by first | exact Or.inl rfl | exact Or.inr (Or.inl rfl) | exact Or.inr (Or.inr rfl)) (by decide) (by decide)) (@pe_int _ _ _ _))) (@po_none _))) (by rfl) (by first | exact .inl rfl | exact .inr rfl | assumption)) (@pss_cons _ _ _ _ _ (@ps_set _ _ 7 _ _ _ _ sc.nd rfl (by first | exact Or.inl rfl | exact Or.inr rfl) (@pe_op _ _ _ _ _ _ _ _ op_add_str (@pe_slice _ _ _ _ _ _ _ _ _ _ sl_str (@pv _ 4 _ _ (by rfl) (by first | exact Or.inl rfl | exact Or.inr (Or.inl rfl) | exact Or.inr (Or.inr rfl)) (by decide) (by decide)) (@po_none _) (@po_some _ _ _ (@pe_int _ _ _ _))) (@pe_ix _ _ _ _ _ _ _ ix_str (@pv _ 1 _ _ (by rfl) (by first | exact Or.inl rfl | exact Or.inr (Or.inl rfl) | exact Or.inr (Or.inr rfl)) (by decide) (by decide)) (@pe_op _ _ _ _ _ _ _ _ op_mod (@pe_op _ _ _ _ _ _ _ _ op_fdiv (@pv _ 0 _ _ (by rfl) (by first | exact Or.inl rfl | exact Or.inr (Or.inl rfl) | exact Or.inr (Or.inr rfl)) (by decide) (by decide)) (@pe_int _ _ _ _)) (@pe_int _ _ _ _)) (fun _ _ => rfl))) (by rfl) (by first | exact .inl rfl | exact .inr rfl | assumption)) (@pss_cons _ _ _ _ _ (@ps_if _ _ _ _ _ _ _ _ (@pt_cmpR _ _ _ _ _ _ _ _ op_eq (@pv _ 2 _ _ (by rfl) (by first | exact Or.inl rfl | exact Or.inr (Or.inl rfl) | exact Or.inr (Or.inr rfl)) (by decide) (by decide)) (@pe_int _ _ _ _) (nomark _)) (@pss_one _ _ _ (@ps_set _ _ 7 _ _ _ _ sc.nd rfl (by first | exact Or.inl rfl | exact Or.inr rfl) (@pe_slice _ _ _ _ _ _ _ _ _ _ sl_str (@pv _ 4 _ _ (by rfl) (by first | exact Or.inl rfl | exact Or.inr (Or.inl rfl) | exact Or.inr (Or.inr rfl)) (by decide) (by decide)) (@po_none _) (@po_some _ _ _ (@pe_int _ _ _ _))) (by rfl) (by first | exact .inl rfl | exact .inr rfl | assumption))) (@pss_nil _)) (@pss_one _ _ _ (@ps_ret _ _ _ _ (@pe_lst _ _ _ _ (@pa_cons _ _ _ _ _ (@pv _ 4 _ _ (by rfl) (by first | exact Or.inl rfl | exact Or.inr (Or.inl rfl) | exact Or.inr (Or.inr rfl)) (by decide) (by decide)) (@pa_cons _ _ _ _ _ (@pv _ 6 _ _ (by rfl) (by first | exact Or.inl rfl | exact Or.inr (Or.inl rfl) | exact Or.inr (Or.inr rfl)) (by decide) (by decide)) (@pa_cons _ _ _ _ _ (@pv _ 7 _ _ (by rfl) (by first | exact Or.inl rfl | exact Or.inr (Or.inl rfl) | exact Or.inr (Or.inr rfl)) (by decide) (by decide)) (@pa_nil _) (by rfl)) (by rfl)) (by rfl))))))))))))), ?_⟩
    refine seqK fun M1 K1 => ?_
    walk_at "ge"
    refine K1.use ?_
    walk_at "cl"
    clear K1
    refine seqK fun M1 K1 => ?_
    walk_at "ge"
    obtain ⟨n, hn⟩ : ∃ n : Nat, 1 + c % 8 = ((n : Nat) : Int) := ⟨(1 + c % 8).toNat, by omega⟩
    have hn1 : 1 ≤ n := by omega
    have hn8 : n ≤ 8 := by omega
    rw [hn]
    refine K1.use ?_
    walk_at "cl"
    clear K1 hn
    refine seqK fun M1 K1 => ?_
    walk_at "ge"
    obtain ⟨at_, hat⟩ : ∃ z : Int, c / 8 % (n : Int) = z := ⟨_, rfl⟩
    have ha0 : 0 ≤ at_ := by rw [← hat]; exact Int.emod_nonneg _ (by omega)
    have ha1 : at_ < n := by rw [← hat]; exact Int.emod_lt_of_pos _ (by omega)
    rw [hat]
    refine K1.use ?_
    walk_at "cl"
    clear K1 hat
    refine seqK fun M1 K1 => ?_
    walk_at "ge"
    refine ⟨tyVS, ?_⟩
    walk_at "ge"
    refine compR1 fun Lc hLc => ?_
    walk_at "ge"
    refine ⟨_, rfl, by omega, by omega, hLc.use ?_⟩
    clear hLc
    rw [show ((n : Nat) : Int).toNat = n by omega]
    refine compRangeL (fun _ v => ∃ c : Nat, v = sg c ∧ OkZ ⟨#[c]⟩) hL (by have := sizeLine_eq; omega) (fun i H2 R q hi hl2 hR => ?_) (fun p acc H2 hlen hacc hl2 => ?_)
    · walk_at "ge"
      obtain ⟨ch, hch⟩ := strAt (z := letters) (j := (c / 64 + (0 + (i : Int)) * (0 + (i : Int))) % 26) (Int.emod_nonneg _ (by decide)) (by rw [h26]; exact Int.emod_lt_of_pos _ (by decide))
      refine ixSH hlz hch ?_
      walk_at "ge"
      exact hR _ _ ⟨ch, rfl, okz_at okz_letters hch⟩ hl2
    obtain ⟨cs, rfl, hcs⟩ := sgsOk hacc
    rw [List.length_map, List.length_map] at hlen
    walk_at "ge"
    have hsum := sum_sgs cs
    have h0 : (Str.ofString "").length = 0 := by decide +kernel
    have hj := join_len (ys := cs.map fun c => (⟨#[c]⟩ : Str)) h0
    rw [hsum, hlen] at hj
    refine joinH (hl2.get List.mem_cons_self) (by rw [hsum, h0, Nat.mul_zero, Nat.add_zero, hlen]; have := sizeLine_eq; omega) ?_
    have okw : OkZ (joinS (Str.ofString "") (cs.map fun c => (⟨#[c]⟩ : Str))) := okz_join (by show PyData.strOk _ = true; decide +kernel) fun y hy => by
      obtain ⟨d, hd, rfl⟩ := List.mem_map.mp hy
      exact hcs d hd
    generalize joinS (Str.ofString "") (cs.map fun c => (⟨#[c]⟩ : Str)) = wd at hj okw
    walk_at "ge"
    refine K1.use ?_
    walk_at "cl"
    have hl3 := hl2.tail
    clear K1 hsum hacc hL hl2
    have hwz : wd.length ≤ sizeLine := by have := sizeLine_eq; omega
    refine seqK fun M1 K1 => ?_
    walk_at "ge"
    refine ⟨tyVS, ?_⟩
    walk_at "ge"
    obtain ⟨c1, hc1⟩ := strAt (z := wd) (j := at_) ha0 (by omega)
    refine ixSH hwz hc1 ?_
    walk_at "ge"
    refine ⟨letters, _, rfl, rfl, fun fd => ?_⟩
    walk_at "ge"
    obtain ⟨c2, hc2⟩ := strAt (z := letters) (j := (fd + 1) % 26) (Int.emod_nonneg _ (by decide)) (by rw [h26]; exact Int.emod_lt_of_pos _ (by decide))
    refine ixSH hlz hc2 ?_
    have ok2 := okz_at okz_letters hc2
    walk_at "ge"
    refine K1.use ?_
    walk_at "cl"
    clear K1
    have l1 : (⟨#[c2]⟩ : Str).length = 1 := rfl
    refine seqK fun M1 K1 => ?_
    walk_at "ge"
    refine slSH hwz ?_
    have s1 := Txt.slice_le wd none (some at_)
    walk_at "ge"
    refine addSH (by rw [l1]; have := sizeLine_eq; omega) ?_
    walk_at "ge"
    refine slSH hwz ?_
    have s2 := Txt.slice_le wd (some (at_ + 1)) none
    walk_at "ge"
    refine addSH (by rw [catLen, l1]; have := sizeLine_eq; omega) ?_
    have oko : OkZ (Txt.slice wd none (some at_) ++ ⟨#[c2]⟩ ++ Txt.slice wd (some (at_ + 1)) none) := okz_cat (okz_cat (okz_slice _ _ okw) ok2) (okz_slice _ _ okw)
    generalize Txt.slice wd none (some at_) ++ ⟨#[c2]⟩ ++ Txt.slice wd (some (at_ + 1)) none = ot at oko
    walk_at "ge"
    refine K1.use ?_
    walk_at "cl"
    clear K1
    obtain ⟨c3, hc3⟩ := strAt (z := letters) (j := c / 64 % 26) (Int.emod_nonneg _ (by decide)) (by rw [h26]; exact Int.emod_lt_of_pos _ (by decide))
    have ok3 := okz_at okz_letters hc3
    have l3 : (⟨#[c3]⟩ : Str).length = 1 := rfl
    have s3 := Txt.slice_le wd none (some 7)
    refine seqK fun M1 K1 => ?_
    walk_at "ge"
    refine slSH hwz ?_
    walk_at "ge"
    refine ixSH hlz hc3 ?_
    walk_at "ge"
    refine addSH (by rw [l3]; have := sizeLine_eq; omega) ?_
    walk_at "ge"
    refine K1.use ?_
    walk_at "cl"
    clear K1
    refine seqK fun M1 K1 => ?_
    have rest : ∀ lg : Str, OkZ lg → M1 [some (.int c), some (.str letters), some (.int n), some (.int at_), some (.str wd), some (.str ⟨#[c2]⟩), some (.str ot), some (.str lg)] H2 := by
      intro lg okl
      refine K1.use ?_
      clear K1
      walk_at "ge"
      rename_i r H3 _ hl4 _
      exact kk r _ _ _ _ okw oko okl hl4
    clear K1
    walk_at "ge"
    · refine slSH hwz ?_
      walk_at "ge"
      exact rest _ (okz_slice _ _ okw)
    · exact rest _ (okz_cat (okz_slice _ _ okw) ok3)
def spMixed : Sp := fun vs H Q _ => ∃ c k : Int, vs = [.int c, .int k] ∧ 0 ≤ k ∧ k ≤ 1000 ∧ ∀ d : Int, 0 ≤ d → Q (.int d) H
theorem ok_mixed (D : Def K mg "_law_mixed" s_l_mixed) (T : Txt K mg ) : FnD P w K mg base 1 "_law_mixed" ["_law_cell", "_law_k"] spMixed := by
  refine D.ok sc_l_mixed (fun vs H Q E h => ?_) (fun _ _ _ _ _ _ us hl => match us, hl with | [_, _], _ => rfl) (fun f cdv A outer s H vs Q E hr h => ?_)
  · obtain ⟨_, _, rfl, _⟩ := h; rfl
  · obtain ⟨c, k, rfl, k0, k1, kk⟩ := h
    have sc := sc_l_mixed
    refine ⟨_, (@pss_one _ _ _ (@ps_ret _ _ _ _ (@pe_op _ _ _ _ _ _ _ _ op_mod (@pe_op _ _ _ _ _ _ _ _ op_mul (@pe_op _ _ _ _ _ _ _ _ op_add (@pe_op _ _ _ _ _ _ _ _ op_mod (@pv _ 0 _ _ (by rfl) (by first | exact Or.inl rfl | exact Or.inr (Or.inl rfl) | exact Or.inr (Or.inr rfl)) (by decide) (by decide)) (@pe_int _ _ _ _)) (@pe_int _ _ _ _)) (@pe_op _ _ _ _ _ _ _ _ op_add (@pe_op _ _ _ _ _ _ _ _ op_mul (@pv _ 1 _ _ (by rfl) (by first | exact Or.inl rfl | exact Or.inr (Or.inl rfl) | exact Or.inr (Or.inr rfl)) (by decide) (by decide)) (@pv _ 1 _ _ (by rfl) (by first | exact Or.inl rfl | exact Or.inr (Or.inl rfl) | exact Or.inr (Or.inr rfl)) (by decide) (by decide))) (@pe_int _ _ _ _))) (@pe_int _ _ _ _)))), ?_⟩
    walk_at "ge"
    exact kk _ (Int.emod_nonneg _ (by decide))
theorem at4n {z1 z2 z3 : Str} {t : Int} (h0 : 0 ≤ t) (h3 : t ≤ 3) (o1 : OkZ z1) (o2 : OkZ z2) (o3 : OkZ z3) : ∃ nm : Option Str, atI [V.non, .str z1, .str z2, .str z3] t = some (nmV nm) ∧ ∀ z, nm = some z → OkZ z := by
  rcases (by omega : t = 0 ∨ t = 1 ∨ t = 2 ∨ t = 3) with rfl | rfl | rfl | rfl
  · exact ⟨none, rfl, fun z h => nomatch h⟩
  · exact ⟨some z1, rfl, fun z h => by cases h; exact o1⟩
  · exact ⟨some z2, rfl, fun z h => by cases h; exact o2⟩
  · exact ⟨some z3, rfl, fun z h => by cases h; exact o3⟩
theorem at2s {z1 z2 : Str} {t : Int} (h0 : 0 ≤ t) (h3 : t ≤ 1) (o1 : OkZ z1) (o2 : OkZ z2) : ∃ kd : Str, atI [V.str z1, .str z2] t = some (.str kd) ∧ OkZ kd := by
  rcases (by omega : t = 0 ∨ t = 1) with rfl | rfl
  · exact ⟨z1, rfl, o1⟩
  · exact ⟨z2, rfl, o2⟩
theorem okz_own : OkZ (Str.ofString "own") := by show PyData.strOk _ = true; decide +kernel
theorem okz_shared : OkZ (Str.ofString "shared") := by show PyData.strOk _ = true; decide +kernel
def spState : Sp := fun vs H Q _ => ∃ (c k : Int) (l : Addr) (z1 z2 z3 : Str) (L : Cells), vs = [.int c, .int k, .ref l] ∧ 0 ≤ k ∧ k ≤ 1000 ∧ Led H L ∧ (l, HO.lst [.str z1, .str z2, .str z3]) ∈ L ∧ OkZ z1 ∧ OkZ z2 ∧ OkZ z3 ∧
  ∀ (r : Addr) (kd : Str) (rt : Int) (nm : Option Str) (st : Int) (H' : Hp), OkZ kd → (∀ z, nm = some z → OkZ z) → (nm = none → st = 0) → Led H' ((r, .tup (stV kd rt nm st)) :: L) → Q (.ref r) H'
theorem ok_state (D : Def K mg "_law_state_by" s_l_state_by) (B : Blt mg) (T : Txt K mg ) (G__law_mixed : FnD P w K mg base 1 "_law_mixed" ["_law_cell", "_law_k"] spMixed) : FnD P w K mg base 2 "_law_state_by" ["_law_cell", "_law_k", "_law_words_here"] spState := by
  refine D.ok sc_l_state_by (fun vs H Q E h => ?_) (fun _ _ _ _ _ _ us hl => match us, hl with | [_, _, _], _ => rfl) (fun f cdv A outer s H vs Q E hr h => ?_)
  · obtain ⟨_, _, _, _, _, _, _, rfl, _⟩ := h; rfl
  · obtain ⟨c, k, l, z1, z2, z3, L, rfl, k0, k1, hL, i_l, o1, o2, o3, kk⟩ := h
    have sc := sc_l_state_by
    have c_l := hL.get i_l
    refine ⟨_, (@pss_cons _ _ _ _ _ (@ps_set _ _ 3 _ _ _ _ sc.nd rfl (by first | exact Or.inl rfl | exact Or.inr rfl) (@pe_callD _ _ _ _ _ _ _ _ _ _ _ G__law_mixed (hr.mono (by omega)) (by rfl) passR0 (@pa_cons _ _ _ _ _ (@pv _ 0 _ _ (by rfl) (by first | exact Or.inl rfl | exact Or.inr (Or.inl rfl) | exact Or.inr (Or.inr rfl)) (by decide) (by decide)) (@pa_cons _ _ _ _ _ (@pv _ 1 _ _ (by rfl) (by first | exact Or.inl rfl | exact Or.inr (Or.inl rfl) | exact Or.inr (Or.inr rfl)) (by decide) (by decide)) (@pa_nil _) (by rfl)) (by rfl)) (by decide) (by rfl) (by rfl)) (by rfl) (by first | exact .inl rfl | exact .inr rfl | assumption)) (@pss_cons _ _ _ _ _ (@ps_set _ _ 4 _ _ _ _ sc.nd rfl (by first | exact Or.inl rfl | exact Or.inr rfl) (@pe_ix _ _ _ _ _ _ _ ix_any (@pe_lst _ _ _ _ (@pa_cons _ _ _ _ _ (@pe_non _ _ _) (@pa_cons _ _ _ _ _ (@pe_ix _ _ _ _ _ _ _ ix_any (@pv _ 2 _ _ (by rfl) (by first | exact Or.inl rfl | exact Or.inr (Or.inl rfl) | exact Or.inr (Or.inr rfl)) (by decide) (by decide)) (@pe_int _ _ _ _) (fun _ _ => rfl)) (@pa_cons _ _ _ _ _ (@pe_ix _ _ _ _ _ _ _ ix_any (@pv _ 2 _ _ (by rfl) (by first | exact Or.inl rfl | exact Or.inr (Or.inl rfl) | exact Or.inr (Or.inr rfl)) (by decide) (by decide)) (@pe_int _ _ _ _) (fun _ _ => rfl)) (@pa_cons _ _ _ _ _ (@pe_ix _ _ _ _ _ _ _ ix_any (@pv _ 2 _ _ (by rfl) (by first | exact Or.inl rfl | exact Or.inr (Or.inl rfl) | exact Or.inr (Or.inr rfl)) (by decide) (by decide)) (@pe_int _ _ _ _) (fun _ _ => rfl)) (@pa_nil _) (by rfl)) (by rfl)) (by rfl)) (by rfl))) (@pe_op _ _ _ _ _ _ _ _ op_mod (@pv _ 3 _ _ (by rfl) (by first | exact Or.inl rfl | exact Or.inr (Or.inl rfl) | exact Or.inr (Or.inr rfl)) (by decide) (by decide)) (@pe_int _ _ _ _)) (fun _ _ => rfl)) (by rfl) (by first | exact .inl rfl | exact .inr rfl | assumption)) (@pss_cons _ _ _ _ _ (@ps_set _ _ 5 _ _ _ _ sc.nd rfl (by first | exact Or.inl rfl | exact Or.inr rfl) (@pe_int _ _ _ _) (by rfl) (by first | exact .inl rfl | exact .inr rfl | assumption)) (@pss_cons _ _ _ _ _ (@ps_if _ _ _ _ _ _ _ _ (@pt_cmpR _ _ _ _ _ _ _ _ op_notN (@pv _ 4 _ _ (by rfl) (by first | exact Or.inl rfl | exact Or.inr (Or.inl rfl) | exact Or.inr (Or.inr rfl)) (by decide) (by decide)) (@pe_non _ _ _) (nomark _)) (@pss_one _ _ _ (@ps_set _ _ 5 _ _ _ _ sc.nd rfl (by first | exact Or.inl rfl | exact Or.inr rfl) (@pe_ix _ _ _ _ _ _ _ ix_any (@pe_lst _ _ _ _ (@pa_cons _ _ _ _ _ (@pe_op _ _ _ _ _ _ _ _ op_mod (@pe_op _ _ _ _ _ _ _ _ op_fdiv (@pv _ 3 _ _ (by rfl) (by first | exact Or.inl rfl | exact Or.inr (Or.inl rfl) | exact Or.inr (Or.inr rfl)) (by decide) (by decide)) (@pe_int _ _ _ _)) (@pe_int _ _ _ _)) (@pa_cons _ _ _ _ _ (@pe_op _ _ _ _ _ _ _ _ op_mod (@pv _ 0 _ _ (by rfl) (by first | exact Or.inl rfl | exact Or.inr (Or.inl rfl) | exact Or.inr (Or.inr rfl)) (by decide) (by decide)) (@pe_op _ _ _ _ _ _ _ _ op_pow (@pe_int _ _ _ _) (@pe_int _ _ _ _))) (@pa_nil _) (by rfl)) (by rfl))) (@pe_op _ _ _ _ _ _ _ _ op_mod (@pe_op _ _ _ _ _ _ _ _ op_fdiv (@pv _ 3 _ _ (by rfl) (by first | exact Or.inl rfl | exact Or.inr (Or.inl rfl) | exact Or.inr (Or.inr rfl)) (by decide) (by decide)) (@pe_int _ _ _ _)) (@pe_int _ _ _ _)) (fun _ _ => rfl)) (by rfl) (by first | exact .inl rfl | exact .inr rfl | assumption))) (@pss_nil _)) (@pss_one _ _ _ (@ps_ret _ _ _ _ (@pe_tup _ _ _ _ _ (@pa_cons _ _ _ _ _ (@pe_ix _ _ _ _ _ _ _ ix_any (@pe_lst _ _ _ _ (@pa_cons _ _ _ _ _ (@pe_str _ _ _ _) (@pa_cons _ _ _ _ _ (@pe_str _ _ _ _) (@pa_nil _) (by rfl)) (by rfl))) (@pe_op _ _ _ _ _ _ _ _ op_mod (@pe_op _ _ _ _ _ _ _ _ op_fdiv (@pv _ 3 _ _ (by rfl) (by first | exact Or.inl rfl | exact Or.inr (Or.inl rfl) | exact Or.inr (Or.inr rfl)) (by decide) (by decide)) (@pe_int _ _ _ _)) (@pe_int _ _ _ _)) (fun _ _ => rfl)) (@pa_cons _ _ _ _ _ (@pe_op _ _ _ _ _ _ _ _ op_mod (@pe_op _ _ _ _ _ _ _ _ op_fdiv (@pv _ 3 _ _ (by rfl) (by first | exact Or.inl rfl | exact Or.inr (Or.inl rfl) | exact Or.inr (Or.inr rfl)) (by decide) (by decide)) (@pe_int _ _ _ _)) (@pe_int _ _ _ _)) (@pa_cons _ _ _ _ _ (@pv _ 4 _ _ (by rfl) (by first | exact Or.inl rfl | exact Or.inr (Or.inl rfl) | exact Or.inr (Or.inr rfl)) (by decide) (by decide)) (@pa_cons _ _ _ _ _ (@pv _ 5 _ _ (by rfl) (by first | exact Or.inl rfl | exact Or.inr (Or.inl rfl) | exact Or.inr (Or.inr rfl)) (by decide) (by decide)) (@pa_nil _) (by rfl)) (by rfl)) (by rfl)) (by rfl))))))))), ?_⟩
    refine seqK fun M1 K1 => ?_
    walk_at "ge"
    refine ⟨c, k, rfl, k0, k1, fun d hd => ?_⟩
    walk_at "ge"
    refine K1.use ?_
    walk_at "cl"
    clear K1
    refine seqK fun M1 K1 => ?_
    walk_at "ge"
    obtain ⟨nm, hnm, okn⟩ := at4n (t := d % 4) (by omega) (by omega) o1 o2 o3
    refine ixLH (by walk_at "cell") hnm ?_
    rename Led _ _ => hl1
    walk_at "ge"
    refine K1.use ?_
    walk_at "cl"
    clear K1 hL c_l
    refine seqK fun M1 K1 => ?_
    walk_at "ge"
    refine K1.use ?_
    walk_at "cl"
    clear K1
    have hl2 := hl1.tail
    clear hl1
    refine seqK fun M1 K1 => ?_
    have rest : ∀ (st : Int) (H' : Hp), (nm = none → st = 0) → Led H' L → M1 [some (.int c), some (.int k), some (.ref l), some (.int d), some (nmV nm), some (.int st)] H' := by
      intro st H' hst hl'
      refine K1.use ?_
      clear K1 hl2
      walk_at "ge"
      obtain ⟨kd, hkd, okd⟩ := at2s (t := d / 120 % 2) (by omega) (by omega) okz_own okz_shared
      refine ixLH (by walk_at "cell") hkd ?_
      rename Led _ _ => hl3
      have hl4 := hl3.tail
      clear hl3 hl'
      walk_at "ge"
      rename Led _ _ => hl5
      exact kk _ kd _ nm st _ okd okn hst hl5
    clear K1
    walk_at "ge"
    · refine ixLH (by walk_at "cell") (at2i (by omega) (by omega)) ?_
      rename Led _ _ => hl3
      have hl4 := hl3.tail
      clear hl3
      walk_at "ge"
      exact rest _ _ (fun q => absurd (show nmV nm = V.non by rw [q]; rfl) (by assumption)) hl4
    · exact rest _ _ (fun _ => rfl) hl2
def lastV : Option SrA → V
  | none => .non
  | some x => .ref x.1
abbrev tV (t : St4) : List V := stV t.1 t.2.1 t.2.2.1 t.2.2.2
def OkT4 (t : St4) : Prop := OkZ t.1 ∧ (∀ z, t.2.2.1 = some z → OkZ z)
/-! ### states, where they lie -/
abbrev Ste := Option (Addr × St4)
def steV : Ste → V
  | none => .non
  | some x => .ref x.1
def stVs (sts : List Ste) : List V := sts.map steV
theorem stVs_len (sts : List Ste) : (stVs sts).length = sts.length := List.length_map _
theorem stVs_set (sts : List Ste) (n : Nat) (x : Ste) : (stVs sts).set n (steV x) = stVs (sts.set n x) := by unfold stVs; rw [List.map_set]
/-- the state of a page, without where it lies -/
def stP (sts : List Ste) (p : Nat) : Option St4 := (sts.getD p none).map (·.2)
structure Sts (sts : List Ste) (ss : List Sr) (M : Cells) : Prop where
  l : sts.length = 256
  s : ∀ p : Nat, p < 256 → stP sts p = stA ss p
  c : ∀ x, some x ∈ sts → (x.1, HO.tup (tV x.2)) ∈ M ∧ OkT4 x.2
theorem stP_set {sts : List Ste} {n : Nat} {x : Ste} (hn : n < sts.length) (p : Nat) : stP (sts.set n x) p = if p = n then x.map (·.2) else stP sts p := by
  unfold stP
  rw [List.getD_eq_getElem?_getD, List.getD_eq_getElem?_getD, List.getElem?_set]
  by_cases h : p = n
  · subst h
    rw [if_pos rfl, if_pos rfl, if_pos hn]
    rfl
  · rw [if_neg h, if_neg (fun z => h z.symm)]
theorem Sts.set {sts : List Ste} {ss ss' : List Sr} {M M' : Cells} (h : Sts sts ss M) {n : Nat} (hn : n < 256) {x : Addr × St4} (sb : ∀ c ∈ M, c ∈ M') (hx : (x.1, HO.tup (tV x.2)) ∈ M') (ok : OkT4 x.2) (hs : ∀ p : Nat, p < 256 → stA ss' p = if p = n then some x.2 else stA ss p) : Sts (sts.set n (some x)) ss' M' := by
  refine ⟨by rw [List.length_set]; exact h.l, fun p hp => ?_, fun y hy => ?_⟩
  · rw [stP_set (by rw [h.l]; exact hn), hs p hp, h.s p hp]
    rfl
  · rcases List.mem_or_eq_of_mem_set hy with hy | hy
    · exact ⟨sb _ (h.c y hy).1, (h.c y hy).2⟩
    · cases hy
      exact ⟨hx, ok⟩
theorem Sts.mono {sts : List Ste} {ss : List Sr} {M M' : Cells} (h : Sts sts ss M) (sb : ∀ c ∈ M, c ∈ M') : Sts sts ss M' := ⟨h.l, h.s, fun x hx => ⟨sb _ (h.c x hx).1, (h.c x hx).2⟩⟩
theorem repX (x : V) (n : Nat) : (List.replicate n [x]).flatten = List.replicate n x := by
  induction n with
  | zero => rfl
  | succ n ih => rw [List.replicate_succ, List.flatten_cons, ih, List.replicate_succ]; rfl
theorem Sts.new {M : Cells} : Sts (List.replicate 256 none) [] M := by
  refine ⟨List.length_replicate, fun p hp => ?_, fun x hx => ?_⟩
  · unfold stP
    rw [List.getD_eq_getElem?_getD, List.getElem?_replicate, if_pos hp]
    rfl
  · have := List.eq_of_mem_replicate hx
    cases this
def spStates : Sp := fun vs H Q _ => ∃ (l : Addr) (ws : List SrA) (L : Cells), vs = [.ref l] ∧ Led H L ∧ (l, HO.lst (sRefs ws)) ∈ L ∧ (∀ x ∈ ws, (x.1, HO.tup (srV x.2)) ∈ L ∧ OkS x.2) ∧ Vd 0 (ws.map (·.2)) ∧ endS 0 (ws.map (·.2)) ≤ 256 ∧
  ∀ (v : Addr) (sts : List Ste) (L' : Cells) (H' : Hp), Led H' ((v, .lst (stVs sts)) :: L') → (∀ c ∈ L, c ∈ L') → Sts sts (ws.map (·.2)) L' → Q (.ref v) H'
theorem ok_states (D : Def K mg "_law_states_of" s_l_states_of) (B : Blt mg) (T : Txt K mg ) : FnD P w K mg base 1 "_law_states_of" ["_law_plan"] spStates := by
  have sc := sc_l_states_of
  refine D.ok sc_l_states_of (fun vs H Q E h => ?_) (fun _ _ _ _ _ _ us hl => match us, hl with | [_], _ => rfl) (fun f cdv A outer s H vs Q E hr h => ?_)
  · obtain ⟨_, _, _, rfl, _⟩ := h; rfl
  · obtain ⟨l, ws, L, rfl, hL, i_l, i_w, hv, he, kk⟩ := h
    refine ⟨_, (@pss_cons _ _ _ _ _ (@ps_set _ _ 1 _ _ _ _ sc.nd rfl (by first | exact Or.inl rfl | exact Or.inr rfl) (@pe_op _ _ _ _ _ _ _ _ op_rep (@pe_lst _ _ _ _ (@pa_cons _ _ _ _ _ (@pe_non _ _ _) (@pa_nil _) (by rfl))) (@pe_int _ _ _ _)) (by rfl) (by first | exact .inl rfl | exact .inr rfl | assumption)) (@pss_cons _ _ _ _ _ (@ps_for _ _ _ _ _ _ _ _ PassesOwn.never rfl (@pi_list _ _ _ _ (@pv _ 0 _ _ (by rfl) (by first | exact Or.inl rfl | exact Or.inr (Or.inl rfl) | exact Or.inr (Or.inr rfl)) (by decide) (by decide))) (@pg_name _ _ 2 _ sc.nd rfl (by first | exact Or.inl rfl | exact Or.inr rfl) (by first | exact .inl rfl | exact .inr rfl | assumption)) (@pss_one _ _ _ (@ps_for _ _ _ _ _ _ _ _ PassesOwn.never rfl (@pi_range1 _ _ _ _ _ _ (by rfl) B.range (@pa_cons _ _ _ _ _ (@pe_ix _ _ _ _ _ _ _ ix_any (@pv _ 2 _ _ (by rfl) (by first | exact Or.inl rfl | exact Or.inr (Or.inl rfl) | exact Or.inr (Or.inr rfl)) (by decide) (by decide)) (@pe_int _ _ _ _) (fun _ _ => rfl)) (@pa_nil _) (by rfl)) (by rfl)) (@pg_name _ _ 3 _ sc.nd rfl (by first | exact Or.inl rfl | exact Or.inr rfl) (by first | exact .inl rfl | exact .inr rfl | assumption)) (@pss_cons _ _ _ _ _ (@ps_set _ _ 4 _ _ _ _ sc.nd rfl (by first | exact Or.inl rfl | exact Or.inr rfl) (@pv _ 3 _ _ (by rfl) (by first | exact Or.inl rfl | exact Or.inr (Or.inl rfl) | exact Or.inr (Or.inr rfl)) (by decide) (by decide)) (by rfl) (by first | exact .inl rfl | exact .inr rfl | assumption)) (@pss_cons _ _ _ _ _ (@ps_if _ _ _ _ _ _ _ _ (@pt_cmpR _ _ _ _ _ _ _ _ op_isN (@pe_ix _ _ _ _ _ _ _ ix_any (@pv _ 2 _ _ (by rfl) (by first | exact Or.inl rfl | exact Or.inr (Or.inl rfl) | exact Or.inr (Or.inr rfl)) (by decide) (by decide)) (@pe_int _ _ _ _) (fun _ _ => rfl)) (@pe_non _ _ _) (nomark _)) (@pss_one _ _ _ (@ps_set _ _ 4 _ _ _ _ sc.nd rfl (by first | exact Or.inl rfl | exact Or.inr rfl) (@pe_int _ _ _ _) (by rfl) (by first | exact .inl rfl | exact .inr rfl | assumption))) (@pss_nil _)) (@pss_one _ _ _ (@ps_asg _ _ _ _ _ _ (@pe_tup _ _ _ _ _ (@pa_cons _ _ _ _ _ (@pe_ix _ _ _ _ _ _ _ ix_any (@pv _ 2 _ _ (by rfl) (by first | exact Or.inl rfl | exact Or.inr (Or.inl rfl) | exact Or.inr (Or.inr rfl)) (by decide) (by decide)) (@pe_int _ _ _ _) (fun _ _ => rfl)) (@pa_cons _ _ _ _ _ (@pe_ix _ _ _ _ _ _ _ ix_any (@pv _ 2 _ _ (by rfl) (by first | exact Or.inl rfl | exact Or.inr (Or.inl rfl) | exact Or.inr (Or.inr rfl)) (by decide) (by decide)) (@pe_int _ _ _ _) (fun _ _ => rfl)) (@pa_cons _ _ _ _ _ (@pe_ix _ _ _ _ _ _ _ ix_any (@pv _ 2 _ _ (by rfl) (by first | exact Or.inl rfl | exact Or.inr (Or.inl rfl) | exact Or.inr (Or.inr rfl)) (by decide) (by decide)) (@pe_int _ _ _ _) (fun _ _ => rfl)) (@pa_cons _ _ _ _ _ (@pe_op _ _ _ _ _ _ _ _ op_add (@pe_ix _ _ _ _ _ _ _ ix_any (@pv _ 2 _ _ (by rfl) (by first | exact Or.inl rfl | exact Or.inr (Or.inl rfl) | exact Or.inr (Or.inr rfl)) (by decide) (by decide)) (@pe_int _ _ _ _) (fun _ _ => rfl)) (@pv _ 4 _ _ (by rfl) (by first | exact Or.inl rfl | exact Or.inr (Or.inl rfl) | exact Or.inr (Or.inr rfl)) (by decide) (by decide))) (@pa_nil _) (by rfl)) (by rfl)) (by rfl)) (by rfl))) (@pg_sub _ _ _ _ _ _ _ (@pv _ 1 _ _ (by rfl) (by first | exact Or.inl rfl | exact Or.inr (Or.inl rfl) | exact Or.inr (Or.inr rfl)) (by decide) (by decide)) (@pe_op _ _ _ _ _ _ _ _ op_add (@pe_ix _ _ _ _ _ _ _ ix_any (@pv _ 2 _ _ (by rfl) (by first | exact Or.inl rfl | exact Or.inr (Or.inl rfl) | exact Or.inr (Or.inr rfl)) (by decide) (by decide)) (@pe_int _ _ _ _) (fun _ _ => rfl)) (@pv _ 3 _ _ (by rfl) (by first | exact Or.inl rfl | exact Or.inr (Or.inl rfl) | exact Or.inr (Or.inr rfl)) (by decide) (by decide))) set_list (by intro _; rfl)) (by rfl) (by rfl) (by rfl))))) (by intro _; rfl))) (by intro _; rfl)) (@pss_one _ _ _ (@ps_ret _ _ _ _ (@pv _ 1 _ _ (by rfl) (by first | exact Or.inl rfl | exact Or.inr (Or.inl rfl) | exact Or.inr (Or.inr rfl)) (by decide) (by decide)))))), ?_⟩
    refine seqK fun M1 K1 => ?_
    walk_at "ge"
    rename Led _ _ => hl1
    refine repH (hl1.get List.mem_cons_self) ⟨by decide, by decide⟩ (by have := sizeLine_eq; simp only [List.length_cons, List.length_nil]; omega) (Led.alloc hl1.tail fun v H2 _ hl2 _ => ?_)
    rw [repX, show List.replicate (Int.toNat 256) V.non = stVs (List.replicate 256 none) by unfold stVs; rw [List.map_replicate]; rfl] at hl2
    walk_at "ge"
    refine K1.use ?_
    walk_at "cl"
    clear K1 hl1 hL
    refine seqK fun M1 K1 => ?_
    refine forL fun Lr hLr => ?_
    have c_l := hl2.get (List.mem_cons_of_mem _ i_l)
    walk_at "ge"
    refine ⟨l, rfl, ⟨_, SqL.of c_l⟩, hLr.use ?_⟩
    clear hLr
    refine loopL (sRefs ws) (fun i σ H' => ∃ (sts : List Ste) (M : Cells) (v1 v2 v3 : Option V), Led H' ((v, .lst (stVs sts)) :: M) ∧ (∀ c ∈ L, c ∈ M) ∧ Sts sts ((ws.take i).map (·.2)) M ∧ σ = [some (.ref l), some (.ref v), v1, v2, v3]) ⟨_, L, _, _, _, hl2, (fun c h => h), Sts.new, rfl⟩ (fun i σ H' _ h => by obtain ⟨sts, M, _, _, _, hl', hm, _⟩ := h; exact SqL.of (hl'.get (List.mem_cons_of_mem _ (hm _ i_l)))) ?_ ?_
    · clear K1 hl2 c_l kk
      rintro i y σ H' hy ⟨sts, M, v1, v2, v3, hl', hm, hS, rfl⟩
      unfold sRefs at hy
      rw [List.getElem?_map] at hy
      obtain ⟨x, hx, rfl⟩ := Option.map_eq_some_iff.mp hy
      obtain ⟨ix, okx⟩ := i_w x (List.mem_of_getElem? hx)
      have htk : (ws.take (i + 1)).map (·.2) = (ws.take i).map (·.2) ++ [x.2] := by rw [List.take_succ, hx, List.map_append]; rfl
      have hsplit : ws.map (·.2) = (ws.take (i + 1)).map (·.2) ++ (ws.drop (i + 1)).map (·.2) := by rw [← List.map_append, List.take_append_drop]
      rw [hsplit, htk] at hv he
      obtain ⟨hv1, hv2⟩ := Vd_app.mp hv
      obtain ⟨hv3, hv4, hv5, hv6, _⟩ := Vd_app.mp hv1
      rw [endS_app] at he
      have he2 := hv2.le_end
      rw [endS_last] at he he2
      have hlo := hv3.le_end
      rw [htk]
      generalize (ws.take i).map (·.2) = A0 at hS hv3 hv4 hlo ⊢
      clear hv hv1 hv2 htk hsplit hy hx
      obtain ⟨n0, hn0⟩ := Int.eq_ofNat_of_zero_le (show 0 ≤ x.2.f by omega)
      obtain ⟨m, hmm⟩ := Int.eq_ofNat_of_zero_le (show 0 ≤ x.2.m by omega)
      have hnm : n0 + m ≤ 256 := by omega
      have c_x := hl'.get (List.mem_cons_of_mem _ (hm _ ix))
      unfold srV at c_x
      refine forR1 fun Lr hLr => ?_
      walk_at "ge"
      refine ⟨_, rfl, by omega, by omega, hLr.use ?_⟩
      clear hLr c_x
      rw [hmm, Int.toNat_natCast]
      refine loopR (fun j σ H' => ∃ (sts : List Ste) (M : Cells) (v2 v3 : Option V), Led H' ((v, .lst (stVs sts)) :: M) ∧ (∀ c ∈ L, c ∈ M) ∧ Sts sts (A0 ++ [{ x.2 with m := ((j : Nat) : Int) }]) M ∧ σ = [some (.ref l), some (.ref v), some (.ref x.1), v2, v3]) ⟨sts, M, _, _, hl', hm, ⟨hS.l, fun p hp => ?_, hS.c⟩, rfl⟩ ?_ ?_
      · rw [hS.s p hp, stA_app, stA_one, if_neg (by rw [hasP_iff]; dsimp only; omega), Option.or_none]
      · clear hl' hm hS
        rintro j σ H2 hj ⟨sts, M, v2, v3, hl', hm, hS, rfl⟩
        have c_x := hl'.get (List.mem_cons_of_mem _ (hm _ ix))
        unfold srV at c_x
        refine seqK fun M2 K2 => ?_
        walk_at "ge"
        refine K2.use ?_
        walk_at "cl"
        clear K2
        refine seqK fun M2 K2 => ?_
        have rest : ∀ (step : Int), fpg x.2 ((n0 + j : Nat) : Int) = x.2.st + step → M2 [some (.ref l), some (.ref v), some (.ref x.1), some (.int (0 + (j : Int))), some (.int step)] H2 := by
          intro step hst
          refine K2.use ?_
          clear K2
          walk_at "ge"
          rename_i r H3 _ hl3 _ _ _ _ _ _ _ _ _ _ _
          have hl4 := hl3.swap
          have c_x3 := hl3.get (List.mem_cons_of_mem _ (List.mem_cons_of_mem _ (hm _ ix)))
          unfold srV at c_x3
          walk_at "ge"
          refine setLH (hl4.get List.mem_cons_self) (ixN_of (by omega) (by rw [stVs_len, hS.l]; omega)) ?_
          have hl5 := hl4.put (o' := .lst ((stVs sts).set (x.2.f + (0 + (j : Int))).toNat (.ref r))) rfl rfl
          generalize upd H3 v (.lst ((stVs sts).set (x.2.f + (0 + (j : Int))).toNat (.ref r))) = H5 at hl5 ⊢
          rw [show (x.2.f + (0 + (j : Int))).toNat = n0 + j by omega, show V.ref r = steV (some (r, stS x.2 ((n0 + j : Nat) : Int))) from rfl, stVs_set] at hl5
          walk_at "ge"
          refine ⟨_, _, _, _, hl5, (fun c hc => List.mem_cons_of_mem _ (hm c hc)), hS.set (by omega) (fun c hc => List.mem_cons_of_mem _ hc) ?_ ⟨okx.1, okx.2.1⟩ (fun p hp => ?_), rfl⟩
          · unfold stS
            rw [hst]
            exact List.mem_cons_self
          · rw [stA_app, stA_app, stA_one, stA_one]
            by_cases hpn : p = n0 + j
            · rw [if_pos hpn, hv3.none_hi (by omega), if_pos (by rw [hasP_iff]; dsimp only; omega), Option.none_or, hpn]
              rfl
            · rw [if_neg hpn]
              by_cases hh : hasP (p : Int) { x.2 with m := ((j : Nat) : Int) } = true
              · have hh' := hasP_iff.mp hh
                dsimp only at hh'
                rw [if_pos hh, if_pos (by rw [hasP_iff]; dsimp only; omega)]
                rfl
              · rw [if_neg hh, if_neg]
                rw [hasP_iff] at hh ⊢
                dsimp only at hh ⊢
                omega
        clear K2
        have hfp : fpg x.2 ((n0 + j : Nat) : Int) = if x.2.nm = none then 0 else x.2.st + j := by unfold fpg; split <;> omega
        have hnn := nmV_non x.2.nm
        walk_at "ge"
        · have h1 : nmV x.2.nm = .non := by assumption
          rw [decide_eq_true h1] at hnn
          have h2 := of_decide_eq_true hnn.symm
          exact rest 0 (by rw [hfp, if_pos h2, hv6 h2]; rfl)
        · have h1 : ¬ nmV x.2.nm = .non := by assumption
          rw [decide_eq_false h1] at hnn
          exact rest _ (by rw [hfp, if_neg (of_decide_eq_false hnn.symm)]; omega)
      · clear hl' hm hS
        rintro σ H2 ⟨sts, M, v2, v3, hl', hm, hS, rfl⟩
        rw [show ({ x.2 with m := ((m : Nat) : Int) } : Sr) = x.2 by rw [← hmm]] at hS
        exact ⟨sts, M, _, _, _, hl', hm, hS, rfl⟩
    · rintro σ H' ⟨sts, M, v1, v2, v3, hl', hm, hS, rfl⟩
      walk_at "ge"
      refine K1.use ?_
      walk_at "ge"
      rw [sRefs_len, List.take_length] at hS
      exact kk v sts M _ hl' hm hS
end

section
variable {P : Program} {w : World} {K : PySem.W.Frag} {mg : Str → Option Value} {base : Heap}
 local macro_rules | `(tactic| walk_at "gz") => `(tactic| repeat' ((fail_if_success (with_reducible show L2.tSeq _ _ _ _ _)); walk_at "g3"))
theorem at5p {a4 t : Int} (h0 : 0 ≤ t) (h4 : t ≤ 4) (p4 : 0 ≤ a4) : ∃ z : Int, 0 ≤ z ∧ atI [V.int 0, .int 0, .int 0, .int 1, .int a4] t = some (.int z) := by
  rcases (by omega : t = 0 ∨ t = 1 ∨ t = 2 ∨ t = 3 ∨ t = 4) with rfl | rfl | rfl | rfl | rfl
  · exact ⟨0, by decide, rfl⟩
  · exact ⟨0, by decide, rfl⟩
  · exact ⟨0, by decide, rfl⟩
  · exact ⟨1, by decide, rfl⟩
  · exact ⟨a4, p4, rfl⟩
def endL : Option SrA → Int
  | none => 0
  | some x => x.2.f + x.2.m
def spStretch : Sp := fun vs H Q _ => ∃ (t l : Addr) (xs : List Int) (k : Int) (lt : Option SrA) (z1 z2 z3 : Str) (L : Cells), vs = [.ref t, .int k, lastV lt, .ref l] ∧ 0 ≤ k ∧ k ≤ 1000 ∧ Led H L ∧ (t, HO.lst (xs.map V.int)) ∈ L ∧ xs.length ≤ 1000 ∧ (∀ x, lt = some x → (x.1, HO.tup (srV x.2)) ∈ L ∧ OkS x.2) ∧ (l, HO.lst [.str z1, .str z2, .str z3]) ∈ L ∧ OkZ z1 ∧ OkZ z2 ∧ OkZ z3 ∧
  ∀ (r : Addr) (s : Sr) (L' : Cells) (H' : Hp), OkS s → 1 ≤ s.m → Nrm s → endL lt ≤ s.f → Led H' ((r, .tup (srV s)) :: L') → (∀ c ∈ L, c ∈ L') → Q (.ref r) H'
theorem ok_stretch (D : Def K mg "_law_stretch_by" s_l_stretch_by) (B : Blt mg) (T : Txt K mg ) (G__law_cell_at : FnD P w K mg base 1 "_law_cell_at" ["_law_script", "_law_k"] (spCellAt K)) (G__law_mixed : FnD P w K mg base 1 "_law_mixed" ["_law_cell", "_law_k"] spMixed) (G__law_state_by : FnD P w K mg base 2 "_law_state_by" ["_law_cell", "_law_k", "_law_words_here"] spState) (G__law_joins : FnD P w K mg base 1 "_law_joins" ["_law_one", "_law_other"] spJoin) : FnD P w K mg base 3 "_law_stretch_by" ["_law_three", "_law_k", "_law_last", "_law_words_here"] spStretch := by
  refine D.ok sc_l_stretch_by (fun vs H Q E h => ?_) (fun _ _ _ _ _ _ us hl => match us, hl with | [_, _, _, _], _ => rfl) (fun f cdv A outer s H vs Q E hr h => ?_)
  · obtain ⟨_, _, _, _, _, _, _, _, _, rfl, _⟩ := h; rfl
  · obtain ⟨t, l, xs, k, lt, z1, z2, z3, L, rfl, k0, k1, hL, i_t, hxl, i_lt, i_l, o1, o2, o3, kk⟩ := h
    have sc := sc_l_stretch_by
    have c_t := hL.get i_t
    have hsz := sizeLine_eq
    refine ⟨_, (@pss_cons _ _ _ _ _ (@ps_set _ _ 4 _ _ _ _ sc.nd rfl (by first | exact Or.inl rfl | exact Or.inr rfl) (@pe_callD _ _ _ _ _ _ _ _ _ _ _ G__law_mixed (hr.mono (by omega)) (by rfl) passR0 (@pa_cons _ _ _ _ _ (@pe_callD _ _ _ _ _ _ _ _ _ _ _ G__law_cell_at (hr.mono (by omega)) (by rfl) passR0 (@pa_cons _ _ _ _ _ (@pv _ 0 _ _ (by rfl) (by first | exact Or.inl rfl | exact Or.inr (Or.inl rfl) | exact Or.inr (Or.inr rfl)) (by decide) (by decide)) (@pa_cons _ _ _ _ _ (@pe_int _ _ _ _) (@pa_nil _) (by rfl)) (by rfl)) (by decide) (by rfl) (by rfl)) (@pa_cons _ _ _ _ _ (@pv _ 1 _ _ (by rfl) (by first | exact Or.inl rfl | exact Or.inr (Or.inl rfl) | exact Or.inr (Or.inr rfl)) (by decide) (by decide)) (@pa_nil _) (by rfl)) (by rfl)) (by decide) (by rfl) (by rfl)) (by rfl) (by first | exact .inl rfl | exact .inr rfl | assumption)) (@pss_cons _ _ _ _ _ (@ps_set _ _ 5 _ _ _ _ sc.nd rfl (by first | exact Or.inl rfl | exact Or.inr rfl) (@pe_op _ _ _ _ _ _ _ _ op_mod (@pv _ 4 _ _ (by rfl) (by first | exact Or.inl rfl | exact Or.inr (Or.inl rfl) | exact Or.inr (Or.inr rfl)) (by decide) (by decide)) (@pe_int _ _ _ _)) (by rfl) (by first | exact .inl rfl | exact .inr rfl | assumption)) (@pss_cons _ _ _ _ _ (@ps_if _ _ _ _ _ _ _ _ (@pt_cmpR _ _ _ _ _ _ _ _ op_notN (@pv _ 2 _ _ (by rfl) (by first | exact Or.inl rfl | exact Or.inr (Or.inl rfl) | exact Or.inr (Or.inr rfl)) (by decide) (by decide)) (@pe_non _ _ _) (nomark _)) (@pss_one _ _ _ (@ps_set _ _ 5 _ _ _ _ sc.nd rfl (by first | exact Or.inl rfl | exact Or.inr rfl) (@pe_op _ _ _ _ _ _ _ _ op_add (@pe_op _ _ _ _ _ _ _ _ op_add (@pe_ix _ _ _ _ _ _ _ ix_any (@pv _ 2 _ _ (by rfl) (by first | exact Or.inl rfl | exact Or.inr (Or.inl rfl) | exact Or.inr (Or.inr rfl)) (by decide) (by decide)) (@pe_int _ _ _ _) (fun _ _ => rfl)) (@pe_ix _ _ _ _ _ _ _ ix_any (@pv _ 2 _ _ (by rfl) (by first | exact Or.inl rfl | exact Or.inr (Or.inl rfl) | exact Or.inr (Or.inr rfl)) (by decide) (by decide)) (@pe_int _ _ _ _) (fun _ _ => rfl))) (@pe_ix _ _ _ _ _ _ _ ix_any (@pe_lst _ _ _ _ (@pa_cons _ _ _ _ _ (@pe_int _ _ _ _) (@pa_cons _ _ _ _ _ (@pe_int _ _ _ _) (@pa_cons _ _ _ _ _ (@pe_int _ _ _ _) (@pa_cons _ _ _ _ _ (@pe_int _ _ _ _) (@pa_cons _ _ _ _ _ (@pe_op _ _ _ _ _ _ _ _ op_add (@pe_op _ _ _ _ _ _ _ _ op_mod (@pe_op _ _ _ _ _ _ _ _ op_fdiv (@pv _ 4 _ _ (by rfl) (by first | exact Or.inl rfl | exact Or.inr (Or.inl rfl) | exact Or.inr (Or.inr rfl)) (by decide) (by decide)) (@pe_int _ _ _ _)) (@pe_int _ _ _ _)) (@pe_int _ _ _ _)) (@pa_nil _) (by rfl)) (by rfl)) (by rfl)) (by rfl)) (by rfl))) (@pe_op _ _ _ _ _ _ _ _ op_mod (@pv _ 4 _ _ (by rfl) (by first | exact Or.inl rfl | exact Or.inr (Or.inl rfl) | exact Or.inr (Or.inr rfl)) (by decide) (by decide)) (@pe_int _ _ _ _)) (fun _ _ => rfl))) (by rfl) (by first | exact .inl rfl | exact .inr rfl | assumption))) (@pss_nil _)) (@pss_cons _ _ _ _ _ (@ps_set _ _ 6 _ _ _ _ sc.nd rfl (by first | exact Or.inl rfl | exact Or.inr rfl) (@pe_op _ _ _ _ _ _ _ _ op_add (@pe_int _ _ _ _) (@pe_op _ _ _ _ _ _ _ _ op_mod (@pe_callD _ _ _ _ _ _ _ _ _ _ _ G__law_cell_at (hr.mono (by omega)) (by rfl) passR0 (@pa_cons _ _ _ _ _ (@pv _ 0 _ _ (by rfl) (by first | exact Or.inl rfl | exact Or.inr (Or.inl rfl) | exact Or.inr (Or.inr rfl)) (by decide) (by decide)) (@pa_cons _ _ _ _ _ (@pe_int _ _ _ _) (@pa_nil _) (by rfl)) (by rfl)) (by decide) (by rfl) (by rfl)) (@pe_int _ _ _ _))) (by rfl) (by first | exact .inl rfl | exact .inr rfl | assumption)) (@pss_cons _ _ _ _ _ (@ps_if _ _ _ _ _ _ _ _ (@pt_cmpR _ _ _ _ _ _ _ _ op_eq (@pe_op _ _ _ _ _ _ _ _ op_mod (@pe_op _ _ _ _ _ _ _ _ op_fdiv (@pv _ 4 _ _ (by rfl) (by first | exact Or.inl rfl | exact Or.inr (Or.inl rfl) | exact Or.inr (Or.inr rfl)) (by decide) (by decide)) (@pe_int _ _ _ _)) (@pe_int _ _ _ _)) (@pe_int _ _ _ _) (nomark _)) (@pss_one _ _ _ (@ps_set _ _ 6 _ _ _ _ sc.nd rfl (by first | exact Or.inl rfl | exact Or.inr rfl) (@pe_op _ _ _ _ _ _ _ _ op_add (@pe_int _ _ _ _) (@pe_op _ _ _ _ _ _ _ _ op_mod (@pe_callD _ _ _ _ _ _ _ _ _ _ _ G__law_cell_at (hr.mono (by omega)) (by rfl) passR0 (@pa_cons _ _ _ _ _ (@pv _ 0 _ _ (by rfl) (by first | exact Or.inl rfl | exact Or.inr (Or.inl rfl) | exact Or.inr (Or.inr rfl)) (by decide) (by decide)) (@pa_cons _ _ _ _ _ (@pe_int _ _ _ _) (@pa_nil _) (by rfl)) (by rfl)) (by decide) (by rfl) (by rfl)) (@pe_int _ _ _ _))) (by rfl) (by first | exact .inl rfl | exact .inr rfl | assumption))) (@pss_nil _)) (@pss_cons _ _ _ _ _ (@ps_set _ _ 7 _ _ _ _ sc.nd rfl (by first | exact Or.inl rfl | exact Or.inr rfl) (@pe_callD _ _ _ _ _ _ _ _ _ _ _ G__law_state_by (hr.mono (by omega)) (by rfl) passR0 (@pa_cons _ _ _ _ _ (@pe_callD _ _ _ _ _ _ _ _ _ _ _ G__law_cell_at (hr.mono (by omega)) (by rfl) passR0 (@pa_cons _ _ _ _ _ (@pv _ 0 _ _ (by rfl) (by first | exact Or.inl rfl | exact Or.inr (Or.inl rfl) | exact Or.inr (Or.inr rfl)) (by decide) (by decide)) (@pa_cons _ _ _ _ _ (@pe_int _ _ _ _) (@pa_nil _) (by rfl)) (by rfl)) (by decide) (by rfl) (by rfl)) (@pa_cons _ _ _ _ _ (@pv _ 1 _ _ (by rfl) (by first | exact Or.inl rfl | exact Or.inr (Or.inl rfl) | exact Or.inr (Or.inr rfl)) (by decide) (by decide)) (@pa_cons _ _ _ _ _ (@pv _ 3 _ _ (by rfl) (by first | exact Or.inl rfl | exact Or.inr (Or.inl rfl) | exact Or.inr (Or.inr rfl)) (by decide) (by decide)) (@pa_nil _) (by rfl)) (by rfl)) (by rfl)) (by decide) (by rfl) (by rfl)) (by rfl) (by first | exact .inl rfl | exact .inr rfl | assumption)) (@pss_cons _ _ _ _ _ (@ps_if _ _ _ _ _ _ _ _ (@PW.pt _ _ _ (@pw_and _ _ _ _ _ _ _ (@pt_cmpR _ _ _ _ _ _ _ _ op_notN (@pv _ 2 _ _ (by rfl) (by first | exact Or.inl rfl | exact Or.inr (Or.inl rfl) | exact Or.inr (Or.inr rfl)) (by decide) (by decide)) (@pe_non _ _ _) (nomark _)) (@pw_and1 _ _ _ _ (@pt_cmpR _ _ _ _ _ _ _ _ op_ne (@pe_op _ _ _ _ _ _ _ _ op_mod (@pe_op _ _ _ _ _ _ _ _ op_fdiv (@pv _ 4 _ _ (by rfl) (by first | exact Or.inl rfl | exact Or.inr (Or.inl rfl) | exact Or.inr (Or.inr rfl)) (by decide) (by decide)) (@pe_int _ _ _ _)) (@pe_int _ _ _ _)) (@pe_int _ _ _ _) (nomark _))))) (@pss_cons _ _ _ _ _ (@ps_set _ _ 8 _ _ _ _ sc.nd rfl (by first | exact Or.inl rfl | exact Or.inr rfl) (@pe_ix _ _ _ _ _ _ _ ix_any (@pv _ 7 _ _ (by rfl) (by first | exact Or.inl rfl | exact Or.inr (Or.inl rfl) | exact Or.inr (Or.inr rfl)) (by decide) (by decide)) (@pe_int _ _ _ _) (fun _ _ => rfl)) (by rfl) (by first | exact .inl rfl | exact .inr rfl | assumption)) (@pss_cons _ _ _ _ _ (@ps_if _ _ _ _ _ _ _ _ (@pt_cmpR _ _ _ _ _ _ _ _ op_isN (@pe_ix _ _ _ _ _ _ _ ix_any (@pv _ 2 _ _ (by rfl) (by first | exact Or.inl rfl | exact Or.inr (Or.inl rfl) | exact Or.inr (Or.inr rfl)) (by decide) (by decide)) (@pe_int _ _ _ _) (fun _ _ => rfl)) (@pe_non _ _ _) (nomark _)) (@pss_one _ _ _ (@ps_set _ _ 8 _ _ _ _ sc.nd rfl (by first | exact Or.inl rfl | exact Or.inr rfl) (@pe_int _ _ _ _) (by rfl) (by first | exact .inl rfl | exact .inr rfl | assumption))) (@pss_one _ _ _ (@ps_if _ _ _ _ _ _ _ _ (@pt_cmpR _ _ _ _ _ _ _ _ op_ne (@pe_op _ _ _ _ _ _ _ _ op_mod (@pe_callD _ _ _ _ _ _ _ _ _ _ _ G__law_cell_at (hr.mono (by omega)) (by rfl) passR0 (@pa_cons _ _ _ _ _ (@pv _ 0 _ _ (by rfl) (by first | exact Or.inl rfl | exact Or.inr (Or.inl rfl) | exact Or.inr (Or.inr rfl)) (by decide) (by decide)) (@pa_cons _ _ _ _ _ (@pe_int _ _ _ _) (@pa_nil _) (by rfl)) (by rfl)) (by decide) (by rfl) (by rfl)) (@pe_int _ _ _ _)) (@pe_int _ _ _ _) (nomark _)) (@pss_one _ _ _ (@ps_set _ _ 8 _ _ _ _ sc.nd rfl (by first | exact Or.inl rfl | exact Or.inr rfl) (@pe_op _ _ _ _ _ _ _ _ op_sub (@pe_op _ _ _ _ _ _ _ _ op_add (@pe_ix _ _ _ _ _ _ _ ix_any (@pv _ 2 _ _ (by rfl) (by first | exact Or.inl rfl | exact Or.inr (Or.inl rfl) | exact Or.inr (Or.inr rfl)) (by decide) (by decide)) (@pe_int _ _ _ _) (fun _ _ => rfl)) (@pv _ 5 _ _ (by rfl) (by first | exact Or.inl rfl | exact Or.inr (Or.inl rfl) | exact Or.inr (Or.inr rfl)) (by decide) (by decide))) (@pe_ix _ _ _ _ _ _ _ ix_any (@pv _ 2 _ _ (by rfl) (by first | exact Or.inl rfl | exact Or.inr (Or.inl rfl) | exact Or.inr (Or.inr rfl)) (by decide) (by decide)) (@pe_int _ _ _ _) (fun _ _ => rfl))) (by rfl) (by first | exact .inl rfl | exact .inr rfl | assumption))) (@pss_nil _)))) (@pss_one _ _ _ (@ps_set _ _ 7 _ _ _ _ sc.nd rfl (by first | exact Or.inl rfl | exact Or.inr rfl) (@pe_tup _ _ _ _ _ (@pa_cons _ _ _ _ _ (@pe_ix _ _ _ _ _ _ _ ix_any (@pv _ 2 _ _ (by rfl) (by first | exact Or.inl rfl | exact Or.inr (Or.inl rfl) | exact Or.inr (Or.inr rfl)) (by decide) (by decide)) (@pe_int _ _ _ _) (fun _ _ => rfl)) (@pa_cons _ _ _ _ _ (@pe_op _ _ _ _ _ _ _ _ op_mod (@pe_op _ _ _ _ _ _ _ _ op_add (@pe_ix _ _ _ _ _ _ _ ix_any (@pv _ 2 _ _ (by rfl) (by first | exact Or.inl rfl | exact Or.inr (Or.inl rfl) | exact Or.inr (Or.inr rfl)) (by decide) (by decide)) (@pe_int _ _ _ _) (fun _ _ => rfl)) (@pe_op _ _ _ _ _ _ _ _ op_fdiv (@pe_op _ _ _ _ _ _ _ _ op_mod (@pe_op _ _ _ _ _ _ _ _ op_fdiv (@pv _ 4 _ _ (by rfl) (by first | exact Or.inl rfl | exact Or.inr (Or.inl rfl) | exact Or.inr (Or.inr rfl)) (by decide) (by decide)) (@pe_int _ _ _ _)) (@pe_int _ _ _ _)) (@pe_int _ _ _ _))) (@pe_int _ _ _ _)) (@pa_cons _ _ _ _ _ (@pe_ix _ _ _ _ _ _ _ ix_any (@pv _ 2 _ _ (by rfl) (by first | exact Or.inl rfl | exact Or.inr (Or.inl rfl) | exact Or.inr (Or.inr rfl)) (by decide) (by decide)) (@pe_int _ _ _ _) (fun _ _ => rfl)) (@pa_cons _ _ _ _ _ (@pv _ 8 _ _ (by rfl) (by first | exact Or.inl rfl | exact Or.inr (Or.inl rfl) | exact Or.inr (Or.inr rfl)) (by decide) (by decide)) (@pa_nil _) (by rfl)) (by rfl)) (by rfl)) (by rfl))) (by rfl) (by first | exact .inl rfl | exact .inr rfl | assumption))))) (@pss_nil _)) (@pss_cons _ _ _ _ _ (@ps_set _ _ 9 _ _ _ _ sc.nd rfl (by first | exact Or.inl rfl | exact Or.inr rfl) (@pe_op _ _ _ _ _ _ _ _ (op_catTK (K := K) rfl) (@pe_tup _ _ _ _ _ (@pa_cons _ _ _ _ _ (@pv _ 5 _ _ (by rfl) (by first | exact Or.inl rfl | exact Or.inr (Or.inl rfl) | exact Or.inr (Or.inr rfl)) (by decide) (by decide)) (@pa_cons _ _ _ _ _ (@pv _ 6 _ _ (by rfl) (by first | exact Or.inl rfl | exact Or.inr (Or.inl rfl) | exact Or.inr (Or.inr rfl)) (by decide) (by decide)) (@pa_nil _) (by rfl)) (by rfl))) (@pv _ 7 _ _ (by rfl) (by first | exact Or.inl rfl | exact Or.inr (Or.inl rfl) | exact Or.inr (Or.inr rfl)) (by decide) (by decide))) (by rfl) (by first | exact .inl rfl | exact .inr rfl | assumption)) (@pss_cons _ _ _ _ _ (@ps_if _ _ _ _ _ _ _ _ (@PW.pt _ _ _ (@pw_and _ _ _ _ _ _ _ (@pt_cmpR _ _ _ _ _ _ _ _ op_notN (@pv _ 2 _ _ (by rfl) (by first | exact Or.inl rfl | exact Or.inr (Or.inl rfl) | exact Or.inr (Or.inr rfl)) (by decide) (by decide)) (@pe_non _ _ _) (nomark _)) (@pw_and1 _ _ _ _ (@pt_val _ _ _ (@pe_callD _ _ _ _ _ _ _ _ _ _ _ G__law_joins (hr.mono (by omega)) (by rfl) passR0 (@pa_cons _ _ _ _ _ (@pv _ 2 _ _ (by rfl) (by first | exact Or.inl rfl | exact Or.inr (Or.inl rfl) | exact Or.inr (Or.inr rfl)) (by decide) (by decide)) (@pa_cons _ _ _ _ _ (@pv _ 9 _ _ (by rfl) (by first | exact Or.inl rfl | exact Or.inr (Or.inl rfl) | exact Or.inr (Or.inr rfl)) (by decide) (by decide)) (@pa_nil _) (by rfl)) (by rfl)) (by decide) (by rfl) (by rfl)) (by intro _; rfl))))) (@pss_one _ _ _ (@ps_set _ _ 9 _ _ _ _ sc.nd rfl (by first | exact Or.inl rfl | exact Or.inr rfl) (@pe_op _ _ _ _ _ _ _ _ (op_catTK (K := K) rfl) (@pe_tup _ _ _ _ _ (@pa_cons _ _ _ _ _ (@pe_op _ _ _ _ _ _ _ _ op_add (@pv _ 5 _ _ (by rfl) (by first | exact Or.inl rfl | exact Or.inr (Or.inl rfl) | exact Or.inr (Or.inr rfl)) (by decide) (by decide)) (@pe_int _ _ _ _)) (@pa_cons _ _ _ _ _ (@pv _ 6 _ _ (by rfl) (by first | exact Or.inl rfl | exact Or.inr (Or.inl rfl) | exact Or.inr (Or.inr rfl)) (by decide) (by decide)) (@pa_nil _) (by rfl)) (by rfl))) (@pv _ 7 _ _ (by rfl) (by first | exact Or.inl rfl | exact Or.inr (Or.inl rfl) | exact Or.inr (Or.inr rfl)) (by decide) (by decide))) (by rfl) (by first | exact .inl rfl | exact .inr rfl | assumption))) (@pss_nil _)) (@pss_one _ _ _ (@ps_ret _ _ _ _ (@pv _ 9 _ _ (by rfl) (by first | exact Or.inl rfl | exact Or.inr (Or.inl rfl) | exact Or.inr (Or.inr rfl)) (by decide) (by decide))))))))))))), ?_⟩
    refine seqK fun M1 K1 => ?_
    walk_at "ge"
    refine ⟨t, xs, 0, rfl, by omega, SqL.of c_t, ?_⟩
    walk_at "ge"
    refine ⟨_, k, rfl, k0, k1, fun d hd => ?_⟩
    walk_at "ge"
    refine K1.use ?_
    walk_at "cl"
    clear K1
    refine seqK fun M1 K1 => ?_
    walk_at "ge"
    refine K1.use ?_
    walk_at "cl"
    clear K1
    refine seqK fun M1 K1 => ?_
    have rest : ∀ (fs : Int) (H' : Hp), endL lt ≤ fs → Led H' L → M1 [some (.ref t), some (.int k), some (lastV lt), some (.ref l), some (.int d), some (.int fs), none, none, none, none] H' := by
      intro fs H' hfs hl'
      refine K1.use ?_
      clear K1 c_t
      have c_t := hl'.get i_t
      refine seqK fun M1 K1 => ?_
      walk_at "ge"
      refine ⟨t, xs, 1, rfl, by omega, SqL.of c_t, ?_⟩
      walk_at "ge"
      refine K1.use ?_
      walk_at "cl"
      clear K1
      refine seqK fun M1 K1 => ?_
      have rest2 : ∀ (mn : Int), 1 ≤ mn → M1 [some (.ref t), some (.int k), some (lastV lt), some (.ref l), some (.int d), some (.int fs), some (.int mn), none, none, none] H' := by
        intro mn hmn
        refine K1.use ?_
        clear K1
        refine seqK fun M1 K1 => ?_
        walk_at "ge"
        refine ⟨t, xs, 2, rfl, by omega, SqL.of c_t, ?_⟩
        walk_at "ge"
        refine ⟨_, k, l, z1, z2, z3, L, rfl, k0, k1, hl', i_l, o1, o2, o3, fun r kd rt nm st H2 okd okn hst hl2 => ?_⟩
        walk_at "ge"
        refine K1.use ?_
        walk_at "cl"
        clear K1 c_t hl'
        refine seqK fun M1 K1 => ?_
        have rest3 : ∀ (r : Addr) (kd : Str) (rt : Int) (nm : Option Str) (st : Int) (v : Option V) (M : Cells) (H2 : Hp), OkZ kd → (∀ z, nm = some z → OkZ z) → (nm = none → st = 0) → Led H2 M → (∀ c ∈ L, c ∈ M) → (r, HO.tup (stV kd rt nm st)) ∈ M → M1 [some (.ref t), some (.int k), some (lastV lt), some (.ref l), some (.int d), some (.int fs), some (.int mn), some (.ref r), v, none] H2 := by
          clear hl2
          intro r kd rt nm st v M H2 okd okn hst hl2 sb ir
          refine K1.use ?_
          clear K1
          refine seqK fun M1 K1 => ?_
          walk_at "ge"
          rename Led _ _ => hl3
          refine catTH (hl3.get List.mem_cons_self) (hl3.get (List.mem_cons_of_mem _ ir)) (by simp) (by simp) (by simp only [List.length_cons, List.length_nil]; omega) (Led.alloc hl3.tail fun q H4 _ hl4 _ => ?_)
          clear hl3 hl2
          walk_at "ge"
          refine K1.use ?_
          walk_at "cl"
          clear K1
          have oks : OkS ⟨fs, mn, kd, rt, nm, st⟩ := ⟨okd, okn, Int.le_trans (by decide) hmn⟩
          refine seqK fun M1 K1 => ?_
          have rest4 : ∀ (q : Addr) (fs2 : Int) (N : Cells) (H' : Hp), fs ≤ fs2 → Led H' ((q, .tup (srV ⟨fs2, mn, kd, rt, nm, st⟩)) :: N) → (∀ c ∈ L, c ∈ N) → M1 [some (.ref t), some (.int k), some (lastV lt), some (.ref l), some (.int d), some (.int fs), some (.int mn), some (.ref r), v, some (.ref q)] H' := by
            intro q fs2 N H' h2 hl' sb'
            refine K1.use ?_
            clear K1
            walk_at "ge"
            exact kk q ⟨fs2, mn, kd, rt, nm, st⟩ N _ ⟨okd, okn, Int.le_trans (by decide) hmn⟩ hmn hst (Int.le_trans hfs h2) hl' sb'
          clear K1
          cases lt with
          | none =>
            rw [show lastV none = V.non from rfl]
            walk_at "ge"
            all_goals first | exact rest4 q fs M _ (Int.le_refl _) hl4 sb | exact absurd rfl (by assumption : ¬ V.non = V.non)
          | some x =>
            rw [show lastV (some x) = V.ref x.1 from rfl]
            obtain ⟨ix, okx⟩ := i_lt x rfl
            walk_at "ge"
            · refine ⟨x.1, q, x.2, ⟨fs, mn, kd, rt, nm, st⟩, _, rfl, hl4, List.mem_cons_of_mem _ (sb _ ix), List.mem_cons_self, okx, oks, fun H5 hl5 => ?_⟩
              clear hl4
              cases hj : joinsB x.2 ⟨fs, mn, kd, rt, nm, st⟩ with
              | true =>
                walk_at "ge"
                rename Led _ _ => hl6
                refine catTH (hl6.get List.mem_cons_self) (hl6.get (List.mem_cons_of_mem _ (List.mem_cons_of_mem _ ir))) (by simp) (by simp) (by simp only [List.length_cons, List.length_nil]; omega) (Led.alloc hl6.tail fun q2 H7 _ hl7 _ => ?_)
                clear hl6 hl5
                walk_at "ge"
                exact rest4 q2 (fs + 1) _ _ (by omega) hl7 fun c hc => List.mem_cons_of_mem _ (sb c hc)
              | false =>
                walk_at "ge"
                exact rest4 q fs M _ (Int.le_refl _) hl5 sb
            · exact nomatch (by assumption : V.ref x.1 = V.non)
        clear K1
        have base : ∀ v, M1 [some (.ref t), some (.int k), some (lastV lt), some (.ref l), some (.int d), some (.int fs), some (.int mn), some (.ref r), v, none] H2 := fun v => rest3 _ _ _ _ _ _ _ _ okd okn hst hl2 (fun c hc => List.mem_cons_of_mem _ hc) List.mem_cons_self
        cases lt with
        | none =>
          rw [show lastV none = V.non from rfl] at base ⊢
          walk_at "ge"
          all_goals first | exact base _ | exact absurd rfl (by assumption : ¬ V.non = V.non)
        | some x =>
          rw [show lastV (some x) = V.ref x.1 from rfl] at base rest3 ⊢
          obtain ⟨ix, okx⟩ := i_lt x rfl
          have cx := hl2.get (List.mem_cons_of_mem _ ix)
          unfold srV at cx
          have cr := hl2.get List.mem_cons_self
          have ct := hl2.get (List.mem_cons_of_mem _ i_t)
          have fin : ∀ (stt : Int) (v : Option V), (x.2.nm = none → stt = 0) → ∀ (u : Addr) (H3 : Hp), Led H3 ((u, .tup [.str x.2.kd, .int ((x.2.r + d / 48 % 5 / 4) % 3), nmV x.2.nm, .int stt]) :: (r, .tup (stV kd rt nm st)) :: L) → M1 [some (.ref t), some (.int k), some (.ref x.1), some (.ref l), some (.int d), some (.int fs), some (.int mn), some (.ref u), v, none] H3 := fun stt v hs0 u H3 hl3 => rest3 u x.2.kd _ x.2.nm stt v _ _ okx.1 okx.2.1 hs0 hl3 (fun c hc => List.mem_cons_of_mem _ (List.mem_cons_of_mem _ hc)) List.mem_cons_self
          walk_at "gz"
          · walk_at "cl"
            refine seqK fun M2 K2 => ?_
            walk_at "ge"
            refine K2.use ?_
            walk_at "cl"
            clear K2
            refine seqK fun M2 K2 => ?_
            have rest5 : ∀ stt : Int, (x.2.nm = none → stt = 0) → M2 [some (.ref t), some (.int k), some (.ref x.1), some (.ref l), some (.int d), some (.int fs), some (.int mn), some (.ref r), some (.int stt), none] H2 := by
              intro stt hs0
              refine K2.use ?_
              clear K2
              walk_at "ge"
              rename Led _ _ => hl3
              exact fin stt _ hs0 _ _ hl3
            clear K2
            have hno : ¬ nmV x.2.nm = V.non → ∀ stt : Int, x.2.nm = none → stt = 0 := fun q stt e => absurd (show nmV x.2.nm = V.non by rw [e]; rfl) q
            walk_at "ge"
            · exact rest5 0 (fun _ => rfl)
            · refine ⟨t, xs, 2, rfl, by omega, SqL.of ct, ?_⟩
              walk_at "ge"
              · exact rest5 _ (hno (by assumption) _)
              · exact rest5 _ (hno (by assumption) _)
          all_goals first | exact base _ | exact nomatch (by assumption : V.ref x.1 = V.non)
      clear K1
      walk_at "ge"
      · refine ⟨t, xs, 1, rfl, by omega, SqL.of c_t, ?_⟩
        walk_at "ge"
        exact rest2 _ (by omega)
      · exact rest2 _ (by omega)
    clear K1
    cases lt with
    | none =>
      rw [show lastV none = V.non from rfl] at rest ⊢
      walk_at "ge"
      · exact absurd rfl (by assumption : ¬ V.non = V.non)
      · exact rest _ _ (show (0 : Int) ≤ d % 9 by omega) hL
    | some x =>
      rw [show lastV (some x) = V.ref x.1 from rfl] at rest ⊢
      obtain ⟨ix, okx⟩ := i_lt x rfl
      have cx := hL.get ix
      unfold srV at cx
      walk_at "ge"
      · obtain ⟨z, hz0, hz⟩ := at5p (a4 := d / 8 % 6 + 1) (t := d % 5) (by omega) (by omega) (by omega)
        refine ixLH (by walk_at "cell") hz ?_
        rename Led _ _ => hl3
        have hl4 := hl3.tail
        clear hl3 hL c_t cx
        walk_at "ge"
        exact rest _ _ (show x.2.f + x.2.m ≤ x.2.f + x.2.m + z by omega) hl4
      · have h : V.ref x.1 = V.non := by assumption
        cases h
end

section
variable {P : Program} {w : World} {K : PySem.W.Frag} {mg : Str → Option Value} {base : Heap}
theorem cutV_le (xs : List V) (k : Nat) : (cutV xs none (some (k : Int))).length ≤ k := by
  unfold cutV
  rw [List.length_take, HT.sIx_none, HT.sIx_nat]
  omega
/-- a row of stretches that lie behind one another, where it lies -/
structure Pln (ws : List SrA) (M : Cells) : Prop where
  c : ∀ x ∈ ws, (x.1, HO.tup (srV x.2)) ∈ M ∧ OkS x.2
  v : Vd 0 (ws.map (·.2))
  e : endS 0 (ws.map (·.2)) ≤ 256
theorem Pln.mono {ws : List SrA} {M M' : Cells} (h : Pln ws M) (s : ∀ c ∈ M, c ∈ M') : Pln ws M' := ⟨fun x hx => ⟨s _ (h.c x hx).1, (h.c x hx).2⟩, h.v, h.e⟩
theorem Led.apart {H : Hp} {L : Cells} {a : Addr} {o : HO} (h : Led H ((a, o) :: L)) (hl : lasts o = false) : ∀ c ∈ L, c.1 ≠ a := fun q hq e => by
  have ha := h.at_ _ List.mem_cons_self
  have nd := h.nd
  rw [List.filter_cons, if_pos (by simp [hl]), List.map_cons] at nd
  obtain ⟨n1, _⟩ := List.nodup_cons.mp nd
  have hq' := h.at_ q (List.mem_cons_of_mem _ hq)
  rw [e, ha] at hq'
  have e2 : o = q.2 := Option.some.inj hq'
  exact n1 (List.mem_map.mpr ⟨q, List.mem_filter.mpr ⟨hq, by rw [← e2, hl]; rfl⟩, e⟩)
/-- a cell that is changed in place comes to the front -/
theorem front {H : Hp} {L : Cells} {a : Addr} {o : HO} (h : Led H L) (m : (a, o) ∈ L) : ∃ N : Cells, Led H ((a, o) :: N) ∧ ∀ c ∈ L, c.1 ≠ a → c ∈ N := by
  obtain ⟨as, bs, rfl⟩ := List.append_of_mem m
  refine ⟨as ++ bs, h.pull, fun c hc hn => ?_⟩
  rcases List.mem_append.mp hc with hc | hc
  · exact List.mem_append_left _ hc
  · rcases List.mem_cons.mp hc with rfl | hc
    · exact absurd rfl hn
    · exact List.mem_append_right _ hc
theorem Led.other {H : Hp} {L : Cells} {a b : Addr} {xs ys : List V} (h : Led H L) (h1 : (a, HO.lst xs) ∈ L) (h2 : (b, HO.tup ys) ∈ L) : b ≠ a := fun e => by
  have g1 := h.get h1
  have g2 := h.get h2
  rw [e, g1] at g2
  cases g2
theorem sRefs_app (x y : List SrA) : sRefs (x ++ y) = sRefs x ++ sRefs y := by unfold sRefs; rw [List.map_append]
theorem sRefs_isE (ws : List SrA) : (sRefs ws).isEmpty = ws.isEmpty := by cases ws <;> rfl
theorem end_last (ws : List SrA) : endS 0 (ws.map (·.2)) = endL ws.getLast? := by
  rcases List.eq_nil_or_concat ws with rfl | ⟨ws', x, rfl⟩
  · rfl
  · rw [List.concat_eq_append, List.map_append, List.getLast?_concat]
    exact endS_last _ _ _
def spPlanBy (K : PySem.W.Frag) : Sp := fun vs H Q _ => ∃ (a : Addr) (ns : List Int) (L : Cells), vs = [.ref a] ∧ Led H L ∧ Scr K L a (ns.map V.int) ∧ ns.length ≤ 63 ∧
  ∀ (u : Addr) (ws : List SrA) (L' : Cells) (H' : Hp), Led H' ((u, .lst (sRefs ws)) :: L') → (∀ c ∈ L, c ∈ L') → Pln ws L' → ws.length ≤ 20 → Q (.ref u) H'
theorem ok_planby (D : Def K mg "_law_plan_by" s_l_plan_by) (B : Blt mg) (T : Txt K mg ) (G__law_cell_at : FnD P w K mg base 1 "_law_cell_at" ["_law_script", "_law_k"] (spCellAt K)) (G__law_words : FnD P w K mg base 1 "_law_words" ["_law_cell"] spWords) (G__law_stretch_by : FnD P w K mg base 3 "_law_stretch_by" ["_law_three", "_law_k", "_law_last", "_law_words_here"] spStretch) : FnD P w K mg base 4 "_law_plan_by" ["_law_script"] (spPlanBy K) := by
  have sc := sc_l_plan_by
  refine D.ok sc_l_plan_by (fun vs H Q E h => ?_) (fun _ _ _ _ _ _ us hl => match us, hl with | [_], _ => rfl) (fun f cdv A outer s H vs Q E hr h => ?_)
  · obtain ⟨_, _, _, rfl, _⟩ := h; rfl
  · obtain ⟨a, ns, L, rfl, hL, hs, h63, kk⟩ := h
    have hsz := sizeLine_eq
    refine ⟨_, (@pss_cons _ _ _ _ _ (@ps_set _ _ 1 _ _ _ _ sc.nd rfl (by first | exact Or.inl rfl | exact Or.inr rfl) (@pe_callD _ _ _ _ _ _ _ _ _ _ _ G__law_words (hr.mono (by omega)) (by rfl) passR0 (@pa_cons _ _ _ _ _ (@pe_callD _ _ _ _ _ _ _ _ _ _ _ G__law_cell_at (hr.mono (by omega)) (by rfl) passR0 (@pa_cons _ _ _ _ _ (@pv _ 0 _ _ (by rfl) (by first | exact Or.inl rfl | exact Or.inr (Or.inl rfl) | exact Or.inr (Or.inr rfl)) (by decide) (by decide)) (@pa_cons _ _ _ _ _ (@pe_int _ _ _ _) (@pa_nil _) (by rfl)) (by rfl)) (by decide) (by rfl) (by rfl)) (@pa_nil _) (by rfl)) (by decide) (by rfl) (by rfl)) (by rfl) (by first | exact .inl rfl | exact .inr rfl | assumption)) (@pss_cons _ _ _ _ _ (@ps_set _ _ 2 _ _ _ _ sc.nd rfl (by first | exact Or.inl rfl | exact Or.inr rfl) (@pe_lst _ _ _ _ (@pa_nil _)) (by rfl) (by first | exact .inl rfl | exact .inr rfl | assumption)) (@pss_cons _ _ _ _ _ (@ps_set _ _ 3 _ _ _ _ sc.nd rfl (by first | exact Or.inl rfl | exact Or.inr rfl) (@pe_non _ _ _) (by rfl) (by first | exact .inl rfl | exact .inr rfl | assumption)) (@pss_cons _ _ _ _ _ (@ps_for _ _ _ _ _ _ _ _ PassesOwn.never rfl (@pi_range1 _ _ _ _ _ _ (by rfl) B.range (@pa_cons _ _ _ _ _ (@pe_op _ _ _ _ _ _ _ _ op_add (@pe_int _ _ _ _) (@pe_op _ _ _ _ _ _ _ _ op_fdiv (@pe_callB _ _ _ _ _ _ _ _ _ call_lenA (by rfl) B.len bt_len (@pa_cons _ _ _ _ _ (@pe_slice _ _ _ _ _ _ _ _ _ _ (sl_listK (K := K) rfl) (@pv _ 0 _ _ (by rfl) (by first | exact Or.inl rfl | exact Or.inr (Or.inl rfl) | exact Or.inr (Or.inr rfl)) (by decide) (by decide)) (@po_none _) (@po_some _ _ _ (@pe_int _ _ _ _))) (@pa_nil _) (by rfl)) (by decide) (by decide) (by rfl) (by rfl)) (@pe_int _ _ _ _))) (@pa_nil _) (by rfl)) (by rfl)) (@pg_name _ _ 4 _ sc.nd rfl (by first | exact Or.inl rfl | exact Or.inr rfl) (by first | exact .inl rfl | exact .inr rfl | assumption)) (@pss_cons _ _ _ _ _ (@ps_set _ _ 5 _ _ _ _ sc.nd rfl (by first | exact Or.inl rfl | exact Or.inr rfl) (@pe_callD _ _ _ _ _ _ _ _ _ _ _ G__law_stretch_by (hr.mono (by omega)) (by rfl) passR0 (@pa_cons _ _ _ _ _ (@pe_slice _ _ _ _ _ _ _ _ _ _ (sl_listK (K := K) rfl) (@pv _ 0 _ _ (by rfl) (by first | exact Or.inl rfl | exact Or.inr (Or.inl rfl) | exact Or.inr (Or.inr rfl)) (by decide) (by decide)) (@po_some _ _ _ (@pe_op _ _ _ _ _ _ _ _ op_mul (@pe_int _ _ _ _) (@pv _ 4 _ _ (by rfl) (by first | exact Or.inl rfl | exact Or.inr (Or.inl rfl) | exact Or.inr (Or.inr rfl)) (by decide) (by decide)))) (@po_some _ _ _ (@pe_op _ _ _ _ _ _ _ _ op_add (@pe_op _ _ _ _ _ _ _ _ op_mul (@pe_int _ _ _ _) (@pv _ 4 _ _ (by rfl) (by first | exact Or.inl rfl | exact Or.inr (Or.inl rfl) | exact Or.inr (Or.inr rfl)) (by decide) (by decide))) (@pe_int _ _ _ _)))) (@pa_cons _ _ _ _ _ (@pv _ 4 _ _ (by rfl) (by first | exact Or.inl rfl | exact Or.inr (Or.inl rfl) | exact Or.inr (Or.inr rfl)) (by decide) (by decide)) (@pa_cons _ _ _ _ _ (@pv _ 3 _ _ (by rfl) (by first | exact Or.inl rfl | exact Or.inr (Or.inl rfl) | exact Or.inr (Or.inr rfl)) (by decide) (by decide)) (@pa_cons _ _ _ _ _ (@pv _ 1 _ _ (by rfl) (by first | exact Or.inl rfl | exact Or.inr (Or.inl rfl) | exact Or.inr (Or.inr rfl)) (by decide) (by decide)) (@pa_nil _) (by rfl)) (by rfl)) (by rfl)) (by rfl)) (by decide) (by rfl) (by rfl)) (by rfl) (by first | exact .inl rfl | exact .inr rfl | assumption)) (@pss_one _ _ _ (@ps_if _ _ _ _ _ _ _ _ (@pt_cmpR _ _ _ _ _ _ _ _ op_le (@pe_op _ _ _ _ _ _ _ _ op_add (@pe_ix _ _ _ _ _ _ _ ix_any (@pv _ 5 _ _ (by rfl) (by first | exact Or.inl rfl | exact Or.inr (Or.inl rfl) | exact Or.inr (Or.inr rfl)) (by decide) (by decide)) (@pe_int _ _ _ _) (fun _ _ => rfl)) (@pe_ix _ _ _ _ _ _ _ ix_any (@pv _ 5 _ _ (by rfl) (by first | exact Or.inl rfl | exact Or.inr (Or.inl rfl) | exact Or.inr (Or.inr rfl)) (by decide) (by decide)) (@pe_int _ _ _ _) (fun _ _ => rfl))) (@pe_int _ _ _ _) (nomark _)) (@pss_cons _ _ _ _ _ (@ps_expr _ _ _ _ (@pe_bm _ _ _ _ _ _ _ _ _ _ _ _ PySem.F.plainAttrs_list PySem.F.slot_list_append PySem.F.type_list_append mt_append (@pv _ 2 _ _ (by rfl) (by first | exact Or.inl rfl | exact Or.inr (Or.inl rfl) | exact Or.inr (Or.inr rfl)) (by decide) (by decide)) (@pa_cons _ _ _ _ _ (@pv _ 5 _ _ (by rfl) (by first | exact Or.inl rfl | exact Or.inr (Or.inl rfl) | exact Or.inr (Or.inr rfl)) (by decide) (by decide)) (@pa_nil _) (by rfl)) (by rfl) (by rfl) (by rfl) (by rfl) (by rfl)) (by rfl)) (@pss_one _ _ _ (@ps_set _ _ 3 _ _ _ _ sc.nd rfl (by first | exact Or.inl rfl | exact Or.inr rfl) (@pv _ 5 _ _ (by rfl) (by first | exact Or.inl rfl | exact Or.inr (Or.inl rfl) | exact Or.inr (Or.inr rfl)) (by decide) (by decide)) (by rfl) (by first | exact .inl rfl | exact .inr rfl | assumption)))) (@pss_nil _)))) (by intro _; rfl)) (@pss_one _ _ _ (@ps_ret _ _ _ _ (@pv _ 2 _ _ (by rfl) (by first | exact Or.inl rfl | exact Or.inr (Or.inl rfl) | exact Or.inr (Or.inr rfl)) (by decide) (by decide)))))))), ?_⟩
    refine seqK fun M1 K1 => ?_
    walk_at "ge"
    refine ⟨a, ns, 0, rfl, by decide, hs.seq hL, ?_⟩
    walk_at "ge"
    refine ⟨_, L, rfl, hL, fun wr z1 z2 z3 H1 o1 o2 o3 hl1 => ?_⟩
    walk_at "ge"
    refine K1.use ?_
    walk_at "cl"
    clear K1 hL
    refine seqK fun M1 K1 => ?_
    walk_at "ge"
    rename_i u H2 _ hl2 _
    refine K1.use ?_
    walk_at "cl"
    clear K1 hl1
    refine seqK fun M1 K1 => ?_
    walk_at "ge"
    refine K1.use ?_
    walk_at "cl"
    clear K1
    refine seqK fun M1 K1 => ?_
    refine forR1 fun Lr hLr => ?_
    have hsq : SqL K H2 a (ns.map V.int) := hs.seq hl2.tail.tail
    walk_at "ge"
    rename_i sl H3 _ hl3 _ _ _
    have hcut : (cutV (ns.map V.int) none (some 59)).length ≤ 59 := cutV_le _ 59
    refine ⟨_, rfl, by omega, by omega, hLr.use ?_⟩
    clear hLr
    have hl4 := hl3.tail
    have hnn : (1 + ((cutV (ns.map V.int) none (some 59)).length : Int) / 3).toNat ≤ 20 := by omega
    generalize (1 + ((cutV (ns.map V.int) none (some 59)).length : Int) / 3).toNat = nn at hnn ⊢
    clear hl3 hl2 hcut hsq
    refine loopR (fun i σ H' => ∃ (ws : List SrA) (M : Cells) (v1 v2 : Option V), Led H' ((u, .lst (sRefs ws)) :: M) ∧ (∀ c ∈ L, c ∈ M) ∧ (wr, HO.lst [.str z1, .str z2, .str z3]) ∈ M ∧ Pln ws M ∧ ws.length ≤ i ∧ σ = [some (.ref a), some (.ref wr), some (.ref u), some (lastV ws.getLast?), v1, v2]) ⟨[], _, _, _, hl4, (fun c hc => List.mem_cons_of_mem _ hc), List.mem_cons_self, ⟨(fun x h => nomatch h), trivial, by decide⟩, Nat.le_refl _, rfl⟩ ?_ ?_
    · clear hl4 K1 kk
      rintro i σ H' hi ⟨ws, M, v1, v2, hl', hm, i_wr, hp, hwl, rfl⟩
      have hsM := hs.mono hm
      have hsq := hsM.seq hl'.tail
      refine seqK fun M2 K2 => ?_
      walk_at "ge"
      rename Led _ _ => hl2
      obtain ⟨cs, hcs, hcl⟩ := cut_ints ns (some (3 * (0 + (i : Int)))) (some (3 * (0 + (i : Int)) + 3))
      rw [hcs] at hl2
      have hcl3 : cs.length ≤ 1000 := by omega
      refine ⟨_, wr, cs, _, ws.getLast?, z1, z2, z3, _, rfl, by omega, by omega, hl2, List.mem_cons_self, hcl3, (fun x hx => ?_), List.mem_cons_of_mem _ (List.mem_cons_of_mem _ i_wr), o1, o2, o3, fun r sr N H3 oks h1 hnr hen hl3 s3 => ?_⟩
      · have := hp.c x (List.mem_of_getLast? hx)
        exact ⟨List.mem_cons_of_mem _ (List.mem_cons_of_mem _ this.1), this.2⟩
      clear hl2 hsq hcs
      walk_at "ge"
      refine K2.use ?_
      walk_at "cl"
      clear K2
      have hap := My.Led.apart hl' rfl
      have i_u : (u, HO.lst (sRefs ws)) ∈ N := s3 _ (List.mem_cons_of_mem _ List.mem_cons_self)
      have up : ∀ c ∈ M, c ∈ N := fun c hc => s3 _ (List.mem_cons_of_mem _ (List.mem_cons_of_mem _ hc))
      have hru : r ≠ u := My.Led.other hl3 (List.mem_cons_of_mem _ i_u) List.mem_cons_self
      obtain ⟨N2, hl4, k4⟩ := front hl3 (List.mem_cons_of_mem _ i_u)
      have upN : ∀ c ∈ M, c ∈ N2 := fun c hc => k4 c (List.mem_cons_of_mem _ (up c hc)) (hap c hc)
      have i_r := k4 _ List.mem_cons_self hru
      clear hl3 hl' k4 s3 up i_u
      have c_r := hl4.get (List.mem_cons_of_mem _ i_r)
      unfold srV at c_r
      have hend := end_last ws
      walk_at "ge"
      · refine ⟨tyVL (hl4.get List.mem_cons_self), ?_⟩
        walk_at "ge"
        refine appH (hl4.get List.mem_cons_self) (by rw [sRefs_len]; omega) ?_
        have hl5 := hl4.put (o' := .lst (sRefs ws ++ [.ref r])) rfl rfl
        generalize upd H3 u (.lst (sRefs ws ++ [.ref r])) = H5 at hl5 ⊢
        rw [show sRefs ws ++ [V.ref r] = sRefs (ws ++ [(r, sr)]) by rw [sRefs_app]; rfl] at hl5
        clear hl4 c_r
        walk_at "ge"
        refine ⟨ws ++ [(r, sr)], N2, _, _, hl5, fun c hc => upN c (hm c hc), upN _ i_wr, ⟨fun x hx => ?_, ?_, ?_⟩, by rw [List.length_append, List.length_singleton]; omega, by rw [List.getLast?_concat]; rfl⟩
        · rcases List.mem_append.mp hx with hx | hx
          · exact ⟨upN _ (hp.c x hx).1, (hp.c x hx).2⟩
          · obtain rfl := List.mem_singleton.mp hx
            exact ⟨i_r, oks⟩
        · rw [List.map_append]
          exact Vd_app.mpr ⟨hp.v, by rw [hend]; exact hen, h1, hnr, trivial⟩
        · rw [List.map_append]
          show endS 0 (ws.map (·.2) ++ [sr]) ≤ 256
          rw [endS_last]
          assumption
      · exact ⟨ws, N2, _, _, hl4, fun c hc => upN c (hm c hc), upN _ i_wr, hp.mono upN, by omega, rfl⟩
    · clear hl4
      rintro σ H' ⟨ws, M, v1, v2, hl', hm, i_wr, hp, hwl, rfl⟩
      refine K1.use ?_
      clear K1
      walk_at "ge"
      exact kk u ws M _ hl' hm hp (by omega)
end

section
variable {P : Program} {w : World} {K : PySem.W.Frag} {mg : Str → Option Value} {base : Heap}
def datT (t : St4) : PySem.W.Dat := .tuple [.str t.1, .int t.2.1, datN t.2.2.1, .int t.2.2.2]
def datE : Ste → PySem.W.Dat
  | none => .none
  | some x => datT x.2
theorem datE_V {H : Hp} {e : Ste} (h : ∀ x, e = some x → H x.1 = some (.tup (tV x.2))) : DatV H (steV e) (PySem.W.kqdP (datE e)) := by
  cases e with
  | none => rw [datE, PySem.W.kqdP]; exact .non
  | some x =>
    unfold datE datT
    rw [PySem.W.kqdP, PySem.W.kqdPs, PySem.W.kqdPs, PySem.W.kqdPs, PySem.W.kqdPs, PySem.W.kqdPs, PySem.W.kqdP, PySem.W.kqdP, PySem.W.kqdP]
    exact .tup (h x rfl) (.cons (.str _) (.cons (.int _) (.cons (datN_V _) (.cons (.int _) .nil))))
theorem datE_ok {e : Ste} (h : ∀ x, e = some x → OkT4 x.2) (k : Nat) : PySem.W.kqdOk (k + 1) (datE e) = true := by
  cases e with
  | none => rfl
  | some x =>
    unfold datE datT
    rw [PySem.W.kqdOk]
    simp only [List.all_cons, List.all_nil, Bool.and_true, Bool.and_eq_true]
    have h1 : PySem.W.kqdOk k (.str x.2.1) = true := by cases k <;> exact (h x rfl).1
    have h2 : ∀ n : Int, PySem.W.kqdOk k (.int n) = true := fun n => by cases k <;> rfl
    exact ⟨h1, h2 _, datN_ok (h x rfl).2 k, h2 _⟩
theorem datEs {H : Hp} : ∀ {es : List Ste}, (∀ x, some x ∈ es → H x.1 = some (.tup (tV x.2))) → DatVs H (stVs es) (PySem.W.kqdPs (es.map datE))
  | [], _ => by rw [List.map_nil, PySem.W.kqdPs]; exact .nil
  | e :: es, h => by
    rw [List.map_cons, PySem.W.kqdPs]
    exact .cons (datE_V fun x hx => h x (hx ▸ List.mem_cons_self)) (datEs fun x hx => h x (List.mem_cons_of_mem _ hx))
theorem cutV_nat (xs : List V) (f m : Nat) (h : f + m ≤ xs.length) : cutV xs (some (f : Int)) (some ((f : Int) + (m : Int))) = (xs.drop f).take m := by
  unfold cutV
  rw [HT.sIx_nat, show (f : Int) + (m : Int) = ((f + m : Nat) : Int) by omega, HT.sIx_nat, Nat.min_eq_left h, Nat.min_eq_left (show f ≤ xs.length by omega), Nat.add_sub_cancel_left]
theorem stVs_cut (sts : List Ste) (f m : Nat) (h : f + m ≤ sts.length) : cutV (stVs sts) (some (f : Int)) (some ((f : Int) + (m : Int))) = stVs ((sts.drop f).take m) := by
  rw [cutV_nat _ _ _ (by rw [stVs_len]; exact h)]
  unfold stVs
  rw [List.map_take, List.map_drop]
theorem datE_iff {e : Ste} : datE e = PySem.W.Dat.none ↔ e = none := by
  cases e with
  | none => exact iff_of_true rfl rfl
  | some x => exact ⟨fun h => (by unfold datE datT at h; cases h), fun h => nomatch h⟩
theorem none_iff {sts : List Ste} {ss : List Sr} {M : Cells} (h : Sts sts ss M) (hv : Vd 0 ss) {f m : Nat} (hfm : f + m ≤ 256) : (none ∈ (sts.drop f).take m) ↔ covB ss (f : Int) (m : Int) = false := by
  unfold covB
  rw [decide_eq_false_iff_not, cov_iff hv (by omega)]
  have hat : ∀ p : Nat, p < m → ((sts.drop f).take m)[p]? = sts[f + p]? := fun p hp => by rw [List.getElem?_take, if_pos hp, List.getElem?_drop]
  constructor
  · intro hn hall
    obtain ⟨q, hq⟩ := List.getElem?_of_mem hn
    have hqm : q < m := by
      have := (List.getElem?_eq_some_iff.mp hq).1
      rw [List.length_take] at this
      omega
    rw [hat q hqm] at hq
    refine hall ((f + q : Nat) : Int) (by omega) (by omega) ?_
    rw [← h.s (f + q) (by omega)]
    unfold stP
    rw [List.getD_eq_getElem?_getD, hq]
    rfl
  · intro hall
    refine Classical.byContradiction fun hn => hall fun p p0 p1 hz => ?_
    obtain ⟨q, rfl⟩ : ∃ q : Nat, p = ((f + q : Nat) : Int) := ⟨(p - f).toNat, by omega⟩
    have hq : q < m := by omega
    rw [← h.s (f + q) (by omega)] at hz
    unfold stP at hz
    have hl : f + q < sts.length := by rw [h.l]; omega
    rw [List.getD_eq_getElem?_getD, List.getElem?_eq_getElem hl] at hz
    have h1 := hat q hq
    rw [List.getElem?_eq_getElem hl] at h1
    refine hn ?_
    have h2 := List.mem_of_getElem? h1
    cases he : sts[f + q] with
    | none => rw [he] at h2; exact h2
    | some x => rw [he] at hz; cases hz
def spIsState : Sp := fun vs H Q _ => ∃ (e1 e2 : Ste) (L : Cells), vs = [steV e1, steV e2] ∧ Led H L ∧ (∀ x, e1 = some x → (x.1, HO.tup (tV x.2)) ∈ L ∧ OkT4 x.2) ∧ (∀ x, e2 = some x → (x.1, HO.tup (tV x.2)) ∈ L ∧ OkT4 x.2) ∧ e1.map (·.2) = e2.map (·.2) ∧ ∀ H', Led H' L → Q (.bl true) H'
theorem ok_isstate (D : Def K mg "_law_is_state" s_l_is_state) (B : Blt mg) (T : Txt K mg ) : FnD P w K mg base 1 "_law_is_state" ["_law_found", "_law_due"] spIsState := by
  have sc := sc_l_is_state
  refine D.ok sc_l_is_state (fun vs H Q E h => ?_) (fun _ _ _ _ _ _ us hl => match us, hl with | [_, _], _ => rfl) (fun f cdv A outer s H vs Q E hr h => ?_)
  · obtain ⟨_, _, _, rfl, _⟩ := h; rfl
  · obtain ⟨e1, e2, L, rfl, hL, h1, h2, he, kk⟩ := h
    have hsz := sizeLine_eq
    refine ⟨_, (@pss_cons _ _ _ _ _ (@ps_if _ _ _ _ _ _ _ _ (@pt_cmpR _ _ _ _ _ _ _ _ op_isN (@pv _ 1 _ _ (by rfl) (by first | exact Or.inl rfl | exact Or.inr (Or.inl rfl) | exact Or.inr (Or.inr rfl)) (by decide) (by decide)) (@pe_non _ _ _) (nomark _)) (@pss_one _ _ _ (@ps_ret _ _ _ _ (@pe_cmpR _ _ _ _ _ _ _ _ op_isN (@pv _ 0 _ _ (by rfl) (by first | exact Or.inl rfl | exact Or.inr (Or.inl rfl) | exact Or.inr (Or.inr rfl)) (by decide) (by decide)) (@pe_non _ _ _) (nomark _)))) (@pss_nil _)) (@pss_cons _ _ _ _ _ (@ps_if _ _ _ _ _ _ _ _ (@PW.pt _ _ _ (@pw_or _ _ _ _ _ _ _ (@pt_not _ _ _ _ (@pt_val _ _ _ (@pe_callB _ _ _ _ _ _ _ _ _ call_isiN (by rfl) B.isinstance bt_isinstance (@pa_cons _ _ _ _ _ (@pv _ 0 _ _ (by rfl) (by first | exact Or.inl rfl | exact Or.inr (Or.inl rfl) | exact Or.inr (Or.inr rfl)) (by decide) (by decide)) (@pa_cons _ _ _ _ _ (@pe_bltn _ _ (.ty "tuple") _ _ (by rfl) B.tuple bt_tuple rfl (by decide) (by decide)) (@pa_nil _) (by rfl)) (by rfl)) (by decide) (by decide) (by rfl) (by rfl)) (by intro _; rfl))) (@pw_or _ _ _ _ _ _ _ (@pt_cmpR _ _ _ _ _ _ _ _ op_ne (@pe_callB _ _ _ _ _ _ _ _ _ call_lenA (by rfl) B.len bt_len (@pa_cons _ _ _ _ _ (@pv _ 0 _ _ (by rfl) (by first | exact Or.inl rfl | exact Or.inr (Or.inl rfl) | exact Or.inr (Or.inr rfl)) (by decide) (by decide)) (@pa_nil _) (by rfl)) (by decide) (by decide) (by rfl) (by rfl)) (@pe_int _ _ _ _) (nomark _)) (@pw_or1 _ _ _ _ (@pt_cmpR _ _ _ _ _ _ _ _ (op_neD hr.units) (@pv _ 0 _ _ (by rfl) (by first | exact Or.inl rfl | exact Or.inr (Or.inl rfl) | exact Or.inr (Or.inr rfl)) (by decide) (by decide)) (@pv _ 1 _ _ (by rfl) (by first | exact Or.inl rfl | exact Or.inr (Or.inl rfl) | exact Or.inr (Or.inr rfl)) (by decide) (by decide)) (nomark _)))))) (@pss_one _ _ _ (@ps_ret _ _ _ _ (@pe_bl _ _ _ _))) (@pss_nil _)) (@pss_cons _ _ _ _ _ (@ps_for _ _ _ _ _ _ _ _ PassesOwn.never rfl (@pi_list _ _ _ _ (@pe_lst _ _ _ _ (@pa_cons _ _ _ _ _ (@pe_ix _ _ _ _ _ _ _ ix_any (@pv _ 0 _ _ (by rfl) (by first | exact Or.inl rfl | exact Or.inr (Or.inl rfl) | exact Or.inr (Or.inr rfl)) (by decide) (by decide)) (@pe_int _ _ _ _) (fun _ _ => rfl)) (@pa_cons _ _ _ _ _ (@pe_ix _ _ _ _ _ _ _ ix_any (@pv _ 0 _ _ (by rfl) (by first | exact Or.inl rfl | exact Or.inr (Or.inl rfl) | exact Or.inr (Or.inr rfl)) (by decide) (by decide)) (@pe_int _ _ _ _) (fun _ _ => rfl)) (@pa_nil _) (by rfl)) (by rfl)))) (@pg_name _ _ 2 _ sc.nd rfl (by first | exact Or.inl rfl | exact Or.inr rfl) (by first | exact .inl rfl | exact .inr rfl | assumption)) (@pss_one _ _ _ (@ps_if _ _ _ _ _ _ _ _ (@PW.pt _ _ _ (@pw_or _ _ _ _ _ _ _ (@pt_not _ _ _ _ (@pt_val _ _ _ (@pe_callB _ _ _ _ _ _ _ _ _ call_isiN (by rfl) B.isinstance bt_isinstance (@pa_cons _ _ _ _ _ (@pv _ 2 _ _ (by rfl) (by first | exact Or.inl rfl | exact Or.inr (Or.inl rfl) | exact Or.inr (Or.inr rfl)) (by decide) (by decide)) (@pa_cons _ _ _ _ _ (@pe_bltn _ _ (.ty "int") _ _ (by rfl) B.int bt_int rfl (by decide) (by decide)) (@pa_nil _) (by rfl)) (by rfl)) (by decide) (by decide) (by rfl) (by rfl)) (by intro _; rfl))) (@pw_or1 _ _ _ _ (@pt_val _ _ _ (@pe_callB _ _ _ _ _ _ _ _ _ call_isiN (by rfl) B.isinstance bt_isinstance (@pa_cons _ _ _ _ _ (@pv _ 2 _ _ (by rfl) (by first | exact Or.inl rfl | exact Or.inr (Or.inl rfl) | exact Or.inr (Or.inr rfl)) (by decide) (by decide)) (@pa_cons _ _ _ _ _ (@pe_bltn _ _ (.ty "bool") _ _ (by rfl) B.bool bt_bool rfl (by decide) (by decide)) (@pa_nil _) (by rfl)) (by rfl)) (by decide) (by decide) (by rfl) (by rfl)) (by intro _; rfl))))) (@pss_one _ _ _ (@ps_ret _ _ _ _ (@pe_bl _ _ _ _))) (@pss_nil _))) (by intro _; rfl)) (@pss_one _ _ _ (@ps_ret _ _ _ _ (@pe_bl _ _ _ _)))))), ?_⟩
    cases e2 with
    | none =>
      cases e1 with
      | some x => cases he
      | none =>
        rw [show steV none = V.non from rfl]
        walk_at "ge"
        · exact kk _ hL
        all_goals exact absurd (rfl : V.non = V.non) (by assumption)
    | some y =>
      cases e1 with
      | none => cases he
      | some x =>
        have hxy : x.2 = y.2 := by simpa using he
        rw [show steV (some x) = V.ref x.1 from rfl, show steV (some y) = V.ref y.1 from rfl]
        obtain ⟨ix, okx⟩ := h1 x rfl
        obtain ⟨iy, oky⟩ := h2 y rfl
        have cx := hL.get ix
        unfold tV stV at cx
        refine seqK fun M1 K1 => ?_
        walk_at "ge"
        · exact nomatch (by assumption : V.ref y.1 = V.non)
        refine K1.use ?_
        walk_at "cl"
        clear K1
        refine seqK fun M1 K1 => ?_
        walk_at "ge"
        · exfalso
          have h4 : ¬ ((([V.str x.2.1, .int x.2.2.1, nmV x.2.2.2.1, .int x.2.2.2.2] : List V).length : Int) = 4) := by assumption
          exact h4 rfl
        refine neDH (b := true) (d := datE (some x)) (e := datE (some y)) (datE_V (e := some x) fun z hz => by cases hz; exact hL.get ix) (datE_V (e := some y) fun z hz => by cases hz; exact hL.get iy) (datE_ok (fun z hz => by cases hz; exact okx) 7) (datE_ok (fun z hz => by cases hz; exact oky) 7) (iff_of_true rfl (by show datT x.2 = datT y.2; rw [hxy])) ?_
        walk_at "ge"
        refine K1.use ?_
        walk_at "cl"
        clear K1
        refine seqK fun M1 K1 => ?_
        refine forL fun Lr hLr => ?_
        walk_at "ge"
        refine ⟨by simp only [List.length_cons, List.length_nil]; omega, fun r hr0 => ?_⟩
        have hl2 := hL.new (o := .lst [.int x.2.2.1, .int x.2.2.2.2]) hr0
        generalize upd H r (.lst [.int x.2.2.1, .int x.2.2.2.2]) = H2 at hl2 ⊢
        refine ⟨r, rfl, ⟨_, SqL.of (hl2.get List.mem_cons_self)⟩, hLr.use ?_⟩
        clear hLr
        refine loopL [.int x.2.2.1, .int x.2.2.2.2] (fun j σ H3 => H3 = H2 ∧ ∃ v2, σ = [some (.ref x.1), some (.ref y.1), v2]) ⟨rfl, _, rfl⟩ (fun j σ H3 _ h => by obtain ⟨rfl, _⟩ := h; exact SqL.of (hl2.get List.mem_cons_self)) ?_ ?_
        · rintro j v σ H3 hy2 ⟨rfl, v3, rfl⟩
          obtain ⟨n, rfl⟩ : ∃ n : Int, v = .int n := by
            have := List.mem_of_getElem? hy2
            simp only [List.mem_cons, List.not_mem_nil, or_false] at this
            rcases this with h | h <;> exact ⟨_, h⟩
          walk_at "ge"
          exact ⟨rfl, _, rfl⟩
        · rintro σ H3 ⟨rfl, v3, rfl⟩
          refine K1.use ?_
          clear K1
          walk_at "ge"
          exact kk _ hl2.tail
end

section
variable {P : Program} {w : World} {K : PySem.W.Frag} {mg : Str → Option Value} {base : Heap}
 local macro_rules | `(tactic| walk_at "gz") => `(tactic| repeat' ((fail_if_success (with_reducible show L2.tSeq _ _ _ _ _)); walk_at "g3"))
theorem truL {K : PySem.W.Frag} {H : Hp} {l : Addr} {xs : List V} {QB : Bool → Hp → Prop} (h : H l = some (.lst xs)) (q : QB (!xs.isEmpty) H) : ∃ k, TruV K (.ref l) H k ∧ QB k H := ⟨_, .inl ⟨xs, SqL.of h, rfl⟩, q⟩
def datS (s : Sr) : PySem.W.Dat := .tuple [.int s.f, .int s.m, .str s.kd, .int s.r, datN s.nm, .int s.st]
theorem datS_V {H : Hp} {a : Addr} {s : Sr} (h : H a = some (.tup (srV s))) : DatV H (.ref a) (PySem.W.kqdP (datS s)) := by
  unfold datS
  rw [PySem.W.kqdP, PySem.W.kqdPs, PySem.W.kqdPs, PySem.W.kqdPs, PySem.W.kqdPs, PySem.W.kqdPs, PySem.W.kqdPs, PySem.W.kqdPs, PySem.W.kqdP, PySem.W.kqdP, PySem.W.kqdP, PySem.W.kqdP, PySem.W.kqdP]
  exact .tup h (.cons (.int _) (.cons (.int _) (.cons (.str _) (.cons (.int _) (.cons (datN_V _) (.cons (.int _) .nil))))))
theorem datS_ok {s : Sr} (h : OkS s) (k : Nat) : PySem.W.kqdOk (k + 1) (datS s) = true := by
  unfold datS
  rw [PySem.W.kqdOk]
  simp only [List.all_cons, List.all_nil, Bool.and_true, Bool.and_eq_true]
  cases k with
  | zero => exact ⟨rfl, rfl, h.1, rfl, datN_ok h.2.1 0, rfl⟩
  | succ k => exact ⟨rfl, rfl, h.1, rfl, datN_ok h.2.1 (k + 1), rfl⟩
theorem datSs {H : Hp} : ∀ {ws : List SrA}, (∀ x ∈ ws, H x.1 = some (.tup (srV x.2))) → DatVs H (sRefs ws) (PySem.W.kqdPs (ws.map fun x => datS x.2))
  | [], _ => .nil
  | x :: ws, h => by
    rw [List.map_cons, PySem.W.kqdPs]
    exact .cons (datS_V (h x List.mem_cons_self)) (datSs fun y hy => h y (List.mem_cons_of_mem _ hy))
theorem datL {H : Hp} {l : Addr} {ws : List SrA} (h : H l = some (.lst (sRefs ws))) (hw : ∀ x ∈ ws, H x.1 = some (.tup (srV x.2))) : DatV H (.ref l) (PySem.W.kqdP (.list (ws.map fun x => datS x.2))) := by
  rw [PySem.W.kqdP]
  exact .lst h (datSs hw)
theorem datL_ok {ws : List SrA} (h : ∀ x ∈ ws, OkS x.2) : PySem.W.kqdOk 8 (.list (ws.map fun x => datS x.2)) = true := by
  rw [PySem.W.kqdOk, List.all_eq_true]
  intro d hd
  obtain ⟨x, hx, rfl⟩ := List.mem_map.mp hd
  exact datS_ok (h x hx) 6
theorem neBl {H : Hp} {Q : VK} (b : Bool) (h : Q (.bl false) H) : rNeD (.bl b) (.bl b) H Q := by
  cases b
  · have ev : PyData.eqv (.bool false) (.bool false) = true := by decide +kernel
    exact ⟨.bool false, .bool false, .bl _, .bl _, by decide +kernel, by decide +kernel, by rw [ev]; exact h⟩
  · have ev : PyData.eqv (.bool true) (.bool true) = true := by decide +kernel
    exact ⟨.bool true, .bool true, .bl _, .bl _, by decide +kernel, by decide +kernel, by rw [ev]; exact h⟩
def datZs (ms : List Str) : PySem.W.Dat := .list (ms.map PySem.W.Dat.str)
theorem datZ {H : Hp} {p : Addr} {ms : List Str} (h : H p = some (.lst (ms.map V.str))) : DatV H (.ref p) (PySem.W.kqdP (datZs ms)) := by
  unfold datZs
  rw [PySem.W.kqdP]
  refine .lst h ?_
  clear h
  induction ms with
  | nil => show DatVs H [] (PySem.W.kqdPs []); rw [PySem.W.kqdPs]; exact .nil
  | cons z ms ih => rw [List.map_cons, List.map_cons, PySem.W.kqdPs, PySem.W.kqdP]; exact .cons (.str z) ih
theorem datZ_ok {ms : List Str} (h : ∀ z ∈ ms, OkZ z) : PySem.W.kqdOk 8 (datZs ms) = true := by
  unfold datZs
  rw [PySem.W.kqdOk, List.all_eq_true]
  intro d hd
  obtain ⟨z, hz, rfl⟩ := List.mem_map.mp hd
  exact h z hz
theorem names_ok {ws : List SrA} {M : Cells} (h : ∀ x ∈ ws, (x.1, HO.tup (srV x.2)) ∈ M ∧ OkS x.2) : ∀ z ∈ namesS (ws.map (·.2)), OkZ z := fun z hz => by
  obtain ⟨s, hs, e⟩ := List.mem_filterMap.mp hz
  obtain ⟨x, hx, rfl⟩ := List.mem_map.mp hs
  exact (h x hx).2.2.1 z e
structure Inv11 (K : PySem.W.Frag) (M : Cells) (a l sv hd so : Addr) (ns xs : List Int) (ws : List SrA) (sts : List Ste) : Prop where
  sc : Scr K M a (ns.map V.int)
  il : (l, HO.lst (sRefs ws)) ∈ M
  ih : (hd, HO.lst (sRefs ws)) ∈ M
  pl : Pln ws M
  iv : (sv, HO.lst (stVs sts)) ∈ M
  st : Sts sts (ws.map (·.2)) M
  io : (so, HO.lst (xs.map V.int)) ∈ M
theorem Inv11.mono {K : PySem.W.Frag} {M M' : Cells} {a l sv hd so : Addr} {ns xs : List Int} {ws : List SrA} {sts : List Ste} (h : Inv11 K M a l sv hd so ns xs ws sts) (s : ∀ c ∈ M, c ∈ M') : Inv11 K M' a l sv hd so ns xs ws sts := ⟨h.sc.mono s, s _ h.il, s _ h.ih, h.pl.mono s, s _ h.iv, h.st.mono s, s _ h.io⟩
theorem pickS (ws : List SrA) (z : Int) (hpos : 0 < ws.length) : ∃ y : SrA, y ∈ ws ∧ atI (sRefs ws) (z % ((sRefs ws).length : Int)) = some (.ref y.1) := by
  have hlen2 := sRefs_len ws
  have a0 : 0 ≤ z % ((sRefs ws).length : Int) := Int.emod_nonneg _ (by omega)
  have a1 : z % ((sRefs ws).length : Int) < ((sRefs ws).length : Int) := Int.emod_lt_of_pos _ (by omega)
  have hlt : (z % ((sRefs ws).length : Int)).toNat < ws.length := by omega
  exact ⟨ws[(z % ((sRefs ws).length : Int)).toNat], List.getElem_mem hlt, atI_of a0 (by unfold sRefs; rw [List.getElem?_map]; unfold sRefs at hlt; rw [List.getElem?_eq_getElem hlt]; rfl)⟩
theorem bndS {ws : List SrA} (hv : Vd 0 (ws.map (·.2))) (he : endS 0 (ws.map (·.2)) ≤ 256) {y : SrA} (hy : y ∈ ws) : 0 ≤ y.2.f ∧ 1 ≤ y.2.m ∧ y.2.f + y.2.m ≤ 256 := by
  obtain ⟨as, bs, e⟩ := List.append_of_mem hy
  rw [e, List.map_append, List.map_cons] at hv he
  obtain ⟨h1, h2, h3, _, h5⟩ := Vd_app.mp hv
  rw [endS_app] at he
  have he' : endS (y.2.f + y.2.m) (bs.map (·.2)) ≤ 256 := he
  have := h1.le_end
  have := h5.le_end
  exact ⟨by omega, h3, by omega⟩
theorem finP_st (ws : List SrA) (p : Int) : stA (ws.map (·.2)) p = (finP ws p).map fun x => stS x.2 p := by
  unfold stA finP
  rw [List.find?_map]
  cases h : ws.find? (hasP p ∘ fun x => x.2) with
  | none =>
    have : ws.find? (fun x => hasP p x.2) = none := h
    rw [this]; rfl
  | some x =>
    have : ws.find? (fun x => hasP p x.2) = some x := h
    rw [this]; rfl
theorem at4z {a0 a1 a2 a3 t : Int} (h0 : 0 ≤ t) (h4 : t ≤ 3) : ∃ z : Int, atI [V.int a0, .int a1, .int a2, .int a3] t = some (.int z) := by
  rcases (by omega : t = 0 ∨ t = 1 ∨ t = 2 ∨ t = 3) with rfl | rfl | rfl | rfl
  · exact ⟨_, rfl⟩
  · exact ⟨_, rfl⟩
  · exact ⟨_, rfl⟩
  · exact ⟨_, rfl⟩
theorem at2w {t : Int} (h0 : 0 ≤ t) (h1 : t ≤ 1) : ∃ z : Int, 0 < z ∧ z ≤ 256 ∧ atI [V.int 12, .int 256] t = some (.int z) := by
  rcases (by omega : t = 0 ∨ t = 1) with rfl | rfl
  · exact ⟨_, by decide, by decide, rfl⟩
  · exact ⟨_, by decide, by decide, rfl⟩
theorem ok_law {f : Addr} {fd : FuncData} (F : Fun K "law" "law" s_law f fd) (B : Blt mg) (T : Txt K mg ) (G__law_mixed : FnD P w K mg base 1 "_law_mixed" ["_law_cell", "_law_k"] spMixed) (G__law_plan_by : FnD P w K mg base 4 "_law_plan_by" ["_law_script"] (spPlanBy K)) (G__law_states_of : FnD P w K mg base 1 "_law_states_of" ["_law_plan"] spStates) (G_state_at : FnD P w K mg base 2 "state_at" ["plan", "page"] spStateAt) (G_covers : FnD P w K mg base 3 "covers" ["plan", "first", "many"] spCovers) (G_names_of : FnD P w K mg base 1 "names_of" ["plan"] spNames) (G__law_is_state : FnD P w K mg base 1 "_law_is_state" ["_law_found", "_law_due"] spIsState) : FnOk P w K mg base (CXR P w) 5 f fd ["_law_script"] (spLawB K) := by
  have sc := sc_law
  refine F.okN sc (fun vs H Q E h => ?_) (fun cdv A outer s H vs Q E hr h => ?_)
  · obtain ⟨a, ns, rfl, _⟩ := h; rfl
  · obtain ⟨a, ns, rfl, hS, hlen, hbits, hO, k⟩ := h
    have hsz := sizeLine_eq
    refine ⟨_, (@pss_cons _ _ _ _ _ (@ps_set _ _ 1 _ _ _ _ sc.nd rfl (by first | exact Or.inl rfl | exact Or.inr rfl) (@pe_callD _ _ _ _ _ _ _ _ _ _ _ G__law_plan_by (hr.mono (by omega)) (by rfl) passR0 (@pa_cons _ _ _ _ _ (@pv _ 0 _ _ (by rfl) (by first | exact Or.inl rfl | exact Or.inr (Or.inl rfl) | exact Or.inr (Or.inr rfl)) (by decide) (by decide)) (@pa_nil _) (by rfl)) (by decide) (by rfl) (by rfl)) (by rfl) (by first | exact .inl rfl | exact .inr rfl | assumption)) (@pss_cons _ _ _ _ _ (@ps_set _ _ 2 _ _ _ _ sc.nd rfl (by first | exact Or.inl rfl | exact Or.inr rfl) (@pe_callD _ _ _ _ _ _ _ _ _ _ _ G__law_states_of (hr.mono (by omega)) (by rfl) passR0 (@pa_cons _ _ _ _ _ (@pv _ 1 _ _ (by rfl) (by first | exact Or.inl rfl | exact Or.inr (Or.inl rfl) | exact Or.inr (Or.inr rfl)) (by decide) (by decide)) (@pa_nil _) (by rfl)) (by decide) (by rfl) (by rfl)) (by rfl) (by first | exact .inl rfl | exact .inr rfl | assumption)) (@pss_cons _ _ _ _ _ (@ps_set _ _ 3 _ _ _ _ sc.nd rfl (by first | exact Or.inl rfl | exact Or.inr rfl) (@pe_callTy _ _ _ _ _ _ _ _ _ (call_list_ofK (K := K) rfl) (by rfl) B.list bt_list (@pa_cons _ _ _ _ _ (@pv _ 1 _ _ (by rfl) (by first | exact Or.inl rfl | exact Or.inr (Or.inl rfl) | exact Or.inr (Or.inr rfl)) (by decide) (by decide)) (@pa_nil _) (by rfl)) (by decide) (by decide) (by rfl) (by rfl)) (by rfl) (by first | exact .inl rfl | exact .inr rfl | assumption)) (@pss_cons _ _ _ _ _ (@ps_set _ _ 4 _ _ _ _ sc.nd rfl (by first | exact Or.inl rfl | exact Or.inr rfl) (@pe_op _ _ _ _ _ _ _ _ op_cat (@pe_lst _ _ _ _ (@pa_cons _ _ _ _ _ (@pe_int _ _ _ _) (@pa_cons _ _ _ _ _ (@pe_int _ _ _ _) (@pa_nil _) (by rfl)) (by rfl))) (@pe_slice _ _ _ _ _ _ _ _ _ _ (sl_listK (K := K) rfl) (@pv _ 0 _ _ (by rfl) (by first | exact Or.inl rfl | exact Or.inr (Or.inl rfl) | exact Or.inr (Or.inr rfl)) (by decide) (by decide)) (@po_none _) (@po_some _ _ _ (@pe_int _ _ _ _)))) (by rfl) (by first | exact .inl rfl | exact .inr rfl | assumption)) (@pss_cons _ _ _ _ _ (@ps_for _ _ _ _ _ _ _ _ PassesOwn.never rfl (@pi_range1 _ _ _ _ _ _ (by rfl) B.range (@pa_cons _ _ _ _ _ (@pe_callB _ _ _ _ _ _ _ _ _ call_lenA (by rfl) B.len bt_len (@pa_cons _ _ _ _ _ (@pv _ 4 _ _ (by rfl) (by first | exact Or.inl rfl | exact Or.inr (Or.inl rfl) | exact Or.inr (Or.inr rfl)) (by decide) (by decide)) (@pa_nil _) (by rfl)) (by decide) (by decide) (by rfl) (by rfl)) (@pa_nil _) (by rfl)) (by rfl)) (@pg_name _ _ 5 _ sc.nd rfl (by first | exact Or.inl rfl | exact Or.inr rfl) (by first | exact .inl rfl | exact .inr rfl | assumption)) (@pss_cons _ _ _ _ _ (@ps_set _ _ 6 _ _ _ _ sc.nd rfl (by first | exact Or.inl rfl | exact Or.inr rfl) (@pe_op _ _ _ _ _ _ _ _ op_mod (@pe_ix _ _ _ _ _ _ _ ix_any (@pv _ 4 _ _ (by rfl) (by first | exact Or.inl rfl | exact Or.inr (Or.inl rfl) | exact Or.inr (Or.inr rfl)) (by decide) (by decide)) (@pv _ 5 _ _ (by rfl) (by first | exact Or.inl rfl | exact Or.inr (Or.inl rfl) | exact Or.inr (Or.inr rfl)) (by decide) (by decide)) (fun _ _ => rfl)) (@pe_int _ _ _ _)) (by rfl) (by first | exact .inl rfl | exact .inr rfl | assumption)) (@pss_cons _ _ _ _ _ (@ps_if _ _ _ _ _ _ _ _ (@PW.pt _ _ _ (@pw_and _ _ _ _ _ _ _ (@pt_cmpR _ _ _ _ _ _ _ _ op_eq (@pe_op _ _ _ _ _ _ _ _ op_mod (@pe_op _ _ _ _ _ _ _ _ op_fdiv (@pe_ix _ _ _ _ _ _ _ ix_any (@pv _ 4 _ _ (by rfl) (by first | exact Or.inl rfl | exact Or.inr (Or.inl rfl) | exact Or.inr (Or.inr rfl)) (by decide) (by decide)) (@pv _ 5 _ _ (by rfl) (by first | exact Or.inl rfl | exact Or.inr (Or.inl rfl) | exact Or.inr (Or.inr rfl)) (by decide) (by decide)) (fun _ _ => rfl)) (@pe_int _ _ _ _)) (@pe_int _ _ _ _)) (@pe_int _ _ _ _) (nomark _)) (@pw_and1 _ _ _ _ (@pt_truth _ _ _ (@pv _ 1 _ _ (by rfl) (by first | exact Or.inl rfl | exact Or.inr (Or.inl rfl) | exact Or.inr (Or.inr rfl)) (by decide) (by decide)) (fun _ => rfl))))) (@pss_cons _ _ _ _ _ (@ps_set _ _ 7 _ _ _ _ sc.nd rfl (by first | exact Or.inl rfl | exact Or.inr rfl) (@pe_ix _ _ _ _ _ _ _ ix_any (@pv _ 1 _ _ (by rfl) (by first | exact Or.inl rfl | exact Or.inr (Or.inl rfl) | exact Or.inr (Or.inr rfl)) (by decide) (by decide)) (@pe_op _ _ _ _ _ _ _ _ op_mod (@pe_op _ _ _ _ _ _ _ _ op_fdiv (@pe_ix _ _ _ _ _ _ _ ix_any (@pv _ 4 _ _ (by rfl) (by first | exact Or.inl rfl | exact Or.inr (Or.inl rfl) | exact Or.inr (Or.inr rfl)) (by decide) (by decide)) (@pv _ 5 _ _ (by rfl) (by first | exact Or.inl rfl | exact Or.inr (Or.inl rfl) | exact Or.inr (Or.inr rfl)) (by decide) (by decide)) (fun _ _ => rfl)) (@pe_int _ _ _ _)) (@pe_callB _ _ _ _ _ _ _ _ _ call_lenA (by rfl) B.len bt_len (@pa_cons _ _ _ _ _ (@pv _ 1 _ _ (by rfl) (by first | exact Or.inl rfl | exact Or.inr (Or.inl rfl) | exact Or.inr (Or.inr rfl)) (by decide) (by decide)) (@pa_nil _) (by rfl)) (by decide) (by decide) (by rfl) (by rfl))) (fun _ _ => rfl)) (by rfl) (by first | exact .inl rfl | exact .inr rfl | assumption)) (@pss_one _ _ _ (@ps_set _ _ 6 _ _ _ _ sc.nd rfl (by first | exact Or.inl rfl | exact Or.inr rfl) (@pe_callB _ _ _ _ _ _ _ _ _ (call_max2 rfl) (by rfl) B.max bt_max (@pa_cons _ _ _ _ _ (@pe_int _ _ _ _) (@pa_cons _ _ _ _ _ (@pe_callB _ _ _ _ _ _ _ _ _ (call_min2 rfl) (by rfl) B.min bt_min (@pa_cons _ _ _ _ _ (@pe_int _ _ _ _) (@pa_cons _ _ _ _ _ (@pe_ix _ _ _ _ _ _ _ ix_any (@pe_lst _ _ _ _ (@pa_cons _ _ _ _ _ (@pe_op _ _ _ _ _ _ _ _ op_sub (@pe_ix _ _ _ _ _ _ _ ix_any (@pv _ 7 _ _ (by rfl) (by first | exact Or.inl rfl | exact Or.inr (Or.inl rfl) | exact Or.inr (Or.inr rfl)) (by decide) (by decide)) (@pe_int _ _ _ _) (fun _ _ => rfl)) (@pe_int _ _ _ _)) (@pa_cons _ _ _ _ _ (@pe_ix _ _ _ _ _ _ _ ix_any (@pv _ 7 _ _ (by rfl) (by first | exact Or.inl rfl | exact Or.inr (Or.inl rfl) | exact Or.inr (Or.inr rfl)) (by decide) (by decide)) (@pe_int _ _ _ _) (fun _ _ => rfl)) (@pa_cons _ _ _ _ _ (@pe_op _ _ _ _ _ _ _ _ op_sub (@pe_op _ _ _ _ _ _ _ _ op_add (@pe_ix _ _ _ _ _ _ _ ix_any (@pv _ 7 _ _ (by rfl) (by first | exact Or.inl rfl | exact Or.inr (Or.inl rfl) | exact Or.inr (Or.inr rfl)) (by decide) (by decide)) (@pe_int _ _ _ _) (fun _ _ => rfl)) (@pe_ix _ _ _ _ _ _ _ ix_any (@pv _ 7 _ _ (by rfl) (by first | exact Or.inl rfl | exact Or.inr (Or.inl rfl) | exact Or.inr (Or.inr rfl)) (by decide) (by decide)) (@pe_int _ _ _ _) (fun _ _ => rfl))) (@pe_int _ _ _ _)) (@pa_cons _ _ _ _ _ (@pe_op _ _ _ _ _ _ _ _ op_add (@pe_ix _ _ _ _ _ _ _ ix_any (@pv _ 7 _ _ (by rfl) (by first | exact Or.inl rfl | exact Or.inr (Or.inl rfl) | exact Or.inr (Or.inr rfl)) (by decide) (by decide)) (@pe_int _ _ _ _) (fun _ _ => rfl)) (@pe_ix _ _ _ _ _ _ _ ix_any (@pv _ 7 _ _ (by rfl) (by first | exact Or.inl rfl | exact Or.inr (Or.inl rfl) | exact Or.inr (Or.inr rfl)) (by decide) (by decide)) (@pe_int _ _ _ _) (fun _ _ => rfl))) (@pa_nil _) (by rfl)) (by rfl)) (by rfl)) (by rfl))) (@pe_op _ _ _ _ _ _ _ _ op_mod (@pv _ 5 _ _ (by rfl) (by first | exact Or.inl rfl | exact Or.inr (Or.inl rfl) | exact Or.inr (Or.inr rfl)) (by decide) (by decide)) (@pe_int _ _ _ _)) (fun _ _ => rfl)) (@pa_nil _) (by rfl)) (by rfl)) (by decide) (by decide) (by rfl) (by rfl)) (@pa_nil _) (by rfl)) (by rfl)) (by decide) (by decide) (by rfl) (by rfl)) (by rfl) (by first | exact .inl rfl | exact .inr rfl | assumption)))) (@pss_nil _)) (@pss_cons _ _ _ _ _ (@ps_if _ _ _ _ _ _ _ _ (@pt_not _ _ _ _ (@pt_val _ _ _ (@pe_callD _ _ _ _ _ _ _ _ _ _ _ G__law_is_state (hr.mono (by omega)) (by rfl) passR0 (@pa_cons _ _ _ _ _ (@pe_callD _ _ _ _ _ _ _ _ _ _ _ G_state_at (hr.mono (by omega)) (by rfl) passR0 (@pa_cons _ _ _ _ _ (@pv _ 3 _ _ (by rfl) (by first | exact Or.inl rfl | exact Or.inr (Or.inl rfl) | exact Or.inr (Or.inr rfl)) (by decide) (by decide)) (@pa_cons _ _ _ _ _ (@pv _ 6 _ _ (by rfl) (by first | exact Or.inl rfl | exact Or.inr (Or.inl rfl) | exact Or.inr (Or.inr rfl)) (by decide) (by decide)) (@pa_nil _) (by rfl)) (by rfl)) (by decide) (by rfl) (by rfl)) (@pa_cons _ _ _ _ _ (@pe_ix _ _ _ _ _ _ _ ix_any (@pv _ 2 _ _ (by rfl) (by first | exact Or.inl rfl | exact Or.inr (Or.inl rfl) | exact Or.inr (Or.inr rfl)) (by decide) (by decide)) (@pv _ 6 _ _ (by rfl) (by first | exact Or.inl rfl | exact Or.inr (Or.inl rfl) | exact Or.inr (Or.inr rfl)) (by decide) (by decide)) (fun _ _ => rfl)) (@pa_nil _) (by rfl)) (by rfl)) (by decide) (by rfl) (by rfl)) (by intro _; rfl))) (@pss_one _ _ _ (@ps_ret _ _ _ _ (@pe_bl _ _ _ _))) (@pss_nil _)) (@pss_cons _ _ _ _ _ (@ps_set _ _ 8 _ _ _ _ sc.nd rfl (by first | exact Or.inl rfl | exact Or.inr rfl) (@pe_op _ _ _ _ _ _ _ _ op_add (@pe_int _ _ _ _) (@pe_op _ _ _ _ _ _ _ _ op_mod (@pe_callD _ _ _ _ _ _ _ _ _ _ _ G__law_mixed (hr.mono (by omega)) (by rfl) passR0 (@pa_cons _ _ _ _ _ (@pe_ix _ _ _ _ _ _ _ ix_any (@pv _ 4 _ _ (by rfl) (by first | exact Or.inl rfl | exact Or.inr (Or.inl rfl) | exact Or.inr (Or.inr rfl)) (by decide) (by decide)) (@pv _ 5 _ _ (by rfl) (by first | exact Or.inl rfl | exact Or.inr (Or.inl rfl) | exact Or.inr (Or.inr rfl)) (by decide) (by decide)) (fun _ _ => rfl)) (@pa_cons _ _ _ _ _ (@pv _ 5 _ _ (by rfl) (by first | exact Or.inl rfl | exact Or.inr (Or.inl rfl) | exact Or.inr (Or.inr rfl)) (by decide) (by decide)) (@pa_nil _) (by rfl)) (by rfl)) (by decide) (by rfl) (by rfl)) (@pe_callB _ _ _ _ _ _ _ _ _ (call_min2 rfl) (by rfl) B.min bt_min (@pa_cons _ _ _ _ _ (@pe_ix _ _ _ _ _ _ _ ix_any (@pe_lst _ _ _ _ (@pa_cons _ _ _ _ _ (@pe_int _ _ _ _) (@pa_cons _ _ _ _ _ (@pe_int _ _ _ _) (@pa_nil _) (by rfl)) (by rfl))) (@pe_op _ _ _ _ _ _ _ _ op_mod (@pv _ 5 _ _ (by rfl) (by first | exact Or.inl rfl | exact Or.inr (Or.inl rfl) | exact Or.inr (Or.inr rfl)) (by decide) (by decide)) (@pe_int _ _ _ _)) (fun _ _ => rfl)) (@pa_cons _ _ _ _ _ (@pe_op _ _ _ _ _ _ _ _ op_sub (@pe_int _ _ _ _) (@pv _ 6 _ _ (by rfl) (by first | exact Or.inl rfl | exact Or.inr (Or.inl rfl) | exact Or.inr (Or.inr rfl)) (by decide) (by decide))) (@pa_nil _) (by rfl)) (by rfl)) (by decide) (by decide) (by rfl) (by rfl)))) (by rfl) (by first | exact .inl rfl | exact .inr rfl | assumption)) (@pss_cons _ _ _ _ _ (@ps_if _ _ _ _ _ _ _ _ (@PW.pt _ _ _ (@pw_and _ _ _ _ _ _ _ (@pt_cmpR _ _ _ _ _ _ _ _ op_eq (@pe_op _ _ _ _ _ _ _ _ op_mod (@pv _ 5 _ _ (by rfl) (by first | exact Or.inl rfl | exact Or.inr (Or.inl rfl) | exact Or.inr (Or.inr rfl)) (by decide) (by decide)) (@pe_int _ _ _ _)) (@pe_int _ _ _ _) (nomark _)) (@pw_and1 _ _ _ _ (@pt_truth _ _ _ (@pv _ 1 _ _ (by rfl) (by first | exact Or.inl rfl | exact Or.inr (Or.inl rfl) | exact Or.inr (Or.inr rfl)) (by decide) (by decide)) (fun _ => rfl))))) (@pss_cons _ _ _ _ _ (@ps_set _ _ 7 _ _ _ _ sc.nd rfl (by first | exact Or.inl rfl | exact Or.inr rfl) (@pe_ix _ _ _ _ _ _ _ ix_any (@pv _ 1 _ _ (by rfl) (by first | exact Or.inl rfl | exact Or.inr (Or.inl rfl) | exact Or.inr (Or.inr rfl)) (by decide) (by decide)) (@pe_op _ _ _ _ _ _ _ _ op_mod (@pe_callD _ _ _ _ _ _ _ _ _ _ _ G__law_mixed (hr.mono (by omega)) (by rfl) passR0 (@pa_cons _ _ _ _ _ (@pe_ix _ _ _ _ _ _ _ ix_any (@pv _ 4 _ _ (by rfl) (by first | exact Or.inl rfl | exact Or.inr (Or.inl rfl) | exact Or.inr (Or.inr rfl)) (by decide) (by decide)) (@pv _ 5 _ _ (by rfl) (by first | exact Or.inl rfl | exact Or.inr (Or.inl rfl) | exact Or.inr (Or.inr rfl)) (by decide) (by decide)) (fun _ _ => rfl)) (@pa_cons _ _ _ _ _ (@pe_op _ _ _ _ _ _ _ _ op_add (@pv _ 5 _ _ (by rfl) (by first | exact Or.inl rfl | exact Or.inr (Or.inl rfl) | exact Or.inr (Or.inr rfl)) (by decide) (by decide)) (@pe_int _ _ _ _)) (@pa_nil _) (by rfl)) (by rfl)) (by decide) (by rfl) (by rfl)) (@pe_callB _ _ _ _ _ _ _ _ _ call_lenA (by rfl) B.len bt_len (@pa_cons _ _ _ _ _ (@pv _ 1 _ _ (by rfl) (by first | exact Or.inl rfl | exact Or.inr (Or.inl rfl) | exact Or.inr (Or.inr rfl)) (by decide) (by decide)) (@pa_nil _) (by rfl)) (by decide) (by decide) (by rfl) (by rfl))) (fun _ _ => rfl)) (by rfl) (by first | exact .inl rfl | exact .inr rfl | assumption)) (@pss_one _ _ _ (@ps_set _ _ 8 _ _ _ _ sc.nd rfl (by first | exact Or.inl rfl | exact Or.inr rfl) (@pe_callB _ _ _ _ _ _ _ _ _ (call_max2 rfl) (by rfl) B.max bt_max (@pa_cons _ _ _ _ _ (@pe_int _ _ _ _) (@pa_cons _ _ _ _ _ (@pe_op _ _ _ _ _ _ _ _ op_sub (@pe_op _ _ _ _ _ _ _ _ op_add (@pe_ix _ _ _ _ _ _ _ ix_any (@pv _ 7 _ _ (by rfl) (by first | exact Or.inl rfl | exact Or.inr (Or.inl rfl) | exact Or.inr (Or.inr rfl)) (by decide) (by decide)) (@pe_int _ _ _ _) (fun _ _ => rfl)) (@pe_ix _ _ _ _ _ _ _ ix_any (@pv _ 7 _ _ (by rfl) (by first | exact Or.inl rfl | exact Or.inr (Or.inl rfl) | exact Or.inr (Or.inr rfl)) (by decide) (by decide)) (@pe_int _ _ _ _) (fun _ _ => rfl))) (@pv _ 6 _ _ (by rfl) (by first | exact Or.inl rfl | exact Or.inr (Or.inl rfl) | exact Or.inr (Or.inr rfl)) (by decide) (by decide))) (@pa_nil _) (by rfl)) (by rfl)) (by decide) (by decide) (by rfl) (by rfl)) (by rfl) (by first | exact .inl rfl | exact .inr rfl | assumption)))) (@pss_nil _)) (@pss_cons _ _ _ _ _ (@ps_if _ _ _ _ _ _ _ _ (@pt_cmpR _ _ _ _ _ _ _ _ op_lt (@pv _ 5 _ _ (by rfl) (by first | exact Or.inl rfl | exact Or.inr (Or.inl rfl) | exact Or.inr (Or.inr rfl)) (by decide) (by decide)) (@pe_int _ _ _ _) (nomark _)) (@pss_one _ _ _ (@ps_set _ _ 8 _ _ _ _ sc.nd rfl (by first | exact Or.inl rfl | exact Or.inr rfl) (@pe_op _ _ _ _ _ _ _ _ op_sub (@pe_int _ _ _ _) (@pv _ 6 _ _ (by rfl) (by first | exact Or.inl rfl | exact Or.inr (Or.inl rfl) | exact Or.inr (Or.inr rfl)) (by decide) (by decide))) (by rfl) (by first | exact .inl rfl | exact .inr rfl | assumption))) (@pss_nil _)) (@pss_cons _ _ _ _ _ (@ps_set _ _ 9 _ _ _ _ sc.nd rfl (by first | exact Or.inl rfl | exact Or.inr rfl) (@pe_cmpR _ _ _ _ _ _ _ _ (op_notInD hr.units) (@pe_non _ _ _) (@pe_slice _ _ _ _ _ _ _ _ _ _ (sl_listK (K := K) rfl) (@pv _ 2 _ _ (by rfl) (by first | exact Or.inl rfl | exact Or.inr (Or.inl rfl) | exact Or.inr (Or.inr rfl)) (by decide) (by decide)) (@po_some _ _ _ (@pv _ 6 _ _ (by rfl) (by first | exact Or.inl rfl | exact Or.inr (Or.inl rfl) | exact Or.inr (Or.inr rfl)) (by decide) (by decide))) (@po_some _ _ _ (@pe_op _ _ _ _ _ _ _ _ op_add (@pv _ 6 _ _ (by rfl) (by first | exact Or.inl rfl | exact Or.inr (Or.inl rfl) | exact Or.inr (Or.inr rfl)) (by decide) (by decide)) (@pv _ 8 _ _ (by rfl) (by first | exact Or.inl rfl | exact Or.inr (Or.inl rfl) | exact Or.inr (Or.inr rfl)) (by decide) (by decide))))) (by with_unfolding_all rfl)) (by rfl) (by first | exact .inl rfl | exact .inr rfl | assumption)) (@pss_cons _ _ _ _ _ (@ps_set _ _ 10 _ _ _ _ sc.nd rfl (by first | exact Or.inl rfl | exact Or.inr rfl) (@pe_callD _ _ _ _ _ _ _ _ _ _ _ G_covers (hr.mono (by omega)) (by rfl) passR0 (@pa_cons _ _ _ _ _ (@pv _ 3 _ _ (by rfl) (by first | exact Or.inl rfl | exact Or.inr (Or.inl rfl) | exact Or.inr (Or.inr rfl)) (by decide) (by decide)) (@pa_cons _ _ _ _ _ (@pv _ 6 _ _ (by rfl) (by first | exact Or.inl rfl | exact Or.inr (Or.inl rfl) | exact Or.inr (Or.inr rfl)) (by decide) (by decide)) (@pa_cons _ _ _ _ _ (@pv _ 8 _ _ (by rfl) (by first | exact Or.inl rfl | exact Or.inr (Or.inl rfl) | exact Or.inr (Or.inr rfl)) (by decide) (by decide)) (@pa_nil _) (by rfl)) (by rfl)) (by rfl)) (by decide) (by rfl) (by rfl)) (by rfl) (by first | exact .inl rfl | exact .inr rfl | assumption)) (@pss_one _ _ _ (@ps_if _ _ _ _ _ _ _ _ (@PW.pt _ _ _ (@pw_or _ _ _ _ _ _ _ (@pt_not _ _ _ _ (@pt_val _ _ _ (@pe_callB _ _ _ _ _ _ _ _ _ call_isiN (by rfl) B.isinstance bt_isinstance (@pa_cons _ _ _ _ _ (@pv _ 10 _ _ (by rfl) (by first | exact Or.inl rfl | exact Or.inr (Or.inl rfl) | exact Or.inr (Or.inr rfl)) (by decide) (by decide)) (@pa_cons _ _ _ _ _ (@pe_bltn _ _ (.ty "bool") _ _ (by rfl) B.bool bt_bool rfl (by decide) (by decide)) (@pa_nil _) (by rfl)) (by rfl)) (by decide) (by decide) (by rfl) (by rfl)) (by intro _; rfl))) (@pw_or1 _ _ _ _ (@pt_cmpR _ _ _ _ _ _ _ _ (op_neD hr.units) (@pv _ 10 _ _ (by rfl) (by first | exact Or.inl rfl | exact Or.inr (Or.inl rfl) | exact Or.inr (Or.inr rfl)) (by decide) (by decide)) (@pv _ 9 _ _ (by rfl) (by first | exact Or.inl rfl | exact Or.inr (Or.inl rfl) | exact Or.inr (Or.inr rfl)) (by decide) (by decide)) (nomark _))))) (@pss_one _ _ _ (@ps_ret _ _ _ _ (@pe_bl _ _ _ _))) (@pss_nil _))))))))))) (by intro _; rfl)) (@pss_cons _ _ _ _ _ (@ps_set _ _ 9 _ _ _ _ sc.nd rfl (by first | exact Or.inl rfl | exact Or.inr rfl) (@pe_sortset _ _ _ _ _ _ _ rfl (by rfl) B.sorted (by rfl) T.b_set (@pe_comp _ _ "_law_one" _ _ _ _ _ _ _ _ _ rfl rfl rfl rfl noH (compSc_of (by kernel_rfl)) (@pi_list _ _ _ _ (@pv _ 1 _ _ (by rfl) (by first | exact Or.inl rfl | exact Or.inr (Or.inl rfl) | exact Or.inr (Or.inr rfl)) (by decide) (by decide))) (fun _ _ _ _ => (@pts_one _ _ _ (@pt_cmpR _ _ _ _ _ _ _ _ op_notN (@pe_ix _ _ _ _ _ _ _ ix_any (@pk _ 0 _ _ (by kernel_rfl) (by kernel_rfl) (by decide) (by decide)) (@pe_int _ _ _ _) (fun _ _ => rfl)) (@pe_non _ _ _) (nomark _)))) (fun _ _ _ _ => (@pe_ix _ _ _ _ _ _ _ ix_any (@pk _ 0 _ _ (by kernel_rfl) (by kernel_rfl) (by decide) (by decide)) (@pe_int _ _ _ _) (fun _ _ => rfl))) (by intro _; rfl)) (by rfl) (by rfl) (by exact fun _ => rfl)) (by rfl) (by first | exact .inl rfl | exact .inr rfl | assumption)) (@pss_cons _ _ _ _ _ (@ps_set _ _ 11 _ _ _ _ sc.nd rfl (by first | exact Or.inl rfl | exact Or.inr rfl) (@pe_callD _ _ _ _ _ _ _ _ _ _ _ G_names_of (hr.mono (by omega)) (by rfl) passR0 (@pa_cons _ _ _ _ _ (@pv _ 3 _ _ (by rfl) (by first | exact Or.inl rfl | exact Or.inr (Or.inl rfl) | exact Or.inr (Or.inr rfl)) (by decide) (by decide)) (@pa_nil _) (by rfl)) (by decide) (by rfl) (by rfl)) (by rfl) (by first | exact .inl rfl | exact .inr rfl | assumption)) (@pss_cons _ _ _ _ _ (@ps_if _ _ _ _ _ _ _ _ (@PW.pt _ _ _ (@pw_or _ _ _ _ _ _ _ (@pt_not _ _ _ _ (@pt_val _ _ _ (@pe_callB _ _ _ _ _ _ _ _ _ call_isiN (by rfl) B.isinstance bt_isinstance (@pa_cons _ _ _ _ _ (@pv _ 11 _ _ (by rfl) (by first | exact Or.inl rfl | exact Or.inr (Or.inl rfl) | exact Or.inr (Or.inr rfl)) (by decide) (by decide)) (@pa_cons _ _ _ _ _ (@pe_bltn _ _ (.ty "list") _ _ (by rfl) B.list bt_list rfl (by decide) (by decide)) (@pa_nil _) (by rfl)) (by rfl)) (by decide) (by decide) (by rfl) (by rfl)) (by intro _; rfl))) (@pw_or1 _ _ _ _ (@pt_cmpR _ _ _ _ _ _ _ _ (op_neD hr.units) (@pv _ 11 _ _ (by rfl) (by first | exact Or.inl rfl | exact Or.inr (Or.inl rfl) | exact Or.inr (Or.inr rfl)) (by decide) (by decide)) (@pv _ 9 _ _ (by rfl) (by first | exact Or.inl rfl | exact Or.inr (Or.inl rfl) | exact Or.inr (Or.inr rfl)) (by decide) (by decide)) (nomark _))))) (@pss_one _ _ _ (@ps_ret _ _ _ _ (@pe_bl _ _ _ _))) (@pss_nil _)) (@pss_cons _ _ _ _ _ (@ps_expr _ _ _ _ (@pe_bm _ _ _ _ _ _ _ _ _ _ _ _ PySem.F.plainAttrs_list PySem.F.slot_list_append PySem.F.type_list_append mt_append (@pv _ 11 _ _ (by rfl) (by first | exact Or.inl rfl | exact Or.inr (Or.inl rfl) | exact Or.inr (Or.inr rfl)) (by decide) (by decide)) (@pa_cons _ _ _ _ _ (@pe_str _ _ _ _) (@pa_nil _) (by rfl)) (by rfl) (by rfl) (by rfl) (by rfl) (by rfl)) (by rfl)) (@pss_one _ _ _ (@ps_ret _ _ _ _ (@pe_and _ _ _ _ _ _ _ (@pe_cmpR _ _ _ _ _ _ _ _ (op_eqD hr.units) (@pe_callD _ _ _ _ _ _ _ _ _ _ _ G_names_of (hr.mono (by omega)) (by rfl) passR0 (@pa_cons _ _ _ _ _ (@pv _ 3 _ _ (by rfl) (by first | exact Or.inl rfl | exact Or.inr (Or.inl rfl) | exact Or.inr (Or.inr rfl)) (by decide) (by decide)) (@pa_nil _) (by rfl)) (by decide) (by rfl) (by rfl)) (@pv _ 9 _ _ (by rfl) (by first | exact Or.inl rfl | exact Or.inr (Or.inl rfl) | exact Or.inr (Or.inr rfl)) (by decide) (by decide)) (nomark _)) (@pe_one _ _ _ _ _ (@pe_cmpR _ _ _ _ _ _ _ _ (op_eqD hr.units) (@pv _ 3 _ _ (by rfl) (by first | exact Or.inl rfl | exact Or.inr (Or.inl rfl) | exact Or.inr (Or.inr rfl)) (by decide) (by decide)) (@pv _ 1 _ _ (by rfl) (by first | exact Or.inl rfl | exact Or.inr (Or.inl rfl) | exact Or.inr (Or.inr rfl)) (by decide) (by decide)) (nomark _))))))))))))))), ?_⟩
    obtain ⟨L, hL, hs⟩ := scr_start hS hO
    clear hO
    refine seqK fun M1 K1 => ?_
    walk_at "ge"
    refine ⟨a, ns, L, rfl, hL, hs, hlen, fun l ws L1 H1 hl1 s1 hp hw20 => ?_⟩
    walk_at "ge"
    refine K1.use ?_
    walk_at "cl"
    clear K1 hL
    have hp1 := hp.mono (M' := (l, HO.lst (sRefs ws)) :: L1) fun c hc => List.mem_cons_of_mem _ hc
    refine seqK fun M1 K1 => ?_
    walk_at "ge"
    refine ⟨l, ws, _, rfl, hl1, List.mem_cons_self, hp1.c, hp.v, hp.e, fun sv sts L2 H2 hl2 s2 hst => ?_⟩
    walk_at "ge"
    refine K1.use ?_
    walk_at "cl"
    clear K1 hl1
    have c_l := hl2.get (List.mem_cons_of_mem _ (s2 _ List.mem_cons_self))
    refine seqK fun M1 K1 => ?_
    walk_at "ge"
    rename_i hd H3 _ hl3 _
    refine K1.use ?_
    walk_at "cl"
    clear K1 hl2 c_l
    refine seqK fun M1 K1 => ?_
    have hs3 : Scr K ((hd, HO.lst (sRefs ws)) :: (sv, HO.lst (stVs sts)) :: L2) a (ns.map V.int) := hs.mono fun c hc => List.mem_cons_of_mem _ (List.mem_cons_of_mem _ (s2 _ (List.mem_cons_of_mem _ (s1 _ hc))))
    have hsq := hs3.seq hl3
    obtain ⟨cs, hcs, hcl, hmem⟩ := cut_intsM ns none (some 60)
    have hc60 : (cutV (ns.map V.int) none (some 60)).length ≤ 60 := cutV_le _ 60
    walk_at "ge"
    rename_i so H5 _ hl5 _
    rw [hcs] at hl5 hc60
    rw [List.length_map] at hc60
    refine K1.use ?_
    walk_at "cl"
    clear K1 hsq
    have hl5' : Led H5 ((so, HO.lst ((0 :: 255 :: cs).map V.int)) :: _) := hl5
    have hl6 : Led H5 ((so, HO.lst ((0 :: 255 :: cs).map V.int)) :: (hd, HO.lst (sRefs ws)) :: (sv, HO.lst (stVs sts)) :: L2) := hl5'.wk (by walk_at "sp")
    have inv : Inv11 K ((so, HO.lst ((0 :: 255 :: cs).map V.int)) :: (hd, HO.lst (sRefs ws)) :: (sv, HO.lst (stVs sts)) :: L2) a l sv hd so ns (0 :: 255 :: cs) ws sts :=
      ⟨hs3.mono fun c hc => List.mem_cons_of_mem _ hc, List.mem_cons_of_mem _ (List.mem_cons_of_mem _ (List.mem_cons_of_mem _ (s2 _ List.mem_cons_self))), List.mem_cons_of_mem _ List.mem_cons_self, hp1.mono fun c hc => List.mem_cons_of_mem _ (List.mem_cons_of_mem _ (List.mem_cons_of_mem _ (s2 _ hc))), List.mem_cons_of_mem _ (List.mem_cons_of_mem _ List.mem_cons_self), hst.mono fun c hc => List.mem_cons_of_mem _ (List.mem_cons_of_mem _ (List.mem_cons_of_mem _ hc)), List.mem_cons_self⟩
    generalize (so, HO.lst ((0 :: 255 :: cs).map V.int)) :: (hd, HO.lst (sRefs ws)) :: (sv, HO.lst (stVs sts)) :: L2 = M0 at inv hl6
    clear hl5 hl5' hl3 s1 s2 hs3 hs hst hp hp1 hcs hmem hcl
    have hx62 : (0 :: 255 :: cs).length ≤ 62 := by simp; omega
    generalize 0 :: 255 :: cs = xs at inv hx62
    refine seqK fun M1 K1 => ?_
    refine forR1 fun Lr hLr => ?_
    have c_o := hl6.get inv.io
    walk_at "ge"
    rw [List.length_map]
    refine ⟨_, rfl, by omega, by omega, hLr.use ?_⟩
    clear hLr c_o
    rw [Int.toNat_natCast]
    refine loopR (fun i σ H' => ∃ (M : Cells) (v1 v2 v3 v4 v5 v6 : Option V), Led H' M ∧ Inv11 K M a l sv hd so ns xs ws sts ∧ σ = [some (.ref a), some (.ref l), some (.ref sv), some (.ref hd), some (.ref so), v1, v2, v3, v4, v5, v6, none]) ⟨M0, _, _, _, _, _, _, hl6, inv, rfl⟩ ?_ ?_
    · clear hl6 inv K1 k
      rintro i σ H' hi ⟨M, v1, v2, v3, v4, v5, v6, hl', inv, rfl⟩
      have hlen2 := sRefs_len ws
      obtain ⟨x, hx⟩ : ∃ x, xs[i]? = some x := ⟨_, List.getElem?_eq_getElem hi⟩
      have hat : atI (xs.map V.int) (0 + (i : Int)) = some (.int x) := by rw [Int.zero_add]; exact atI_nat (by rw [List.getElem?_map, hx]; rfl)
      refine seqK fun M2 K2 => ?_
      have c_o := hl'.get inv.io
      have c_l := hl'.get inv.il
      walk_at "ge"
      refine K2.use ?_
      walk_at "cl"
      clear K2
      refine seqK fun M2 K2 => ?_
      have rest1 : ∀ (pg : Int) (v : Option V) (N : Cells) (H2 : Hp), 0 ≤ pg → pg ≤ 255 → Led H2 N → (∀ c ∈ M, c ∈ N) → M2 [some (.ref a), some (.ref l), some (.ref sv), some (.ref hd), some (.ref so), some (.int (0 + (i : Int))), some (.int pg), v, v4, v5, v6, none] H2 := by
        intro pg vo N H2 p0 p1 hl2 sb
        refine K2.use ?_
        clear K2 hl' c_o c_l
        replace inv := inv.mono sb
        clear sb
        obtain ⟨pn, rfl⟩ := Int.eq_ofNat_of_zero_le p0
        obtain ⟨e, hee⟩ : ∃ e, sts[pn]? = some e := ⟨_, List.getElem?_eq_getElem (by rw [inv.st.l]; omega)⟩
        have hatv : atI (stVs sts) ((pn : Nat) : Int) = some (steV e) := atI_nat (by unfold stVs; rw [List.getElem?_map, hee]; rfl)
        have hest : e.map (·.2) = stA (ws.map (·.2)) ((pn : Nat) : Int) := by
          rw [← inv.st.s pn (by omega)]
          unfold stP
          rw [List.getD_eq_getElem?_getD, hee]
          rfl
        rw [finP_st] at hest
        have hec : ∀ y, e = some y → (y.1, HO.tup (tV y.2)) ∈ N ∧ OkT4 y.2 := fun y hy => inv.st.c y (hy ▸ List.mem_of_getElem? hee)
        have i_v := inv.iv
        have c_v := hl2.get inv.iv
        refine seqK fun M2 K2 => ?_
        have rest2 : ∀ (N2 : Cells) (H3 : Hp), Led H3 N2 → (∀ c ∈ N, c ∈ N2) → M2 [some (.ref a), some (.ref l), some (.ref sv), some (.ref hd), some (.ref so), some (.int (0 + (i : Int))), some (.int ((pn : Nat) : Int)), vo, v4, v5, v6, none] H3 := by
          intro N2 H3 hl3 sb
          refine K2.use ?_
          clear K2 hl2 c_v i_v hec hest hatv hee
          replace inv := inv.mono sb
          clear sb
          have i_o := inv.io
          have c_o := hl3.get inv.io
          have c_l := hl3.get inv.il
          refine seqK fun M2 K2 => ?_
          walk_at "ge"
          refine ⟨x, _, rfl, by omega, by omega, fun d hd0 => ?_⟩
          walk_at "ge"
          obtain ⟨z, hz0, hz1, hz⟩ := at2w (t := (0 + (i : Int)) % 2) (by omega) (by omega)
          refine ixLH (by walk_at "cell") hz ?_
          rename Led _ _ => hl4
          walk_at "ge"
          refine ⟨_, _, rfl, ?_⟩
          rw [mne]
          have hmod0 := Int.emod_nonneg d (show min z (256 - ((pn : Nat) : Int)) ≠ 0 by omega)
          have hmod1 := Int.emod_lt_of_pos d (show 0 < min z (256 - ((pn : Nat) : Int)) by omega)
          walk_at "ge"
          obtain ⟨mn, hmn⟩ : ∃ z' : Int, 1 + d % min z (256 - ((pn : Nat) : Int)) = z' := ⟨_, rfl⟩
          have m1 : 1 ≤ mn := by omega
          have m2 : ((pn : Nat) : Int) + mn ≤ 256 := by omega
          rw [hmn]
          refine K2.use ?_
          walk_at "cl"
          clear K2 hmn hmod0 hmod1 hl3 c_o c_l hz
          have hl5 := hl4.tail
          clear hl4
          have c_o := hl5.get inv.io
          have c_l := hl5.get inv.il
          refine seqK fun M2 K2 => ?_
          have rest3 : ∀ (mn : Int) (v : Option V) (H5 : Hp), Led H5 N2 → 1 ≤ mn → ((pn : Nat) : Int) + mn ≤ 256 → M2 [some (.ref a), some (.ref l), some (.ref sv), some (.ref hd), some (.ref so), some (.int (0 + (i : Int))), some (.int ((pn : Nat) : Int)), v, some (.int mn), v5, v6, none] H5 := by
            clear m1 m2 mn
            clear hl5 c_o c_l
            intro mn ve H5 hl5 m1 m2
            have c_o := hl5.get inv.io
            have c_l := hl5.get inv.il
            refine K2.use ?_
            clear K2
            refine seqK fun M2 K2 => ?_
            have rest4 : ∀ (mn : Int), 1 ≤ mn → ((pn : Nat) : Int) + mn ≤ 256 → M2 [some (.ref a), some (.ref l), some (.ref sv), some (.ref hd), some (.ref so), some (.int (0 + (i : Int))), some (.int ((pn : Nat) : Int)), ve, some (.int mn), v5, v6, none] H5 := by
              clear m1 m2 mn
              intro mn m1 m2
              refine K2.use ?_
              clear K2
              obtain ⟨m0, rfl⟩ := Int.eq_ofNat_of_zero_le (show 0 ≤ mn by omega)
              have hfree := none_iff inv.st inv.pl.v (f := pn) (m := m0) (by omega)
              have e1 := stVs_cut sts pn m0 (by rw [inv.st.l]; omega)
              have hsub : ∀ x, some x ∈ (sts.drop pn).take m0 → some x ∈ sts := fun x hx => List.mem_of_mem_drop (List.mem_of_mem_take hx)
              have c_v := hl5.get inv.iv
              refine seqK fun M2 K2 => ?_
              walk_at "ge"
              rename Led _ _ => hl7
              rw [e1] at hl7
              refine inDH (neg := true) (d := .none) (ds := ((sts.drop pn).take m0).map datE) (b := !covB (ws.map (·.2)) ((pn : Nat) : Int) ((m0 : Nat) : Int)) (hl7.get List.mem_cons_self) (by rw [PySem.W.kqdP]; exact .non) (datEs fun x hx => hl7.get (List.mem_cons_of_mem _ (inv.st.c x (hsub x hx)).1)) rfl (fun e he => ?_) ?_ ?_
              · obtain ⟨y, hy, rfl⟩ := List.mem_map.mp he
                exact datE_ok (fun x hx => (inv.st.c x (hsub x (hx ▸ hy))).2) 6
              · rw [Bool.not_eq_true', ← hfree]
                constructor
                · intro h
                  exact List.mem_map.mpr ⟨none, h, rfl⟩
                · intro h
                  obtain ⟨y, hy, e⟩ := List.mem_map.mp h
                  rw [datE_iff.mp e] at hy
                  exact hy
              rw [if_pos rfl, Bool.not_not]
              walk_at "ge"
              refine K2.use ?_
              walk_at "cl"
              have hl8 := hl7.tail
              clear K2 hl7 hl5 c_v c_o c_l hfree e1 hsub
              refine seqK fun M2 K2 => ?_
              walk_at "ge"
              refine ⟨hd, ws, _, _, _, rfl, hl8, ⟨inv.ih, inv.pl.c, by omega⟩, fun N3 H6 hl9 s9 => ?_⟩
              walk_at "ge"
              refine K2.use ?_
              walk_at "cl"
              clear K2 hl8
              walk_at "ge"
              refine neBl _ ?_
              walk_at "ge"
              exact ⟨N3, _, _, _, _, _, _, hl9, inv.mono s9, rfl⟩
            clear K2
            walk_at "ge"
            · exact rest4 _ (by omega) (by omega)
            · exact rest4 _ m1 m2
          clear K2
          by_cases hpos : 0 < ws.length
          · have hd3 : ∀ d3 : Int, ∃ y : SrA, y ∈ ws ∧ atI (sRefs ws) (d3 % ((sRefs ws).length : Int)) = some (.ref y.1) := fun d3 => pickS ws d3 hpos
            walk_at "ge"
            · refine truL c_l ?_
              rw [sRefs_isE, show (!ws.isEmpty) = true by cases ws with | nil => cases hpos | cons _ _ => rfl]
              walk_at "ge"
              refine ⟨x, _, rfl, by omega, by omega, fun d3 _ => ?_⟩
              obtain ⟨y, hy, haty⟩ := hd3 d3
              have by_ := bndS inv.pl.v inv.pl.e hy
              have cy := hl5.get (inv.pl.c y hy).1
              unfold srV at cy
              walk_at "ge"
              refine ⟨_, _, rfl, ?_⟩
              rw [mxe]
              walk_at "ge"
              exact rest3 _ _ _ hl5 (by omega) (by omega)
            · exact rest3 _ _ _ hl5 m1 m2
          · walk_at "ge"
            · refine truL c_l ?_
              rw [sRefs_isE, show (!ws.isEmpty) = false by cases ws with | nil => rfl | cons _ _ => exact absurd (Nat.succ_pos _) hpos]
              walk_at "ge"
              exact rest3 _ _ _ hl5 m1 m2
            · exact rest3 _ _ _ hl5 m1 m2
        clear K2
        walk_at "ge"
        refine ⟨hd, ws, _, _, rfl, hl2, inv.ih, (fun y hy => (inv.pl.c y hy).1), fun hn => ?_, fun r y H3 hf hl3 => ?_⟩
        · walk_at "ge"
          refine ⟨none, e, _, rfl, hl2, (fun y hy => nomatch hy), hec, by rw [hest, hn]; rfl, fun H3 hl3 => ?_⟩
          walk_at "ge"
          exact rest2 _ _ hl3 fun c hc => hc
        · have c_v2 := hl3.get (List.mem_cons_of_mem _ inv.iv)
          have oky := (inv.pl.c y (List.mem_of_find?_eq_some hf)).2
          walk_at "ge"
          refine ⟨some (r, stS y.2 ((pn : Nat) : Int)), e, _, rfl, hl3, (fun z hz => by cases hz; exact ⟨List.mem_cons_self, oky.1, oky.2.1⟩), (fun z hz => ⟨List.mem_cons_of_mem _ (hec z hz).1, (hec z hz).2⟩), by rw [hest, hf]; rfl, fun H4 hl4 => ?_⟩
          walk_at "ge"
          exact rest2 _ _ hl4 fun c hc => List.mem_cons_of_mem _ hc
      clear K2
      by_cases hpos : 0 < ws.length
      · obtain ⟨y, hy, haty⟩ := pickS ws (x / 512) hpos
        have by_ := bndS inv.pl.v inv.pl.e hy
        have cy := hl'.get (inv.pl.c y hy).1
        unfold srV at cy
        walk_at "ge"
        · refine truL c_l ?_
          rw [sRefs_isE, show (!ws.isEmpty) = true by cases ws with | nil => cases hpos | cons _ _ => rfl]
          walk_at "ge"
          obtain ⟨z, hz⟩ := at4z (a0 := y.2.f - 1) (a1 := y.2.f) (a2 := y.2.f + y.2.m - 1) (a3 := y.2.f + y.2.m) (t := (0 + (i : Int)) % 4) (by omega) (by omega)
          refine ixLH (by walk_at "cell") hz ?_
          rename Led _ _ => hl3
          walk_at "ge"
          refine ⟨_, _, rfl, ?_⟩
          rw [mne]
          walk_at "ge"
          refine ⟨_, _, rfl, ?_⟩
          rw [mxe]
          walk_at "ge"
          exact rest1 _ _ _ _ (by omega) (by omega) hl3 fun c hc => List.mem_cons_of_mem _ hc
        · exact rest1 _ _ _ _ (by omega) (by omega) hl' fun c hc => hc
      · walk_at "ge"
        · refine truL c_l ?_
          rw [sRefs_isE, show (!ws.isEmpty) = false by cases ws with | nil => rfl | cons _ _ => exact absurd (Nat.succ_pos _) hpos]
          walk_at "ge"
          exact rest1 _ _ _ _ (by omega) (by omega) hl' fun c hc => hc
        · exact rest1 _ _ _ _ (by omega) (by omega) hl' fun c hc => hc
    · clear hl6 inv
      rintro σ H' ⟨M, v1, v2, v3, v4, v5, v6, hl', inv, rfl⟩
      refine K1.use ?_
      clear K1
      have hokn := names_ok inv.pl.c
      have c_l := hl'.get inv.il
      refine seqK fun M1 K1 => ?_
      walk_at "ge"
      refine sortSetI fun MM hM => ?_
      refine compL fun Lc hLc => ?_
      walk_at "ge"
      refine ⟨l, rfl, ⟨_, SqL.of c_l⟩, hLc.use ?_⟩
      clear hLc
      refine compFiltM ws (fun x => V.ref x.1) (fun x => nmV x.2.nm) (fun x => x.2.nm.isSome) hl' inv.il (by omega) (fun y H2 R q hy hl2 hR => ?_) (fun y H2 R q hy hp hl2 hR => ?_) (fun r H2 hl2 => ?_)
      · have cy := hl2.get (List.mem_cons_of_mem _ (inv.pl.c y hy).1)
        unfold srV at cy
        walk_at "ge"
        rw [nmV_some]
        exact hR _ hl2
      · have cy := hl2.get (List.mem_cons_of_mem _ (inv.pl.c y hy).1)
        unfold srV at cy
        walk_at "ge"
        exact hR _ hl2
      rw [names_vals] at hl2
      refine hM.use ⟨r, _, rfl, hl2.get List.mem_cons_self, by have := names_len ws; omega, fun du ms hu nd hm sd => ?_⟩
      have hl3 := hl2.new (o := .lst (ms.map V.str)) hu
      generalize upd H2 du (.lst (ms.map V.str)) = H3 at hl3 ⊢
      have nm1 : NmOf (ws.map (·.2)) ms := ⟨nd, sd, hm⟩
      have okm : ∀ z ∈ ms, OkZ z := fun z hz => hokn z ((hm z).mp hz)
      walk_at "ge"
      refine K1.use ?_
      walk_at "cl"
      clear K1 hl2 hl' c_l
      have upM : ∀ c ∈ M, c ∈ (du, HO.lst (ms.map V.str)) :: (r, HO.lst ((namesS (ws.map (·.2))).map V.str)) :: M := fun c hc => List.mem_cons_of_mem _ (List.mem_cons_of_mem _ hc)
      have i_d : (du, HO.lst (ms.map V.str)) ∈ (du, HO.lst (ms.map V.str)) :: (r, HO.lst ((namesS (ws.map (·.2))).map V.str)) :: M := List.mem_cons_self
      replace inv := inv.mono upM
      clear upM
      generalize (du, HO.lst (ms.map V.str)) :: (r, HO.lst ((namesS (ws.map (·.2))).map V.str)) :: M = M5 at *
      refine seqK fun M1 K1 => ?_
      walk_at "ge"
      refine ⟨hd, ws, _, rfl, hl3, inv.ih, (fun y hy => (inv.pl.c y hy).1), by omega, fun u ms2 N H4 nm2 hl4 s4 => ?_⟩
      obtain rfl := nm2.uniq nm1
      walk_at "ge"
      refine K1.use ?_
      walk_at "cl"
      clear K1 hl3
      have c_u := hl4.get List.mem_cons_self
      refine seqK fun M1 K1 => ?_
      walk_at "ge"
      refine neDH (b := true) (datZ c_u) (datZ (hl4.get (List.mem_cons_of_mem _ (s4 _ i_d)))) (datZ_ok okm) (datZ_ok okm) (iff_of_true rfl rfl) ?_
      walk_at "ge"
      refine K1.use ?_
      walk_at "cl"
      clear K1
      have hml : ms2.length ≤ 20 := by
        have h1 := names_len ws
        have h2 := nd.length_le_of_subset fun z hz => (hm z).mp hz
        omega
      refine seqK fun M1 K1 => ?_
      walk_at "ge"
      refine ⟨tyVL c_u, ?_⟩
      walk_at "ge"
      refine appH c_u (by rw [List.length_map]; omega) ?_
      have hl5 := hl4.put (o' := .lst (ms2.map V.str ++ [.str (Str.ofString "z")])) rfl rfl
      generalize upd H4 u (.lst (ms2.map V.str ++ [.str (Str.ofString "z")])) = H5 at hl5 ⊢
      walk_at "ge"
      refine K1.use ?_
      walk_at "cl"
      clear K1 hl4 c_u
      walk_at "ge"
      refine ⟨hd, ws, _, rfl, hl5, List.mem_cons_of_mem _ (s4 _ inv.ih), (fun y hy => List.mem_cons_of_mem _ (s4 _ (inv.pl.c y hy).1)), by omega, fun u3 ms3 N3 H6 nm3 hl6 s6 => ?_⟩
      obtain rfl := nm3.uniq nm1
      have up : ∀ c ∈ M5, c ∈ (u3, HO.lst (ms3.map V.str)) :: N3 := fun c hc => List.mem_cons_of_mem _ (s6 _ (List.mem_cons_of_mem _ (s4 _ hc)))
      walk_at "ge"
      refine eqDH (b := true) (datZ (hl6.get List.mem_cons_self)) (datZ (hl6.get (up _ i_d))) (datZ_ok okm) (datZ_ok okm) (iff_of_true rfl rfl) ?_
      walk_at "ge"
      refine eqDH (b := true) (datL (hl6.get (up _ inv.ih)) fun z hz => hl6.get (up _ (inv.pl.c z hz).1)) (datL (hl6.get (up _ inv.il)) fun z hz => hl6.get (up _ (inv.pl.c z hz).1)) (datL_ok fun z hz => (inv.pl.c z hz).2) (datL_ok fun z hz => (inv.pl.c z hz).2) (iff_of_true rfl rfl) ?_
      walk_at "ge"
      exact k _
end
section
variable {P : Program} {w : World} {K : PySem.W.Frag} {mg : Str → Option Value} {base : Heap}
theorem ok_all {f : Addr} {fd : FuncData} (F : Fun K "law" "law" s_law f fd) (B : Blt mg) (T : Txt K mg ) : FnOk P w K mg base (CXR P w) 5 f fd ["_law_script"] (spLawB K) := by
  have g_end := ok_end (P := P) (w := w) (base := base) T.d_end_of T
  have g_fpg := ok_fpg (P := P) (w := w) (base := base) T.d_file_page_at T
  have g_joins := ok_ljoins (P := P) (w := w) (base := base) T.d_l_joins B T
  have g_state_at := ok_state_at (P := P) (w := w) (base := base) T.d_state_at B T g_end g_fpg
  have g_cut := ok_cut (P := P) (w := w) (base := base) T.d_cut B T g_end g_fpg
  have g_covers := ok_covers (P := P) (w := w) (base := base) T.d_covers B T g_cut
  have g_names := ok_names (P := P) (w := w) (base := base) T.d_names_of B T
  have g_cell := ok_cell_at (P := P) (w := w) (base := base) T.d_l_cell_at B
  have g_words := ok_words (P := P) (w := w) (base := base) T.d_l_words B T
  have g_mixed := ok_mixed (P := P) (w := w) (base := base) T.d_l_mixed T
  have g_state := ok_state (P := P) (w := w) (base := base) T.d_l_state_by B T g_mixed
  have g_stretch := ok_stretch (P := P) (w := w) (base := base) T.d_l_stretch_by B T g_cell g_mixed g_state g_joins
  have g_plan := ok_planby (P := P) (w := w) (base := base) T.d_l_plan_by B T g_cell g_words g_stretch
  have g_states := ok_states (P := P) (w := w) (base := base) T.d_l_states_of B T
  have g_isst := ok_isstate (P := P) (w := w) (base := base) T.d_l_is_state B T
  exact ok_law F B T g_mixed g_plan g_states g_state_at g_covers g_names g_isst
end
end My
set_option Elab.async false
set_option linter.all false
set_option maxRecDepth 100000
open PySem PySem.W PyProof.Rows
set_option maxRecDepth 100000 in
set_option maxHeartbeats 0 in
theorem PySem.Challenge.cw_paneworks_k11_states_holds : PySem.Challenge.rw_paneworks_k11_states.Holds := by
  w_on; o_law; k_head; (case hw => w_witness2)
  k_fill
  refine L2.law_walkB (l := PySem.Challenge.rw_paneworks_k11_states) (k := 5) (x := "_law_script") rfl rfl ⟨rfl, by decide, by decide⟩ (fun w h Y => PySem.W.kIn_of Y) ?F
  case F =>
    intro w mg fa h KX G hmg
    have B : L2.Blt mg := by
      refine' L2.blt_mk KX G ?z0 ?z1 ?z2 ?z3 ?z4 ?z5 ?z6 ?z7 ?z8 ?z9 ?z10 ?z11 ?z12 ?z13 ?z14 ?z15 ?z16
      all_goals k_is
    have T : My.Txt (L2.KOf KX) mg  := by
      dsimp only [L2.KOf]
      refine' My.txt_mk KX G ?y1 ?y2 ?y3 ?y4 ?y5 ?y6 ?y7 ?y8 ?y9 ?y10 ?y11 ?y12 ?y13 ?y14 ?y15 ?y16 ?y17 ?y18 ?y19 ?y20 ?y21 ?y22 ?y23 ?y24 ?y25 ?y26 ?y27 ?y28 ?y29 ?y30 ?y31 ?y32 ?y33 ?y34 ?y35 ?y36 ?y37 ?y38 ?y39 ?y40 ?y41 ?y42 ?y43 ?y44 ?y45 ?y46 ?y47 ?y48 ?y49 ?y50 ?y51 ?y52 ?y53 ?y54 ?y55 ?y56 ?y57 ?y58 ?y59 ?y60 ?y61 ?y62 ?y63 ?y64 ?y65 ?y66 ?y67 ?y68 ?y69 ?y70
      (case y1 => first | k_is | kernel_rfl)
      (case y2 => first | k_is | kernel_rfl)
      (case y3 => first | k_is | kernel_rfl)
      (case y4 => first | k_is | kernel_rfl)
      (case y5 => first | k_is | kernel_rfl)
      (case y6 => first | k_is | kernel_rfl)
      (case y7 => first | k_is | kernel_rfl)
      (case y8 => first | k_is | kernel_rfl)
      (case y9 => first | k_is | kernel_rfl)
      (case y10 => first | k_is | kernel_rfl)
      (case y11 => first | k_is | kernel_rfl)
      (case y12 => first | k_is | kernel_rfl)
      (case y13 => first | k_is | kernel_rfl)
      (case y14 => first | k_is | kernel_rfl)
      (case y15 => first | k_is | kernel_rfl)
      (case y16 => first | k_is | kernel_rfl)
      (case y17 => first | k_is | kernel_rfl)
      (case y18 => first | k_is | kernel_rfl)
      (case y19 => first | k_is | kernel_rfl)
      (case y20 => first | k_is | kernel_rfl)
      (case y21 => first | k_is | kernel_rfl)
      (case y22 => first | k_is | kernel_rfl)
      (case y23 => first | k_is | kernel_rfl)
      (case y24 => first | k_is | kernel_rfl)
      (case y25 => first | k_is | kernel_rfl)
      (case y26 => first | k_is | kernel_rfl)
      (case y27 => first | k_is | kernel_rfl)
      (case y28 => first | k_is | kernel_rfl)
      (case y29 => first | k_is | kernel_rfl)
      (case y30 => first | k_is | kernel_rfl)
      (case y31 => first | k_is | kernel_rfl)
      (case y32 => first | k_is | kernel_rfl)
      (case y33 => first | k_is | kernel_rfl)
      (case y34 => first | k_is | kernel_rfl)
      (case y35 => first | k_is | kernel_rfl)
      (case y36 => first | k_is | kernel_rfl)
      (case y37 => first | k_is | kernel_rfl)
      (case y38 => first | k_is | kernel_rfl)
      (case y39 => first | k_is | kernel_rfl)
      (case y40 => first | k_is | kernel_rfl)
      (case y41 => first | k_is | kernel_rfl)
      (case y42 => first | k_is | kernel_rfl)
      (case y43 => first | k_is | kernel_rfl)
      (case y44 => first | k_is | kernel_rfl)
      (case y45 => first | k_is | kernel_rfl)
      (case y46 => first | k_is | kernel_rfl)
      (case y47 => first | k_is | kernel_rfl)
      (case y48 => first | k_is | kernel_rfl)
      (case y49 => first | k_is | kernel_rfl)
      (case y50 => first | k_is | kernel_rfl)
      (case y51 => first | k_is | kernel_rfl)
      (case y52 => first | k_is | kernel_rfl)
      (case y53 => first | k_is | kernel_rfl)
      (case y54 => first | k_is | kernel_rfl)
      (case y55 => first | k_is | kernel_rfl)
      (case y56 => first | k_is | kernel_rfl)
      (case y57 => first | k_is | kernel_rfl)
      (case y58 => first | k_is | kernel_rfl)
      (case y59 => first | k_is | kernel_rfl)
      (case y60 => first | k_is | kernel_rfl)
      (case y61 => first | k_is | kernel_rfl)
      (case y62 => first | k_is | kernel_rfl)
      (case y63 => first | k_is | kernel_rfl)
      (case y64 => first | k_is | kernel_rfl)
      (case y65 => first | k_is | kernel_rfl)
      (case y66 => first | k_is | kernel_rfl)
      (case y67 => first | k_is | kernel_rfl)
      (case y68 => first | k_is | kernel_rfl)
      (case y69 => first | k_is | kernel_rfl)
      (case y70 => first | k_is | kernel_rfl)
    exact L2.law_F T.d_law hmg (fun _ _ _ _ _ _ _ => rfl) fun base f fd F => My.ok_all F B T
#print axioms PySem.Challenge.cw_paneworks_k11_states_holds

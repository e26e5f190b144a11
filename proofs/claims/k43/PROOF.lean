import PyProof.Rows.All
import Wide.All
import OpenK.AllK
import Wide.FinOn
import Lean
import PyProof.EqAt
import PyProof.EqKinds
import PyProof.TupleCall
import PyProof.Rows.SortWalk
import KE.KDictSum
import KE.LcSums
import KE.KEqDat
import KE.KRevIter
import PyProof.P3In
import PyProof.SliceStr2
import PyProof.MeetsStr
import PyProof.StrBlockI
import PyProof.StrWalks
import PyProof.FitsReplace
import PyProof.ListStr
import PyProof.ZipIter
import KE.KIntText
import KE.IntTextLaws
import PyProof.StrLawsIn
import PyProof.StrCalls2
import PyProof.Rows.CatFin
import PyProof.Rows.StrClose
import KE.IntTextText
import PyProof.StrLawsTight
import PyProof.StrLawsChain
import PyProof.Rows.StrItems
import PyProof.Rows.ReprOcc
import PyProof.Rows.SortStr
import PyProof.Rows.SetFrom
import PySem.Challenge.RW_paneworks_k43_sheets_counted
set_option Elab.async false
set_option compiler.extract_closed false
set_option linter.all false
set_option maxRecDepth 100000
namespace L2
open PySem PySem.Spec PyProof.Rows
abbrev Key := Sum Int Str
def keyIs : Key → Value → Bool
  | .inl k, v => Value.isInt k v
  | .inr x, v => Value.isStrOf x v
def keyH (w : World) : Key → Int
  | .inl k => hashInt k
  | .inr x => hashStr w x
theorem keyIs_shape : ∀ {k : Key} {v : Value}, keyIs k v = true → (∃ i t, k = Sum.inl i ∧ v = Value.int i t) ∨ (∃ x t, k = Sum.inr x ∧ v = Value.str x t)
  | .inl i, v, h => by
    obtain ⟨t, e⟩ := Value.isInt_shape (k := i) (v := v) h
    exact .inl ⟨i, t, rfl, e⟩
  | .inr x, v, h => by
    obtain ⟨t, e⟩ := Value.isStrOf_shape (x := x) (v := v) h
    exact .inr ⟨x, t, rfl, e⟩
theorem keyIs_int (i : Int) (t : Tok) : keyIs (.inl i) (.int i t) = true := by simp [keyIs, Value.isInt]
theorem keyIs_str (x : Str) (t : Tok) : keyIs (.inr x) (.str x t) = true := by simp [keyIs, Value.isStrOf]
theorem key_ll (a b : Int) : decide ((Sum.inl a : Key) = Sum.inl b) = (a == b) := by
  by_cases e : a = b
  · subst e; simp
  · have h : ¬ (Sum.inl a : Key) = Sum.inl b := fun q => e (Sum.inl.inj q)
    rw [decide_eq_false h]
    exact (beq_eq_false_iff_ne.mpr e).symm
theorem key_rr (a b : Str) : decide ((Sum.inr a : Key) = Sum.inr b) = decide (a = b) := by
  by_cases e : a = b
  · subst e; simp
  · have h : ¬ (Sum.inr a : Key) = Sum.inr b := fun q => e (Sum.inr.inj q)
    rw [decide_eq_false h, decide_eq_false e]
theorem key_lr (a : Int) (b : Str) : decide ((Sum.inl a : Key) = Sum.inr b) = false := decide_eq_false (fun q => nomatch q)
theorem key_rl (a : Str) (b : Int) : decide ((Sum.inr a : Key) = Sum.inl b) = false := decide_eq_false (fun q => nomatch q)
def mixKind (prog : Program) (w : World) : PySem.KeyKind prog w Key where
  is := keyIs
  hash := keyH w
  inj := fun v a b ha hb => by
    rcases keyIs_shape ha with ⟨i, t, rfl, rfl⟩ | ⟨x, t, rfl, rfl⟩
    · rcases keyIs_shape hb with ⟨j, u, rfl, e⟩ | ⟨y, u, rfl, e⟩
      · injection e with e1 _; rw [e1]
      · exact nomatch e
    · rcases keyIs_shape hb with ⟨j, u, rfl, e⟩ | ⟨y, u, rfl, e⟩
      · exact nomatch e
      · injection e with e1 _; rw [e1]
  byValue := fun k v h => by
    rcases keyIs_shape h with ⟨i, t, rfl, rfl⟩ | ⟨x, t, rfl, rfl⟩ <;> rfl
  pyHash := fun hv h => by
    rcases keyIs_shape hv with ⟨i, t, rfl, rfl⟩ | ⟨x, t, rfl, rfl⟩
    · exact wpAny_pyHash_int h
    · exact wpAny_pyHash_str h
  eqBool := fun hu hv h => by
    rcases keyIs_shape hu with ⟨i, t, rfl, rfl⟩ | ⟨x, t, rfl, rfl⟩
    · rcases keyIs_shape hv with ⟨j, u, rfl, rfl⟩ | ⟨y, u, rfl, rfl⟩
      · rw [key_ll] at h; exact wpAny_eqBool_int h
      · rw [key_lr] at h; exact SeqAt.EqAt.int_str i t y u _ _ _ _ h
    · rcases keyIs_shape hv with ⟨j, u, rfl, rfl⟩ | ⟨y, u, rfl, rfl⟩
      · rw [key_rl] at h; exact SeqAt.EqAt.str_int x t j u _ _ _ _ h
      · rw [key_rr] at h; exact wpAny_eqBool_str h
  «strs» := fun k x t v h => by
    rcases keyIs_shape h with ⟨i, u, rfl, e⟩ | ⟨y, u, rfl, e⟩
    · exact nomatch e
    · injection e with e1 _
      subst e1
      cases v <;> rfl
theorem mixKind_int (prog : Program) (w : World) (i : Int) (t : Tok) : (mixKind prog w).is (.inl i) (.int i t) = true := keyIs_int i t
theorem mixKind_str (prog : Program) (w : World) (x : Str) (t : Tok) : (mixKind prog w).is (.inr x) (.str x t) = true := keyIs_str x t
end L2
namespace L2
open PySem PySem.Spec PyProof.Rows
inductive V where
  | non | bl (b : Bool) | int (i : Int) | str (x : Str) | byt (b : Array UInt8) | flt (b : UInt64) | ref (a : Addr) | ty (n : String)
  deriving DecidableEq
def RelV : V → Value → Prop
  | .non, u => u = Value.none
  | .bl b, u => u = Value.bool b
  | .int i, u => ∃ t, u = Value.int i t
  | .str x, u => ∃ t, u = Value.str x t
  | .byt b, u => ∃ t, u = Value.bytes b t
  | .flt b, u => ∃ t, u = Value.float b t
  | .ref a, u => u = Value.ref a
  | .ty n, u => u = Value.type n
abbrev Vals : List V → List Value → Prop := Paired RelV
theorem Vals.length {xs : List V} {us : List Value} (r : Vals xs us) : xs.length = us.length := Paired.length r
theorem Vals.get : ∀ {xs : List V} {us : List Value} {i : Nat} {x : V}, Vals xs us → xs[i]? = some x → ∃ u, us[i]? = some u ∧ RelV x u
  | _, _, _, _, .nil, e => by simp at e
  | _, _, 0, _, .cons r _, e => by simp at e; subst e; exact ⟨_, rfl, r⟩
  | _, _, i + 1, x, .cons _ t, e => by
    obtain ⟨u, h1, h2⟩ := Vals.get (i := i) (x := x) t (by simpa using e)
    exact ⟨u, by simpa using h1, h2⟩
theorem Vals.set {x : V} {u : Value} (r : RelV x u) : ∀ {xs : List V} {us : List Value} (i : Nat), Vals xs us → Vals (xs.set i x) (us.set i u)
  | _, _, _, .nil => .nil
  | _, _, 0, .cons _ t => .cons r t
  | _, _, i + 1, .cons q t => .cons q (Vals.set r i t)
theorem Vals.append : ∀ {xs ys : List V} {us ws : List Value}, Vals xs us → Vals ys ws → Vals (xs ++ ys) (us ++ ws)
  | _, _, _, _, .nil, s => s
  | _, _, _, _, .cons r t, s => .cons r (Vals.append t s)
theorem Vals.take : ∀ {xs : List V} {us : List Value} (n : Nat), Vals xs us → Vals (xs.take n) (us.take n)
  | _, _, 0, _ => .nil
  | _, _, _ + 1, .nil => .nil
  | _, _, n + 1, .cons r t => .cons r (Vals.take n t)
theorem Vals.drop : ∀ {xs : List V} {us : List Value} (n : Nat), Vals xs us → Vals (xs.drop n) (us.drop n)
  | _, _, 0, r => r
  | _, _, _ + 1, .nil => .nil
  | _, _, n + 1, .cons _ t => Vals.drop n t
def RelO : Option V → Option Value → Prop
  | some v, some u => RelV v u
  | none, none => True
  | _, _ => False
def KV {κ : Type} : List (κ × V) → List (κ × Value) → Prop := Paired fun (p : κ × V) (q : κ × Value) => p.1 = q.1 ∧ RelV p.2 q.2
def kV : Key → V
  | .inl i => .int i
  | .inr x => .str x
inductive HO where
    | lst (xs : List V)
    | tup (xs : List V)
    | dK (kvs : List (Key × V)) | dT (kvs : List (List Key × V))
    | set (S : Int → Bool) (n : Nat)
    | ins (C dx : Addr) (fs : List (Str × V))
    | own (x : Addr)
    | xd (fs : List (Str × V))
    | met (f x : Addr)
    | rng (lo hi : Int)
    | frz (o : Obj) (u : HO)
    | tbl (ps : Array Value)
    | ext (φ : Heap → Prop)
abbrev Hp := Addr → Option HO
def upd (H : Hp) (a : Addr) (o : HO) : Hp := fun b => if b = a then some o else H b
theorem upd_same {H : Hp} {a : Addr} {o : HO} : upd H a o a = some o := by unfold upd; rw [if_pos rfl]
theorem upd_ne {H : Hp} {a b : Addr} {o : HO} (h : b ≠ a) : upd H a o b = H b := by unfold upd; rw [if_neg h]
theorem ne_of {H : Hp} {a b : Addr} {o u : HO} (h : H a = some o) (h' : H b = some u) (d : o ≠ u) : a ≠ b := by
  intro e; subst e; rw [h] at h'; exact d (Option.some.inj h')
theorem ne_of_none {H : Hp} {a b : Addr} {o : HO} (h : H a = some o) (h' : H b = none) : a ≠ b := by
  intro e; subst e; rw [h] at h'; cases h'
section
variable (P : Program) (w : World)
def ObjOk (H : Hp) (h : Heap) (a : Addr) : HO → Prop
  | .lst xs => xs.length ≤ sizeLine ∧ ∃ (its : List Value) (n : Nat), Vals xs its ∧ h.get? a = some { cls := .type "list", data := .seq its.toArray n }
  | .tup xs => xs.length ≤ sizeLine ∧ ∃ its : List Value, Vals xs its ∧ IsTup h a its.toArray
  | .dK kvs => kvs.length ≤ sizeLine ∧ (a == sysModules) = false ∧ ∃ vs, KV kvs vs ∧ h.DictOf (mixKind P w) a vs
  | .dT kvs => kvs.length ≤ sizeLine ∧ (a == sysModules) = false ∧ ∃ xs : List (List Key × Addr × Value),
      Paired (fun (p : List Key × V) (q : List Key × Addr × Value) => p.1 = q.1 ∧ H q.2.1 = some (.tup (p.1.map kV)) ∧ RelV p.2 q.2.2) kvs xs ∧
      ∃ o es ep, h.get? a = some o ∧ o.ExactDict ∧ o.data = .dict es ep ∧ es.toList = xs.map (entryOfKey (tupleKind (mixKind P w))) ∧ (xs.map (·.1)).Nodup
  | .set S n => h.SetOf (intKind P w) a S n
  | .ins C dx fs => H dx = some (.own a) ∧ fs.length ≤ 1000 ∧ dx ≠ a ∧ h.get? a = some (PySem.W.instObj C dx) ∧
      ∃ mA, h.Ns1 dx mA ∧ (∀ f, RelO (fs.lookup f) (mA f)) ∧ PySem.Within mA (fs.map (·.1))
  | .own _ => ∃ o, h.get? a = some o
  | .xd fs => ∃ mA, h.Ns1 a mA ∧ ∀ f, RelO (fs.lookup f) (mA f)
  | .rng lo hi => ∃ t u v, h.get? a = some { cls := .type "range", data := .fields #[.int lo t, .int hi u, .int 1 v] }
  | .frz o u => h.get? a = some o ∧ ObjOk H h a u
  | .tbl ps => h.get? a = some { cls := .none, data := .fields ps }
  | .met f x => h.get? a = some (PySem.W.methodObj (.ref f) (.ref x))
  | .ext φ => φ h ∧ (∃ o, h.get? a = some o) ∧ ∀ h1 h2 : Heap, φ h1 → (∀ o, h1.get? a = some o → h2.get? a = some o) → φ h2
def HOk (H : Hp) (h : Heap) : Prop := ∀ a o, H a = some o → ObjOk P w H h a o
end
section
variable {P : Program} {w : World} {H H' : Hp} {h h' : Heap} {a : Addr} {o : HO}
theorem ObjOk.lt (x : ObjOk P w H h a o) : a < h.objs.size := by
  cases o with
  | lst xs => obtain ⟨_, _, _, _, e⟩ := x; exact Heap.lt_size e
  | tup xs => obtain ⟨_, _, _, p⟩ := x; exact p.lt
  | dK kvs => obtain ⟨_, _, _, _, o, _, _, e, _⟩ := x; exact Heap.lt_size e
  | dT kvs => obtain ⟨_, _, _, _, o, _, _, e, _⟩ := x; exact Heap.lt_size e
  | set S n => obtain ⟨o, _, _, _, e, _⟩ := x; exact Heap.lt_size e
  | ins C dx fs => obtain ⟨_, _, _, e, _⟩ := x; exact Heap.lt_size e
  | own y => obtain ⟨_, e⟩ := x; exact Heap.lt_size e
  | xd fs => obtain ⟨_, ⟨_, _, _, e, _⟩, _⟩ := x; exact Heap.lt_size e
  | rng lo hi => obtain ⟨_, _, _, e⟩ := x; exact Heap.lt_size e
  | frz ob u => obtain ⟨e, _⟩ := x; exact Heap.lt_size e
  | tbl ps => exact Heap.lt_size (show h.get? a = some _ from x)
  | met f y => exact Heap.lt_size (show h.get? a = some _ from x)
  | ext φ => obtain ⟨_, ⟨_, e⟩, _⟩ := x; exact Heap.lt_size e
theorem Paired.mapP {α β : Type} {F G : α → β → Prop} : ∀ {l₁ : List α} {l₂ : List β}, Paired F l₁ l₂ → (∀ a b, F a b → G a b) → Paired G l₁ l₂
  | _, _, .nil, _ => .nil
  | _, _, .cons r t, f => .cons (f _ _ r) (Paired.mapP t f)
theorem ObjOk.stay (x : ObjOk P w H h a o) (k : ∀ b u, (b = a ∨ H b = some (.own a)) → h.get? b = some u → h'.get? b = some u)
    (ho : ∀ b, H b = some (.own a) → H' b = some (.own a)) (ht : ∀ b xs, H b = some (.tup xs) → H' b = some (.tup xs)) : ObjOk P w H' h' a o := by
  induction o with
  | lst xs => obtain ⟨z, its, n, r, e⟩ := x; exact ⟨z, its, n, r, k _ _ (.inl rfl) e⟩
  | tup xs => obtain ⟨z, its, r, ob, e, c⟩ := x; exact ⟨z, its, r, ob, k _ _ (.inl rfl) e, c⟩
  | dK kvs => obtain ⟨z, y, vs, r, ob, es, ep, e, c⟩ := x; exact ⟨z, y, vs, r, ob, es, ep, k _ _ (.inl rfl) e, c⟩
  | dT kvs =>
    obtain ⟨z, y, xs, r, ob, es, ep, e, c⟩ := x
    exact ⟨z, y, xs, Paired.mapP r fun p q z => ⟨z.1, ht _ _ z.2.1, z.2.2⟩, ob, es, ep, k _ _ (.inl rfl) e, c⟩
  | set S n => obtain ⟨ob, es, ep, t, e, c⟩ := x; exact ⟨ob, es, ep, t, k _ _ (.inl rfl) e, c⟩
  | ins C dx fs =>
    obtain ⟨d, z, ne, e, mA, ⟨od, es, ep, e2, c⟩, r⟩ := x
    exact ⟨ho _ d, z, ne, k _ _ (.inl rfl) e, mA, ⟨od, es, ep, k _ _ (.inr d) e2, c⟩, r⟩
  | own y => obtain ⟨ob, e⟩ := x; exact ⟨ob, k _ _ (.inl rfl) e⟩
  | xd fs => obtain ⟨mA, ⟨od, es, ep, e, c⟩, r⟩ := x; exact ⟨mA, ⟨od, es, ep, k _ _ (.inl rfl) e, c⟩, r⟩
  | rng lo hi => obtain ⟨t, u, v, e⟩ := x; exact ⟨t, u, v, k _ _ (.inl rfl) e⟩
  | frz ob u ih => obtain ⟨e, q⟩ := x; exact ⟨k _ _ (.inl rfl) e, ih q⟩
  | tbl ps =>
    have e : h.get? a = some { cls := .none, data := .fields ps } := x
    show h'.get? a = some { cls := .none, data := .fields ps }
    exact k a _ (.inl rfl) e
  | met f y =>
    have e : h.get? a = some (PySem.W.methodObj (.ref f) (.ref y)) := x
    show h'.get? a = some (PySem.W.methodObj (.ref f) (.ref y))
    exact k a _ (.inl rfl) e
  | ext φ => obtain ⟨p, ⟨o, e⟩, st⟩ := x; exact ⟨st _ _ p fun o q => k _ _ (.inl rfl) q, ⟨o, k _ _ (.inl rfl) e⟩, st⟩
theorem HOk.lt (x : HOk P w H h) (e : H a = some o) : a < h.objs.size := (x a o e).lt
theorem HOk.fresh (x : HOk P w H h) (e : h.objs.size ≤ a) : H a = none := by
  cases q : H a with
  | none => rfl
  | some u => exact absurd (Nat.lt_of_lt_of_le (x.lt q) e) (Nat.lt_irrefl _)
theorem HOk.kept (x : HOk P w H h) (k : ∀ b u, h.get? b = some u → h'.get? b = some u) : HOk P w H h' := fun a o e =>
  (x a o e).stay (fun b u _ q => k b u q) (fun _ q => q) fun _ _ q => q
theorem HOk.laid (x : HOk P w H h) (k : ∀ b u, h.get? b = some u → h'.get? b = some u) (hp : h.objs.size ≤ a) (new : ObjOk P w (upd H a o) h' a o) : HOk P w (upd H a o) h' := fun b u e => by
  have hn := x.fresh hp
  by_cases hb : b = a
  · subst hb; rw [upd_same] at e; cases e; exact new
  · rw [upd_ne hb] at e
    exact (x b u e).stay (fun c v _ q => k c v q) (fun c q => by rw [upd_ne (ne_of_none q hn)]; exact q) fun c xs q => by rw [upd_ne (ne_of_none q hn)]; exact q
end
def Rd (H : Hp) (a : Addr) (u : HO) : Prop := H a = some u ∨ ∃ o, H a = some (.frz o u)
theorem Rd.of {H : Hp} {a : Addr} {u : HO} (h : H a = some u) : Rd H a u := .inl h
theorem Rd.ok {P : Program} {w : World} {H : Hp} {h : Heap} {a : Addr} {u : HO} (r : Rd H a u) (x : HOk P w H h) : ObjOk P w H h a u := by
  rcases r with r | ⟨o, r⟩
  · exact x a u r
  · obtain ⟨_, q⟩ := x a _ r
    exact q
def Mut : Option HO → Prop
  | some (.lst _) => True
  | some (.dK _) => True
  | some (.dT _) => True
  | some (.set _ _) => True
  | some (.ins _ _ _) => True
  | some (.ext _) => True
  | _ => False
section
variable {P : Program} {w : World} {H : Hp} {h h' : Heap} {x e : Addr} {o' : HO}
theorem HOk.write (ok : HOk P w H h) (mu : Mut (H x)) (he : e = x ∨ H e = some (.own x)) (k : ∀ b u, b ≠ e → h.get? b = some u → h'.get? b = some u) (heo : ∃ u, h'.get? e = some u)
    (new : ObjOk P w (upd H x o') h' x o') : HOk P w (upd H x o') h' := fun b u q => by
  have nown : ∀ c y, H c = some (.own y) → c ≠ x := fun c y r z => by subst z; rw [r] at mu; exact mu
  have ntup : ∀ c xs, H c = some (.tup xs) → c ≠ x := fun c xs r z => by subst z; rw [r] at mu; exact mu
  by_cases hb : b = x
  · subst hb; rw [upd_same] at q; cases q; exact new
  · rw [upd_ne hb] at q
    by_cases hbe : b = e
    · have q' : H b = some (.own x) := by
        rcases he with z | z
        · exact absurd (hbe.trans z) hb
        · rw [hbe]; exact z
      rw [q] at q'; cases q'
      obtain ⟨v, hv⟩ := heo
      exact ⟨v, by rw [hbe]; exact hv⟩
    · refine (ok b u q).stay (fun c v hc r => k c v ?_ r) (fun c r => by rw [upd_ne (nown c b r)]; exact r) fun c xs r => by rw [upd_ne (ntup c xs r)]; exact r
      rcases hc with rfl | hc
      · exact hbe
      · rintro rfl
        rcases he with z | z
        · exact nown c b hc z
        · rw [hc] at z; cases z; exact hb rfl
end
structure Un (fs ex : List Addr) (H H' : Hp) (h h' : Heap) : Prop where
  keep : ∀ b o, h.get? b = some o → H b = none → b ∉ fs → b ∉ ex → h'.get? b = some o
  slot : ∀ b o, h.get? b = some o → H b = none → b ∈ fs → b ∉ ex → ∃ sl, h'.get? b = some { o with slots := sl }
  free : ∀ b o, h.get? b = some o → H b = none → b ∉ ex → H' b = none
  there : ∀ b o, h.get? b = some o → b ∉ ex → ∃ o', h'.get? b = some o'
  tups : ∀ b xs, H b = some (.tup xs) → H' b = some (.tup xs)
  frzs : ∀ b o u, H b = some (.frz o u) → H' b = some (.frz o u)
  tbls : ∀ b ps, H b = some (.tbl ps) → ∃ more, H' b = some (.tbl (ps ++ more))
section
variable {fs fs' ex ex' : List Addr} {H H1 H2 : Hp} {h h1 h2 h' : Heap} {a x e : Addr} {o : HO}
theorem Un.any (u : Un fs ex H H1 h h1) {b : Addr} {ob : Obj} (q : h.get? b = some ob) (n : H b = none) (hx : b ∉ ex) : ∃ sl, h1.get? b = some { ob with slots := sl } := by
  by_cases hb : b ∈ fs
  · exact u.slot b ob q n hb hx
  · exact ⟨ob.slots, u.keep b ob q n hb hx⟩
theorem Un.trans (a : Un fs ex H H1 h h1) (b : Un fs ex H1 H2 h1 h2) : Un fs ex H H2 h h2 where
  keep := fun c ob q n hc hx => b.keep c ob (a.keep c ob q n hc hx) (a.free c ob q n hx) hc hx
  slot := fun c ob q n hc hx => by
    obtain ⟨sl, e1⟩ := a.slot c ob q n hc hx
    obtain ⟨sl', e2⟩ := b.slot c _ e1 (a.free c ob q n hx) hc hx
    exact ⟨sl', e2⟩
  free := fun c ob q n hx => by
    obtain ⟨o', e1⟩ := a.there c ob q hx
    exact b.free c o' e1 (a.free c ob q n hx) hx
  there := fun c ob q hx => by
    obtain ⟨o', e1⟩ := a.there c ob q hx
    exact b.there c o' e1 hx
  tups := fun c xs q => b.tups c xs (a.tups c xs q)
  frzs := fun c ob xs q => b.frzs c ob xs (a.frzs c ob xs q)
  tbls := fun c ps q => by
    obtain ⟨m1, e1⟩ := a.tbls c ps q
    obtain ⟨m2, e2⟩ := b.tbls c _ e1
    exact ⟨m1 ++ m2, by rw [e2, Array.append_assoc]⟩
theorem Un.kept (k : ∀ b u, h.get? b = some u → h'.get? b = some u) : Un fs ex H H h h' :=
  ⟨fun b ob q _ _ _ => k b ob q, fun b ob q _ _ _ => ⟨ob.slots, k b ob q⟩, fun _ _ _ n _ => n, fun b ob q _ => ⟨ob, k b ob q⟩, fun _ _ q => q, fun _ _ _ q => q, fun _ ps q => ⟨#[], by rw [q]; simp⟩⟩
theorem Un.refl : Un fs ex H H h h := Un.kept fun _ _ q => q
theorem Un.laid (k : ∀ b u, h.get? b = some u → h'.get? b = some u) (hp : h.objs.size ≤ a) (hn : H a = none) : Un fs ex H (upd H a o) h h' where
  keep := fun b u q _ _ _ => k b u q
  slot := fun b u q _ _ _ => ⟨u.slots, k b u q⟩
  free := fun b u q n _ => by rw [upd_ne (Nat.ne_of_lt (Nat.lt_of_lt_of_le (Heap.lt_size q) hp))]; exact n
  there := fun b u q _ => ⟨u, k b u q⟩
  tups := fun b xs q => by rw [upd_ne (ne_of_none q hn)]; exact q
  frzs := fun b u xs q => by rw [upd_ne (ne_of_none q hn)]; exact q
  tbls := fun b ps q => ⟨#[], by rw [upd_ne (ne_of_none q hn), q]; simp⟩
theorem Un.write (mu : Mut (H x)) (he : e = x ∨ H e = some (.own x)) (k : ∀ b u, b ≠ e → h.get? b = some u → h'.get? b = some u) (heo : ∃ u, h'.get? e = some u) : Un fs ex H (upd H x o) h h' := by
  have hx : ∀ b, H b = none → b ≠ x := fun b n z => by subst z; rw [n] at mu; exact mu
  have hb : ∀ b, H b = none → b ≠ e := fun b n z => by
    subst z
    rcases he with r | r
    · exact hx b n r
    · rw [n] at r; cases r
  have hm : ∀ b u, H b = some u → ¬ Mut (some u) → b ≠ x := fun b u q nm z => by subst z; rw [q] at mu; exact nm mu
  refine ⟨fun b u q n _ _ => k b u (hb b n) q, fun b u q n _ _ => ⟨u.slots, k b u (hb b n) q⟩, fun b u q n _ => by rw [upd_ne (hx b n)]; exact n, fun b u q _ => ?_,
    fun b xs q => by rw [upd_ne (hm b _ q fun z => z)]; exact q, fun b u xs q => by rw [upd_ne (hm b _ q fun z => z)]; exact q, fun b ps q => ⟨#[], by rw [upd_ne (hm b _ q fun z => z), q]; simp⟩⟩
  by_cases hbe : b = e
  · subst hbe; exact heo
  · exact ⟨u, k b u hbe q⟩
theorem Un.mono (u : Un fs ex H H1 h h1) (hs : ∀ b ∈ fs, b ∈ fs') (hx : ∀ b ∈ ex, b ∈ ex') : Un fs' ex' H H1 h h1 :=
  ⟨fun b ob q n hb he => u.keep b ob q n (fun z => hb (hs b z)) fun z => he (hx b z), fun _ _ q n _ he => u.any q n fun z => he (hx _ z), fun b ob q n he => u.free b ob q n fun z => he (hx b z), fun b ob q he => u.there b ob q fun z => he (hx b z), u.tups, u.frzs, u.tbls⟩
end
def trk (h : Heap) (H : Hp) : List Addr := (List.range h.objs.size).filter fun a => (H a).isSome
def hidT (h : Heap) (H : Hp) : Heap := PySem.W.hideAll h (trk h H)
theorem hidT_size (h : Heap) (H : Hp) : (hidT h H).objs.size = h.objs.size := PySem.W.hideAll_size _ _
theorem hidT_get {h : Heap} {H : Hp} {b : Addr} {o : Obj} (e : h.get? b = some o) (n : H b = none) : (hidT h H).get? b = some o :=
  PySem.W.hideAll_get _ e fun hm => by
    have q : (H b).isSome = true := (List.mem_filter.mp hm).2
    rw [n] at q; simp at q
theorem of_hidT {h : Heap} {H : Hp} {b : Addr} {o : Obj} (e : (hidT h H).get? b = some o) : h.get? b = some o ∧ H b = none := by
  have e' : h.get? b = some o := PySem.W.of_hideAll (trk h H) e
  refine ⟨e', ?_⟩
  cases q : H b with
  | none => rfl
  | some x =>
    have hm : b ∈ trk h H := List.mem_filter.mpr ⟨List.mem_range.mpr (Heap.lt_size e'), by simp [q]⟩
    have z : (hidT h H).get? b = none := PySem.W.hideAll_none (trk h H) hm
    rw [z] at e; cases e
def allNews (g h : Heap) (L : Addr) : List (Addr × Obj) := (List.range h.objs.size).filterMap fun a => if a = L ∨ (g.get? a).isSome = true then none else (h.get? a).map fun o => (a, o)
def rest (g h : Heap) (L d : Addr) : List (Addr × Obj) := (allNews g h L).filter fun p => decide (p.1 ≠ d)
end L2
namespace L2
open PySem PySem.Spec PyProof.Rows
structure Mod (K : PySem.W.Frag) (mg : Str → Option Value) (base : Heap) : Prop where
  kin : K.In base
  glob : base.Ns mainGlobals mg
  blt : ∃ mb, base.Ns builtinsNs mb ∧ ∀ x : Str, x ≠ "__name__" → mb x = bootBuiltins x
  nolimit : base.NoLimit
structure Cx where
  prog : Program
  w : World
  K : PySem.W.Frag
  mg : Str → Option Value
  base : Heap
  A : Around
  N : List Str
  s₀ : Shared
  H₀ : Hp
  env : Env
  outer : List Env
  stack : List Env
  ex : List Addr
  fn : Str → Bool
  calm : Bool
  pn : List (Addr × Obj)
  xe : Value → Shared → Prop
def frs (l : List Env) : List Addr := l.filterMap (·.frame)
abbrev Cx.fs (X : Cx) : List Addr := frs X.outer
def Vis (sc : Scope) (x : Str) : Prop := sc.names.lookup x = some .local ∨ sc.names.lookup x = some .cell ∨ sc.names.lookup x = some .free
def Loc (sc : Scope) (x : Str) : Prop := sc.names.lookup x = some .local ∨ sc.names.lookup x = some .cell
def Look (env : Env) (h : Heap) (m : Str → Option Value) (x : Str) (u : Value) : Prop :=
  (env.kindOf x = some .local ∧ m x = some u) ∨ ((env.kindOf x = some .cell ∨ env.kindOf x = some .free) ∧ ∃ c, env.cells.lookup x = some c ∧ h.IsCell c (some u))
structure Cx.Ok (X : Cx) : Prop where
  mod : Mod X.K X.mg X.base
  kind : X.env.scope.kind = .function
  glob : X.env.globals = mainGlobals
  blt : X.env.builtins = builtinsNs
  above : X.s₀.heap.objs.size ≤ X.env.locals
  inj : ∀ x y c, X.env.cells.lookup x = some c → X.env.cells.lookup y = some c → x = y
  has : ∀ x, (X.env.kindOf x = some .cell ∨ X.env.kindOf x = some .free) → ∃ c, X.env.cells.lookup x = some c
  cab : ∀ x c, X.fn x = true → X.env.cells.lookup x = some c → X.s₀.heap.objs.size ≤ c
  hd : X.calm = true → X.A.handled = none
  frames : X.A.frames = some X.stack
  stk : X.stack = X.outer ∨ (X.stack = X.env :: X.outer ∧ X.env.frame = some X.env.locals)
  exf : ∀ b ∈ X.ex, b ≠ X.env.locals ∧ ∀ x c, X.env.cells.lookup x = some c → c ≠ b
  bs : ∀ b o, X.base.get? b = some o → X.s₀.heap.get? b = some o ∧ X.H₀ b = none
  bsz : X.base.objs.size ≤ X.s₀.heap.objs.size
  noex : ∀ b o, X.base.get? b = some o → b ∉ X.ex
  exfs : ∀ b ∈ X.ex, b ∉ X.fs
  funs : X.s₀.heap.FunFrames X.base X.outer
  frf : ∀ b ∈ X.fs, X.H₀ b = none
structure Inv (X : Cx) (pins : List (Addr × Obj)) (σ : List (Option V)) (H : Hp) (s : Shared) : Prop where
  ok : X.Ok
  os : s.os = X.s₀.os
  bare : AllBare s.gens
  base : Un X.fs X.ex X.H₀ H X.s₀.heap s.heap
  loc : ∃ m, s.heap.Ns X.env.locals m ∧ ∀ (i : Nat) (x : Str) (v : V), X.N[i]? = some x → σ[i]? = some (some v) → Vis X.env.scope x → ∃ u, RelV v u ∧ Look X.env s.heap m x u
  cell : ∀ x c, X.env.cells.lookup x = some c → ∃ v, s.heap.IsCell c v
  free : H X.env.locals = none
  freeC : ∀ x c, X.env.cells.lookup x = some c → H c = none
  pin : ∀ p ∈ X.pn ++ pins, s.heap.get? p.1 = some p.2 ∧ H p.1 = none ∧ p.1 ≠ X.env.locals ∧ p.1 ∉ X.fs ∧ ∀ v, p.2.data ≠ .cell v
  hok : HOk X.prog X.w H s.heap
  len : σ.length = X.N.length
section
variable {X : Cx} {pins : List (Addr × Obj)} {σ : List (Option V)} {H H' : Hp} {s : Shared} {h' : Heap}
theorem Cx.Ok.nofr (ok : X.Ok) {b : Addr} {o : Obj} (e : X.base.get? b = some o) : b ∉ X.fs := fun hb => by
  have := (ok.funs.mem hb).1
  rw [e] at this; cases this
theorem Inv.bs (I : Inv X pins σ H s) : ∀ b o, X.base.get? b = some o → s.heap.get? b = some o ∧ H b = none := fun b o e =>
  ⟨I.base.keep b o (I.ok.bs b o e).1 (I.ok.bs b o e).2 (I.ok.nofr e) (I.ok.noex b o e), I.base.free b o (I.ok.bs b o e).1 (I.ok.bs b o e).2 (I.ok.noex b o e)⟩
theorem Inv.bk (I : Inv X pins σ H s) : ∀ b o, X.base.get? b = some o → s.heap.get? b = some o := fun b o e => (I.bs b o e).1
theorem Inv.mod (I : Inv X pins σ H s) : Mod X.K X.mg X.base := I.ok.mod
theorem Inv.kIn (I : Inv X pins σ H s) : X.K.In s.heap := I.ok.mod.kin.keeps I.bk
theorem Inv.fr (I : Inv X pins σ H s) : ∃ m, Fr X.base X.env.locals s.heap m :=
  let ⟨m, hn, _⟩ := I.loc
  ⟨m, hn, I.bk, Nat.le_trans I.ok.bsz I.ok.above⟩
theorem Inv.lt (I : Inv X pins σ H s) : X.env.locals < s.heap.objs.size := let ⟨_, hn, _⟩ := I.loc; hn.lt
theorem Inv.sz (I : Inv X pins σ H s) : X.s₀.heap.objs.size ≤ s.heap.objs.size := Nat.le_trans I.ok.above (Nat.le_of_lt I.lt)
theorem Inv.nofs (I : Inv X pins σ H s) {a : Addr} (h : s.heap.objs.size ≤ a) : a ∉ X.fs := fun hb => by
  obtain ⟨_, o, ho, _⟩ := I.ok.funs.mem hb
  exact absurd (Nat.lt_of_lt_of_le (Heap.lt_size ho) (Nat.le_trans I.sz h)) (Nat.lt_irrefl _)
theorem Inv.cne (I : Inv X pins σ H s) : ∀ x c, X.env.cells.lookup x = some c → c ≠ X.env.locals := fun x c e z => by
  obtain ⟨v, o, ho, hd⟩ := I.cell x c e
  obtain ⟨m, ⟨o', es, ep, ho', hd', _⟩, _⟩ := I.loc
  rw [z, ho'] at ho; cases ho; rw [hd'] at hd; cases hd
theorem Inv.funs (I : Inv X pins σ H s) : s.heap.FunFrames X.base X.outer := by
  have all : ∀ (l : List Env), (∀ b ∈ frs l, b ∈ X.fs) → X.s₀.heap.FunFrames X.base l → s.heap.FunFrames X.base l := by
    intro l
    induction l with
    | nil => intro _ _; trivial
    | cons env r ih =>
      intro hs hl
      obtain ⟨hk, ⟨L, o, hf, hn, ho, hd⟩, hr⟩ := hl
      have hL : L ∈ X.fs := hs L (by unfold frs; rw [List.filterMap_cons, hf]; exact List.mem_cons_self)
      obtain ⟨sl, e⟩ := I.base.slot L o ho (I.ok.frf L hL) hL fun z => I.ok.exfs L z hL
      exact ⟨hk, ⟨L, _, hf, hn, e, hd⟩, ih (fun b hb => hs b (by unfold frs; rw [List.filterMap_cons, hf]; exact List.mem_cons_of_mem _ hb)) hr⟩
  exact all X.outer (fun _ hb => hb) I.ok.funs
theorem Inv.stack (I : Inv X pins σ H s) : s.heap.FunFrames X.base X.stack := by
  rcases I.ok.stk with e | ⟨e, hf⟩
  · rw [e]; exact I.funs
  · rw [e]
    obtain ⟨m, hn, _⟩ := I.loc
    refine .cons (by rw [I.ok.kind]; decide) hf hn ?_ I.funs
    exact Heap.get?_none_of_le (Nat.le_trans I.ok.bsz I.ok.above)
theorem Inv.stkSub (I : Inv X pins σ H s) : ∀ b ∈ frs X.stack, b ∈ X.env.locals :: X.fs := fun b hb => by
  rcases I.ok.stk with e | ⟨e, hf⟩
  · rw [e] at hb; exact List.mem_cons_of_mem _ hb
  · rw [e] at hb
    unfold frs at hb
    rw [List.filterMap_cons, hf] at hb
    exact hb
theorem Inv.stkFree (I : Inv X pins σ H s) : ∀ b ∈ frs X.stack, H b = none := fun b hb => by
  rcases List.mem_cons.mp (I.stkSub b hb) with e | hb
  · rw [e]; exact I.free
  · obtain ⟨_, o, ho, _⟩ := I.ok.funs.mem hb
    exact I.base.free b o ho (I.ok.frf b hb) fun z => I.ok.exfs b z hb
theorem Inv.step {g' : Array GenState} {t' : Nat} {d' : Drawn} {ch : List Addr} (I : Inv X pins σ H s)
    (hch : ∀ b ∈ ch, (b ∈ X.ex ∨ X.s₀.heap.objs.size ≤ b) ∧ b ≠ X.env.locals ∧ (∀ x c, X.env.cells.lookup x = some c → c ≠ b) ∧ ∀ p ∈ X.pn ++ pins, p.1 ≠ b)
    (keep : ∀ b o, b ≠ X.env.locals → b ∉ X.fs → b ∉ ch → s.heap.get? b = some o → H b = none → h'.get? b = some o)
    (slot : ∀ b o, b ≠ X.env.locals → b ∈ X.fs → b ∉ ch → s.heap.get? b = some o → H b = none → ∃ sl, h'.get? b = some { o with slots := sl }) (free : ∀ b o, b ∉ ch → s.heap.get? b = some o → H b = none → H' b = none)
    (there : ∀ b o, b ∉ ch → s.heap.get? b = some o → ∃ o', h'.get? b = some o')
    (tups : ∀ b xs, H b = some (.tup xs) → H' b = some (.tup xs)) (frzs : ∀ b o u, H b = some (.frz o u) → H' b = some (.frz o u)) (tbls : ∀ b ps, H b = some (.tbl ps) → ∃ more, H' b = some (.tbl (ps ++ more)))
    (ns : ∀ m, s.heap.Ns X.env.locals m → h'.Ns X.env.locals m) (hok : HOk X.prog X.w H' h') (hg : AllBare g') :
    Inv X pins σ H' { s with heap := h', gens := g', drawn := d', toks := t' } := by
  have neL : ∀ b o, X.s₀.heap.get? b = some o → b ≠ X.env.locals := fun b o e => Nat.ne_of_lt (Nat.lt_of_lt_of_le (Heap.lt_size e) I.ok.above)
  have neC : ∀ b o, X.s₀.heap.get? b = some o → b ∉ X.ex → b ∉ ch := fun b o e hx hb => by
    rcases (hch b hb).1 with z | z
    · exact hx z
    · exact absurd (Nat.lt_of_lt_of_le (Heap.lt_size e) z) (Nat.lt_irrefl _)
  have cellK : ∀ x c, X.env.cells.lookup x = some c → ∀ v, s.heap.IsCell c v → h'.IsCell c v := fun x c e v ⟨o, ho, hd⟩ => by
    have nch : c ∉ ch := fun z => (hch c z).2.2.1 x c e rfl
    by_cases hc : c ∈ X.fs
    · obtain ⟨sl, q⟩ := slot c o (I.cne x c e) hc nch ho (I.freeC x c e)
      exact ⟨_, q, hd⟩
    · exact ⟨o, keep c o (I.cne x c e) hc nch ho (I.freeC x c e), hd⟩
  refine ⟨I.ok, I.os, hg, ⟨fun b o e n hb hx => ?_, fun b o e n hb hx => ?_, fun b o e n hx => ?_, fun b o e hx => ?_, fun b xs e => tups b xs (I.base.tups b xs e), fun b o xs e => frzs b o xs (I.base.frzs b o xs e), fun b ps e => ?_⟩, ?_, fun x c e => ?_, ?_, fun x c e => ?_, fun p hp => ?_, hok, I.len⟩
  · exact keep b o (neL b o e) hb (neC b o e hx) (I.base.keep b o e n hb hx) (I.base.free b o e n hx)
  · obtain ⟨sl, e1⟩ := I.base.slot b o e n hb hx
    obtain ⟨sl', e2⟩ := slot b _ (neL b o e) hb (neC b o e hx) e1 (I.base.free b o e n hx)
    exact ⟨sl', e2⟩
  · obtain ⟨o', e1⟩ := I.base.there b o e hx
    exact free b o' (neC b o e hx) e1 (I.base.free b o e n hx)
  · obtain ⟨o', e1⟩ := I.base.there b o e hx
    exact there b o' (neC b o e hx) e1
  · obtain ⟨m1, e1⟩ := I.base.tbls b ps e
    obtain ⟨m2, e2⟩ := tbls b _ e1
    exact ⟨m1 ++ m2, by rw [e2, Array.append_assoc]⟩
  · obtain ⟨m, hn, hl⟩ := I.loc
    refine ⟨m, ns m hn, fun i x v e1 e2 e3 => ?_⟩
    obtain ⟨u, r, l⟩ := hl i x v e1 e2 e3
    refine ⟨u, r, ?_⟩
    rcases l with l | ⟨k, c, e, z⟩
    · exact .inl l
    · exact .inr ⟨k, c, e, cellK x c e _ z⟩
  · obtain ⟨v, z⟩ := I.cell x c e
    exact ⟨v, cellK x c e v z⟩
  · obtain ⟨m, ⟨o, _, _, ho, _⟩, _⟩ := I.loc
    exact free _ o (fun z => (hch _ z).2.1 rfl) ho I.free
  · obtain ⟨v, o, ho, hd⟩ := I.cell x c e
    exact free c o (fun z => (hch c z).2.2.1 x c e rfl) ho (I.freeC x c e)
  · obtain ⟨e, n, ne, nf, d⟩ := I.pin p hp
    have nch : p.1 ∉ ch := fun z => (hch p.1 z).2.2.2 p hp rfl
    exact ⟨keep p.1 p.2 ne nf nch e n, free p.1 p.2 nch e n, ne, nf, d⟩
theorem Inv.un {t' : Nat} (I : Inv X pins σ H s) (u : Un X.fs [] H H' s.heap h') (hok : HOk X.prog X.w H' h') : Inv X pins σ H' { s with heap := h', toks := t' } := by
  obtain ⟨m, ⟨o, es, ep, ho, r⟩, _⟩ := id I.loc
  obtain ⟨sl, hL⟩ := u.any ho I.free (by simp)
  exact I.step (g' := s.gens) (d' := s.drawn) (ch := []) (fun _ z => nomatch z) (fun b o _ hb _ e n => u.keep b o e n hb (by simp)) (fun b o _ hb _ e n => u.slot b o e n hb (by simp)) (fun b o _ e n => u.free b o e n (by simp)) (fun b o _ e => u.there b o e (by simp)) u.tups u.frzs u.tbls (fun m' hm => by
    obtain ⟨o', es', ep', ho', r'⟩ := hm
    rw [ho] at ho'; cases ho'
    exact ⟨_, es', ep', hL, r'⟩) hok I.bare
theorem Inv.call {g' : Array GenState} {t' : Nat} {d' : Drawn} {ch : List Addr} (I : Inv X pins σ H s) (u : Un (frs X.stack) ch H H' s.heap h') (hok : HOk X.prog X.w H' h') (hg : AllBare g')
    (hch : ∀ b ∈ ch, (b ∈ X.ex ∨ X.s₀.heap.objs.size ≤ b) ∧ b ≠ X.env.locals ∧ (∀ x c, X.env.cells.lookup x = some c → c ≠ b) ∧ ∀ p ∈ X.pn ++ pins, p.1 ≠ b) :
    Inv X pins σ H' { s with heap := h', gens := g', drawn := d', toks := t' } := by
  obtain ⟨m, ⟨o, es, ep, ho, r⟩, _⟩ := id I.loc
  obtain ⟨sl, hL⟩ := u.any ho I.free fun z => (hch _ z).2.1 rfl
  exact I.step (ch := ch) hch (fun b o hL hb hc e n => u.keep b o e n (fun z => (List.mem_cons.mp (I.stkSub b z)).elim hL hb) hc) (fun b o _ _ hc e n => u.any e n hc) (fun b o hc e n => u.free b o e n hc) (fun b o hc e => u.there b o e hc) u.tups u.frzs u.tbls (fun m' hm => by
    obtain ⟨o', es', ep', ho', r'⟩ := hm
    rw [ho] at ho'; cases ho'
    exact ⟨_, es', ep', hL, r'⟩) hok hg
theorem Inv.turned {t' : Nat} {it : Addr} (I : Inv X pins σ H s) (k : ∀ b o, b ≠ it → s.heap.get? b = some o → h'.get? b = some o) (hn : H it = none) (hL : it ≠ X.env.locals)
    (h1 : it ∈ X.ex ∨ X.s₀.heap.objs.size ≤ it) (h2 : ∀ x c, X.env.cells.lookup x = some c → c ≠ it) (h3 : ∀ p ∈ X.pn ++ pins, p.1 ≠ it) : Inv X pins σ H { s with heap := h', toks := t' } := by
  have nit : ∀ b u, H b = some u → b ≠ it := fun b u e z => by rw [z, hn] at e; cases e
  refine I.step (g' := s.gens) (d' := s.drawn) (ch := [it]) (fun b hb => ?_) (fun b o _ _ hc e _ => k b o (fun z => hc (by simp [z])) e) (fun b o _ _ hc e _ => ⟨o.slots, k b o (fun z => hc (by simp [z])) e⟩) (fun _ _ _ _ n => n)
    (fun b o hc e => ⟨o, k b o (fun z => hc (by simp [z])) e⟩) (fun _ _ e => e) (fun _ _ _ e => e) (fun b ps e => ⟨#[], by rw [e]; simp⟩) (fun m hm => ?_) (fun b u e => ?_) I.bare
  · have e : b = it := by simpa using hb
    subst e
    exact ⟨h1, hL, h2, h3⟩
  · obtain ⟨o, es, ep, ho, r⟩ := hm
    exact ⟨o, es, ep, k _ o (Ne.symm hL) ho, r⟩
  · refine (I.hok b u e).stay (fun c v hc q => k c v ?_ q) (fun _ q => q) fun _ _ q => q
    rcases hc with z | z
    · rw [z]; exact nit b u e
    · exact nit c _ z
theorem Inv.tok (I : Inv X pins σ H s) (t : Nat) : Inv X pins σ H { s with toks := t } := I.un (h' := s.heap) (t' := t) Un.refl I.hok
theorem Inv.kept {t' : Nat} (I : Inv X pins σ H s) (k : ∀ b u, s.heap.get? b = some u → h'.get? b = some u) : Inv X pins σ H { s with heap := h', toks := t' } := I.un (Un.kept k) (I.hok.kept k)
theorem Inv.laid {a : Addr} {o : HO} {t' : Nat} (I : Inv X pins σ H s) (k : ∀ b u, s.heap.get? b = some u → h'.get? b = some u) (hp : s.heap.objs.size ≤ a) (new : ObjOk X.prog X.w (upd H a o) h' a o) :
    Inv X pins σ (upd H a o) { s with heap := h', toks := t' } := I.un (Un.laid k hp (I.hok.fresh hp)) (I.hok.laid k hp new)
theorem Inv.write {x e : Addr} {o : HO} {t' : Nat} (I : Inv X pins σ H s) (mu : Mut (H x)) (he : e = x ∨ H e = some (.own x)) (k : ∀ b u, b ≠ e → s.heap.get? b = some u → h'.get? b = some u) (heo : ∃ u, h'.get? e = some u)
    (new : ObjOk X.prog X.w (upd H x o) h' x o) : Inv X pins σ (upd H x o) { s with heap := h', toks := t' } := I.un (Un.write mu he k heo) (I.hok.write mu he k heo new)
theorem Inv.pins_of {pins' : List (Addr × Obj)} (I : Inv X pins σ H s) (h : ∀ p ∈ pins', s.heap.get? p.1 = some p.2 ∧ H p.1 = none ∧ p.1 ≠ X.env.locals ∧ p.1 ∉ X.fs ∧ ∀ v, p.2.data ≠ .cell v) : Inv X pins' σ H s :=
  ⟨I.ok, I.os, I.bare, I.base, I.loc, I.cell, I.free, I.freeC, fun p hp => (List.mem_append.mp hp).elim (fun z => I.pin p (List.mem_append_left _ z)) (h p), I.hok, I.len⟩
theorem nodup_ix {N : List Str} (hN : N.Nodup) {i j : Nat} {x : Str} (a : N[i]? = some x) (b : N[j]? = some x) : i = j := by
  obtain ⟨h1, e1⟩ := List.getElem?_eq_some_iff.mp a
  obtain ⟨h2, e2⟩ := List.getElem?_eq_some_iff.mp b
  exact (List.getElem_inj hN).mp (e1.trans e2.symm)
theorem store_ok2 {M : Model} {A : Around} {E : Value → Shared → Prop} {i : Nat} {x : Str} {v : V} {u : Value} {Q : Unit → Shared → Prop} (I : Inv X pins σ H s) (hN : X.N.Nodup) (hi : X.N[i]? = some x) (hx : Loc X.env.scope x) (r : RelV v u)
    (h : ∀ s', Inv X pins (σ.set i (some v)) H s' → (∃ a, Heap.SameBut a s.heap s'.heap ∧ (a = X.env.locals ∨ X.env.cells.lookup x = some a)) → Q () s') (hf : X.fn x = true ∨ X.env.scope.names.lookup x = some .local := by first | exact .inl rfl | exact .inr rfl | assumption) : wpAny M A (storeName X.env x u) Q E s := by
  obtain ⟨m, hn, hl⟩ := id I.loc
  have hcls : (X.env.scope.kind == .class || (X.env.scope.kind == .module && X.env.locals != X.env.globals)) = false := by rw [I.ok.kind]; rfl
  have hiσ : i < σ.length := by rw [I.len]; exact (List.getElem?_eq_some_iff.mp hi).1
  have cne := I.cne
  have tracked : ∀ {a : Addr} {h' : Heap}, (∃ o, s.heap.get? a = some o ∧ H a = none) → Heap.SameBut a s.heap h' → HOk X.prog X.w H h' := fun {a h'} ha hs b ob e => by
    obtain ⟨_, _, hfree⟩ := ha
    refine (I.hok b ob e).stay (fun c w' hc q => (hs.2 c ?_).trans q) (fun _ q => q) fun _ _ q => q
    rintro rfl
    rcases hc with rfl | hc
    · rw [hfree] at e; cases e
    · rw [hfree] at hc; cases hc
  rcases hx with hk | hk
  · refine wpAny_storeName_local hk hn (fun h' hn' hs => ?_) hcls
    obtain ⟨oL, _, _, hoL, _⟩ := id hn
    refine h _ ⟨I.ok, I.os, I.bare, ⟨fun b o e n hb hx => ?_, fun b o e n hb hx => ?_, I.base.free, fun b o e hx => ?_, I.base.tups, I.base.frzs, I.base.tbls⟩, ⟨_, hn', fun j y v' e1 e2 e3 => ?_⟩, fun y c e => ?_, I.free, I.freeC, fun p hp => ?_, tracked ⟨oL, hoL, I.free⟩ hs, by simpa using I.len⟩ ⟨_, hs, .inl rfl⟩
    · exact (hs.2 b (Nat.ne_of_lt (Nat.lt_of_lt_of_le (Heap.lt_size e) I.ok.above))).trans (I.base.keep b o e n hb hx)
    · obtain ⟨sl, e1⟩ := I.base.slot b o e n hb hx
      exact ⟨sl, (hs.2 b (Nat.ne_of_lt (Nat.lt_of_lt_of_le (Heap.lt_size e) I.ok.above))).trans e1⟩
    · obtain ⟨o', e1⟩ := I.base.there b o e hx
      exact ⟨o', (hs.2 b (Nat.ne_of_lt (Nat.lt_of_lt_of_le (Heap.lt_size e) I.ok.above))).trans e1⟩
    · by_cases hj : j = i
      · subst hj
        rw [hi] at e1; cases e1
        rw [List.getElem?_set_self hiσ] at e2
        cases e2
        exact ⟨u, r, .inl ⟨hk, by simp⟩⟩
      · rw [List.getElem?_set_ne (Ne.symm hj)] at e2
        obtain ⟨u', r', q⟩ := hl j y v' e1 e2 e3
        refine ⟨u', r', ?_⟩
        rcases q with ⟨k, e⟩ | ⟨k, c, e, z⟩
        · refine .inl ⟨k, ?_⟩
          have : y ≠ x := fun e => hj (nodup_ix hN e1 (e ▸ hi))
          simp [this, e]
        · exact .inr ⟨k, c, e, z.sameBut hs (cne y c e)⟩
    · obtain ⟨w', z⟩ := I.cell y c e
      exact ⟨w', z.sameBut hs (cne y c e)⟩
    · obtain ⟨e, n, ne, nf, d⟩ := I.pin p hp
      exact ⟨(hs.2 p.1 ne).trans e, n, ne, nf, d⟩
  · have hfn : X.fn x = true := by
      rcases hf with z | z
      · exact z
      · rw [z] at hk; cases hk
    obtain ⟨c, hc⟩ := I.ok.has x (.inl hk)
    obtain ⟨w', z⟩ := I.cell x c hc
    refine wpAny_storeName_cell I.ok.kind hk hc z (fun h' hc' hs => ?_)
    obtain ⟨oc, hoc, hocd⟩ := id z
    refine h { s with heap := h' } ⟨I.ok, I.os, I.bare, ⟨fun b o e n hb hx => ?_, fun b o e n hb hx => ?_, I.base.free, fun b o e hx => ?_, I.base.tups, I.base.frzs, I.base.tbls⟩, ⟨m, hn.sameBut hs (Ne.symm (cne x c hc)), fun j y v' e1 e2 e3 => ?_⟩, fun y c' e => ?_, I.free, I.freeC, fun p hp => ?_, tracked ⟨oc, hoc, I.freeC x c hc⟩ hs, by simpa using I.len⟩ ⟨c, hs, .inr hc⟩
    · exact (hs.2 b (Nat.ne_of_lt (Nat.lt_of_lt_of_le (Heap.lt_size e) (I.ok.cab x c hfn hc)))).trans (I.base.keep b o e n hb hx)
    · obtain ⟨sl, e1⟩ := I.base.slot b o e n hb hx
      exact ⟨sl, (hs.2 b (Nat.ne_of_lt (Nat.lt_of_lt_of_le (Heap.lt_size e) (I.ok.cab x c hfn hc)))).trans e1⟩
    · obtain ⟨o', e1⟩ := I.base.there b o e hx
      exact ⟨o', (hs.2 b (Nat.ne_of_lt (Nat.lt_of_lt_of_le (Heap.lt_size e) (I.ok.cab x c hfn hc)))).trans e1⟩
    · by_cases hj : j = i
      · subst hj
        rw [hi] at e1; cases e1
        rw [List.getElem?_set_self hiσ] at e2
        cases e2
        exact ⟨u, r, .inr ⟨.inl hk, c, hc, hc'⟩⟩
      · rw [List.getElem?_set_ne (Ne.symm hj)] at e2
        obtain ⟨u', r', q⟩ := hl j y v' e1 e2 e3
        refine ⟨u', r', ?_⟩
        rcases q with q | ⟨k, c', e, z'⟩
        · exact .inl q
        · refine .inr ⟨k, c', e, z'.sameBut hs ?_⟩
          rintro rfl
          exact hj (nodup_ix hN e1 (I.ok.inj _ _ _ e hc ▸ hi))
    · by_cases hcc : c' = c
      · subst hcc; exact ⟨_, hc'⟩
      · obtain ⟨w2, z2⟩ := I.cell y c' e
        exact ⟨w2, z2.sameBut hs hcc⟩
    · obtain ⟨e, n, ne, nf, d⟩ := I.pin p hp
      refine ⟨(hs.2 p.1 ?_).trans e, n, ne, nf, d⟩
      intro q
      rw [q, hoc] at e
      have q' : oc = p.2 := Option.some.inj e
      exact d w' (by rw [← q']; exact hocd)
theorem store_ok {M : Model} {A : Around} {E : Value → Shared → Prop} {i : Nat} {x : Str} {v : V} {u : Value} {Q : Unit → Shared → Prop} (I : Inv X pins σ H s) (hN : X.N.Nodup) (hi : X.N[i]? = some x) (hx : Loc X.env.scope x) (r : RelV v u)
    (h : ∀ s', Inv X pins (σ.set i (some v)) H s' → Q () s') (hf : X.fn x = true ∨ X.env.scope.names.lookup x = some .local := by first | exact .inl rfl | exact .inr rfl | assumption) : wpAny M A (storeName X.env x u) Q E s :=
  store_ok2 I hN hi hx r (fun s' I' _ => h s' I') hf
theorem Inv.call' {s' : Shared} {ch : List Addr} (I : Inv X pins σ H s) (ho : s'.os = s.os) (u : Un (frs X.stack) ch H H' s.heap s'.heap) (hok : HOk X.prog X.w H' s'.heap) (hg : AllBare s'.gens)
    (hch : ∀ b ∈ ch, (b ∈ X.ex ∨ X.s₀.heap.objs.size ≤ b) ∧ b ≠ X.env.locals ∧ (∀ x c, X.env.cells.lookup x = some c → c ≠ b) ∧ ∀ p ∈ X.pn ++ pins, p.1 ≠ b) : Inv X pins σ H' s' := by
  obtain ⟨h', g', d', t', o'⟩ := s'
  have e : o' = s.os := ho
  subst e
  exact I.call (g' := g') (t' := t') (d' := d') u hok hg hch
end
abbrev XK := Value → Option Addr → Hp → Prop
abbrev St := List (Option V)
abbrev VK := V → Hp → Prop
abbrev TE := St → Hp → VK → Prop
abbrev TT := St → Hp → (Bool → Hp → Prop) → Prop
abbrev TA := St → Hp → (List V → Hp → Prop) → Prop
structure Ends where
  nx : St → Hp → Prop
  rt : VK
  bk : St → Hp → Prop := fun _ _ => False
  ct : St → Hp → Prop := fun _ _ => False
abbrev TS := Ends → St → Hp → Prop
def EP (X : Cx) (pins : List (Addr × Obj)) (σ : St) (Q : VK) (u : Value) (s' : Shared) : Prop := ∃ v H', Inv X pins σ H' s' ∧ RelV v u ∧ Q v H'
def TP (X : Cx) (pins : List (Addr × Obj)) (σ : St) (Q : Bool → Hp → Prop) (b : Bool) (s' : Shared) : Prop := ∃ H', Inv X pins σ H' s' ∧ Q b H'
def AP (X : Cx) (pins : List (Addr × Obj)) (σ : St) (Q : List V → Hp → Prop) (us : List Value) (s' : Shared) : Prop := ∃ vs H', Inv X pins σ H' s' ∧ Vals vs us ∧ Q vs H'
def SP (X : Cx) (pins : List (Addr × Obj)) (D : Ends) (f : Flow) (s' : Shared) : Prop :=
  match f with
  | .next => ∃ σ' H', Inv X pins σ' H' s' ∧ D.nx σ' H'
  | .brk => ∃ σ' H', Inv X pins σ' H' s' ∧ D.bk σ' H'
  | .cont => ∃ σ' H', Inv X pins σ' H' s' ∧ D.ct σ' H'
  | .ret u => ∃ v σ' H', Inv X pins σ' H' s' ∧ RelV v u ∧ D.rt v H'
def PE (X : Cx) (e : Expr) (t : TE) : Prop :=
  ∀ (pins : List (Addr × Obj)) (s : Shared) (σ : St) (H : Hp) (Q : VK), Inv X pins σ H s → t σ H Q → wpAny (model X.prog X.w) X.A (eval e X.env) (EP X pins σ Q) X.xe s
def PT (X : Cx) (e : Expr) (t : TT) : Prop :=
  ∀ (pins : List (Addr × Obj)) (s : Shared) (σ : St) (H : Hp) (Q : Bool → Hp → Prop), Inv X pins σ H s → t σ H Q → wpAny (model X.prog X.w) X.A (isTrue e X.env (eval e X.env)) (TP X pins σ Q) X.xe s
def PW (X : Cx) (e : Expr) (t : TT) : Prop :=
  ∀ (whole : Sem Value) (pins : List (Addr × Obj)) (s : Shared) (σ : St) (H : Hp) (Q : Bool → Hp → Prop), Inv X pins σ H s → t σ H Q → wpAny (model X.prog X.w) X.A (isTrue e X.env whole) (TP X pins σ Q) X.xe s
theorem PW.pt {X : Cx} {e : Expr} {t : TT} (h : PW X e t) : PT X e t := h _
def PA (X : Cx) (es : List Expr) (t : TA) : Prop :=
  ∀ (pos : Pos) (pins : List (Addr × Obj)) (s : Shared) (σ : St) (H : Hp) (Q : List V → Hp → Prop), Inv X pins σ H s → t σ H Q → wpAny (model X.prog X.w) X.A (spliced (backTo pos (starEach es X.env))) (AP X pins σ Q) X.xe s
def PS (X : Cx) (st : Stmt) (t : TS) : Prop :=
  ∀ (pins : List (Addr × Obj)) (s : Shared) (σ : St) (H : Hp) (D : Ends), Inv X pins σ H s → t D σ H → wpAny (model X.prog X.w) X.A (exec st X.env) (SP X pins D) X.xe s
def PSs (X : Cx) (st : List Stmt) (t : TS) : Prop :=
  ∀ (pins : List (Addr × Obj)) (s : Shared) (σ : St) (H : Hp) (D : Ends), Inv X pins σ H s → t D σ H → wpAny (model X.prog X.w) X.A (execs st X.env) (SP X pins D) X.xe s
theorem thn {α : Type} {t : Sem α} {Q Q' : α → Shared → Prop} {M : Model} {A : Around} {E : Value → Shared → Prop} {s : Shared} (h : wpAny M A t Q E s) (hQ : ∀ a s, Q a s → Q' a s) : wpAny M A t Q' E s := wpAny_mono h hQ fun _ _ x => x
end L2
namespace L2
open PySem PySem.Spec PyProof.Rows
section
variable {X : Cx}
theorem bin {a b : Expr} {ta tb : TE} (ha : PE X a ta) (hb : PE X b tb) {pins : List (Addr × Obj)} {s : Shared} {σ : St} {H : Hp} {R : V → V → Hp → Prop} (I : Inv X pins σ H s) (h : ta σ H fun x H1 => tb σ H1 fun y H2 => R x y H2)
    {α : Type} {Q : α → Shared → Prop} {f : Value → Value → Sem α}
    (hf : ∀ v u s2 x y H2, Inv X pins σ H2 s2 → RelV x v → RelV y u → R x y H2 → wpAny (model X.prog X.w) X.A (f v u) Q X.xe s2) :
    wpAny (model X.prog X.w) X.A (eval a X.env) (fun v s₁ => wpAny (model X.prog X.w) X.A (eval b X.env) (fun u s₂ => wpAny (model X.prog X.w) X.A (f v u) Q X.xe s₂) X.xe s₁) X.xe s := by
  refine thn (ha pins s σ H _ I h) fun v s1 ⟨x, H1, I1, r1, q1⟩ => ?_
  refine thn (hb pins s1 σ H1 _ I1 q1) fun u s2 ⟨y, H2, I2, r2, q2⟩ => ?_
  exact hf v u s2 x y H2 I2 r1 r2 q2
def tVar (i : Nat) : TE := fun σ H Q => ∃ v, σ[i]? = some (some v) ∧ Q v H
def tC (v : V) : TE := fun _ H Q => Q v H
theorem pe_var {i : Nat} {x : Str} {pos : Pos} (hN : X.N[i]? = some x) (hv : Vis X.env.scope x) (hd : (x == ("__debug__" : Str)) = false := by decide) (hcd : (x == ("__classdict__" : Str)) = false := by decide) : PE X (.Name x pos) (tVar i) := by
  intro pins s σ H Q I h
  obtain ⟨v, e, h⟩ := h
  obtain ⟨m, hn, hl⟩ := I.loc
  obtain ⟨u, r, l⟩ := hl i x v hN e hv
  have fin : EP X pins σ Q u s := ⟨v, H, I, r, h⟩
  rcases l with ⟨hk, hm⟩ | ⟨hk, c, hc, hcell⟩
  · exact wpAny_Name (wpAny_loadName_local I.ok.kind hk hn hm fin) hd
  · rcases hk with hk | hk
    · exact wpAny_Name (wpAny_loadName_cell I.ok.kind hk hc hcell fin) hd
    · exact wpAny_Name (wpAny_loadName_free I.ok.kind hk hc hcell fin hcd) hd
theorem pe_int {i j pos} : PE X (.Constant (.int i) j pos) (tC (.int i)) := fun _ _ _ H _ I h => wpAny_Constant_int ⟨.int i, H, I.tok _, ⟨_, rfl⟩, h⟩
theorem pe_bl {b j pos} : PE X (.Constant (.bool b) j pos) (tC (.bl b)) := fun _ _ _ H _ I h => Constant_bool ⟨.bl b, H, I, rfl, h⟩
theorem pe_non {j pos} : PE X (.Constant .none j pos) (tC .non) := fun _ _ _ H _ I h => Constant_none ⟨.non, H, I, rfl, h⟩
theorem pe_str {x j pos} : PE X (.Constant (.str x) j pos) (tC (.str x)) := fun _ _ _ H _ I h => Calls.Constant_str ⟨.str x, H, I.tok _, ⟨_, rfl⟩, h⟩
def Gl (X : Cx) (x : Str) : Prop := X.env.kindOf x = some .globalImplicit
theorem ld_glob {E : Value → Shared → Prop} {pins : List (Addr × Obj)} {s : Shared} {σ : St} {H : Hp} {x : Str} {u : Value} {pos : Pos} {Q : Value → Shared → Prop} (I : Inv X pins σ H s) (hg : Gl X x) (hm : X.mg x = some u) (h : Q u s)
    (hd : (x == ("__debug__" : Str)) = false := by decide) : wpAny (model X.prog X.w) X.A (eval (.Name x pos) X.env) Q E s :=
  Calls.Name_function_global I.ok.kind hg (Calls.loadGlobal_global (by rw [I.ok.glob]; exact I.mod.glob.keeps I.bk) hm h) hd
theorem ld_blt {E : Value → Shared → Prop} {pins : List (Addr × Obj)} {s : Shared} {σ : St} {H : Hp} {x : Str} {u : Value} {pos : Pos} {Q : Value → Shared → Prop} (I : Inv X pins σ H s) (hg : Gl X x) (hm : X.mg x = none) (hv : bootBuiltins x = some u) (h : Q u s)
    (hn : x ≠ "__name__" := by decide) (hd : (x == ("__debug__" : Str)) = false := by decide) : wpAny (model X.prog X.w) X.A (eval (.Name x pos) X.env) Q E s := by
  obtain ⟨mb, h1, h2⟩ := I.mod.blt
  exact Calls.Name_function_global I.ok.kind hg (Calls.loadGlobal_builtin (by rw [I.ok.glob]; exact I.mod.glob.keeps I.bk) hm (by rw [I.ok.blt]; exact h1.keeps I.bk) ((h2 x hn).trans hv) h) hd
theorem pe_glob {x : Str} {v : V} {u : Value} {pos : Pos} (hg : Gl X x) (hm : X.mg x = some u) (r : RelV v u) (hd : (x == ("__debug__" : Str)) = false := by decide) : PE X (.Name x pos) (tC v) :=
  fun _ _ _ H _ I h => ld_glob I hg hm ⟨v, H, I, r, h⟩ hd
theorem pe_bltn {x : Str} {v : V} {u : Value} {pos : Pos} (hg : Gl X x) (hm : X.mg x = none) (hv : bootBuiltins x = some u) (r : RelV v u) (hn : x ≠ "__name__" := by decide) (hd : (x == ("__debug__" : Str)) = false := by decide) : PE X (.Name x pos) (tC v) :=
  fun _ _ _ H _ I h => ld_blt I hg hm hv ⟨v, H, I, r, h⟩ hn hd
variable {a b : Expr} {ta tb : TE} {pos : Pos}
def PC (X : Cx) (op : CmpOp) (a b : Expr) (t : TE) : Prop :=
  ∀ (pins : List (Addr × Obj)) (s : Shared) (σ : St) (H : Hp) (Q : VK), Inv X pins σ H s → t σ H Q →
    wpAny (model X.prog X.w) X.A (eval a X.env) (fun v s₁ => wpAny (model X.prog X.w) X.A (eval b X.env) (fun u s₂ => wpAny (model X.prog X.w) X.A (compareOp op v u) (EP X pins σ Q) X.xe s₂) X.xe s₁) X.xe s
def tB (t : TE) : TT := fun σ H Q => t σ H fun x H1 => ∃ c, x = .bl c ∧ Q c H1
theorem pe_cmp {op : CmpOp} {t : TE} (h : PC X op a b t) (h1 : behindInMarks op b = false := by first | exact nobehind _ (by decide) (by decide) | rfl) : PE X (.Compare a [op] [b] pos) t := fun pins s σ H Q I hw => wpAny_Compare1 (h pins s σ H Q I hw) h1
theorem pt_cmp {op : CmpOp} {t : TE} (h : PC X op a b t) (h1 : behindInMarks op b = false := by first | exact nobehind _ (by decide) (by decide) | rfl) : PT X (.Compare a [op] [b] pos) (tB t) := by
  intro pins s σ H Q I hw
  refine wpAny_isTrue_Compare1 (thn (h pins s σ H _ I hw) fun v s1 h1 => thn h1 fun u s2 h2 => thn h2 fun c s3 ⟨x, H1, I1, r1, q1⟩ => ?_) h1
  obtain ⟨d, rfl, q⟩ := q1
  cases r1
  exact wpAny_truthy_bool ⟨H1, I1, q⟩
theorem pt_val {e : Expr} {t : TE} (h : PE X e t) (he : ∀ whole, isTrue e X.env whole = (do let v ← whole; standAt e.pos; holding [v] (truthy v)) := by intro _; rfl) : PT X e (tB t) := by
  intro pins s σ H Q I hw
  refine isTrue_plain (thn (h pins s σ H _ I hw) fun v s1 ⟨x, H1, I1, r1, q1⟩ => ?_) (he _)
  obtain ⟨d, rfl, q⟩ := q1
  cases r1
  exact wpAny_truthy_bool ⟨H1, I1, q⟩
variable {tA tB' : TT} {rest : List Expr}
def tAnd (t u : TT) : TT := fun σ H Q => t σ H fun c H1 => if c = true then u σ H1 Q else Q false H1
def tOr (t u : TT) : TT := fun σ H Q => t σ H fun c H1 => if c = true then Q true H1 else u σ H1 Q
def tNot (t : TT) : TT := fun σ H Q => t σ H fun c H1 => Q (!c) H1
theorem pw_and1 (ha : PT X a tA) : PW X (.BoolOp .And [a] pos) tA := by
  intro wh pins s σ H Q I h
  refine isTrue_and (thn (ha pins s σ H Q I h) fun c s1 e => ?_)
  cases c with
  | true => exact isTrue_and_nil e
  | false => exact e
theorem pw_or1 (ha : PT X a tA) : PW X (.BoolOp .Or [a] pos) tA := by
  intro wh pins s σ H Q I h
  refine isTrue_or (thn (ha pins s σ H Q I h) fun c s1 e => ?_)
  cases c with
  | false => exact isTrue_or_nil e
  | true => exact e
theorem pw_and (ha : PT X a tA) (hb : PW X (.BoolOp .And (b :: rest) pos) tB') : PW X (.BoolOp .And (a :: b :: rest) pos) (tAnd tA tB') := by
  intro wh pins s σ H Q I h
  refine isTrue_and (thn (ha pins s σ H _ I h) fun c s1 ⟨H1, I1, q1⟩ => ?_)
  cases c with
  | true => exact hb wh pins s1 σ H1 Q I1 q1
  | false => exact ⟨H1, I1, q1⟩
theorem pw_or (ha : PT X a tA) (hb : PW X (.BoolOp .Or (b :: rest) pos) tB') : PW X (.BoolOp .Or (a :: b :: rest) pos) (tOr tA tB') := by
  intro wh pins s σ H Q I h
  refine isTrue_or (thn (ha pins s σ H _ I h) fun c s1 ⟨H1, I1, q1⟩ => ?_)
  cases c with
  | true => exact ⟨H1, I1, q1⟩
  | false => exact hb wh pins s1 σ H1 Q I1 q1
theorem pt_not (ha : PT X a tA) : PT X (.UnaryOp .Not a pos) (tNot tA) := by
  intro pins s σ H Q I h
  exact isTrue_not (ha pins s σ H (fun c H1 => Q (!c) H1) I h)
def tAndV (ta tb : TE) : TE := fun σ H Q => ta σ H fun x H1 => ∃ c, x = .bl c ∧ if c = true then tb σ H1 Q else Q (.bl false) H1
def tOrV (ta tb : TE) : TE := fun σ H Q => ta σ H fun x H1 => ∃ c, x = .bl c ∧ if c = true then Q (.bl true) H1 else tb σ H1 Q
def tNotV (ta : TE) : TE := fun σ H Q => ta σ H fun x H1 => ∃ c, x = .bl c ∧ Q (.bl (!c)) H1
theorem pe_one {op} {t : TE} (h : PE X a t) : PE X (.BoolOp op [a] pos) t := fun pins s σ H Q I hw => BoolOp_one (h pins s σ H Q I hw)
theorem pe_and (ha : PE X a ta) (hb : PE X (.BoolOp .And (b :: rest) pos) tb) : PE X (.BoolOp .And (a :: b :: rest) pos) (tAndV ta tb) := by
  intro pins s σ H Q I h
  refine BoolOp_and (thn (ha pins s σ H _ I h) fun v s1 ⟨x, H1, I1, r1, q1⟩ => ?_)
  obtain ⟨c, rfl, q1⟩ := q1
  cases r1
  refine wpAny_truthy_bool ?_
  cases c with
  | true => exact hb pins s1 σ H1 Q I1 q1
  | false => exact ⟨.bl false, H1, I1, rfl, q1⟩
theorem pe_or (ha : PE X a ta) (hb : PE X (.BoolOp .Or (b :: rest) pos) tb) : PE X (.BoolOp .Or (a :: b :: rest) pos) (tOrV ta tb) := by
  intro pins s σ H Q I h
  refine BoolOp_or (thn (ha pins s σ H _ I h) fun v s1 ⟨x, H1, I1, r1, q1⟩ => ?_)
  obtain ⟨c, rfl, q1⟩ := q1
  cases r1
  refine wpAny_truthy_bool ?_
  cases c with
  | false => exact hb pins s1 σ H1 Q I1 q1
  | true => exact ⟨.bl true, H1, I1, rfl, q1⟩
theorem pe_not (ha : PE X a ta) : PE X (.UnaryOp .Not a pos) (tNotV ta) := by
  intro pins s σ H Q I h
  refine UnaryOp_ (thn (ha pins s σ H _ I h) fun v s1 ⟨x, H1, I1, r1, q1⟩ => ?_)
  obtain ⟨c, rfl, q1⟩ := q1
  cases r1
  exact not_of (wpAny_truthy_bool ⟨.bl (!c), H1, I1, rfl, q1⟩)
end
end L2
namespace L2
open PySem PySem.Spec PyProof.Rows
def SqL (K : PySem.W.Frag) (H : Hp) (a : Addr) (xs : List V) : Prop :=
  Rd H a (.lst xs) ∨
    ∃ (o : Obj) (its : Array Value) (n : Nat), K.lookup a = some o ∧ o.cls = .type "list" ∧ o.dict = none ∧ o.data = .seq its n ∧ its.size ≤ sizeLine ∧ Vals xs its.toList
def SqT (K : PySem.W.Frag) (H : Hp) (a : Addr) (xs : List V) : Prop :=
  Rd H a (.tup xs) ∨
    ∃ (o : Obj) (its : Array Value) (n : Nat), K.lookup a = some o ∧ o.cls = .type "tuple" ∧ o.data = .seq its n ∧ its.size ≤ sizeLine ∧ Vals xs its.toList
def absV : Value → Option V
  | .none => some .non
  | .bool b => some (.bl b)
  | .int i _ => some (.int i)
  | .str x _ => some (.str x)
  | .bytes b _ => some (.byt b)
  | .float b _ => some (.flt b)
  | .ref a => some (.ref a)
  | .type n => some (.ty n)
  | _ => none
theorem RelV.abs {x : V} {u : Value} (r : RelV x u) : absV u = some x := by
  cases x with
  | non => cases r; rfl
  | bl _ => cases r; rfl
  | int _ => obtain ⟨t, rfl⟩ := r; rfl
  | str _ => obtain ⟨t, rfl⟩ := r; rfl
  | byt _ => obtain ⟨t, rfl⟩ := r; rfl
  | flt _ => obtain ⟨t, rfl⟩ := r; rfl
  | ref _ => cases r; rfl
  | ty _ => cases r; rfl
theorem RelV.inj {x y : V} {u : Value} (r : RelV x u) (q : RelV y u) : x = y := Option.some.inj (r.abs.symm.trans q.abs)
theorem Vals.inj : ∀ {xs ys : List V} {us : List Value}, Vals xs us → Vals ys us → xs = ys
  | _, _, _, .nil, .nil => rfl
  | _, _, _, .cons r t, .cons r' t' => by rw [r.inj r', Vals.inj t t']
section
variable {X : Cx} {pins : List (Addr × Obj)} {σ : St} {H : Hp} {s : Shared} {a : Addr} {xs ys : List V}
theorem SqL.of {K : PySem.W.Frag} (h : H a = some (.lst xs)) : SqL K H a xs := .inl (.inl h)
theorem SqT.of {K : PySem.W.Frag} (h : H a = some (.tup xs)) : SqT K H a xs := .inl (.inl h)
theorem Inv.list (I : Inv X pins σ H s) (h : SqL X.K H a xs) : ∃ its : List Value, Vals xs its ∧ PlainL s.heap a its.toArray ∧ xs.length ≤ sizeLine := by
  rcases h with h | ⟨o, its, n, hk, hc, hd, hs, hz, r⟩
  · obtain ⟨z, its, n, r, e⟩ := h.ok I.hok
    exact ⟨its, r, ⟨_, n, e, rfl, rfl, rfl⟩, z⟩
  · refine ⟨its.toList, r, ⟨o, n, I.kIn a o hk, hc, hd, by simpa using hs⟩, ?_⟩
    have e := r.length
    simp only [Array.length_toList] at e
    omega
theorem Inv.tuple (I : Inv X pins σ H s) (h : SqT X.K H a xs) : ∃ its : List Value, Vals xs its ∧ IsTup s.heap a its.toArray ∧ xs.length ≤ sizeLine := by
  rcases h with h | ⟨o, its, n, hk, hc, hs, hz, r⟩
  · obtain ⟨z, its, r, p⟩ := h.ok I.hok
    exact ⟨its, r, p, z⟩
  · refine ⟨its.toList, r, ⟨o, I.kIn a o hk, hc, n, by simpa using hs⟩, ?_⟩
    have e := r.length
    simp only [Array.length_toList] at e
    omega
theorem Inv.list_inj (I : Inv X pins σ H s) (h : SqL X.K H a xs) (h' : SqL X.K H a ys) : xs = ys := by
  obtain ⟨its, r, ⟨o, n, e, _, _, d⟩, _⟩ := I.list h
  obtain ⟨its', r', ⟨o', n', e', _, _, d'⟩, _⟩ := I.list h'
  rw [e] at e'; cases e'
  rw [d] at d'
  injection d' with d1 _
  have : its = its' := by simpa using congrArg Array.toList d1
  subst this
  exact r.inj r'
end
abbrev Cx.wish (X : Cx) (E : Value → Shared → Prop) : Cx := { X with xe := E }
abbrev Cx.nox (X : Cx) : Cx := X.wish fun _ _ => False
theorem Cx.Ok.wish {X : Cx} (ok : X.Ok) (E : Value → Shared → Prop) : (X.wish E).Ok :=
  ⟨ok.mod, ok.kind, ok.glob, ok.blt, ok.above, ok.inj, ok.has, ok.cab, ok.hd, ok.frames, ok.stk, ok.exf, ok.bs, ok.bsz, ok.noex, ok.exfs, ok.funs, ok.frf⟩
theorem Cx.Ok.unwish {X : Cx} {E : Value → Shared → Prop} (ok : (X.wish E).Ok) : X.Ok :=
  ⟨ok.mod, ok.kind, ok.glob, ok.blt, ok.above, ok.inj, ok.has, ok.cab, ok.hd, ok.frames, ok.stk, ok.exf, ok.bs, ok.bsz, ok.noex, ok.exfs, ok.funs, ok.frf⟩
section
variable {X : Cx} {pins : List (Addr × Obj)} {σ : St} {H : Hp} {s : Shared} {E : Value → Shared → Prop}
theorem Inv.wish (I : Inv X pins σ H s) (E : Value → Shared → Prop) : Inv (X.wish E) pins σ H s := ⟨I.ok.wish E, I.os, I.bare, I.base, I.loc, I.cell, I.free, I.freeC, I.pin, I.hok, I.len⟩
theorem Inv.unwish (I : Inv (X.wish E) pins σ H s) : Inv X pins σ H s := ⟨I.ok.unwish, I.os, I.bare, I.base, I.loc, I.cell, I.free, I.freeC, I.pin, I.hok, I.len⟩
theorem SP.unwish {D : Ends} {f : Flow} {s' : Shared} (h : SP (X.wish E) pins D f s') : SP X pins D f s' := by
  cases f with
  | next => obtain ⟨σ', H', I, q⟩ := h; exact ⟨σ', H', I.unwish, q⟩
  | brk => obtain ⟨σ', H', I, q⟩ := h; exact ⟨σ', H', I.unwish, q⟩
  | cont => obtain ⟨σ', H', I, q⟩ := h; exact ⟨σ', H', I.unwish, q⟩
  | ret u => obtain ⟨v, σ', H', I, r, q⟩ := h; exact ⟨v, σ', H', I.unwish, r, q⟩
theorem PSs.nox {st : List Stmt} {t : TS} (h : PSs X.nox st t) : PSs X st t := fun pins s σ H D I hw =>
  wpAny_mono (h pins s σ H D (I.wish _) hw) (fun _ _ q => q.unwish) fun _ _ z => False.elim z
end
section
variable {X : Cx} {st : Stmt} {rest : List Stmt} {t u : TS} {e : Expr} {te : TE} {pos : Pos}
def tNext : TS := fun D σ H => D.nx σ H
def tSeq (t u : TS) : TS := fun D σ H => t { D with nx := u D } σ H
theorem pss_nil : PSs X [] tNext := fun _ _ σ H _ I h => wpAny_execs_nil ⟨σ, H, I, h⟩
theorem pss_cons (h1 : PS X st t) (h2 : PSs X rest u) : PSs X (st :: rest) (tSeq t u) := by
  intro pins s σ H D I h
  refine wpAny_execs_cons (thn (h1 pins s σ H { D with nx := u D } I h) fun f s1 q => ?_)
  cases f with
  | next =>
    obtain ⟨σ', H', I', q⟩ := q
    exact h2 pins s1 σ' H' D I' q
  | ret v => exact q
  | brk => exact q
  | cont => exact q
theorem pss_one (h1 : PS X st t) : PSs X [st] t := by
  intro pins s σ H D I h
  refine wpAny_execs_cons (thn (h1 pins s σ H D I h) fun f s1 q => ?_)
  cases f with
  | next => exact wpAny_execs_nil q
  | ret v => exact q
  | brk => exact q
  | cont => exact q
theorem Inv.quiet {pins : List (Addr × Obj)} {σ : St} {H : Hp} {s : Shared} (I : Inv X pins σ H s) : interactive X.env = false := by simp [interactive, I.ok.kind]
def tDrop (te : TE) : TS := fun D σ H => te σ H fun _ H1 => D.nx σ H1
theorem ps_expr (he : PE X e te) (hs : swapsWith e none pos.line X.env = pure false := by rfl) : PS X (.Expr e pos) (tDrop te) := by
  intro pins s σ H D I h
  exact wpAny_Expr_any (thn (he pins s σ H _ I h) fun v s1 ⟨x, H1, I1, r1, q1⟩ => ⟨σ, H1, I1, q1⟩) I.quiet hs
def tRet (te : TE) : TS := fun D σ H => te σ H D.rt
theorem ps_ret (he : PE X e te) : PS X (.Return (some e) pos) (tRet te) := by
  intro pins s σ H D I h
  exact wpAny_Return_some (thn (he pins s σ H _ I h) fun v s1 ⟨x, H1, I1, r1, q1⟩ => ⟨x, σ, H1, I1, r1, q1⟩)
def tIfS (c : TT) (t u : TS) : TS := fun D σ H => c σ H fun b H1 => if b = true then t D σ H1 else u D σ H1
theorem ps_if {c : Expr} {a b : List Stmt} {tc : TT} (hc : PT X c tc) (ha : PSs X a t) (hb : PSs X b u) : PS X (.If c a b pos) (tIfS tc t u) := by
  intro pins s σ H D I h
  refine wpAny_If (thn (hc pins s σ H _ I h) fun d s1 ⟨H1, I1, q1⟩ => ?_)
  cases d with
  | true => exact ha pins s1 σ H1 D I1 q1
  | false => exact hb pins s1 σ H1 D I1 q1
end
abbrev TG := V → St → Hp → (St → Hp → Prop) → Prop
abbrev TGs := List V → St → Hp → (St → Hp → Prop) → Prop
def PG (X : Cx) (target : Expr) (t : TG) : Prop :=
  ∀ (pins : List (Addr × Obj)) (s : Shared) (σ : St) (H : Hp) (v : V) (u : Value) (Q : St → Hp → Prop), Inv X pins σ H s → RelV v u → t v σ H Q →
    wpAny (model X.prog X.w) X.A (assign target X.env u) (fun _ s' => ∃ σ' H', Inv X pins σ' H' s' ∧ Q σ' H') X.xe s
def PGs (X : Cx) (ts : List Expr) (t : TGs) : Prop :=
  ∀ (pins : List (Addr × Obj)) (s : Shared) (σ : St) (H : Hp) (vs : List V) (us : List Value) (Q : St → Hp → Prop), Inv X pins σ H s → Vals vs us → t vs σ H Q →
    wpAny (model X.prog X.w) X.A (assignInOrder ((assignEach ts X.env).map (·.2)) us) (fun _ s' => ∃ σ' H', Inv X pins σ' H' s' ∧ Q σ' H') X.xe s
abbrev TSet := V → V → V → Hp → (Hp → Prop) → Prop
def PSet (X : Cx) (t : TSet) : Prop :=
  ∀ (pins : List (Addr × Obj)) (s : Shared) (σ : St) (H : Hp) (o i v : V) (ov iv u : Value) (Q : Hp → Prop), Inv X pins σ H s → RelV o ov → RelV i iv → RelV v u → t o i v H Q →
    wpAny (model X.prog X.w) X.A (setItem ov iv u) (fun _ s' => ∃ H', Inv X pins σ H' s' ∧ Q H') X.xe s
section
variable {X : Cx} {pos : Pos}
def gName (i : Nat) : TG := fun v σ H Q => Q (σ.set i (some v)) H
theorem pg_name {i : Nat} {x : Str} (hN : X.N.Nodup) (hi : X.N[i]? = some x) (hx : Loc X.env.scope x) (hf : X.fn x = true ∨ X.env.scope.names.lookup x = some .local := by first | exact .inl rfl | exact .inr rfl | assumption) : PG X (.Name x pos) (gName i) := by
  intro pins s σ H v u Q I r h
  exact wpAny_assign_Name (store_ok I hN hi hx r (fun s' I' => ⟨_, H, I', h⟩) hf)
def gNil : TGs := fun vs σ H Q => vs = [] ∧ Q σ H
def gCons (t : TG) (u : TGs) : TGs := fun vs σ H Q => ∃ v r, vs = v :: r ∧ t v σ H fun σ' H' => u r σ' H' Q
theorem pgs_nil : PGs X [] gNil := by
  intro pins s σ H vs us Q I r h
  obtain ⟨e, h⟩ := h
  subst e
  cases r
  exact assignInOrder_nil ⟨σ, H, I, h⟩
theorem pgs_cons {e : Expr} {es : List Expr} {t : TG} {u : TGs} (h1 : PG X e t) (h2 : PGs X es u)
    (hs : (assignEach (e :: es) X.env).map (·.2) = assign e X.env :: (assignEach es X.env).map (·.2) := by rfl) : PGs X (e :: es) (gCons t u) := by
  intro pins s σ H vs us Q I r h
  obtain ⟨v, vr, e1, h⟩ := h
  subst e1
  cases r with
  | cons r rr =>
    rw [hs]
    refine assignInOrder_cons (thn (h1 pins s σ H _ _ _ I r h) fun _ s1 ⟨σ1, H1, I1, q1⟩ => ?_)
    exact h2 pins s1 σ1 H1 _ _ Q I1 rr q1
def gTup (K : PySem.W.Frag) (n : Nat) (t : TGs) : TG := fun v σ H Q => ∃ a xs, v = .ref a ∧ SqT K H a xs ∧ xs.length = n ∧ t xs σ H Q
theorem pg_tup {es : List Expr} {k : Nat} {t : TGs} {n : Nat} (hc : X.calm = true) (h : PGs X es t)
    (hn : (assignEach es X.env).length = n := by rfl) (hst : (assignEach es X.env).findIdx? (·.1) = none := by rfl) : PG X (.Tuple es k pos) (gTup X.K n t) := by
  intro pins s σ H v u Q I r hw
  obtain ⟨a, xs, e1, hq, hl, hw⟩ := hw
  subst e1
  cases r
  obtain ⟨its, rv, ht, hz⟩ := I.tuple hq
  refine assign_Tuple_tuple (I.ok.hd hc) ht (by simp [hn, ← hl, rv.length]) hst fun h' hx => ?_
  have I1 : Inv X pins σ H { s with heap := h' } := I.kept (t' := s.toks) fun b o e => hx b o (Nat.ne_of_lt (Heap.lt_size e)) e
  exact h pins _ σ H xs _ Q I1 (by simpa using rv) hw
def gSub (to ti : TE) (t : TSet) : TG := fun v σ H Q => to σ H fun o H1 => ti σ H1 fun i H2 => t o i v H2 fun H3 => Q σ H3
theorem pg_sub {o i : Expr} {to ti : TE} {t : TSet} (ho : PE X o to) (hi : PE X i ti) (hs : PSet X t)
    (ha : ∀ v, assign (.Subscript o i pos) X.env v = (do
      let ov ← holding [v] (eval o X.env)
      let iv ← holding [v, ov] (eval i X.env)
      standAt pos
      holding [v, ov, iv] (setItem ov iv v)
      release [v, ov, iv] []) := by intro _; rfl) : PG X (.Subscript o i pos) (gSub to ti t) := by
  intro pins s σ H v u Q I r h
  rw [ha]
  refine wpAny_bind (wpAny_holding (thn (ho pins s σ H _ I h) fun ov s1 ⟨x, H1, I1, r1, q1⟩ => ?_))
  refine wpAny_bind (wpAny_holding (thn (hi pins s1 σ H1 _ I1 q1) fun iv s2 ⟨y, H2, I2, r2, q2⟩ => ?_))
  refine wpAny_bind (wpAny_standAt (wpAny_bind (wpAny_holding (thn (hs pins s2 σ H2 x y v ov iv u _ I2 r1 r2 r q2) fun _ s3 ⟨H3, I3, q3⟩ => ?_))))
  exact wpAny_release ⟨σ, H3, I3, q3⟩
def tAsg (te : TE) (g : TG) : TS := fun D σ H => te σ H fun x H1 => g x σ H1 D.nx
theorem ps_asg {tg e : Expr} {te : TE} {g : TG} (he : PE X e te) (hg : PG X tg g) (hs : swapsWithSole [tg] e pos.line X.env = pure false := by rfl) (hw : swappedStores [tg] e X.env = pure none := by rfl)
    (h1 : (assignEach [tg] X.env).map (·.2) = [assign tg X.env] := by rfl) : PS X (.Assign [tg] e pos) (tAsg te g) := by
  intro pins s σ H D I h
  refine wpAny_Assign_stores (thn (he pins s σ H _ I h) fun v s1 ⟨x, H1, I1, r1, q1⟩ => ?_) hs hw
  rw [h1]
  exact thn (hg pins s1 σ H1 x v _ I1 r1 q1) fun _ s2 q => q
theorem ps_set {i : Nat} {x : Str} {e : Expr} {te : TE} {pos' : Pos} (hN : X.N.Nodup) (hi : X.N[i]? = some x) (hx : Loc X.env.scope x) (he : PE X e te) (hs : swapsWith e (some (.Name x pos')) pos.line X.env = pure false := by rfl) (hf : X.fn x = true ∨ X.env.scope.names.lookup x = some .local := by first | exact .inl rfl | exact .inr rfl | assumption) :
    PS X (.Assign [.Name x pos'] e pos) (tAsg te (gName i)) := by
  intro pins s σ H D I h
  refine wpAny_Assign_Name (thn (he pins s σ H _ I h) fun v s1 ⟨y, H1, I1, r1, q1⟩ => ?_) hs
  exact store_ok I1 hN hi hx r1 (fun s2 I2 => ⟨_, H1, I2, q1⟩) hf
end
section
variable {X : Cx} {pos : Pos}
end
structure It where
  go : Nat → Hp → Prop
  yld : Nat → Hp → V → Hp → Prop
  stop : Nat → Hp → Prop
def FpOk (X : Cx) (pins : List (Addr × Obj)) (H : Hp) (b : Addr) : Prop :=
  H b = none ∧ b ≠ X.env.locals ∧ b ∉ X.fs ∧ (b ∈ X.ex ∨ X.s₀.heap.objs.size ≤ b) ∧ (∀ x c, X.env.cells.lookup x = some c → c ≠ b) ∧ ∀ p ∈ X.pn ++ pins, p.1 ≠ b
theorem Inv.fpOk {X : Cx} {pins : List (Addr × Obj)} {σ : St} {H H' : Hp} {s : Shared} {b : Addr} (I : Inv X pins σ H s) (hb : s.heap.objs.size ≤ b) (hn : H' b = none) : FpOk X pins H' b := by
  refine ⟨hn, Nat.ne_of_gt (Nat.lt_of_lt_of_le I.lt hb), I.nofs hb, .inr (Nat.le_trans I.sz hb), fun x c e z => ?_, fun p hp z => ?_⟩
  · obtain ⟨v, q⟩ := I.cell x c e
    exact absurd (Nat.lt_of_lt_of_le q.lt (by rw [z]; exact hb)) (Nat.lt_irrefl _)
  · exact absurd (Nat.lt_of_lt_of_le (Heap.lt_size (I.pin p hp).1) (by rw [z]; exact hb)) (Nat.lt_irrefl _)
structure Turn (P : Program) (w : World) (K : PySem.W.Frag) (tg : Expr) (J : It) (fp : List Addr) (it : Addr) (tn : Nat → Heap → Prop) : Prop where
  mem : it ∈ fp
  obj : ∀ i h, tn i h → ∀ b ∈ fp, ∃ o, h.get? b = some o ∧ ∀ v, o.data ≠ .cell v
  keep : ∀ i h h', tn i h → (∀ b ∈ fp, ∀ o, h.get? b = some o → h'.get? b = some o) → tn i h'
  item : ∀ (X : Cx), X.prog = P → X.w = w → X.K = K → X.calm = true → ∀ (i : Nat) (pins : List (Addr × Obj)) (s : Shared) (σ : St) (H : Hp) (E : Value → Shared → Prop), Inv X pins σ H s → (∀ b ∈ fp, FpOk X pins H b) → tn i s.heap → J.go i H →
    wpAny (model P w) X.A (pyNext (.ref it)) (fun r s1 => ∃ u, r = some u ∧
      wpAny (model P w) X.A (letOwnedTupleGo tg (.ref it) u) (fun _ s2 => ∃ x H', Inv X pins σ H' s2 ∧ RelV x u ∧ J.yld i H x H' ∧ tn (i + 1) s2.heap ∧ ∀ b ∈ fp, H' b = none) E s1) E s
  done : ∀ (X : Cx), X.prog = P → X.w = w → X.K = K → X.calm = true → ∀ (i : Nat) (pins : List (Addr × Obj)) (s : Shared) (σ : St) (H : Hp) (E : Value → Shared → Prop), Inv X pins σ H s → (∀ b ∈ fp, FpOk X pins H b) → tn i s.heap → J.stop i H →
    wpAny (model P w) X.A (pyNext (.ref it)) (fun r s1 => r = none ∧ Inv X pins σ H s1) E s
  self : ∀ (A : Around) (i : Nat) (s : Shared) (Q : Value → Shared → Prop) (E : Value → Shared → Prop), tn i s.heap → Q (.ref it) s → wpAny (model P w) A (pyIter (.ref it)) Q E s
abbrev TI := St → Hp → (It → Hp → Prop) → Prop
def PIE (X : Cx) (pins : List (Addr × Obj)) (σ : St) (tg : Expr) (R : It → Hp → Prop) (itv : Value) (s2 : Shared) : Prop :=
  ∃ (it : Addr) (fp : List Addr) (tn : Nat → Heap → Prop) (J : It) (H' : Hp), itv = .ref it ∧ Inv X pins σ H' s2 ∧ Turn X.prog X.w X.K tg J fp it tn ∧ tn 0 s2.heap ∧ (∀ b ∈ fp, FpOk X pins H' b) ∧ R J H'
def PI (X : Cx) (tg iter : Expr) (wi : TI) : Prop :=
  ∀ (pins : List (Addr × Obj)) (s : Shared) (σ : St) (H : Hp) (R : It → Hp → Prop), Inv X pins σ H s → wi σ H R →
    wpAny (model X.prog X.w) X.A (eval iter X.env) (fun v s1 => wpAny (model X.prog X.w) X.A (pyIter v) (PIE X pins σ tg R) X.xe s1) X.xe s
theorem go_of {M : Model} {A : Around} {E : Value → Shared → Prop} {s : Shared} {tg : Expr} {it : Addr} {u : Value} {o : Obj} {n : String} {vs : Array Value} {Q : Unit → Shared → Prop} (ho : s.heap.get? it = some o) (hc : o.cls = .type n) (hd : o.data = .fields vs)
    (hn : ["enumerate", "zip", "dict_itemiterator", "dict_reverseitemiterator", "odict_iterator", "itertools.zip_longest", "itertools.pairwise"].contains n = false) (hQ : Q () s) : wpAny M A (letOwnedTupleGo tg (.ref it) u) Q E s := by
  unfold letOwnedTupleGo
  cases tg <;> first
    | exact wpAny_pure hQ
    | (cases u <;> first
        | exact wpAny_pure hQ
        | (refine wpAny_bind (wpAny_load ho ?_)
           rw [hc, hd]
           show wpAny M A (if (["enumerate", "zip", "dict_itemiterator", "dict_reverseitemiterator", "odict_iterator", "itertools.zip_longest", "itertools.pairwise"].contains n && vs[0]? == some (rawInt _)) = true then _ else _) Q E s
           rw [if_neg (by intro h; rw [hn, Bool.false_and] at h; cases h)]
           exact wpAny_pure hQ))
def Itl (K : PySem.W.Frag) (a : Addr) : It :=
  ⟨fun i H => ∃ xs x, SqL K H a xs ∧ xs[i]? = some x, fun i H x H' => H' = H ∧ ∀ xs, SqL K H a xs → xs[i]? = some x, fun i H => ∃ xs, SqL K H a xs ∧ xs.length ≤ i⟩
def Itr (lo : Int) (n : Nat) : It := ⟨fun i _ => i < n, fun i H x H' => H' = H ∧ x = .int (lo + i), fun i _ => n ≤ i⟩
theorem turn_list {P : Program} {w : World} {K : PySem.W.Frag} {tg : Expr} (a it : Addr) : Turn P w K tg (Itl K a) [it] it (fun i h => h.IsListIter it a i) where
  mem := by simp
  obj := fun i h st b hb => by
    have e : b = it := by simpa using hb
    subst e
    obtain ⟨o, e, c, d⟩ := st
    exact ⟨o, e, fun v z => by rw [d] at z; cases z⟩
  keep := fun i h h' st k => st.at fun o e => k it (by simp) o e
  item := by
    intro X hP hw hK hc i pins s σ H E I hf st hg
    subst hP hw hK
    obtain ⟨xs, x, hq, hx⟩ := hg
    obtain ⟨its, rv, p, hz⟩ := I.list hq
    obtain ⟨u, hu, ru⟩ := rv.get hx
    obtain ⟨f0, f1, f2, f3, f4, f5⟩ := hf it (by simp)
    refine wpAny_pyNext_list_item st p.isList (x := u) (by simpa using hu) fun h' st' sb => ?_
    have I1 : Inv X pins σ H { s with heap := h' } := I.turned (t' := s.toks) (fun b o hb e => (sb.2 b hb).trans e) f0 f1 f3 f4 f5
    obtain ⟨o, e, c, d⟩ := id st'
    exact ⟨u, rfl, go_of (s := { s with heap := h' }) e c d (by decide) ⟨x, H, I1, ru, ⟨rfl, fun ys hy => by rw [I.list_inj hy hq]; exact hx⟩, st', fun b hb => (hf b hb).1⟩⟩
  done := by
    intro X hP hw hK hc i pins s σ H E I hf st hg
    subst hP hw hK
    obtain ⟨xs, hq, hx⟩ := hg
    obtain ⟨its, rv, p, hz⟩ := I.list hq
    obtain ⟨f0, f1, f2, f3, f4, f5⟩ := hf it (by simp)
    have hl := rv.length
    exact wpAny_pyNext_list_end (I.ok.hd hc) st p.isList (by simp; omega) fun h' eb => ⟨rfl, I.turned (t' := s.toks) (fun b o hb e => eb b o hb e) f0 f1 f3 f4 f5⟩
  self := fun _ _ _ _ _ st h => wpAny_pyIter_listiter st h
theorem turn_range {P : Program} {w : World} {K : PySem.W.Frag} {tg : Expr} (it : Addr) (lo : Int) (n : Nat) : Turn P w K tg (Itr lo n) [it] it (fun i h => IsRangeIter h it (lo + (i : Nat) * 1) ((n : Int) - (i : Nat)) 1) where
  mem := by simp
  obj := fun i h st b hb => by
    have e : b = it := by simpa using hb
    subst e
    exact ⟨_, st, fun v z => by
      have z' : Data.fields _ = Data.cell v := z
      cases z'⟩
  keep := fun i h h' st k => k it (by simp) _ st
  item := by
    intro X hP hw hK hc i pins s σ H E I hf st hg
    subst hP hw hK
    obtain ⟨f0, f1, f2, f3, f4, f5⟩ := hf it (by simp)
    have W := Walks.range (prog := X.prog) (w := X.w) (I.ok.hd hc) it lo 1 n
    refine W.item i s _ _ hg st fun v h' tk hv st' kk => ?_
    obtain ⟨t, rfl⟩ := hv
    have I1 : Inv X pins σ H { s with heap := h', toks := tk } := I.turned (fun b o hb e => kk b o (by simpa using hb) e) f0 f1 f3 f4 f5
    refine ⟨_, rfl, go_of (s := { s with heap := h', toks := tk }) (n := "range_iterator") st' rfl rfl (by decide) ⟨.int (lo + i), H, I1, ⟨t, ?_⟩, ⟨rfl, rfl⟩, st', fun b hb => (hf b hb).1⟩⟩
    rw [Int.mul_one]
  done := by
    intro X hP hw hK hc i pins s σ H E I hf st hg
    subst hP hw hK
    obtain ⟨f0, f1, f2, f3, f4, f5⟩ := hf it (by simp)
    exact wpAny_pyNext_range_end (I.ok.hd hc) st (by have : n ≤ i := hg; omega) fun h' eb => ⟨rfl, I.turned (t' := s.toks) (fun b o hb e => eb b o hb e) f0 f1 f3 f4 f5⟩
  self := fun _ _ _ _ _ st h => wpAny_pyIter_rangeiter st h
end L2
namespace L2
open PySem PySem.Spec PyProof.Rows
section
variable {X : Cx} {tg : Expr}
def iList (K : PySem.W.Frag) (tl : TE) : TI := fun σ H R => tl σ H fun x H1 => ∃ a, x = .ref a ∧ (∃ xs, SqL K H1 a xs) ∧ R (Itl K a) H1
theorem pi_list {l : Expr} {tl : TE} (hl : PE X l tl) : PI X tg l (iList X.K tl) := by
  intro pins s σ H R I h
  refine thn (hl pins s σ H _ I h) fun v s1 ⟨x, H1, I1, r1, q1⟩ => ?_
  obtain ⟨a, e, ⟨xs, hq⟩, q⟩ := q1
  subst e
  cases r1
  obtain ⟨its, rv, p, hz⟩ := I1.list hq
  refine wpAny_pyIter_list p.isList ?_
  refine ⟨s1.heap.objs.size, [s1.heap.objs.size], _, _, H1, rfl, I1.kept (t' := s1.toks) fun b o e => Heap.get?_push_of_some _ e, turn_list a _, ⟨_, Heap.get?_push_size _ rfl, rfl, rfl⟩, fun b hb => ?_, q⟩
  have e : b = s1.heap.objs.size := by simpa using hb
  subst e
  exact I1.fpOk (Nat.le_refl _) (I1.hok.fresh (Nat.le_refl _))
theorem range_it {pins : List (Addr × Obj)} {σ : St} {H : Hp} {s : Shared} {R : It → Hp → Prop} {E : Value → Shared → Prop} {lo hi : Int} {t u v : Tok} {tk : Nat} (I : Inv X pins σ H s) (h1 : -(2 ^ 62) ≤ lo) (h2 : lo < 2 ^ 62) (h3 : -(2 ^ 62) ≤ hi) (h4 : hi < 2 ^ 62)
    (q : R (Itr lo (hi - lo).toNat) H) : wpAny (model X.prog X.w) X.A (pyIter (.ref s.heap.objs.size)) (PIE X pins σ tg R) E { s with heap := s.heap.push { cls := .type "range", data := .fields #[.int lo t, .int hi u, .int 1 v] }, toks := tk } := by
  refine wpAny_pyIter_range (IsRange.new ..) (small_one h1 h2 h3 h4) ?_
  have I1 : Inv X pins σ H { s with heap := s.heap.push { cls := .type "range", data := .fields #[.int lo t, .int hi u, .int 1 v] }, toks := tk } := I.kept fun b o e => Heap.get?_push_of_some _ e
  refine ⟨(s.heap.push { cls := .type "range", data := .fields #[.int lo t, .int hi u, .int 1 v] }).objs.size, [(s.heap.push { cls := .type "range", data := .fields #[.int lo t, .int hi u, .int 1 v] }).objs.size], _, _, H, rfl,
    I1.kept (t' := tk) fun b o e => Heap.get?_push_of_some _ e, turn_range _ lo (hi - lo).toNat, ?_, fun b hb => ?_, q⟩
  · have e1 : lo + ((0 : Nat) : Int) * 1 = lo := by simp
    have e2 : (((hi - lo).toNat : Nat) : Int) - ((0 : Nat) : Int) = Builtin.Range.rangeSize lo hi 1 := by rw [rangeSize_one]; split <;> omega
    show IsRangeIter _ _ (lo + ((0 : Nat) : Int) * 1) ((((hi - lo).toNat : Nat) : Int) - ((0 : Nat) : Int)) 1
    rw [e1, e2]
    exact Heap.get?_push_size _ rfl
  · have e : b = (s.heap.push { cls := .type "range", data := .fields #[.int lo t, .int hi u, .int 1 v] }).objs.size := by simpa using hb
    subst e
    exact I1.fpOk (Nat.le_refl _) (I1.hok.fresh (Nat.le_refl _))
def iRng1 (ta : TA) : TI := fun σ H R => ta σ H fun vs H1 => ∃ j : Int, vs = [.int j] ∧ -(2 ^ 62) ≤ j ∧ j < 2 ^ 62 ∧ R (Itr 0 j.toNat) H1
theorem pi_range1 {a : Expr} {ta : TA} {p pos : Pos} (hg : Gl X "range") (hm : X.mg "range" = none) (ha : PA X [a] ta) (hs : starEach [a] X.env = [(false, eval a X.env)] := by rfl) : PI X tg (.Call (.Name "range" p) [a] [] pos) (iRng1 ta) := by
  intro pins s σ H R I h
  refine Call_ (ld_blt I hg hm boot_range (PyProof.Rows.callWith_type1 (thn (ha pos pins s σ H _ I h) fun us s1 ⟨vs, H1, I1, r1, q1⟩ => ?_) hs rfl))
  obtain ⟨j, e, q1, q2, q⟩ := q1
  subst e
  cases r1 with
  | cons r rr =>
    cases rr
    obtain ⟨t, rfl⟩ := r
    exact call_range_1 (range_it I1 (by omega) (by omega) q1 q2 (by simpa using q))
def tFor (wi : TI) (g : TG) (tb : TS) : TS := fun D σ H => wi σ H fun J H1 => ∃ W : Nat → Nat → St → Hp → Prop, (∃ m, W 0 m σ H1) ∧ ∀ i m σ H, W i m σ H →
  (J.stop i H ∧ D.nx σ H) ∨ (J.go i H ∧ ∃ N : St → Hp → Prop, (∀ σ' H', N σ' H' → ∃ m', m' < m ∧ W (i + 1) m' σ' H') ∧ ∀ x H', J.yld i H x H' → g x σ H' fun σ2 H2 => tb { D with nx := N, ct := N, bk := D.nx } σ2 H2)
def pinsAt (fp : List Addr) (h : Heap) : List (Addr × Obj) := fp.filterMap fun b => (h.get? b).map fun o => (b, o)
theorem mem_pinsAt {fp : List Addr} {h : Heap} {b : Addr} {o : Obj} (hb : b ∈ fp) (e : h.get? b = some o) : (b, o) ∈ pinsAt fp h := List.mem_filterMap.mpr ⟨b, hb, by rw [e]; rfl⟩
theorem of_pinsAt {fp : List Addr} {h : Heap} {p : Addr × Obj} (hp : p ∈ pinsAt fp h) : p.1 ∈ fp ∧ h.get? p.1 = some p.2 := by
  obtain ⟨b, hb, e⟩ := List.mem_filterMap.mp hp
  cases q : h.get? b with
  | none => rw [q] at e; cases e
  | some o =>
    rw [q] at e
    have e' : (b, o) = p := Option.some.inj e
    subst e'
    exact ⟨hb, q⟩
theorem Inv.pinned {pins : List (Addr × Obj)} {σ : St} {H : Hp} {s : Shared} {fp : List Addr} (I : Inv X pins σ H s) (hf : ∀ b ∈ fp, FpOk X pins H b) (ho : ∀ b ∈ fp, ∃ o, s.heap.get? b = some o ∧ ∀ v, o.data ≠ .cell v) : Inv X (pins ++ pinsAt fp s.heap) σ H s :=
  I.pins_of fun p hp => (List.mem_append.mp hp).elim (fun z => I.pin p (List.mem_append_right _ z)) fun z => by
    obtain ⟨hb, e⟩ := of_pinsAt z
    obtain ⟨f0, f1, f2, _⟩ := hf p.1 hb
    obtain ⟨o, e', d⟩ := ho p.1 hb
    rw [e] at e'; cases e'
    exact ⟨e, f0, f1, f2, d⟩
theorem Inv.unpinned {pins pl : List (Addr × Obj)} {σ : St} {H : Hp} {s : Shared} (I : Inv X (pins ++ pl) σ H s) : Inv X pins σ H s := I.pins_of fun p hp => I.pin p (List.mem_append_right _ (List.mem_append_left _ hp))
theorem ps_for {iter : Expr} {body : List Stmt} {wi : TI} {g : TG} {tb : TS} {pos : Pos} (hp : PassesOwn (model X.prog X.w) X.A X.env X.xe) (hc : X.calm = true) (hi : PI X tg iter wi) (hg : PG X tg g) (hb : PSs X body tb)
    (hs : ∀ x, foldedSetIterable iter X.env x = pure x := by intro _; rfl) : PS X (.For tg iter body [] pos) (tFor wi g tb) := by
  intro pins s σ H D I h
  refine wpAny_For (thn (hi pins s σ H _ I h) fun v s1 h1 => thn h1 fun itv s2 h2 => ?_) hs
  obtain ⟨it, fp, tn, J, H2, e, I2, T, st2, f2, W, ⟨m0, w0⟩, turn⟩ := h2
  subst e
  -- what stays true of the iterator's objects through the loop
  have stat : ∀ {H' : Hp}, (∀ b ∈ fp, H' b = none) → ∀ b ∈ fp, FpOk X pins H' b := fun hn b hb => ⟨hn b hb, (f2 b hb).2⟩
  refine codeAny_forLoop_any (fun n s' => ∃ i σ' H', Inv X pins σ' H' s' ∧ tn i s'.heap ∧ (∀ b ∈ fp, H' b = none) ∧ W i n σ' H') ?_ m0 ⟨0, σ, H2, I2, st2, fun b hb => (f2 b hb).1, w0⟩
  rintro n s3 ⟨i, σ3, H3, I3, st3, fr3, w3⟩
  rcases turn i n σ3 H3 w3 with ⟨stop, qn⟩ | ⟨go, N, hN, step⟩
  · refine wpAny_passesOwn hp (thn (T.done X rfl rfl rfl hc i pins s3 σ3 H3 X.xe I3 (stat fr3) st3 stop) fun r s4 ⟨hr, I4⟩ => ?_)
    subst hr
    exact wpAny_execs_nil ⟨σ3, H3, I4, qn⟩
  · refine wpAny_passesOwn hp (thn (T.item X rfl rfl rfl hc i pins s3 σ3 H3 X.xe I3 (stat fr3) st3 go) fun r s4 ⟨u, hr, h4⟩ => ?_)
    subst hr
    refine wpAny_passesOwn hp (thn h4 fun _ s5 ⟨x, H5, I5, r5, y5, st5, fr5⟩ => ?_)
    have I5' := I5.pinned (stat fr5) (T.obj _ _ st5)
    refine wpAny_passesOwn hp (thn (hg _ s5 σ3 H5 x u _ I5' r5 (step x H5 y5)) fun _ s6 ⟨σ6, H6, I6, q6⟩ => ?_)
    refine wpAny_passesOwn hp (thn (hb _ s6 σ6 H6 _ I6 q6) fun f s7 q7 => ?_)
    have again : ∀ {σ7 : St} {H7 : Hp}, Inv X (pins ++ pinsAt fp s5.heap) σ7 H7 s7 → N σ7 H7 → ∃ m, m < n ∧ ∃ i σ' H', Inv X pins σ' H' s7 ∧ tn i s7.heap ∧ (∀ b ∈ fp, H' b = none) ∧ W i m σ' H' := fun {σ7 H7} I7 n7 => by
      obtain ⟨m', hm, w7⟩ := hN σ7 H7 n7
      refine ⟨m', hm, i + 1, σ7, H7, I7.unpinned, T.keep _ _ _ st5 fun b hb o e => (I7.pin (b, o) (List.mem_append_right _ (List.mem_append_right _ (mem_pinsAt hb e)))).1, fun b hb => ?_, w7⟩
      obtain ⟨o, e, d⟩ := T.obj _ _ st5 b hb
      exact (I7.pin (b, o) (List.mem_append_right _ (List.mem_append_right _ (mem_pinsAt hb e)))).2.1
    cases f with
    | next => obtain ⟨σ7, H7, I7, n7⟩ := q7; exact again I7 n7
    | cont => obtain ⟨σ7, H7, I7, n7⟩ := q7; exact again I7 n7
    | brk => obtain ⟨σ7, H7, I7, q7⟩ := q7; exact ⟨σ7, H7, I7.unpinned, q7⟩
    | ret v => obtain ⟨x7, σ7, H7, I7, r7, q7⟩ := q7; exact ⟨x7, σ7, H7, I7.unpinned, r7, q7⟩
end
theorem for_list {K : PySem.W.Frag} {a : Addr} {xs : List V} {g : TG} {tb : TS} {D : Ends} {σ : St} {H : Hp} (Pv : Nat → St → Hp → Prop) (h0 : Pv 0 σ H) (hl : ∀ i σ H, i ≤ xs.length → Pv i σ H → SqL K H a xs)
    (hs : ∀ i x σ H, xs[i]? = some x → Pv i σ H → g x σ H fun σ2 H2 => tb { D with nx := Pv (i + 1), ct := Pv (i + 1), bk := D.nx } σ2 H2) (hd : ∀ σ H, Pv xs.length σ H → D.nx σ H) :
    ∃ W : Nat → Nat → St → Hp → Prop, (∃ m, W 0 m σ H) ∧ ∀ i m σ H, W i m σ H →
      ((Itl K a).stop i H ∧ D.nx σ H) ∨ ((Itl K a).go i H ∧ ∃ N : St → Hp → Prop, (∀ σ' H', N σ' H' → ∃ m', m' < m ∧ W (i + 1) m' σ' H') ∧ ∀ x H', (Itl K a).yld i H x H' → g x σ H' fun σ2 H2 => tb { D with nx := N, ct := N, bk := D.nx } σ2 H2) := by
  refine ⟨fun i m σ H => m = xs.length - i ∧ i ≤ xs.length ∧ Pv i σ H, ⟨xs.length, by simp, Nat.zero_le _, h0⟩, ?_⟩
  rintro i m σ H ⟨rfl, hi, p⟩
  have q := hl i σ H hi p
  by_cases hlt : i < xs.length
  · refine .inr ⟨⟨xs, xs[i], q, by simp [hlt]⟩, Pv (i + 1), fun σ' H' p' => ⟨xs.length - (i + 1), by omega, rfl, hlt, p'⟩, fun x H' y => ?_⟩
    obtain ⟨e, y⟩ := y
    subst e
    exact hs i x σ _ (y xs q) p
  · have e : i = xs.length := by omega
    subst e
    exact .inl ⟨⟨xs, q, Nat.le_refl _⟩, hd σ H p⟩
theorem for_range {lo : Int} {n : Nat} {g : TG} {tb : TS} {D : Ends} {σ : St} {H : Hp} (Pv : Nat → St → Hp → Prop) (h0 : Pv 0 σ H)
    (hs : ∀ i σ H, i < n → Pv i σ H → g (.int (lo + i)) σ H fun σ2 H2 => tb { D with nx := Pv (i + 1), ct := Pv (i + 1), bk := D.nx } σ2 H2) (hd : ∀ σ H, Pv n σ H → D.nx σ H) :
    ∃ W : Nat → Nat → St → Hp → Prop, (∃ m, W 0 m σ H) ∧ ∀ i m σ H, W i m σ H →
      ((Itr lo n).stop i H ∧ D.nx σ H) ∨ ((Itr lo n).go i H ∧ ∃ N : St → Hp → Prop, (∀ σ' H', N σ' H' → ∃ m', m' < m ∧ W (i + 1) m' σ' H') ∧ ∀ x H', (Itr lo n).yld i H x H' → g x σ H' fun σ2 H2 => tb { D with nx := N, ct := N, bk := D.nx } σ2 H2) := by
  refine ⟨fun i m σ H => m = n - i ∧ i ≤ n ∧ Pv i σ H, ⟨n, by simp, Nat.zero_le _, h0⟩, ?_⟩
  rintro i m σ H ⟨rfl, hi, p⟩
  by_cases hlt : i < n
  · refine .inr ⟨hlt, Pv (i + 1), fun σ' H' p' => ⟨n - (i + 1), by omega, rfl, hlt, p'⟩, fun x H' y => ?_⟩
    obtain ⟨e, y⟩ := y
    subst e y
    exact hs i σ _ hlt p
  · have e : i = n := by omega
    subst e
    exact .inl ⟨Nat.le_refl _, hd σ H p⟩
end L2
namespace L2
open PySem PySem.Spec PyProof.Rows
abbrev R2 := V → V → Hp → VK → Prop
def OpR (X : Cx) (f : Value → Value → Sem Value) (r : R2) : Prop :=
  ∀ (pins : List (Addr × Obj)) (s : Shared) (σ : St) (H : Hp) (x y : V) (v u : Value) (Q : VK), Inv X pins σ H s → RelV x v → RelV y u → r x y H Q →
    wpAny (model X.prog X.w) X.A (f v u) (EP X pins σ Q) X.xe s
def UnR (X : Cx) (f : Value → Sem Value) (r : V → Hp → VK → Prop) : Prop :=
  ∀ (pins : List (Addr × Obj)) (s : Shared) (σ : St) (H : Hp) (x : V) (v : Value) (Q : VK), Inv X pins σ H s → RelV x v → r x H Q →
    wpAny (model X.prog X.w) X.A (f v) (EP X pins σ Q) X.xe s
def CallR (X : Cx) (f : Value) (r : List V → Hp → VK → Prop) : Prop :=
  ∀ (pins : List (Addr × Obj)) (s : Shared) (σ : St) (H : Hp) (xs : List V) (us : List Value) (Q : VK), Inv X pins σ H s → Vals xs us → r xs H Q →
    wpAny (model X.prog X.w) X.A (call f us) (EP X pins σ Q) X.xe s
def tOp (r : R2) (ta tb : TE) : TE := fun σ H Q => ta σ H fun x H1 => tb σ H1 fun y H2 => r x y H2 Q
def tUn (r : V → Hp → VK → Prop) (ta : TE) : TE := fun σ H Q => ta σ H fun x H1 => r x H1 Q
def rI (C : Int → Int → Prop) (g : Int → Int → V) : R2 := fun x y H Q => ∃ i j, x = .int i ∧ y = .int j ∧ C i j ∧ Q (g i j) H
def rI0 (g : Int → Int → V) : R2 := fun x y H Q => ∃ i j, x = .int i ∧ y = .int j ∧ Q (g i j) H
def rU (g : Int → V) : V → Hp → VK → Prop := fun x H Q => ∃ i, x = .int i ∧ Q (g i) H
section
variable {X : Cx} {a b c : Expr} {ta tb tc : TE} {pos : Pos}
theorem binT (ha : PE X a ta) (hb : PE X b tb) {pins : List (Addr × Obj)} {s : Shared} {σ : St} {H : Hp} {R : V → V → Hp → Prop} (I : Inv X pins σ H s)
    (h : ta σ H fun x H1 => tb σ H1 fun y H2 => R x y H2) {Q : Value → Shared → Prop} {f : Value → Value → Sem Value}
    (hf : ∀ v u s2 x y H2, Inv X pins σ H2 s2 → RelV x v → RelV y u → R x y H2 → wpAny (model X.prog X.w) X.A (f v u) Q X.xe s2) :
    wpAny (model X.prog X.w) X.A (eval a X.env) (fun v s₁ => wpAny (model X.prog X.w) X.A (eval b X.env) (fun u s₂ => wpAny (model X.prog X.w) X.A (f v u) Q X.xe s₂) X.xe s₁) X.xe s := by
  refine thn (ha pins s σ H _ I h) fun v s1 ⟨x, H1, I1, r1, q1⟩ => ?_
  refine thn (hb pins s1 σ H1 _ I1 q1) fun u s2 ⟨y, H2, I2, r2, q2⟩ => ?_
  exact hf v u s2 x y H2 I2 r1 r2 q2
theorem pe_op {op : Operator} {r : R2} (ho : OpR X (binaryOp op) r) (ha : PE X a ta) (hb : PE X b tb) : PE X (.BinOp a op b pos) (tOp r ta tb) := by
  intro pins s σ H Q I h
  exact wpAny_BinOp (binT ha hb I h fun v u s2 x y H2 I2 rx ry q => ho pins s2 σ H2 x y v u Q I2 rx ry q)
theorem pe_un {op : UnaryOp} {r : V → Hp → VK → Prop} (ho : UnR X (unaryOp op) r) (ha : PE X a ta) : PE X (.UnaryOp op a pos) (tUn r ta) := by
  intro pins s σ H Q I h
  exact UnaryOp_ (thn (ha pins s σ H _ I h) fun v s1 ⟨x, H1, I1, r1, q1⟩ => ho pins s1 σ H1 x v Q I1 r1 q1)
theorem opI {f : Value → Value → Sem Value} {C : Int → Int → Prop} {g : Int → Int → Int}
    (rule : ∀ (i j : Int) (t u : Tok) (s : Shared) (Q : Value → Shared → Prop) (E : Value → Shared → Prop), C i j → Q (.int (g i j) s.toks) { s with toks := s.toks + 1 } → wpAny (model X.prog X.w) X.A (f (.int i t) (.int j u)) Q E s) :
    OpR X f (rI C fun i j => .int (g i j)) := by
  intro pins s σ H x y v u Q I rx ry h
  obtain ⟨i, j, rfl, rfl, hc, q⟩ := h
  obtain ⟨t, rfl⟩ := rx
  obtain ⟨t', rfl⟩ := ry
  exact rule i j t t' s _ _ hc ⟨.int (g i j), H, I.tok _, ⟨_, rfl⟩, q⟩
theorem opI0 {f : Value → Value → Sem Value} {g : Int → Int → Int}
    (rule : ∀ (i j : Int) (t u : Tok) (s : Shared) (Q : Value → Shared → Prop) (E : Value → Shared → Prop), Q (.int (g i j) s.toks) { s with toks := s.toks + 1 } → wpAny (model X.prog X.w) X.A (f (.int i t) (.int j u)) Q E s) :
    OpR X f (rI0 fun i j => .int (g i j)) := by
  intro pins s σ H x y v u Q I rx ry h
  obtain ⟨i, j, rfl, rfl, q⟩ := h
  obtain ⟨t, rfl⟩ := rx
  obtain ⟨t', rfl⟩ := ry
  exact rule i j t t' s _ _ ⟨.int (g i j), H, I.tok _, ⟨_, rfl⟩, q⟩
theorem opB0 {f : Value → Value → Sem Value} {g : Int → Int → Bool}
    (rule : ∀ (i j : Int) (t u : Tok) (s : Shared) (Q : Value → Shared → Prop) (E : Value → Shared → Prop), Q (.bool (g i j)) s → wpAny (model X.prog X.w) X.A (f (.int i t) (.int j u)) Q E s) :
    OpR X f (rI0 fun i j => .bl (g i j)) := by
  intro pins s σ H x y v u Q I rx ry h
  obtain ⟨i, j, rfl, rfl, q⟩ := h
  obtain ⟨t, rfl⟩ := rx
  obtain ⟨t', rfl⟩ := ry
  exact rule i j t t' s _ _ ⟨.bl (g i j), H, I, rfl, q⟩
def CDiv (i j : Int) : Prop := 0 < j ∧ j < 1073741824
def CDivN (i j : Int) : Prop := j ≠ 0 ∧ j.natAbs < 1073741824
def CPow (i j : Int) : Prop := 0 ≤ j ∧ j ≤ 1000000 ∧ i.natAbs < 2 ^ 64
def CMul (i j : Int) : Prop := (-(2 ^ 64) < i ∧ i < 2 ^ 64) ∨ (-(2 ^ 64) < j ∧ j < 2 ^ 64)
theorem CMul.ok {i j : Int} (h : CMul i j) : IntMulOk i j := by
  rcases h with ⟨h1, h2⟩ | ⟨h1, h2⟩
  · exact .of_left (intBits_le_64 h1 h2)
  · exact .of_right (intBits_le_64 h1 h2)
theorem op_add : OpR X (binaryOp .Add) (rI0 fun i j => .int (i + j)) := opI0 fun _ _ _ _ _ _ _ q => add_int q
theorem op_sub : OpR X (binaryOp .Sub) (rI0 fun i j => .int (i - j)) := opI0 fun _ _ _ _ _ _ _ q => sub_int q
theorem op_mul : OpR X (binaryOp .Mult) (rI CMul fun i j => .int (i * j)) := opI fun _ _ _ _ _ _ _ hc q => mul_int q hc.ok
theorem op_fdiv : OpR X (binaryOp .FloorDiv) (rI CDiv fun i j => .int (i / j)) := opI fun i j _ _ _ _ _ hc q => by
  have h1 : (0 : Int) < j := hc.1
  have h2 : j < 1073741824 := hc.2
  exact floordiv_int (by omega) (by rw [Int.fdiv_eq_ediv_of_nonneg i (by omega)]; exact q) (.inl (PyProof.noPylong_small (by omega)))
theorem op_mod : OpR X (binaryOp .Mod) (rI (fun _ j => 0 < j) fun i j => .int (i % j)) := opI fun i j _ _ _ _ _ hc q => by
  have h1 : (0 : Int) < j := hc
  exact mod_int' (by omega) (by rw [Int.fmod_eq_emod_of_nonneg i (by omega)]; exact q)
theorem op_pow : OpR X (binaryOp .Pow) (rI CPow fun i j => .int (i ^ j.toNat)) := opI fun _ _ _ _ _ _ _ hc q => pow_int_small hc.1 hc.2.1 hc.2.2 q
theorem unI {f : Value → Sem Value} {g : Int → Int}
    (rule : ∀ (i : Int) (t : Tok) (s : Shared) (Q : Value → Shared → Prop) (E : Value → Shared → Prop), Q (.int (g i) s.toks) { s with toks := s.toks + 1 } → wpAny (model X.prog X.w) X.A (f (.int i t)) Q E s) :
    UnR X f (rU fun i => .int (g i)) := by
  intro pins s σ H x v Q I rx h
  obtain ⟨i, rfl, q⟩ := h
  obtain ⟨t, rfl⟩ := rx
  exact rule i t s _ _ ⟨.int (g i), H, I.tok _, ⟨_, rfl⟩, q⟩
theorem un_neg : UnR X (unaryOp .USub) (rU fun i => .int (-i)) := unI fun _ _ _ _ _ q => neg_int q
end
def scal : V → V → Bool
  | .non, .non => true | .non, .int _ => true | .int _, .non => true | .non, .bl _ => true | .bl _, .non => true | .non, .str _ => true | .str _, .non => true
  | .int _, .int _ => true | .bl _, .bl _ => true | .str _, .str _ => true | .byt _, .byt _ => true
  | .int _, .str _ => true | .str _, .int _ => true | .bl _, .str _ => true | .str _, .bl _ => true
  | _, _ => false
def rEq : R2 := fun x y H Q => scal x y = true ∧ Q (.bl (decide (x = y))) H
def rNe : R2 := fun x y H Q => scal x y = true ∧ Q (.bl (!decide (x = y))) H
theorem dec_int {i j : Int} : decide (V.int i = V.int j) = (i == j) := by
  rw [Bool.eq_iff_iff]
  simp
theorem dec_bl {i j : Bool} : decide (V.bl i = V.bl j) = (i == j) := by
  rw [Bool.eq_iff_iff]
  simp
theorem dec_str {i j : Str} : decide (V.str i = V.str j) = (i == j) := by
  rw [Bool.eq_iff_iff]
  simp
theorem dec_byt {i j : Array UInt8} : decide (V.byt i = V.byt j) = (i.toList == j.toList) := by
  rw [Bool.eq_iff_iff]
  cases i
  cases j
  simp
section
variable {X : Cx} {a b c : Expr} {ta tb tc : TE} {pos : Pos}
theorem fin_bl {pins : List (Addr × Obj)} {σ : St} {H : Hp} {s : Shared} {Q : VK} {k k' : Bool} (I : Inv X pins σ H s) (q : Q (.bl k) H) (e : k = k') : EP X pins σ Q (.bool k') s := by
  subst e
  exact ⟨.bl k, H, I, rfl, q⟩
theorem op_eq : OpR X (compareOp .Eq) rEq := by
  intro pins s σ H x y v u Q I rx ry h
  obtain ⟨hs, q⟩ := h
  cases x with
  | non =>
    cases rx
    cases y with
    | non => cases ry; exact PySem.EqNone.eq_none_none (fin_bl I q (by simp))
    | bl j => cases ry; exact PySem.EqNone.eq_none_bool (fin_bl I q (by simp))
    | int j => obtain ⟨t', rfl⟩ := ry; exact PySem.EqNone.eq_none_int (fin_bl I q (by simp))
    | str j => obtain ⟨t', rfl⟩ := ry; exact PySem.EqNone.eq_none_str (fin_bl I q (by simp))
    | _ => exact absurd (show false = true from hs) Bool.false_ne_true
  | bl i =>
    cases rx
    cases y with
    | non => cases ry; exact PySem.EqNone.eq_bool_none (fin_bl I q (by simp))
    | bl j => cases ry; exact eq_bool (fin_bl I q dec_bl)
    | str j => obtain ⟨t', rfl⟩ := ry; exact PySem.EqMixed.eq_bool_str (fin_bl I q (by simp))
    | _ => exact absurd (show false = true from hs) Bool.false_ne_true
  | int i =>
    obtain ⟨t, rfl⟩ := rx
    cases y with
    | non => cases ry; exact PySem.EqNone.eq_int_none (fin_bl I q (by simp))
    | int j => obtain ⟨t', rfl⟩ := ry; exact eq_int (fin_bl I q dec_int)
    | str j => obtain ⟨t', rfl⟩ := ry; exact PySem.EqMixed.eq_int_str (fin_bl I q (by simp))
    | _ => exact absurd (show false = true from hs) Bool.false_ne_true
  | str i =>
    obtain ⟨t, rfl⟩ := rx
    cases y with
    | non => cases ry; exact PySem.EqNone.eq_str_none (fin_bl I q (by simp))
    | bl j => cases ry; exact PySem.EqMixed.eq_str_bool (fin_bl I q (by simp))
    | int j => obtain ⟨t', rfl⟩ := ry; exact PySem.EqMixed.eq_str_int (fin_bl I q (by simp))
    | str j => obtain ⟨t', rfl⟩ := ry; exact eq_str (fin_bl I q dec_str)
    | _ => exact absurd (show false = true from hs) Bool.false_ne_true
  | byt i =>
    obtain ⟨t, rfl⟩ := rx
    cases y with
    | byt j => obtain ⟨t', rfl⟩ := ry; exact PySem.W.eq_bytes (fin_bl I q dec_byt)
    | _ => exact absurd (show false = true from hs) Bool.false_ne_true
  | _ => cases y <;> exact absurd (show false = true from hs) Bool.false_ne_true
theorem op_ne : OpR X (compareOp .NotEq) rNe := by
  intro pins s σ H x y v u Q I rx ry h
  obtain ⟨hs, q⟩ := h
  cases x with
  | non =>
    cases rx
    cases y with
    | non => cases ry; exact PySem.EqNone.ne_none_none (fin_bl I q (by simp))
    | bl j => cases ry; exact PySem.EqNone.ne_none_bool (fin_bl I q (by simp))
    | int j => obtain ⟨t', rfl⟩ := ry; exact PySem.EqNone.ne_none_int (fin_bl I q (by simp))
    | str j => obtain ⟨t', rfl⟩ := ry; exact PySem.EqNone.ne_none_str (fin_bl I q (by simp))
    | _ => exact absurd (show false = true from hs) Bool.false_ne_true
  | bl i =>
    cases rx
    cases y with
    | non => cases ry; exact PySem.EqNone.ne_bool_none (fin_bl I q (by simp))
    | bl j => cases ry; exact ne_bool (fin_bl I q (congrArg not dec_bl))
    | str j => obtain ⟨t', rfl⟩ := ry; exact PySem.EqMixed.ne_bool_str (fin_bl I q (by simp))
    | _ => exact absurd (show false = true from hs) Bool.false_ne_true
  | int i =>
    obtain ⟨t, rfl⟩ := rx
    cases y with
    | non => cases ry; exact PySem.EqNone.ne_int_none (fin_bl I q (by simp))
    | int j => obtain ⟨t', rfl⟩ := ry; exact ne_int (fin_bl I q (congrArg not dec_int))
    | str j => obtain ⟨t', rfl⟩ := ry; exact PySem.EqMixed.ne_int_str (fin_bl I q (by simp))
    | _ => exact absurd (show false = true from hs) Bool.false_ne_true
  | str i =>
    obtain ⟨t, rfl⟩ := rx
    cases y with
    | non => cases ry; exact PySem.EqNone.ne_str_none (fin_bl I q (by simp))
    | bl j => cases ry; exact PySem.EqMixed.ne_str_bool (fin_bl I q (by simp))
    | int j => obtain ⟨t', rfl⟩ := ry; exact PySem.EqMixed.ne_str_int (fin_bl I q (by simp))
    | str j => obtain ⟨t', rfl⟩ := ry; exact ne_str (fin_bl I q (congrArg not dec_str))
    | _ => exact absurd (show false = true from hs) Bool.false_ne_true
  | byt i =>
    obtain ⟨t, rfl⟩ := rx
    cases y with
    | byt j => obtain ⟨t', rfl⟩ := ry; exact PySem.W.ne_bytes (fin_bl I q (congrArg not dec_byt))
    | _ => exact absurd (show false = true from hs) Bool.false_ne_true
  | _ => cases y <;> exact absurd (show false = true from hs) Bool.false_ne_true
theorem op_lt : OpR X (compareOp .Lt) (rI0 fun i j => .bl (decide (i < j))) := opB0 fun _ _ _ _ _ _ _ q => lt_int q
theorem op_le : OpR X (compareOp .LtE) (rI0 fun i j => .bl (decide (i ≤ j))) := opB0 fun _ _ _ _ _ _ _ q => le_int q
theorem op_gt : OpR X (compareOp .Gt) (rI0 fun i j => .bl (decide (j < i))) := opB0 fun _ _ _ _ _ _ _ q => gt_int q
theorem op_ge : OpR X (compareOp .GtE) (rI0 fun i j => .bl (decide (j ≤ i))) := opB0 fun _ _ _ _ _ _ _ q => ge_int q
theorem op_isN : OpR X (compareOp .Is) (fun x y H Q => y = .non ∧ Q (.bl (decide (x = .non))) H) := by
  intro pins s σ H x y v u Q I rx ry h
  obtain ⟨rfl, q⟩ := h
  cases ry
  refine is_none_gen (fin_bl I q ?_)
  cases x <;> first
    | (cases rx; rfl)
    | (obtain ⟨t, rfl⟩ := rx; rfl)
theorem op_notN : OpR X (compareOp .IsNot) (fun x y H Q => y = .non ∧ Q (.bl (!decide (x = .non))) H) := by
  intro pins s σ H x y v u Q I rx ry h
  obtain ⟨rfl, q⟩ := h
  cases ry
  refine isnot_none_gen (fin_bl I q ?_)
  cases x <;> first
    | (cases rx; rfl)
    | (obtain ⟨t, rfl⟩ := rx; rfl)
theorem nomark (b : Expr) {op : CmpOp} (h : op ≠ .In := by decide) (h2 : op ≠ .NotIn := by decide) : behindInMarks op b = false := by
  have e1 : (op == CmpOp.In) = false := by cases op <;> first | rfl | exact absurd rfl h
  have e2 : (op == CmpOp.NotIn) = false := by cases op <;> first | rfl | exact absurd rfl h2
  cases b <;> simp [behindInMarks, e1, e2]
theorem pe_cmpR {op : CmpOp} {r : R2} (ho : OpR X (compareOp op) r) (ha : PE X a ta) (hb : PE X b tb) (hm : behindInMarks op b = false) : PE X (.Compare a [op] [b] pos) (tOp r ta tb) := by
  intro pins s σ H Q I h
  exact wpAny_Compare1 (binT ha hb I h fun v u s2 x y H2 I2 rx ry q => ho pins s2 σ H2 x y v u Q I2 rx ry q) hm
def tTest (t : TE) : TT := fun σ H Q => t σ H fun x H' => ∃ k, x = .bl k ∧ Q k H'
theorem pt_cmpR {op : CmpOp} {r : R2} (ho : OpR X (compareOp op) r) (ha : PE X a ta) (hb : PE X b tb) (hm : behindInMarks op b = false) : PT X (.Compare a [op] [b] pos) (tTest (tOp r ta tb)) := by
  intro pins s σ H Q I h
  refine wpAny_isTrue_Compare1 (thn (ha pins s σ H _ I h) fun v s1 ⟨x, H1, I1, r1, q1⟩ => thn (hb pins s1 σ H1 _ I1 q1) fun u s2 ⟨y, H2, I2, r2, q2⟩ =>
    thn (ho pins s2 σ H2 x y v u _ I2 r1 r2 q2) fun c s3 ⟨z, H3, I3, r3, k, e, q3⟩ => ?_) hm
  subst e
  cases r3
  exact wpAny_truthy_bool ⟨H3, I3, q3⟩
def tChain (r r' : R2) (ta tb tc : TE) : TE := fun σ H Q => ta σ H fun x H1 => tb σ H1 fun y H2 => r x y H2 fun z H3 => ∃ k, z = .bl k ∧
  (if k = true then tc σ H3 fun w' H4 => r' y w' H4 Q else Q (.bl false) H3)
theorem pt_chain {op op' : CmpOp} {r r' : R2} (ho : OpR X (compareOp op) r) (ho' : OpR X (compareOp op') r') (ha : PE X a ta) (hb : PE X b tb) (hc : PE X c tc)
    (hm : lastMarks [op, op'] [b, c] = false := by with_unfolding_all rfl) : PT X (.Compare a [op, op'] [b, c] pos) (tTest (tChain r r' ta tb tc)) := by
  intro pins s σ H Q I h
  refine isTrue_chain (thn (ha pins s σ H _ I h) fun v s1 ⟨x, H1, I1, r1, q1⟩ => test_link (thn (hb pins s1 σ H1 _ I1 q1) fun u s2 ⟨y, H2, I2, r2, q2⟩ =>
    thn (ho pins s2 σ H2 x y v u _ I2 r1 r2 q2) fun d s3 ⟨z, H3, I3, r3, k, e, q3⟩ => ?_)) hm
  subst e
  cases r3
  refine wpAny_truthy_bool ?_
  cases k with
  | false =>
    obtain ⟨k', e', q'⟩ := q3
    cases e'
    exact ite_ff ⟨H3, I3, q'⟩
  | true =>
    refine ite_tt (test_last (thn (hc pins s3 σ H3 _ I3 q3) fun w' s4 ⟨z', H4, I4, r4, q4⟩ => thn (ho' pins s4 σ H4 y z' u w' _ I4 r2 r4 q4) fun d' s5 ⟨z2, H5, I5, r5, k2, e2, q5⟩ => ?_))
    subst e2
    cases r5
    exact wpAny_truthy_bool ⟨H5, I5, q5⟩
theorem line63 : (sizeLine : Nat) < 2 ^ 63 := by rw [sizeLine_eq]; decide
theorem vals1 {x : V} {us : List Value} (r : Vals [x] us) : ∃ u, us = [u] ∧ RelV x u := by
  cases r with
  | cons r1 r2 => cases r2; exact ⟨_, rfl, r1⟩
end
end L2
namespace L2
open PySem PySem.Spec PyProof.Rows
structure ObjM (h : Heap) (x dx C : Addr) (mA : Str → Option Value) : Prop where
  obj : h.get? x = some (PySem.W.instObj C dx)
  ns : h.Ns1 dx mA
  ne : dx ≠ x
theorem lookIn_ns {h : Heap} {dx : Addr} {mA : Str → Option Value} (n : h.Ns1 dx mA) : ∃ od, h.get? dx = some od ∧ ∀ name, PySem.W.lookIn name od = some (mA name) := by
  obtain ⟨o, es, ep, ho, hd, hk, _, hm⟩ := n
  refine ⟨o, ho, fun name => ?_⟩
  have e := hm name
  unfold nsFind findBy at e
  rw [← Array.find?_toList] at e
  unfold PySem.W.lookIn
  rw [hd]
  dsimp only
  split
  · rename_i y q
    rw [q] at e
    exact congrArg some e
  · rename_i q
    rw [q] at e
    have a : es.toList.any (·.refKey) = false := by
      rw [List.any_eq_false]
      intro y hy
      obtain ⟨z, t, hkey⟩ := hk y (Array.mem_toList_iff.mp hy)
      simp [DictEntry.refKey, hkey]
    have a' : ¬ es.toList.any (·.refKey) = true := by rw [a]; exact Bool.false_ne_true
    rw [if_neg a']
    exact congrArg some e
theorem ObjM.look {h : Heap} {x dx C : Addr} {mA : Str → Option Value} (I : ObjM h x dx C mA) : ∃ od, PySem.W.InstAt h x (PySem.W.instObj C dx) C (some od) ∧ ∀ name, PySem.W.lookIn name od = some (mA name) :=
  let ⟨od, ho, hl⟩ := lookIn_ns I.ns
  ⟨od, ⟨I.obj, rfl, rfl, ho⟩, hl⟩
section
variable {prog : Program} {w : World} {A : Around} {E : Value → Shared → Prop} {s : Shared} {K : PySem.W.Frag} {x dx C f : Addr} {mA : Str → Option Value} {name : Str} {v : Value}
theorem get_map {expr : Bool} {Q : Value → Shared → Prop} (X : K.In s.heap) (I : ObjM s.heap x dx C mA) (hg : PySem.W.plainGet K C name = true) (hh : PySem.W.hasDictIn K C = true)
    (ha : PySem.W.findIn K (.ref C) name = some none) (hv : mA name = some v) (hv' : PySem.W.handedIn v = true) (h : Q v { s with toks := s.toks + 1 }) :
    wpAny (model prog w) A (getAttr (.ref x) name expr) Q E s := by
  obtain ⟨od, J, hl⟩ := I.look
  exact PySem.W.get_value X J (PySem.W.plainGet_of hg).1 (PySem.W.findObj_own hh ha rfl (by rw [hl, hv])) hv' h
theorem get_meth {pl : Sem Bool} {Q : Value × List Value → Shared → Prop} (X : K.In s.heap) (I : ObjM s.heap x dx C mA) (hg : PySem.W.plainGet K C name = true)
    (hf : PySem.W.findIn K (.ref C) name = some (some (.ref f))) (ht : PySem.W.isFn K (.ref f) = true) (hv : mA name = none) (h : Q (.ref f, [.ref x]) s) :
    wpAny (model prog w) A (getMethod (.ref x) name pl) Q E s := by
  obtain ⟨od, J, hl⟩ := I.look
  exact PySem.W.method_fn X J (PySem.W.plainGet_of hg).1 (PySem.W.plainGet_of hg).2 hf (beq_iff_eq.mp ht) (by show (PySem.W.lookIn name od).map (·.isSome) = some false; rw [hl, hv]; rfl) h
theorem set_map {ns : List Str} {Q : Unit → Shared → Prop} (X : K.In s.heap) (I : ObjM s.heap x dx C mA)
    (hs : PySem.W.findIn K (.ref C) "__setattr__" = some (some (.builtin "object.__setattr__"))) (hp : PySem.W.plainOver K C = true) (ht : PySem.W.takerIn K C name = some none) (hh : PySem.W.hasDictIn K C = true)
    (hw : PySem.Within mA ns) (hsz : ns.length ≤ sizeLine)
    (h : ∀ h', ObjM h' x dx C (fun y => if y = name then some v else mA y) → Heap.SameBut dx s.heap h' → Q () { s with heap := h', toks := s.toks + 2 }) :
    wpAny (model prog w) A (setAttr (.ref x) name v) Q E s := by
  obtain ⟨od, J, hl⟩ := I.look
  refine PySem.W.set_plain X J hs (PySem.W.osa_open (s := { s with toks := s.toks + 1 }) (r := none) X J hp ht fun b => ?_)
  obtain ⟨cd, hc, hd'⟩ := PySem.W.any_some hh
  have hx : s.heap.get? x = some ⟨.ref C, some dx, .plain, #[]⟩ := I.obj
  refine wpAny_bind (wpAny_pure (wpAny_bind (wpAny_bind (wpAny_loadPart hx (wpAny_bind (PySem.W.Looks.here (s := { s with toks := s.toks + 1 }) (PySem.W.looks_clsIn X hc) ?_))))))
  rw [hd']
  refine wpAny_pure (a := some dx) (wpAny_bind (wpAny_pure (wpAny_bind ?_)))
  refine wpAny_nsSet1 (s := { s with toks := s.toks + 1 }) I.ns fun h' hn2 hs2 => ?_
  obtain ⟨oD, esD, epD, hoD, hdD, hcD⟩ := hn2.count (PySem.Within.cons name v hw)
  refine wpAny_bind (wpAny_lookBehind hoD (by rw [hdD]; exact pastItsLine_dict (Nat.le_trans hcD (by rw [List.length_cons]; omega))) ?_)
  exact wpAny_pure (h _ ⟨(hs2.2 _ (Ne.symm I.ne)).trans I.obj, hn2, I.ne⟩ hs2)
theorem make_map {R : Result → Shared → Prop} {vs : List Value} {kw : List (Str × Value)} (X : K.In s.heap) (hm : PySem.W.makesIn K C = true)
    (hi : PySem.W.findIn K (.ref C) "__init__" = some (some (.ref f))) (hf : PySem.W.typeIn K (.ref f) = some (.type "function"))
    (h : codeAny (model prog w) (A.under (.builtin "type.__call__" ⟨.ref C :: vs, kw⟩)) (.call (.ref f) ⟨.ref (s.heap.objs.size + 1) :: vs, kw⟩) (PySem.W.InitBack (s.heap.objs.size + 1) R)
      { s with heap := (s.heap.push PySem.W.emptyDict).push (PySem.W.instObj C s.heap.objs.size) }) :
    codeAny (model prog w) A (.call (.ref C) ⟨vs, kw⟩) R s := by
  obtain ⟨hh, g, d, t, os⟩ := s
  exact PySem.W.make_core (PySem.W.makes_of X hm) (PySem.W.looks_findIn X hi) (fun self => PySem.W.bind_fn X self hf) (.inl rfl) h
end
def putF (f : Str) (v : V) : List (Str × V) → List (Str × V)
  | [] => [(f, v)]
  | (g, x) :: r => if g = f then (g, v) :: r else (g, x) :: putF f v r
theorem lookup_putF (f g : Str) (v : V) : ∀ fs : List (Str × V), (putF f v fs).lookup g = if g = f then some v else fs.lookup g
  | [] => by
    show List.lookup g [(f, v)] = _
    by_cases h : g = f
    · have hb : (g == f) = true := beq_iff_eq.mpr h
      simp only [List.lookup, hb, if_pos h]
    · have hb : (g == f) = false := beq_eq_false_iff_ne.mpr h
      simp only [List.lookup, hb, if_neg h]
  | (k, x) :: r => by
    have ih := lookup_putF f g v r
    rw [show putF f v ((k, x) :: r) = (if k = f then (k, v) :: r else (k, x) :: putF f v r) from rfl]
    by_cases hk : k = f
    · rw [if_pos hk]
      by_cases h : g = k
      · have hb : (g == k) = true := beq_iff_eq.mpr h
        simp only [List.lookup, hb, if_pos (h.trans hk)]
      · have hb : (g == k) = false := beq_eq_false_iff_ne.mpr h
        simp only [List.lookup, hb, if_neg (fun e : g = f => h (e.trans hk.symm))]
    · rw [if_neg hk]
      by_cases h : g = k
      · have hb : (g == k) = true := beq_iff_eq.mpr h
        simp only [List.lookup, hb, if_neg (fun e : g = f => hk (h.symm.trans e))]
      · have hb : (g == k) = false := beq_eq_false_iff_ne.mpr h
        simp only [List.lookup, hb]
        exact ih
theorem keys_putF (f : Str) (v : V) : ∀ fs : List (Str × V), f ∈ (putF f v fs).map (·.1) ∧ ∀ g, g ∈ fs.map (·.1) → g ∈ (putF f v fs).map (·.1)
  | [] => ⟨by simp [putF], fun g h => by simp at h⟩
  | (k, x) :: r => by
    obtain ⟨i1, i2⟩ := keys_putF f v r
    rw [show putF f v ((k, x) :: r) = (if k = f then (k, v) :: r else (k, x) :: putF f v r) from rfl]
    by_cases hk : k = f
    · rw [if_pos hk]
      subst hk
      exact ⟨by simp, fun g h => by simpa using h⟩
    · rw [if_neg hk]
      refine ⟨?_, fun g h => ?_⟩
      · rw [List.map_cons]
        exact List.mem_cons_of_mem _ i1
      · rw [List.map_cons] at h ⊢
        rcases List.mem_cons.mp h with e | e
        · exact List.mem_cons.mpr (.inl e)
        · exact List.mem_cons_of_mem _ (i2 g e)
theorem length_putF (f : Str) (v : V) : ∀ fs : List (Str × V), (putF f v fs).length ≤ fs.length + 1
  | [] => by simp [putF]
  | (k, x) :: r => by
    have ih := length_putF f v r
    rw [show putF f v ((k, x) :: r) = (if k = f then (k, v) :: r else (k, x) :: putF f v r) from rfl]
    by_cases hk : k = f
    · rw [if_pos hk, List.length_cons, List.length_cons]; omega
    · rw [if_neg hk, List.length_cons, List.length_cons]; omega
theorem RelO.some_of {v : V} {o : Option Value} (r : RelO (some v) o) : ∃ u, o = some u ∧ RelV v u := by
  cases o with
  | none => exact (show False from r).elim
  | some u => exact ⟨u, rfl, r⟩
theorem RelO.none_of {o : Option Value} (r : RelO none o) : o = none := by
  cases o with
  | none => rfl
  | some u => exact (show False from r).elim
theorem handed_of {v : V} {u : Value} (r : RelV v u) : PySem.W.handedIn u = true := by
  cases v with
  | non => cases (show u = Value.none from r); rfl
  | bl b => cases (show u = Value.bool b from r); rfl
  | int i => obtain ⟨t, e⟩ := (show ∃ t, u = Value.int i t from r); cases e; rfl
  | str x => obtain ⟨t, e⟩ := (show ∃ t, u = Value.str x t from r); cases e; rfl
  | byt b => obtain ⟨t, e⟩ := (show ∃ t, u = Value.bytes b t from r); cases e; rfl
  | flt b => obtain ⟨t, e⟩ := (show ∃ t, u = Value.float b t from r); cases e; rfl
  | ref a => cases (show u = Value.ref a from r); rfl
  | ty n => cases (show u = Value.type n from r); rfl
section
variable {P : Program} {w : World} {H H' : Hp} {h h' : Heap} {a C dx : Addr} {fs fs' : List (Str × V)}
theorem ins_get (hok : HOk P w H h) (e : H a = some (.ins C dx fs)) : ∃ mA, ObjM h a dx C mA ∧ (∀ f, RelO (fs.lookup f) (mA f)) ∧ PySem.Within mA (fs.map (·.1)) ∧ fs.length ≤ 1000 ∧ H dx = some (.own a) := by
  obtain ⟨d, z, ne, ob, mA, n, r, q⟩ := (show ObjOk P w H h a (.ins C dx fs) from hok a _ e)
  exact ⟨mA, ⟨ob, n, ne⟩, r, q, z, d⟩
end
structure Cls (K : PySem.W.Frag) (C : Addr) : Prop where
  pg : PySem.W.plainGet K C Str.empty = true
  hd : PySem.W.hasDictIn K C = true
  po : PySem.W.plainOver K C = true
  sa : PySem.W.findIn K (.ref C) "__setattr__" = some (some (.builtin "object.__setattr__"))
theorem Cls.get {K : PySem.W.Frag} {C : Addr} (c : Cls K C) (f : Str) : PySem.W.plainGet K C f = true := c.pg
def NoAttr (K : PySem.W.Frag) (C : Addr) (f : Str) : Prop := PySem.W.findIn K (.ref C) f = some none
theorem NoAttr.taker {K : PySem.W.Frag} {C : Addr} {f : Str} (n : NoAttr K C f) : PySem.W.takerIn K C f = some none := by
  unfold PySem.W.takerIn
  rw [show PySem.W.findIn K (.ref C) f = some none from n]
  rfl
structure Meth (K : PySem.W.Frag) (C : Addr) (m : Str) (f : Addr) : Prop where
  at_ : PySem.W.findIn K (.ref C) m = some (some (.ref f))
  fn : PySem.W.isFn K (.ref f) = true
  kp : PySem.W.keepIn K (.ref f) = true
section
variable {X : Cx} {pins : List (Addr × Obj)} {σ : St} {H : Hp} {s : Shared} {a C dx : Addr} {fs : List (Str × V)} {f : Str} {v : V} {A : Around} {E : Value → Shared → Prop}
theorem getattr_ok {b : Bool} {Q : Value → Shared → Prop} (I : Inv X pins σ H s) (e : H a = some (.ins C dx fs)) (c : Cls X.K C) (n : NoAttr X.K C f) (l : fs.lookup f = some v)
    (h : ∀ u s', Inv X pins σ H s' → RelV v u → Q u s') : wpAny (model X.prog X.w) A (getAttr (.ref a) f b) Q E s := by
  obtain ⟨mA, O, r, _, _, _⟩ := ins_get I.hok e
  obtain ⟨u, hu, ru⟩ := RelO.some_of (v := v) (o := mA f) (by rw [← l]; exact r f)
  exact get_map I.kIn O (c.get f) c.hd n hu (handed_of ru) (h u _ (I.tok _) ru)
theorem getmeth_ok {m : Str} {g : Addr} {pl : Sem Bool} {Q : Value × List Value → Shared → Prop} (I : Inv X pins σ H s) (e : H a = some (.ins C dx fs)) (c : Cls X.K C) (k : Meth X.K C m g) (l : fs.lookup m = none)
    (h : Q (.ref g, [.ref a]) s) : wpAny (model X.prog X.w) A (getMethod (.ref a) m pl) Q E s := by
  obtain ⟨mA, O, r, _, _, _⟩ := ins_get I.hok e
  have hn : mA m = none := RelO.none_of (by rw [← l]; exact r m)
  exact get_meth I.kIn O (c.get m) k.at_ k.fn hn h
theorem setattr_ok {y : V} {u : Value} {Q : Unit → Shared → Prop} (I : Inv X pins σ H s) (e : H a = some (.ins C dx fs)) (c : Cls X.K C) (n : NoAttr X.K C f) (hl : fs.length < 1000) (ry : RelV y u)
    (h : ∀ s', Inv X pins σ (upd H a (.ins C dx (putF f y fs))) s' → Q () s') : wpAny (model X.prog X.w) A (setAttr (.ref a) f u) Q E s := by
  obtain ⟨mA, O, r, wi, _, ho⟩ := ins_get I.hok e
  have hz : (fs.map (·.1)).length ≤ sizeLine := by rw [List.length_map, sizeLine_eq]; omega
  refine set_map I.kIn O c.sa c.po n.taker c.hd wi hz fun h' O' sb => h _ ?_
  have hd : ∃ o, h'.get? dx = some o := let ⟨o, _, _, e', _⟩ := O'.ns; ⟨o, e'⟩
  refine I.write (x := a) (e := dx) (by rw [e]; exact True.intro) (.inr ho) (fun b q hb z => (sb.2 b hb).trans z) hd ?_
  refine ⟨by rw [upd_ne O.ne]; exact ho, ?_, O.ne, O'.obj, _, O'.ns, fun g => ?_, fun g hg => ?_⟩
  · have := length_putF f y fs; omega
  · show RelO ((putF f y fs).lookup g) (if g = f then some u else mA g)
    rw [lookup_putF]
    by_cases q : g = f
    · rw [if_pos q, if_pos q]; exact ry
    · rw [if_neg q, if_neg q]; exact r g
  · by_cases q : g = f
    · rw [q]; exact (keys_putF f y fs).1
    · refine (keys_putF f y fs).2 g (wi g fun z => hg ?_)
      show (if g = f then some u else mA g) = none
      rw [if_neg q]; exact z
theorem Inv.made (I : Inv X pins σ H s) : Inv X pins σ (upd (upd H s.heap.objs.size (.own (s.heap.objs.size + 1))) (s.heap.objs.size + 1) (.ins C s.heap.objs.size []))
    { s with heap := (s.heap.push PySem.W.emptyDict).push (PySem.W.instObj C s.heap.objs.size) } := by
  have e1 : (s.heap.push PySem.W.emptyDict).get? s.heap.objs.size = some PySem.W.emptyDict := Heap.get?_push_size s.heap rfl
  have e2 : ((s.heap.push PySem.W.emptyDict).push (PySem.W.instObj C s.heap.objs.size)).get? (s.heap.objs.size + 1) = some (PySem.W.instObj C s.heap.objs.size) := by
    have := Heap.get?_push_size (s.heap.push PySem.W.emptyDict) (o := PySem.W.instObj C s.heap.objs.size) rfl
    rwa [Heap.size_push] at this
  have e3 : (s.heap.push PySem.W.emptyDict).Ns s.heap.objs.size (fun _ => none) := ⟨PySem.W.emptyDict, #[], _, e1, rfl, (fun e he => absurd he (by simp)), fun _ => rfl⟩
  have I1 := I.laid (a := s.heap.objs.size) (o := .own (s.heap.objs.size + 1)) (h' := s.heap.push PySem.W.emptyDict) (t' := s.toks) (fun b u q => Heap.get?_push_of_some _ q) (Nat.le_refl _) ⟨_, e1⟩
  refine I1.laid (a := s.heap.objs.size + 1) (o := .ins C s.heap.objs.size []) (t' := s.toks) (fun b u q => Heap.get?_push_of_some _ q) (Nat.le_of_eq (Heap.size_push _ _)) ?_
  have ne : s.heap.objs.size ≠ s.heap.objs.size + 1 := Nat.ne_of_lt (Nat.lt_succ_self _)
  refine ⟨by rw [upd_ne ne, upd_same], Nat.zero_le _, ne, e2, fun _ => none, (Heap.Ns1.of_empty e3).at fun o q => Heap.get?_push_of_some _ q, fun _ => True.intro, fun y hy => absurd rfl hy⟩
theorem attr_of {prog : Program} {w : World} {env : Env} {e : Expr} {f : Str} {pos : Pos} {s : Shared} {Q : Value → Shared → Prop} (hb : attributeBase e f env (eval e env) = eval e env)
    (h : wpAny (model prog w) A (eval e env) (fun o s₁ => wpAny (model prog w) A (getAttr o f true) Q E s₁) E s) : wpAny (model prog w) A (eval (.Attribute e f pos) env) Q E s :=
  Attribute_any_ h (by rw [arm_eval_Attribute, hb])
end
section
variable {X : Cx} {o e value : Expr} {f : Str} {pos pos' tpos : Pos} {ta tv : TE}
theorem methcall_of {pl : Sem Bool} {m : Str} {apos : Pos} {args : List Expr} {pins : List (Addr × Obj)} {s : Shared} {σ : St} {H : Hp} {Q : Value → Shared → Prop} {te : TE} (he : PE X e te) (I : Inv X pins σ H s)
    (h : te σ H fun x H1 => ∃ a C dx fs g, x = .ref a ∧ H1 a = some (.ins C dx fs) ∧ Cls X.K C ∧ Meth X.K C m g ∧ fs.lookup m = none ∧
      ∀ s1, Inv X pins σ H1 s1 → wpAny (model X.prog X.w) X.A (callWith pos (.ref g) [.ref a] (backTo pos (starEach args X.env)) (backToKw pos (keywordEach [] X.env))) Q X.xe s1)
    (ht : eval (.Call (.Attribute e m apos) args [] pos) X.env = (do
      let ov ← eval e X.env
      standAt apos.atName
      let (f, first) ← holding [ov] (getMethod ov m pl)
      callWith pos f first (backTo pos (starEach args X.env)) (backToKw pos (keywordEach [] X.env)))) :
    wpAny (model X.prog X.w) X.A (eval (.Call (.Attribute e m apos) args [] pos) X.env) Q X.xe s := by
  refine PySem.W.methodCall_KW (pl := pl) (thn (he pins s σ H _ I h) fun u s1 ⟨x, H1, I1, rx, a, C, dx, fs, g, ex, ea, c, k, l, q⟩ => ?_) ht
  subst ex
  obtain rfl : u = Value.ref a := rx
  exact getmeth_ok I1 ea c k l (q s1 I1)
end
section
variable {X : Cx} {pins : List (Addr × Obj)} {σ : St} {H : Hp} {s : Shared} {A : Around} {E : Value → Shared → Prop} {Q : Value → Shared → Prop} {c : Value} {b : Bool}
inductive TyOf (K : PySem.W.Frag) (H : Hp) : V → Value → Prop where
  | non : TyOf K H .non (.type "NoneType")
  | bl (x : Bool) : TyOf K H (.bl x) (.type "bool")
  | int (i : Int) : TyOf K H (.int i) (.type "int")
  | str (x : Str) : TyOf K H (.str x) (.type "str")
  | flt (x : UInt64) : TyOf K H (.flt x) (.type "float")
  | lst {a : Addr} {xs : List V} (e : H a = some (.lst xs)) : TyOf K H (.ref a) (.type "list")
  | frz {a : Addr} {o : Obj} {xs : List V} (e : H a = some (.frz o (.lst xs))) : TyOf K H (.ref a) (.type "list")
  | tup {a : Addr} {xs : List V} (e : H a = some (.tup xs)) : TyOf K H (.ref a) (.type "tuple")
  | dK {a : Addr} {kvs : List (Key × V)} (e : H a = some (.dK kvs)) : TyOf K H (.ref a) (.type "dict")
  | dT {a : Addr} {kvs : List (List Key × V)} (e : H a = some (.dT kvs)) : TyOf K H (.ref a) (.type "dict")
  | ins {a C dx : Addr} {fs : List (Str × V)} (e : H a = some (.ins C dx fs)) (cl : Cls K C) (ha : PySem.W.findIn K (.ref C) "__class__" = some (some (.builtin "object.__class__")))
      (hn : PySem.W.specialIn K (.builtin "object.__class__") "__get__" = some (some (.builtin "getset_descriptor.__get__"))) (htk : PySem.W.takesIn K (.builtin "object.__class__") = some true)
      (hm : PySem.W.mroIn K C (.type "object") = some true) : TyOf K H (.ref a) (.ref C)
theorem isinst_ok {x : V} {u t : Value} (I : Inv X pins σ H s) (rx : RelV x u) (ty : TyOf X.K H x t) (e : PySem.W.kitOne X.K t c = some b) (h : ∀ tk, Q (.bool b) { s with toks := tk }) :
    wpAny (model X.prog X.w) A (call (.builtin "isinstance") [u, c]) Q E s := by
  cases ty with
  | non => cases (show u = Value.none from rx); exact PySem.W.kia_one PySem.W.kitx_none I.kIn True.intro e (fun z => nomatch z) h
  | bl y => cases (show u = Value.bool y from rx); exact PySem.W.kia_one PySem.W.kitx_bool I.kIn True.intro e (fun z => nomatch z) h
  | int i => obtain ⟨t, q⟩ := (show ∃ t, u = Value.int i t from rx); cases q; exact PySem.W.kia_one PySem.W.kitx_int I.kIn True.intro e (fun z => nomatch z) h
  | str y => obtain ⟨t, q⟩ := (show ∃ t, u = Value.str y t from rx); cases q; exact PySem.W.kia_one PySem.W.kitx_str I.kIn True.intro e (fun z => nomatch z) h
  | flt y => obtain ⟨t, q⟩ := (show ∃ t, u = Value.float y t from rx); cases q; exact PySem.W.kia_one PySem.W.kitx_float I.kIn True.intro e (fun z => nomatch z) h
  | @lst a xs ea =>
    cases (show u = Value.ref a from rx)
    obtain ⟨_, _, n, _, h1⟩ := (show ObjOk X.prog X.w H s.heap a (.lst xs) from I.hok a _ ea)
    exact PySem.W.kia_one PySem.W.kitx_list I.kIn ⟨_, h1, rfl⟩ e (fun z => nomatch z) h
  | @frz a ob xs ea =>
    cases (show u = Value.ref a from rx)
    obtain ⟨_, _, _, n, _, h1⟩ := (show ObjOk X.prog X.w H s.heap a (.frz ob (.lst xs)) from I.hok a _ ea)
    exact PySem.W.kia_one PySem.W.kitx_list I.kIn ⟨_, h1, rfl⟩ e (fun z => nomatch z) h
  | @tup a xs ea =>
    cases (show u = Value.ref a from rx)
    obtain ⟨_, _, _, p⟩ := (show ObjOk X.prog X.w H s.heap a (.tup xs) from I.hok a _ ea)
    obtain ⟨o, h1, h2, _⟩ := p
    exact PySem.W.kia_one PySem.W.kitx_tuple I.kIn ⟨o, h1, h2⟩ e (fun z => nomatch z) h
  | @dK a kvs ea =>
    cases (show u = Value.ref a from rx)
    obtain ⟨_, _, vs, _, p⟩ := (show ObjOk X.prog X.w H s.heap a (.dK kvs) from I.hok a _ ea)
    obtain ⟨o, es, ep, h1, h2, _⟩ := p
    exact PySem.W.kia_one PySem.W.kitx_dict I.kIn ⟨o, h1, h2.1⟩ e (fun z => nomatch z) h
  | @dT a kvs ea =>
    cases (show u = Value.ref a from rx)
    obtain ⟨_, _, xs, _, o, es, ep, h1, h2, _⟩ := (show ObjOk X.prog X.w H s.heap a (.dT kvs) from I.hok a _ ea)
    exact PySem.W.kia_one PySem.W.kitx_dict I.kIn ⟨o, h1, h2.1⟩ e (fun z => nomatch z) h
  | @ins a C dx fs ea cl ha hn htk hm =>
    cases (show u = Value.ref a from rx)
    obtain ⟨mA, O, _⟩ := ins_get I.hok ea
    obtain ⟨od, J, _⟩ := O.look
    exact PySem.W.kia_one (PySem.W.kitx_own (cl.get _) cl.hd ha hn htk hm) I.kIn J e (fun z => nomatch z) h
end
end L2
namespace L2
open PySem PySem.Spec PyProof.Rows
structure Room (k : Nat) (A : Around) : Prop where
  hd : A.handled = none
  dp : A.depth + 3 * k + 5 < recursionLimit
  un : A.units + 16 * k + 200 < cLine
theorem Room.mono {j k : Nat} {A : Around} (r : Room k A) (h : j ≤ k) : Room j A := ⟨r.hd, by have := r.dp; omega, by have := r.un; omega⟩
theorem Room.deeper {k : Nat} {A : Around} (r : Room (k + 1) A) (env : Env) : Room k (A.deeper env) :=
  ⟨r.hd, by have := r.dp; show A.depth + 1 + 3 * k + 5 < _; omega, by have := r.un; show A.units + 3 + 16 * k + 200 < _; omega⟩
theorem make_depth {A : Around} {C : Addr} {us : List Value} {kw : List (Str × Value)} : (A.under (.builtin "type.__call__" ⟨.ref C :: us, kw⟩)).depth = A.depth + 1 := by
  first | rfl | simp [Around.under, Code.weight, Code.isCreation, Code.isGuard, Code.isCaller, Code.frames, Code.isFrame, guardIds]
theorem make_units {A : Around} {C : Addr} {us : List Value} {kw : List (Str × Value)} : (A.under (.builtin "type.__call__" ⟨.ref C :: us, kw⟩)).units = A.units + 1 := by
  first | rfl | simp [Around.under, Code.cUnits, Code.frames, Code.isFrame]
theorem Room.make {k : Nat} {A : Around} (r : Room (k + 1) A) (C : Addr) (us : List Value) (kw : List (Str × Value)) : Room k (A.under (.builtin "type.__call__" ⟨.ref C :: us, kw⟩)) :=
  ⟨r.hd, by have := r.dp; rw [make_depth]; omega, by have := r.un; rw [make_units]; omega⟩
theorem Room.depth {k : Nat} {A : Around} (r : Room k A) : A.depth < recursionLimit := by have := r.dp; omega
theorem Room.units {k : Nat} {A : Around} (r : Room k A) : A.units + 64 < cLine := by have := r.un; omega
def tNil : TA := fun _ H Q => Q [] H
def tCons (ta : TE) (tr : TA) : TA := fun σ H Q => ta σ H fun x H1 => tr σ H1 fun xs H2 => Q (x :: xs) H2
section
variable {X : Cx} {e : Expr} {es : List Expr} {te : TE} {t : TA} {pos : Pos}
theorem pa_nil : PA X [] tNil := fun _ _ _ _ H Q I h => Calls.spliced_nil ⟨[], H, I, .nil, h⟩
theorem pa_cons (ha : PE X e te) (hr : PA X es t) (hs : starEach (e :: es) X.env = (false, eval e X.env) :: starEach es X.env := by rfl) : PA X (e :: es) (tCons te t) := by
  intro pos pins s σ H Q I h
  rw [hs]
  show wpAny _ _ (spliced ((false, eval e X.env) :: backTo pos (starEach es X.env))) _ _ s
  refine Calls.spliced_cons (thn (ha pins s σ H _ I h) fun u s1 ⟨x, H1, I1, r1, q1⟩ => ?_)
  exact thn (hr pos pins s1 σ H1 _ I1 q1) fun us s2 ⟨xs, H2, I2, r2, q2⟩ => ⟨x :: xs, H2, I2, .cons r1 r2, q2⟩
def tTup (t : TA) : TE := fun σ H Q => t σ H fun xs H1 => xs.length ≤ sizeLine ∧ ∀ p, H1 p = none → Q (.ref p) (upd H1 p (.tup xs))
def tLst (t : TA) : TE := fun σ H Q => t σ H fun xs H1 => xs.length ≤ sizeLine ∧ ∀ p, H1 p = none → Q (.ref p) (upd H1 p (.lst xs))
theorem pe_tup {x1} (h : PA X es t) : PE X (.Tuple es x1 pos) (tTup t) := by
  intro pins s σ H Q I hq
  refine wpAny_Tuple_spliced (thn (h pos pins s σ H _ I hq) fun us s1 ⟨xs, H1, I1, r, z, q⟩ => ⟨by rw [← r.length]; exact z, ?_⟩)
  have hf : H1 s1.heap.objs.size = none := I1.hok.fresh (Nat.le_refl _)
  refine ⟨.ref s1.heap.objs.size, upd H1 s1.heap.objs.size (.tup xs), I1.laid (t' := s1.toks) (fun b u e => Heap.get?_push_of_some _ e) (Nat.le_refl _) ?_, rfl, q _ hf⟩
  exact ⟨z, us, r, ⟨_, Heap.get?_push_size _ rfl, rfl, _, rfl⟩⟩
theorem pe_lst (h : PA X es t) : PE X (.List es pos) (tLst t) := by
  intro pins s σ H Q I hq
  refine wpAny_List_spliced (thn (h pos pins s σ H _ I hq) fun us s1 ⟨xs, H1, I1, r, z, q⟩ => ⟨by rw [← r.length]; exact z, ?_⟩)
  have hf : H1 s1.heap.objs.size = none := I1.hok.fresh (Nat.le_refl _)
  refine ⟨.ref s1.heap.objs.size, upd H1 s1.heap.objs.size (.lst xs), I1.laid (t' := s1.toks) (fun b u e => Heap.get?_push_of_some _ e) (Nat.le_refl _) ?_, rfl, q _ hf⟩
  exact ⟨z, us, 0, r, Heap.get?_push_size _ rfl⟩
end
abbrev Sp := List V → Hp → VK → XK → Prop
abbrev CXT := List Env → Hp → Shared → XK → Value → Shared → Prop
structure Env0 (P : Program) (w : World) (K : PySem.W.Frag) (mg : Str → Option Value) (base : Heap) (A : Around) (outer : List Env) (s : Shared) (H : Hp) : Prop where
  frames : A.frames = some outer
  mod : Mod K mg base
  bs : ∀ b o, base.get? b = some o → s.heap.get? b = some o ∧ H b = none
  bsz : base.objs.size ≤ s.heap.objs.size
  funs : s.heap.FunFrames base outer
  frf : ∀ b ∈ frs outer, H b = none
  hok : HOk P w H s.heap
  bare : AllBare s.gens
def CE (outer : List Env) (P : Program) (w : World) (H : Hp) (s : Shared) (Q : VK) (u : Value) (s' : Shared) : Prop :=
  ∃ v H', s'.os = s.os ∧ AllBare s'.gens ∧ Un (frs outer) [] H H' s.heap s'.heap ∧ HOk P w H' s'.heap ∧ RelV v u ∧ Q v H'
def CR (CX : CXT) (outer : List Env) (P : Program) (w : World) (H : Hp) (s : Shared) (Q : VK) (E : XK) (r : Result) (s' : Shared) : Prop :=
  match r with
  | .ok (.ret u) => CE outer P w H s Q u s'
  | .ok _ => False
  | .error e => CX outer H s E e s'
structure FnOk (P : Program) (w : World) (K : PySem.W.Frag) (mg : Str → Option Value) (base : Heap) (CX : CXT) (k : Nat) (f : Addr) (fd : FuncData) (ps : List Str) (sp : Sp) : Prop where
  len : ∀ vs H Q E, sp vs H Q E → vs.length = ps.length
  run : ∀ (A : Around) (outer : List Env) (s : Shared) (H : Hp) (args : Args) (us : List Value) (vs : List V) (Q : VK) (E : XK), Room k A → Env0 P w K mg base A outer s H → BindsTo s fd args (ps.zip us) → Vals vs us → sp vs H Q E →
    codeAny (model P w) A (.call (.ref f) args) (CR CX outer P w H s Q E) s
theorem FnOk.mono {P : Program} {w : World} {K : PySem.W.Frag} {mg : Str → Option Value} {base : Heap} {CX : CXT} {j k : Nat} {f : Addr} {fd : FuncData} {ps : List Str} {sp : Sp} (F : FnOk P w K mg base CX j f fd ps sp) (h : j ≤ k) :
    FnOk P w K mg base CX k f fd ps sp := ⟨F.len, fun A outer s H args us vs Q E hr => F.run A outer s H args us vs Q E (hr.mono h)⟩
theorem FnOk.imp {P : Program} {w : World} {K : PySem.W.Frag} {mg : Str → Option Value} {base : Heap} {CX : CXT} {k : Nat} {f : Addr} {fd : FuncData} {ps : List Str} {sp sp' : Sp} (F : FnOk P w K mg base CX k f fd ps sp)
    (h : ∀ vs H Q E, sp' vs H Q E → sp vs H Q E) : FnOk P w K mg base CX k f fd ps sp' :=
  ⟨fun vs H Q E q => F.len vs H Q E (h _ _ _ _ q), fun A outer s H args us vs Q E hr he hb hv hs => F.run A outer s H args us vs Q E hr he hb hv (h _ _ _ _ hs)⟩
theorem Env0.make {P : Program} {w : World} {K : PySem.W.Frag} {mg : Str → Option Value} {base : Heap} {A : Around} {outer : List Env} {s : Shared} {H : Hp} (e : Env0 P w K mg base A outer s H) (C : Addr) (us : List Value) (kw : List (Str × Value)) :
    Env0 P w K mg base (A.under (.builtin "type.__call__" ⟨.ref C :: us, kw⟩)) outer s H := ⟨by first | exact e.frames | (simpa [Around.under, Code.envs, Code.isFrame, pushEnvs] using e.frames), e.mod, e.bs, e.bsz, e.funs, e.frf, e.hok, e.bare⟩
section
variable {X : Cx} {pins : List (Addr × Obj)} {σ : St} {H : Hp} {s s' : Shared}
theorem Inv.env0 (I : Inv X pins σ H s) : Env0 X.prog X.w X.K X.mg X.base X.A X.stack s H :=
  ⟨I.ok.frames, I.ok.mod, I.bs, Nat.le_trans I.ok.bsz I.sz, I.stack, I.stkFree, I.hok, I.bare⟩
theorem Inv.after {Q : VK} {u : Value} (I : Inv X pins σ H s) (h : CE X.stack X.prog X.w H s Q u s') : EP X pins σ Q u s' := by
  obtain ⟨v, H', os, bare, un, hok, r, q⟩ := h
  obtain ⟨hh, g, d, t, os'⟩ := s'
  obtain rfl : os' = s.os := os
  exact ⟨v, H', I.call (h' := hh) (g' := g) (d' := d) (t' := t) (ch := []) un hok bare (fun b z => absurd z (by simp)), r, q⟩
end
def tCall (sp : Sp) (dvs : List V) (E : XK) (t : TA) : TE := fun σ H Q => t σ H fun vs H1 => sp (vs ++ dvs) H1 Q E
def tMeth (C : Addr) (m : Str) (sp : Sp) (dvs : List V) (E : XK) (ta : TE) (t : TA) : TE := fun σ H Q => ta σ H fun x H1 => ∃ a dx fs, x = .ref a ∧ H1 a = some (.ins C dx fs) ∧ fs.lookup m = none ∧
  t σ H1 fun vs H2 => sp (x :: (vs ++ dvs)) H2 Q E
def tMake (C : Addr) (sp : Sp) (dvs : List V) (E : XK) (t : TA) : TE := fun σ H Q => t σ H fun vs H1 => ∀ x dx, H1 x = none → H1 dx = none → dx ≠ x →
  sp (.ref x :: (vs ++ dvs)) (upd (upd H1 dx (.own x)) x (.ins C dx [])) (fun v H2 => v = .non ∧ Q (.ref x) H2) E
def Binds (K : PySem.W.Frag) (fd : FuncData) (ps : List Str) (ds : List Value) : Prop :=
  ∀ (s : Shared) (us : List Value), K.In s.heap → (us ++ ds).length = ps.length → BindsTo s fd ⟨us, []⟩ (ps.zip (us ++ ds))
theorem Binds.all {K : PySem.W.Frag} {fd : FuncData} {ps : List Str} (h : ∀ us : List Value, us.length = ps.length → bindArgs fd ⟨us, []⟩ = pure (ps.zip us)) : Binds K fd ps [] := fun s us _ hl => by
  rw [List.append_nil] at hl ⊢
  exact .of_eq (h us hl)
def Passes (CX : CXT) (X : Cx) (E : XK) : Prop := ∀ (pins : List (Addr × Obj)) (σ : St) (H : Hp) (s : Shared) (e : Value) (s' : Shared), Inv X pins σ H s → CX X.stack H s E e s' → X.xe e s'
section
variable {X : Cx} {CX : CXT} {k : Nat} {f C : Addr} {fd : FuncData} {ps : List Str} {sp : Sp} {dvs : List V} {ds : List Value} {E : XK} {x m : Str} {p pos apos : Pos} {e o : Expr} {es : List Expr} {ta : TE} {t : TA}
theorem run_fn {pins : List (Addr × Obj)} {σ : St} {H : Hp} {s : Shared} {Q : VK} {us : List Value} {vs : List V} (F : FnOk X.prog X.w X.K X.mg X.base CX k f fd ps sp) (hr : Room k X.A) (hb : Binds X.K fd ps ds) (hd : Vals dvs ds) (hx : Passes CX X E)
    (I : Inv X pins σ H s) (r : Vals vs us) (h : sp (vs ++ dvs) H Q E) : wpAny (model X.prog X.w) X.A (call (.ref f) us) (EP X pins σ Q) X.xe s := by
  have r2 : Vals (vs ++ dvs) (us ++ ds) := r.append hd
  have hl : (us ++ ds).length = ps.length := by rw [← r2.length]; exact F.len _ _ _ _ h
  refine wpAny_call (codeAny_mono (F.run X.A X.stack s H ⟨us, []⟩ (us ++ ds) (vs ++ dvs) Q E hr I.env0 (hb s us I.kIn hl) r2 h) fun r s' hq => ?_)
  cases r with
  | error e => exact hx pins σ H s e s' I hq
  | ok fl =>
    cases fl with
    | ret u => exact I.after hq
    | next => exact False.elim hq
    | brk => exact False.elim hq
    | cont => exact False.elim hq
theorem pe_call (F : FnOk X.prog X.w X.K X.mg X.base CX k f fd ps sp) (hr : Room k X.A) (hg : Gl X x) (hm : X.mg x = some (.ref f)) (hk : PySem.W.keepIn X.K (.ref f) = true) (hb : Binds X.K fd ps ds) (hd : Vals dvs ds) (hx : Passes CX X E)
    (ha : PA X (e :: es) t) (hdb : (x == ("__debug__" : Str)) = false := by decide) (he : starEach (e :: es) X.env = (false, eval e X.env) :: starEach es X.env := by rfl) (hpl : (backTo pos (starEach es X.env)).any (·.1) = false := by rfl) :
    PE X (.Call (.Name x p) (e :: es) [] pos) (tCall sp dvs E t) := by
  intro pins s σ H Q I h
  refine wpAny_Call_Name_kw (ld_glob I hg hm ?_ hdb)
  refine PySem.W.callWith_K (h₀ := X.base) I.ok.mod.kin hk (thn (ha pos pins s σ H _ I h) fun us s1 ⟨vs, H1, I1, r, q⟩ => ⟨I1.kIn, ?_⟩) he hpl
  exact run_fn F hr hb hd hx I1 r q
theorem pe_meth {pl : Sem Bool} (he : PE X o ta) (c : Cls X.K C) (hm : Meth X.K C m f) (F : FnOk X.prog X.w X.K X.mg X.base CX k f fd ps sp) (hr : Room k X.A) (hb : Binds X.K fd ps ds) (hd : Vals dvs ds) (hx : Passes CX X E) (ha : PA X (e :: es) t)
    (hst : starEach (e :: es) X.env = (false, eval e X.env) :: starEach es X.env := by rfl) (hpl : (backTo pos (starEach es X.env)).any (·.1) = false := by rfl)
    (ht : eval (.Call (.Attribute o m apos) (e :: es) [] pos) X.env = (do
      let ov ← eval o X.env
      standAt apos.atName
      let (f, first) ← holding [ov] (getMethod ov m pl)
      callWith pos f first (backTo pos (starEach (e :: es) X.env)) (backToKw pos (keywordEach [] X.env))) := by rfl) :
    PE X (.Call (.Attribute o m apos) (e :: es) [] pos) (tMeth C m sp dvs E ta t) := by
  intro pins s σ H Q I h
  refine PySem.W.methodCall_KW (pl := pl) (thn (he pins s σ H _ I h) fun u s1 ⟨x, H1, I1, rx, a, dx, fs, ex, ea, l, q⟩ => ?_) ht
  subst ex
  obtain rfl : u = Value.ref a := rx
  refine getmeth_ok I1 ea c hm l ?_
  refine PySem.W.callWith_K (first := [.ref a]) (h₀ := X.base) I.ok.mod.kin hm.kp (thn (ha pos pins s1 σ H1 _ I1 q) fun us s2 ⟨vs, H2, I2, r, q2⟩ => ⟨I2.kIn, ?_⟩) hst hpl
  exact run_fn (us := .ref a :: us) (vs := .ref a :: vs) F hr hb hd hx I2 (.cons rfl r) q2
theorem pe_meth0 {pl : Sem Bool} (he : PE X o ta) (c : Cls X.K C) (hm : Meth X.K C m f) (F : FnOk X.prog X.w X.K X.mg X.base CX k f fd ps sp) (hr : Room k X.A) (hb : Binds X.K fd ps ds) (hd : Vals dvs ds) (hx : Passes CX X E)
    (ht : eval (.Call (.Attribute o m apos) [] [] pos) X.env = (do
      let ov ← eval o X.env
      standAt apos.atName
      let (f, first) ← holding [ov] (getMethod ov m pl)
      callWith pos f first (backTo pos (starEach [] X.env)) (backToKw pos (keywordEach [] X.env))) := by rfl) :
    PE X (.Call (.Attribute o m apos) [] [] pos) (tMeth C m sp dvs E ta tNil) := by
  intro pins s σ H Q I h
  refine PySem.W.methodCall_KW (pl := pl) (thn (he pins s σ H _ I h) fun u s1 ⟨x, H1, I1, rx, a, dx, fs, ex, ea, l, q⟩ => ?_) ht
  subst ex
  obtain rfl : u = Value.ref a := rx
  refine getmeth_ok I1 ea c hm l ?_
  exact PySem.W.callWith_K0 (first := [.ref a]) I1.kIn hm.kp (run_fn (us := [.ref a]) (vs := [.ref a]) F hr hb hd hx I1 (.cons rfl .nil) q)
structure Mk (K : PySem.W.Frag) (C f : Addr) : Prop where
  makes : PySem.W.makesIn K C = true
  init : PySem.W.findIn K (.ref C) "__init__" = some (some (.ref f))
  fn : PySem.W.isFn K (.ref f) = true
  kp : PySem.W.keepIn K (.ref C) = true
theorem run_make {pins : List (Addr × Obj)} {σ : St} {H : Hp} {s : Shared} {Q : VK} {us : List Value} {vs : List V} (M : Mk X.K C f) (F : FnOk X.prog X.w X.K X.mg X.base CX k f fd ps sp) (hr : Room (k + 1) X.A) (hb : Binds X.K fd ps ds) (hd : Vals dvs ds)
    (hx : Passes CX X E) (I : Inv X pins σ H s) (r : Vals vs us)
    (h : ∀ x dx, H x = none → H dx = none → dx ≠ x → sp (.ref x :: (vs ++ dvs)) (upd (upd H dx (.own x)) x (.ins C dx [])) (fun v H2 => v = .non ∧ Q (.ref x) H2) E) :
    wpAny (model X.prog X.w) X.A (call (.ref C) us) (EP X pins σ Q) X.xe s := by
  have hq := h (s.heap.objs.size + 1) s.heap.objs.size (I.hok.fresh (Nat.le_succ _)) (I.hok.fresh (Nat.le_refl _)) (Nat.ne_of_lt (Nat.lt_succ_self _))
  have I2 := Inv.made (C := C) I
  have r2 : Vals (V.ref (s.heap.objs.size + 1) :: (vs ++ dvs)) (Value.ref (s.heap.objs.size + 1) :: (us ++ ds)) := .cons rfl (r.append hd)
  have hl : (Value.ref (s.heap.objs.size + 1) :: us ++ ds).length = ps.length := by
    have e := r2.length
    rw [F.len _ _ _ _ hq] at e
    exact e.symm
  refine wpAny_call (make_map (f := f) I.kIn M.makes M.init (beq_iff_eq.mp M.fn) (codeAny_mono (F.run _ X.stack _ _ ⟨Value.ref (s.heap.objs.size + 1) :: us, []⟩ (Value.ref (s.heap.objs.size + 1) :: (us ++ ds)) _ _ E (hr.make C us [])
    (I2.env0.make C us []) (hb _ (Value.ref (s.heap.objs.size + 1) :: us) I2.kIn hl) r2 hq) fun r s' hq' => ?_))
  cases r with
  | error e => exact hx pins σ _ _ e s' I2 hq'
  | ok fl =>
    cases fl with
    | ret u =>
      obtain ⟨v, H', I3, rv, ev, q3⟩ := I2.after hq'
      subst ev
      exact ⟨rv, ⟨V.ref (s.heap.objs.size + 1), H', I3, rfl, q3⟩⟩
    | next => exact False.elim hq'
    | brk => exact False.elim hq'
    | cont => exact False.elim hq'
theorem pe_make (M : Mk X.K C f) (F : FnOk X.prog X.w X.K X.mg X.base CX k f fd ps sp) (hr : Room (k + 1) X.A) (hg : Gl X x) (hm : X.mg x = some (.ref C)) (hb : Binds X.K fd ps ds) (hd : Vals dvs ds) (hx : Passes CX X E)
    (ha : PA X (e :: es) t) (hdb : (x == ("__debug__" : Str)) = false := by decide) (he : starEach (e :: es) X.env = (false, eval e X.env) :: starEach es X.env := by rfl) (hpl : (backTo pos (starEach es X.env)).any (·.1) = false := by rfl) :
    PE X (.Call (.Name x p) (e :: es) [] pos) (tMake C sp dvs E t) := by
  intro pins s σ H Q I h
  refine wpAny_Call_Name_kw (ld_glob I hg hm ?_ hdb)
  refine PySem.W.callWith_K (h₀ := X.base) I.ok.mod.kin M.kp (thn (ha pos pins s σ H _ I h) fun us s1 ⟨vs, H1, I1, r, q⟩ => ⟨I1.kIn, ?_⟩) he hpl
  exact run_make M F hr hb hd hx I1 r q
theorem pe_make0 (M : Mk X.K C f) (F : FnOk X.prog X.w X.K X.mg X.base CX k f fd ps sp) (hr : Room (k + 1) X.A) (hg : Gl X x) (hm : X.mg x = some (.ref C)) (hb : Binds X.K fd ps ds) (hd : Vals dvs ds) (hx : Passes CX X E)
    (hdb : (x == ("__debug__" : Str)) = false := by decide) : PE X (.Call (.Name x p) [] [] pos) (tMake C sp dvs E tNil) := by
  intro pins s σ H Q I h
  refine wpAny_Call_Name_kw (ld_glob I hg hm ?_ hdb)
  exact PySem.W.callWith_K0 I.kIn M.kp (run_make (us := []) M F hr hb hd hx I .nil h)
end
section
variable {X : Cx} {CX : CXT} {k : Nat} {f C : Addr} {fd : FuncData} {ps ks : List Str} {sp : Sp} {E : XK} {x m : Str} {p pos apos kpos : Pos} {e o : Expr} {es : List Expr} {kws : List Keyword} {te ta : TE} {t tk : TA} {nm : Option Str}
variable {g : List Value → List Value → List Value} {gV : List V → List V → List V}
end
structure FnScope (N P : List Str) (sc : Scope) : Prop where
  kind : sc.kind = .function
  co : sc.isCoroutine = false
  gen : sc.isGenerator = false
  nd : N.Nodup
  pre : N.take P.length = P
  par : ∀ x ∈ P, sc.names.lookup x = some .local ∨ sc.names.lookup x = some .cell
  nofree : ∀ y ∈ sc.names, y.2 ≠ .free
theorem bindL_out {kindOf : Str → Option NameKind} {x : Str} : ∀ {binds : List (Str × Value)} {m : Str → Option Value}, (∀ v, (x, v) ∉ binds) → bindL kindOf binds m x = m x
  | [], _, _ => rfl
  | (n, v) :: r, m, h => by
    unfold bindL
    rw [bindL_out fun w hw => h w (List.mem_cons_of_mem _ hw)]
    split
    · have : x ≠ n := by rintro rfl; exact h v List.mem_cons_self
      simp [this]
    · rfl
theorem bindC_out {kindOf : Str → Option NameKind} {x : Str} : ∀ {binds : List (Str × Value)} {m : Str → Option Value}, (∀ v, (x, v) ∉ binds) → bindC kindOf binds m x = m x
  | [], _, _ => rfl
  | (n, v) :: r, m, h => by
    unfold bindC
    rw [bindC_out fun w hw => h w (List.mem_cons_of_mem _ hw)]
    split
    · rfl
    · have : x ≠ n := by rintro rfl; exact h v List.mem_cons_self
      simp [this]
theorem bindL_get {kindOf : Str → Option NameKind} {x : Str} {v : Value} : ∀ {P : List Str} {vs : List Value} {i : Nat} {m : Str → Option Value}, P.Nodup → P[i]? = some x → vs[i]? = some v → kindOf x = some .local →
    bindL kindOf (P.zip vs) m x = some v
  | [], _, _, _, _, h, _, _ => by simp at h
  | _ :: _, [], _, _, _, _, h, _ => by simp at h
  | p :: P, w :: vs, 0, m, nd, h1, h2, hk => by
    simp at h1 h2; subst h1; subst h2
    show bindL kindOf ((p, w) :: P.zip vs) m p = _
    unfold bindL
    rw [bindL_out fun v hv => (List.nodup_cons.mp nd).1 (List.of_mem_zip hv).1, if_pos hk]
    simp
  | p :: P, w :: vs, i + 1, m, nd, h1, h2, hk => by
    show bindL kindOf ((p, w) :: P.zip vs) m x = _
    unfold bindL
    exact bindL_get (i := i) (List.nodup_cons.mp nd).2 (by simpa using h1) (by simpa using h2) hk
theorem bindC_get {kindOf : Str → Option NameKind} {x : Str} {v : Value} : ∀ {P : List Str} {vs : List Value} {i : Nat} {m : Str → Option Value}, P.Nodup → P[i]? = some x → vs[i]? = some v → kindOf x ≠ some .local →
    bindC kindOf (P.zip vs) m x = some v
  | [], _, _, _, _, h, _, _ => by simp at h
  | _ :: _, [], _, _, _, _, h, _ => by simp at h
  | p :: P, w :: vs, 0, m, nd, h1, h2, hk => by
    simp at h1 h2; subst h1; subst h2
    show bindC kindOf ((p, w) :: P.zip vs) m p = _
    unfold bindC
    rw [bindC_out fun v hv => (List.nodup_cons.mp nd).1 (List.of_mem_zip hv).1, if_neg hk]
    simp
  | p :: P, w :: vs, i + 1, m, nd, h1, h2, hk => by
    show bindC kindOf ((p, w) :: P.zip vs) m x = _
    unfold bindC
    exact bindC_get (i := i) (List.nodup_cons.mp nd).2 (by simpa using h1) (by simpa using h2) hk
def start (N : List Str) (vs : List V) : St := vs.map some ++ List.replicate (N.length - vs.length) none
def cxOf (CX : CXT) (P : Program) (w : World) (K : PySem.W.Frag) (mg : Str → Option Value) (base : Heap) (N : List Str) (qual : Str) (scope : Scope) (f : Addr) (cd : Value) (A : Around) (outer : List Env) (s : Shared) (H : Hp) (E : XK) : Cx where
  prog := P
  w := w
  K := K
  mg := mg
  base := base
  A := A.deeper (envOfC qual scope s.heap.objs.size f cd)
  N := N
  s₀ := s
  H₀ := H
  env := envOfC qual scope s.heap.objs.size f cd
  outer := outer
  stack := envOfC qual scope s.heap.objs.size f cd :: outer
  ex := []
  calm := true
  fn := fun _ => true
  pn := []
  xe := fun e s' => wpAny (model P w) (A.deeper (envOfC qual scope s.heap.objs.size f cd)) (leaving (envOfC qual scope s.heap.objs.size f cd) e) (fun _ s'' => CX outer H s E e s'') (fun e' s'' => CX outer H s E e' s'') s'
theorem cell_has {sc : Scope} {n : Nat} {x : Str} (h : sc.names.lookup x = some .cell) : ∃ c, (cellsFrom n sc.names []).lookup x = some c := by
  have q := PySem.W.cellsFrom_some sc.names n [] (.inl h)
  exact Option.isSome_iff_exists.mp q
theorem inv_start {CX : CXT} {P : Program} {w : World} {K : PySem.W.Frag} {mg : Str → Option Value} {base : Heap} {N ps : List Str} {qual : Str} {scope : Scope} {f : Addr} {cd : Value} {A : Around} {outer : List Env} {s s1 : Shared} {H : Hp} {E : XK} {us : List Value} {vs : List V}
    (S : FnScope N ps scope) (hd : A.handled = none) (e0 : Env0 P w K mg base A outer s H) (hl : vs.length = ps.length) (r : Vals vs us)
    (x : InCallC s s.heap.objs.size (bindL (envOfC qual scope s.heap.objs.size f cd).kindOf (ps.zip us) fun _ => none) (cellsFrom (s.heap.objs.size + 1) scope.names []) (bindC (envOfC qual scope s.heap.objs.size f cd).kindOf (ps.zip us) fun _ => none) s1) :
    Inv (cxOf CX P w K mg base N qual scope f cd A outer s H E) [] (start N vs) H s1 := by
  have hpl : ps.length ≤ N.length := by have := congrArg List.length S.pre; rw [List.length_take] at this; omega
  obtain ⟨h1, tk, rfl, hk⟩ := x.done
  have noA : ∀ b : Addr, b ∉ (cxOf CX P w K mg base N qual scope f cd A outer s H E).ex := fun b z => absurd (show b ∈ ([] : List Addr) from z) (by simp)
  refine ⟨⟨e0.mod, S.kind, rfl, rfl, Nat.le_refl _, fun y z c h1 h2 => ?_, fun y hy => ?_, fun y c _ h => ?_, fun _ => hd, Around.frames_deeper e0.frames, .inr ⟨rfl, rfl⟩, fun b z => absurd z (noA b), e0.bs, e0.bsz, fun b _ _ => noA b, fun b z => absurd z (noA b), e0.funs, e0.frf⟩,
    rfl, e0.bare, Un.kept hk, ⟨_, x.toInCall.ns, fun i y v h1 h2 h3 => ?_⟩, fun y c h => ⟨_, x.cell y c h⟩, e0.hok.fresh (Nat.le_refl _), fun y c h => ?_, fun p hp => absurd (show p ∈ ([] : List (Addr × Obj)) from hp) (by simp), e0.hok.kept hk, ?_⟩
  · exact name_of_addr x.apart (PySem.mem_of_lookup h1) (PySem.mem_of_lookup h2)
  · have hy : scope.names.lookup y = some .cell ∨ scope.names.lookup y = some .free := hy
    rcases hy with hy | hy
    · exact cell_has hy
    · exact absurd rfl (S.nofree _ (PySem.mem_of_lookup hy))
  · exact Nat.le_of_lt (x.above y c (PySem.mem_of_lookup h))
  · have hi : i < vs.length := by
      unfold start at h2
      by_cases hi : i < vs.length
      · exact hi
      · rw [List.getElem?_append_right (by simpa using hi)] at h2
        rw [List.getElem?_replicate] at h2
        split at h2 <;> cases h2
    have ha : vs[i]? = some v := by
      unfold start at h2
      rw [List.getElem?_append_left (by simpa using hi), List.getElem?_map] at h2
      cases e : vs[i]? with
      | none => rw [e] at h2; cases h2
      | some a => rw [e] at h2; cases h2; rfl
    obtain ⟨u, hu, rv⟩ := r.get ha
    have hp : ps[i]? = some y := by
      rw [← S.pre, List.getElem?_take_of_lt (by omega)]; exact h1
    have ndP : ps.Nodup := by rw [← S.pre]; exact S.nd.sublist (List.take_sublist _ _)
    refine ⟨u, rv, ?_⟩
    rcases S.par y (List.mem_of_getElem? hp) with k | k
    · exact .inl ⟨k, bindL_get ndP hp hu k⟩
    · obtain ⟨c, e⟩ := cell_has (n := s.heap.objs.size + 1) k
      refine .inr ⟨.inl k, c, e, ?_⟩
      have q := x.cell y c e
      rw [bindC_get ndP hp hu (by show scope.names.lookup y ≠ _; rw [k]; decide)] at q
      exact q
  · exact e0.hok.fresh (Nat.le_of_lt (x.above y c (PySem.mem_of_lookup h)))
  · unfold start
    show _ = N.length
    rw [List.length_append, List.length_map, List.length_replicate]
    omega
theorem fn_of {CX : CXT} {P : Program} {w : World} {K : PySem.W.Frag} {mg : Str → Option Value} {base : Heap} {k : Nat} {f : Addr} {name qual : Str} {params : Arguments} {body : List Stmt} {scope : Scope} {dV kV doc pm cdv ct oc : Value} {an od : Option Addr}
    {osl : Array (Option Value)} {N ps : List Str} {sp : Sp} (lk : K.lookup f = some ⟨oc, od, .func (PySem.W.fnOf name qual params body scope dV kV doc pm an cdv ct), osl⟩) (hcd : PySem.W.codeIn K cdv qual = true) (S : FnScope N ps scope)
    (len : ∀ vs H Q E, sp vs H Q E → vs.length = ps.length)
    (hbody : ∀ (A : Around) (outer : List Env) (s : Shared) (H : Hp) (vs : List V) (Q : VK) (E : XK), Room k (A.deeper (envOfC qual scope s.heap.objs.size f cdv)) → sp vs H Q E →
      ∃ t, PSs (cxOf CX P w K mg base N qual scope f cdv A outer s H E) body t ∧ t { nx := fun _ H' => Q .non H', rt := Q } (start N vs) H) :
    FnOk P w K mg base CX (k + 1) f (PySem.W.fnOf name qual params body scope dV kV doc pm an cdv ct) ps sp := by
  refine ⟨len, fun A outer s H args us vs Q E hr e0 hb r hsp => ?_⟩
  have hl := len _ _ _ _ hsp
  have KX : K.In s.heap := e0.mod.kin.keeps fun b o e => (e0.bs b o e).1
  have lim : s.heap.NoLimit := e0.mod.nolimit.keeps fun b o e => (e0.bs b o e).1
  have hkind : ∀ y ∈ ps.zip us, scope.names.lookup y.1 = some .local ∨ (scope.names.lookup y.1 = some .cell ∧ ((cellsFrom (s.heap.objs.size + 1) scope.names []).lookup y.1).isSome = true) := fun ⟨n, v⟩ hy => by
    rcases S.par n (List.of_mem_zip hy).1 with q | q
    · exact .inl q
    · exact .inr ⟨q, PySem.W.cellsFrom_some _ _ _ (.inl q)⟩
  refine codeAny_call_function hr.depth (KX _ _ lk) rfl S.co S.gen rfl (PySem.W.codeRec_of KX hcd) (hb _ _ _ _ ?_)
  refine wpAny_newFunctionEnv_cells S.kind hkind fun env he s1 x => ?_
  subst he
  refine ⟨lim.keeps x.toInCall.keep, codeAny_func ?_⟩
  obtain ⟨t, ht, hq⟩ := hbody A outer s H vs Q E (hr.deeper _) hsp
  have I : Inv (cxOf CX P w K mg base N qual scope f cdv A outer s H E) [] (start N vs) H s1 := inv_start S hr.hd e0 hl r x
  refine wpAny_mono (ht [] s1 (start N vs) H _ I hq) (fun fl s' hs => ?_) fun e s' hs => hs
  have fin : ∀ {σ' : St} {H' : Hp} {v : V} {u : Value}, Inv (cxOf CX P w K mg base N qual scope f cdv A outer s H E) [] σ' H' s' → RelV v u → Q v H' → CE outer P w H s Q u s' :=
    fun {σ' H' v u} J rv q => ⟨v, H', J.os, J.bare, J.base, J.hok, rv, q⟩
  cases fl with
  | ret u =>
    obtain ⟨v, σ', H', J, rv, q⟩ := hs
    exact fin J rv q
  | next =>
    obtain ⟨σ', H', J, q⟩ := hs
    exact fin (v := V.non) (u := Value.none) J rfl q
  | brk =>
    obtain ⟨_, _, _, q⟩ := hs
    exact False.elim q
  | cont =>
    obtain ⟨_, _, _, q⟩ := hs
    exact False.elim q
end L2
namespace L2
open PySem PySem.Spec PyProof.Rows
section
variable {X : Cx} {x : Str} {p pos : Pos} {e : Expr} {es : List Expr} {t : TA} {id T : String} {r : List V → Hp → VK → Prop}
def tCB (r : List V → Hp → VK → Prop) (t : TA) : TE := fun σ H Q => t σ H fun vs H1 => r vs H1 Q
theorem pe_callB (hc : CallR X (.builtin id) r) (hg : Gl X x) (hm : X.mg x = none) (hv : bootBuiltins x = some (.builtin id)) (ha : PA X (e :: es) t) (hn : x ≠ "__name__" := by decide) (hdb : (x == ("__debug__" : Str)) = false := by decide)
    (he : starEach (e :: es) X.env = (false, eval e X.env) :: starEach es X.env := by rfl) (hpl : (backTo pos (starEach es X.env)).any (·.1) = false := by rfl) : PE X (.Call (.Name x p) (e :: es) [] pos) (tCB r t) := by
  intro pins s σ H Q I h
  refine wpAny_Call_Name_kw (ld_blt I hg hm hv ?_ hn hdb)
  exact PyProof.Rows.callWith_builtin1 (thn (ha pos pins s σ H _ I h) fun us s1 ⟨vs, H1, I1, r1, q1⟩ => hc pins s1 σ H1 vs us Q I1 r1 q1) he hpl
theorem pe_callTy (hc : CallR X (.type T) r) (hg : Gl X x) (hm : X.mg x = none) (hv : bootBuiltins x = some (.type T)) (ha : PA X (e :: es) t) (hn : x ≠ "__name__" := by decide) (hdb : (x == ("__debug__" : Str)) = false := by decide)
    (he : starEach (e :: es) X.env = (false, eval e X.env) :: starEach es X.env := by rfl) (hpl : (backTo pos (starEach es X.env)).any (·.1) = false := by rfl) : PE X (.Call (.Name x p) (e :: es) [] pos) (tCB r t) := by
  intro pins s σ H Q I h
  refine wpAny_Call_Name_kw (ld_blt I hg hm hv ?_ hn hdb)
  exact PyProof.Rows.callWith_type1 (thn (ha pos pins s σ H _ I h) fun us s1 ⟨vs, H1, I1, r1, q1⟩ => hc pins s1 σ H1 vs us Q I1 r1 q1) he hpl
end
end L2
namespace L2
open PySem PySem.Spec PyProof.Rows
section
variable {κ : Type} [DecidableEq κ]
def valV (kvs : List (κ × V)) (k : κ) : Option V := (kvs.find? fun kv => decide (kv.1 = k)).map (·.2)
def putK (kvs : List (κ × V)) (k : κ) (v : V) : List (κ × V) :=
  if (kvs.any fun kv => decide (kv.1 = k)) = true then kvs.map (fun kv => if kv.1 = k then (kv.1, v) else kv) else kvs ++ [(k, v)]
def dropK (kvs : List (κ × V)) (k : κ) : List (κ × V) := kvs.filter fun kv => decide (kv.1 ≠ k)
theorem valV_pos {p : κ × V} {r : List (κ × V)} {k : κ} (e : p.1 = k) : valV (p :: r) k = some p.2 := by simp [valV, List.find?_cons, e]
theorem valV_neg {p : κ × V} {r : List (κ × V)} {k : κ} (e : ¬ p.1 = k) : valV (p :: r) k = valV r k := by simp [valV, List.find?_cons, e]
theorem valV_any (k : κ) : ∀ kvs : List (κ × V), (kvs.any fun kv => decide (kv.1 = k)) = (valV kvs k).isSome
  | [] => rfl
  | p :: r => by
    rw [List.any_cons]
    by_cases e : p.1 = k
    · simp only [valV_pos e, decide_eq_true e, Bool.true_or, Option.isSome_some]
    · rw [valV_neg e, decide_eq_false e, Bool.false_or]; exact valV_any k r
theorem length_putK (kvs : List (κ × V)) (k : κ) (v : V) : (putK kvs k v).length ≤ kvs.length + 1 := by
  unfold putK
  split
  · rw [List.length_map]; omega
  · rw [List.length_append, List.length_cons, List.length_nil]; omega
theorem RelO.isSome_eq {o : Option V} {u : Option Value} (r : RelO o u) : o.isSome = u.isSome := by
  cases o with
  | none => cases u with
    | none => rfl
    | some _ => exact (show False from r).elim
  | some _ => cases u with
    | none => exact (show False from r).elim
    | some _ => rfl
theorem RelO.getD {o : Option V} {u : Option Value} {d : V} {d' : Value} (r : RelO o u) (rd : RelV d d') : RelV (o.getD d) (u.getD d') := by
  cases o with
  | none => cases u with
    | none => exact rd
    | some _ => exact (show False from r).elim
  | some _ => cases u with
    | none => exact (show False from r).elim
    | some _ => exact r
theorem KV.val {kvs : List (κ × V)} {vs : List (κ × Value)} (r : KV kvs vs) (k : κ) : RelO (valV kvs k) (valueAt vs k) := by
  unfold KV at r
  induction r with
  | nil => exact True.intro
  | @cons p q ps qs h t ih =>
    obtain ⟨h1, h2⟩ := h
    by_cases e : p.1 = k
    · have e' : q.1 = k := h1.symm.trans e
      have b : valueAt (q :: qs) k = some q.2 := by simp [valueAt, List.find?_cons, e']
      rw [valV_pos e, b]; exact h2
    · have e' : ¬ q.1 = k := fun z => e (h1.trans z)
      have b : valueAt (q :: qs) k = valueAt qs k := by simp [valueAt, List.find?_cons, e']
      rw [valV_neg e, b]; exact ih
theorem KV.any {kvs : List (κ × V)} {vs : List (κ × Value)} (r : KV kvs vs) (k : κ) : (kvs.any fun kv => decide (kv.1 = k)) = vs.any fun kv => decide (kv.1 = k) := by
  unfold KV at r
  induction r with
  | nil => rfl
  | cons h t ih => rw [List.any_cons, List.any_cons, ih, h.1]
theorem KV.repl {kvs : List (κ × V)} {vs : List (κ × Value)} (r : KV kvs vs) (k : κ) {y : V} {u : Value} (ry : RelV y u) :
    KV (kvs.map fun kv => if kv.1 = k then (kv.1, y) else kv) (vs.map fun kv => if kv.1 = k then (kv.1, u) else kv) := by
  unfold KV at r ⊢
  induction r with
  | nil => exact .nil
  | @cons p q ps qs h t ih =>
    rw [List.map_cons, List.map_cons]
    refine .cons ?_ ih
    obtain ⟨h1, h2⟩ := h
    by_cases e : p.1 = k
    · rw [if_pos e, if_pos (h1.symm.trans e)]; exact ⟨h1, ry⟩
    · rw [if_neg e, if_neg (fun z => e (h1.trans z))]; exact ⟨h1, h2⟩
theorem KV.put {kvs : List (κ × V)} {vs : List (κ × Value)} (r : KV kvs vs) (k : κ) {y : V} {u : Value} (ry : RelV y u) : KV (putK kvs k y) (stored vs k u) := by
  unfold putK stored
  rw [r.any k]
  by_cases e : (vs.any fun kv => decide (kv.1 = k)) = true
  · rw [if_pos e, if_pos e]; exact r.repl k ry
  · rw [if_neg e, if_neg e]; exact Paired.snoc r ⟨rfl, ry⟩
theorem KV.drop {kvs : List (κ × V)} {vs : List (κ × Value)} (r : KV kvs vs) (k : κ) : KV (dropK kvs k) (without vs k) := by
  unfold KV at r ⊢
  unfold dropK without
  induction r with
  | nil => exact .nil
  | @cons p q ps qs h t ih =>
    obtain ⟨h1, h2⟩ := h
    rw [List.filter_cons, List.filter_cons]
    by_cases e : p.1 = k
    · have a : ¬ decide (p.1 ≠ k) = true := by simp [e]
      have b : ¬ decide (q.1 ≠ k) = true := by simp [h1.symm.trans e]
      rw [if_neg a, if_neg b]; exact ih
    · have e' : ¬ q.1 = k := fun z => e (h1.trans z)
      have a : decide (p.1 ≠ k) = true := by simp [e]
      have b : decide (q.1 ≠ k) = true := by simp [e']
      rw [if_pos a, if_pos b]; exact .cons ⟨h1, h2⟩ ih
theorem KV.keys {kvs : List (κ × V)} {vs : List (κ × Value)} (r : KV kvs vs) : kvs.map (·.1) = vs.map (·.1) := by
  unfold KV at r
  induction r with
  | nil => rfl
  | cons h t ih => rw [List.map_cons, List.map_cons, ih, h.1]
theorem KV.length {kvs : List (κ × V)} {vs : List (κ × Value)} (r : KV kvs vs) : kvs.length = vs.length := Paired.length r
theorem dropK_le (kvs : List (κ × V)) (k : κ) : (dropK kvs k).length ≤ kvs.length := List.length_filter_le _ _
end
theorem kV_is {P : Program} {w : World} {k : Key} {u : Value} (r : RelV (kV k) u) : (mixKind P w).is k u = true := by
  cases k with
  | inl i => obtain ⟨t, e⟩ := (show ∃ t, u = Value.int i t from r); subst e; exact mixKind_int P w i t
  | inr x => obtain ⟨t, e⟩ := (show ∃ t, u = Value.str x t from r); subst e; exact mixKind_str P w x t
theorem items_are {P : Program} {w : World} : ∀ {ks : List Key} {us : List Value}, Vals (ks.map kV) us → ItemsAre (mixKind P w) ks us
  | [], _, r => by rw [List.map_nil] at r; cases r; exact .nil
  | k :: ks, _, r => by
    rw [List.map_cons] at r
    cases r with
    | cons h t => exact .cons (kV_is h) (items_are t)
abbrev KT (H : Hp) : List (List Key × V) → List (List Key × Addr × Value) → Prop := Paired fun p q => p.1 = q.1 ∧ H q.2.1 = some (.tup (p.1.map kV)) ∧ RelV p.2 q.2.2
theorem KT.val {H : Hp} {kvs : List (List Key × V)} {xs : List (List Key × Addr × Value)} (r : KT H kvs xs) (k : List Key) : RelO (valV kvs k) ((atKey xs k).map (·.2)) := by
  induction r with
  | nil => exact True.intro
  | @cons p q ps qs h t ih =>
    obtain ⟨h1, _, h2⟩ := h
    by_cases e : p.1 = k
    · have e' : q.1 = k := h1.symm.trans e
      have b : atKey (q :: qs) k = some q.2 := by simp [atKey, List.find?_cons, e']
      rw [valV_pos e, b]; exact h2
    · have e' : ¬ q.1 = k := fun z => e (h1.trans z)
      have b : atKey (q :: qs) k = atKey qs k := by simp [atKey, List.find?_cons, e']
      rw [valV_neg e, b]; exact ih
theorem KT.repl {H : Hp} {kvs : List (List Key × V)} {xs : List (List Key × Addr × Value)} (r : KT H kvs xs) (k : List Key) {y : V} {u : Value} (ry : RelV y u) :
    KT H (kvs.map fun kv => if kv.1 = k then (kv.1, y) else kv) (xs.map (putAt k u)) := by
  induction r with
  | nil => exact .nil
  | @cons p q ps qs h t ih =>
    rw [List.map_cons, List.map_cons]
    refine .cons ?_ ih
    obtain ⟨h1, h2, h3⟩ := h
    unfold putAt
    by_cases e : p.1 = k
    · rw [if_pos e, if_pos (h1.symm.trans e)]; exact ⟨h1, h2, ry⟩
    · rw [if_neg e, if_neg (fun z => e (h1.trans z))]; exact ⟨h1, h2, h3⟩
theorem KT.put {H : Hp} {kvs : List (List Key × V)} {xs : List (List Key × Addr × Value)} (r : KT H kvs xs) (k : List Key) {b : Addr} {y : V} {u : Value} (hb : H b = some (.tup (k.map kV))) (ry : RelV y u) :
    KT H (putK kvs k y) (storedH xs k b u) := by
  have e : (kvs.any fun kv => decide (kv.1 = k)) = (atKey xs k).isSome := by
    rw [valV_any, (r.val k).isSome_eq, Option.isSome_map]
  unfold putK storedH
  rw [e]
  by_cases q : (atKey xs k).isSome = true
  · rw [if_pos q, if_pos q]; exact r.repl k ry
  · rw [if_neg q, if_neg q]; exact Paired.snoc r ⟨rfl, hb, ry⟩
theorem KT.keeps {H H' : Hp} {kvs : List (List Key × V)} {xs : List (List Key × Addr × Value)} (r : KT H kvs xs) (ht : ∀ b ys, H b = some (.tup ys) → H' b = some (.tup ys)) : KT H' kvs xs :=
  Paired.mapP r fun _ _ z => ⟨z.1, ht _ _ z.2.1, z.2.2⟩
section
variable {P : Program} {w : World} {H : Hp} {h : Heap} {a : Addr}
theorem rd_of {u : HO} (ok : HOk P w H h) (e : Rd H a u) : ObjOk P w H h a u := e.ok ok
theorem dk_rd {kvs : List (Key × V)} (ok : HOk P w H h) (e : Rd H a (.dK kvs)) : kvs.length ≤ sizeLine ∧ (a == sysModules) = false ∧ ∃ vs, KV kvs vs ∧ h.DictOf (mixKind P w) a vs :=
  show ObjOk P w H h a (.dK kvs) from rd_of ok e
theorem dk_of {kvs : List (Key × V)} (ok : HOk P w H h) (e : H a = some (.dK kvs)) : kvs.length ≤ sizeLine ∧ (a == sysModules) = false ∧ ∃ vs, KV kvs vs ∧ h.DictOf (mixKind P w) a vs := dk_rd ok (.inl e)
theorem key_of {ks : List Key} (ok : HOk P w H h) (e : H a = some (.tup (ks.map kV))) : (tupleKind (mixKind P w)).is h ks a := by
  obtain ⟨_, its, r, o, h1, h2, n, h3⟩ := (show ObjOk P w H h a (.tup (ks.map kV)) from ok a _ e)
  exact ⟨o, its.toArray, n, h1, h2, h3, by simpa using items_are r⟩
theorem dt_rd {kvs : List (List Key × V)} (ok : HOk P w H h) (e : Rd H a (.dT kvs)) : kvs.length ≤ sizeLine ∧ (a == sysModules) = false ∧
    ∃ xs, KT H kvs xs ∧ h.DictOfH (tupleKind (mixKind P w)) a xs := by
  obtain ⟨z, y, xs, r, o, es, ep, h1, h2, h3, h4, h5⟩ := (show ObjOk P w H h a (.dT kvs) from rd_of ok e)
  refine ⟨z, y, xs, r, o, es, ep, h1, h2, h3, h4, fun x hx => ?_, h5⟩
  have all : ∀ {l : List (List Key × V)} {m : List (List Key × Addr × Value)}, KT H l m → ∀ x ∈ m, (tupleKind (mixKind P w)).is h x.1 x.2.1 := by
    intro l m q
    induction q with
    | nil => intro x hx; exact nomatch hx
    | @cons p q ps qs hq t ih =>
      intro x hx
      rcases List.mem_cons.mp hx with e | hx
      · subst e
        exact key_of ok (by rw [← hq.1]; exact hq.2.1)
      · exact ih x hx
  exact all r x hx
theorem dt_of {kvs : List (List Key × V)} (ok : HOk P w H h) (e : H a = some (.dT kvs)) : kvs.length ≤ sizeLine ∧ (a == sysModules) = false ∧
    ∃ xs, KT H kvs xs ∧ h.DictOfH (tupleKind (mixKind P w)) a xs := dt_rd ok (.inl e)
end
def DGet (H : Hp) (a : Addr) (y : V) (r : Option V) : Prop :=
  (∃ kvs k, Rd H a (.dK kvs) ∧ y = kV k ∧ r = valV kvs k) ∨ ∃ kvs k b, Rd H a (.dT kvs) ∧ y = .ref b ∧ H b = some (.tup (k.map kV)) ∧ r = valV kvs k
def DPut (H : Hp) (a : Addr) (y v : V) (H' : Hp) : Prop :=
  (∃ kvs k, H a = some (.dK kvs) ∧ y = kV k ∧ kvs.length < sizeLine ∧ H' = upd H a (.dK (putK kvs k v))) ∨
  ∃ kvs k b, H a = some (.dT kvs) ∧ y = .ref b ∧ H b = some (.tup (k.map kV)) ∧ kvs.length < sizeLine ∧ H' = upd H a (.dT (putK kvs k v))
theorem DGet.k {H : Hp} {a : Addr} {kvs : List (Key × V)} {k : Key} (e : H a = some (.dK kvs)) : DGet H a (kV k) (valV kvs k) := .inl ⟨kvs, k, .inl e, rfl, rfl⟩
theorem DGet.t {H : Hp} {a b : Addr} {kvs : List (List Key × V)} {k : List Key} (e : H a = some (.dT kvs)) (eb : H b = some (.tup (k.map kV))) : DGet H a (.ref b) (valV kvs k) := .inr ⟨kvs, k, b, .inl e, rfl, eb, rfl⟩
theorem DPut.k {H : Hp} {a : Addr} {kvs : List (Key × V)} {k : Key} {v : V} (e : H a = some (.dK kvs)) (hl : kvs.length < sizeLine) : DPut H a (kV k) v (upd H a (.dK (putK kvs k v))) := .inl ⟨kvs, k, e, rfl, hl, rfl⟩
theorem DPut.t {H : Hp} {a b : Addr} {kvs : List (List Key × V)} {k : List Key} {v : V} (e : H a = some (.dT kvs)) (eb : H b = some (.tup (k.map kV))) (hl : kvs.length < sizeLine) :
    DPut H a (.ref b) v (upd H a (.dT (putK kvs k v))) := .inr ⟨kvs, k, b, e, rfl, eb, hl, rfl⟩
section
variable {X : Cx} {pins : List (Addr × Obj)} {σ : St} {H : Hp} {s : Shared} {a : Addr} {y v : V} {u r : Value} {o : Option V} {A : Around} {E : Value → Shared → Prop}
theorem Inv.big (I : Inv X pins σ H s) : sysModules < s.heap.objs.size := by
  have h : mainGlobals < s.heap.objs.size := (I.mod.glob.keeps I.bk).lt
  exact Nat.lt_trans (by decide) h
theorem d_getItem {Q : Value → Shared → Prop} (hu : A.units + 1 < cLine) (I : Inv X pins σ H s) (g : DGet H a y (some v)) (ry : RelV y u) (h : ∀ w' s', Inv X pins σ H s' → RelV v w' → Q w' s') :
    wpAny (model X.prog X.w) A (getItem (.ref a) u) Q E s := by
  rcases g with ⟨kvs, k, e, ey, l⟩ | ⟨kvs, k, b, e, ey, eb, l⟩
  · subst ey
    obtain ⟨z, hd, vs, rel, dd⟩ := dk_rd I.hok e
    obtain ⟨w', hw, rw'⟩ := RelO.some_of (v := v) (o := valueAt vs k) (by rw [l]; exact rel.val k)
    exact wpAny_getItem_of (kV_is ry) dd.mapOf hw (h w' _ (I.tok _) rw')
  · subst ey
    cases (show u = Value.ref b from ry)
    obtain ⟨z, hd, xs, rel, dd⟩ := dt_rd I.hok e
    obtain ⟨w', hw, rw'⟩ := RelO.some_of (v := v) (o := (atKey xs k).map (·.2)) (by rw [l]; exact rel.val k)
    obtain ⟨p, hp, hp2⟩ := Option.map_eq_some_iff.mp hw
    refine wpAny_getItem_heap (tupleKind_room_in1 hu) (key_of I.hok eb) dd hp ?_
    rw [hp2]
    exact h w' _ (I.tok _) rw'
theorem d_in {Q : Value → Shared → Prop} (hu : A.units + 1 < cLine) (I : Inv X pins σ H s) (g : DGet H a y o) (ry : RelV y u) (h : ∀ s', Inv X pins σ H s' → Q (.bool o.isSome) s') :
    wpAny (model X.prog X.w) A (compareOp .In u (.ref a)) Q E s := by
  rcases g with ⟨kvs, k, e, ey, l⟩ | ⟨kvs, k, b, e, ey, eb, l⟩
  · subst ey
    obtain ⟨z, hd, vs, rel, dd⟩ := dk_rd I.hok e
    refine wpAny_in_of (kV_is ry) hd dd.mapOf ?_
    rw [← (rel.val k).isSome_eq, ← l]
    exact h _ (I.tok _)
  · subst ey
    cases (show u = Value.ref b from ry)
    obtain ⟨z, hd, xs, rel, dd⟩ := dt_rd I.hok e
    refine wpAny_in_heap (tupleKind_room_in1 hu) (key_of I.hok eb) hd dd ?_
    have q := (rel.val k).isSome_eq
    rw [Option.isSome_map] at q
    rw [← q, ← l]
    exact h _ (I.tok _)
theorem d_notIn {Q : Value → Shared → Prop} (hu : A.units + 1 < cLine) (I : Inv X pins σ H s) (g : DGet H a y o) (ry : RelV y u) (h : ∀ s', Inv X pins σ H s' → Q (.bool (!o.isSome)) s') :
    wpAny (model X.prog X.w) A (compareOp .NotIn u (.ref a)) Q E s := by
  rcases g with ⟨kvs, k, e, ey, l⟩ | ⟨kvs, k, b, e, ey, eb, l⟩
  · subst ey
    obtain ⟨z, hd, vs, rel, dd⟩ := dk_rd I.hok e
    refine wpAny_notIn_of (kV_is ry) hd dd.mapOf ?_
    rw [← (rel.val k).isSome_eq, ← l]
    exact h _ (I.tok _)
  · subst ey
    cases (show u = Value.ref b from ry)
    obtain ⟨z, hd, xs, rel, dd⟩ := dt_rd I.hok e
    refine wpAny_notIn_heap (tupleKind_room_in1 hu) (key_of I.hok eb) hd dd ?_
    have q := (rel.val k).isSome_eq
    rw [Option.isSome_map] at q
    rw [← q, ← l]
    exact h _ (I.tok _)
theorem d_write {h' : Heap} {t' : Nat} {ob : HO} (I : Inv X pins σ H s) (mu : Mut (H a)) (hs : Heap.SameBut a s.heap h') (he : ∃ q, h'.get? a = some q) (new : ObjOk X.prog X.w (upd H a ob) h' a ob) :
    Inv X pins σ (upd H a ob) { s with heap := h', toks := t' } :=
  I.write (x := a) (e := a) mu (.inl rfl) (fun b q hb z => (hs.2 b hb).trans z) he new
theorem dk_new {P : Program} {w : World} {H' : Hp} {h' : Heap} {kvs : List (Key × V)} {vs : List (Key × Value)} (z : kvs.length ≤ sizeLine) (hd : (a == sysModules) = false) (rel : KV kvs vs) (dd : h'.DictOf (mixKind P w) a vs) :
    ObjOk P w H' h' a (.dK kvs) := ⟨z, hd, vs, rel, dd⟩
theorem d_setItem {H' : Hp} {Q : Unit → Shared → Prop} (hu : A.units + 1 < cLine) (I : Inv X pins σ H s) (g : DPut H a y v H') (ry : RelV y u) (rv : RelV v r) (h : ∀ s', Inv X pins σ H' s' → Q () s') :
    wpAny (model X.prog X.w) A (setItem (.ref a) u r) Q E s := by
  rcases g with ⟨kvs, k, e, ey, l, eH⟩ | ⟨kvs, k, b, e, ey, eb, l, eH⟩
  · subst ey eH
    obtain ⟨z, hd, vs, rel, dd⟩ := dk_of I.hok e
    have hz : vs.length ≤ sizeLine := by rw [← rel.length]; exact z
    have hl : (putK kvs k v).length ≤ sizeLine := by have := length_putK kvs k v; omega
    refine wpAny_setItem_pairs (hsz := hz) (kV_is ry) dd fun h' dd' hs => h _ ?_
    have he : ∃ q, h'.get? a = some q := let ⟨q, _, _, hq, _⟩ := dd'; ⟨q, hq⟩
    exact d_write I (by rw [e]; exact True.intro) hs he (dk_new hl hd (rel.put k rv) dd')
  · subst ey eH
    cases (show u = Value.ref b from ry)
    obtain ⟨z, hd, xs, rel, dd⟩ := dt_of I.hok e
    have hz : xs.length ≤ sizeLine := by rw [← Paired.length rel]; exact z
    have hl : (putK kvs k v).length ≤ sizeLine := by have := length_putK kvs k v; omega
    refine wpAny_setItem_heap (hsz := hz) (tupleKind_room_in1 hu) (key_of I.hok eb) dd fun h' dd' hs => h _ ?_
    obtain ⟨q, es, ep, hq, h2, h3, h4, _, h5⟩ := dd'
    refine d_write I (by rw [e]; exact True.intro) hs ⟨q, hq⟩ ⟨hl, hd, _, (rel.put k eb rv).keeps fun c ys ec => ?_, q, es, ep, hq, h2, h3, h4, h5⟩
    rw [upd_ne (ne_of ec e (fun z => nomatch z))]
    exact ec
end
section
variable {X : Cx} {pins : List (Addr × Obj)} {σ : St} {H : Hp} {s : Shared} {a : Addr} {kvs : List (Key × V)} {k : Key} {u : Value} {A : Around} {E : Value → Shared → Prop}
theorem d_delItem {Q : Unit → Shared → Prop} (I : Inv X pins σ H s) (e : H a = some (.dK kvs)) (ry : RelV (kV k) u) (l : (valV kvs k).isSome = true) (h : ∀ s', Inv X pins σ (upd H a (.dK (dropK kvs k))) s' → Q () s') :
    wpAny (model X.prog X.w) A (delItem (.ref a) u) Q E s := by
  obtain ⟨z, hd, vs, rel, dd⟩ := dk_of I.hok e
  refine wpAny_delItem_slot dd.typeIs (by decide) PySem.F.slot_dict_delitem
    (call_meetsIn PySem.F.slot_dict_delitem dd.typeIs PySem.F.entry_dict_delitem (PySem.F.args_dict_delitem_2 _ _) (meets_dict_delitem_pairs (mixKind X.prog X.w) a (kV_is ry)) ⟨vs, dd, by rw [← rel.length]; exact z, by rw [← (rel.val k).isSome_eq]; exact l, fun h' dd' hs => h _ ?_⟩)
  have he : ∃ q, h'.get? a = some q := let ⟨q, _, _, hq, _⟩ := dd'; ⟨q, hq⟩
  exact d_write I (by rw [e]; exact True.intro) hs he (dk_new (Nat.le_trans (dropK_le kvs k) z) hd (rel.drop k) dd')
theorem d_pop {v : V} {more : List Value} {Q : Value → Shared → Prop} (I : Inv X pins σ H s) (e : H a = some (.dK kvs)) (ry : RelV (kV k) u) (l : valV kvs k = some v) (hm : more = [] ∨ ∃ x, more = [x])
    (h : ∀ w' s', Inv X pins σ (upd H a (.dK (dropK kvs k))) s' → RelV v w' → Q w' s') : wpAny (model X.prog X.w) A (call (.builtin "dict.pop") (.ref a :: u :: more)) Q E s := by
  obtain ⟨z, hd, vs, rel, dd⟩ := dk_of I.hok e
  obtain ⟨w', hw, rw'⟩ := RelO.some_of (v := v) (o := valueAt vs k) (by rw [← l]; exact rel.val k)
  have hp : (keyPart u).isSome = true := by
    cases k with
    | inl i => obtain ⟨t, q⟩ := (show ∃ t, u = Value.int i t from ry); subst q; rfl
    | inr x => obtain ⟨t, q⟩ := (show ∃ t, u = Value.str x t from ry); subst q; rfl
  have ha : argsOk "dict.pop" ⟨.ref a :: u :: more, []⟩ := by
    rcases hm with q | ⟨x, q⟩
    · subst q; exact PySem.F.args_dict_pop_2 _ _
    · subst q; exact PySem.F.args_dict_pop_3 _ _ _
  refine call_meetsIn PySem.F.slot_dict_pop dd.typeIs PySem.F.entry_dict_pop ha (meets_dict_pop_there (mixKind X.prog X.w) a (kV_is ry) more hm hp)
    ⟨vs, w', dd, by rw [← rel.length]; exact z, hw, fun h' dd' hs => h w' _ ?_ rw'⟩
  have he : ∃ q, h'.get? a = some q := let ⟨q, _, _, hq, _⟩ := dd'; ⟨q, hq⟩
  exact d_write I (by rw [e]; exact True.intro) hs he (dk_new (Nat.le_trans (dropK_le kvs k) z) hd (rel.drop k) dd')
theorem d_len {Q : Value → Shared → Prop} (I : Inv X pins σ H s) (e : Rd H a (.dK kvs)) (h : ∀ t s', Inv X pins σ H s' → Q (.int kvs.length t) s') : wpAny (model X.prog X.w) A (call (.builtin "len") [.ref a]) Q E s := by
  obtain ⟨z, hd, vs, rel, dd⟩ := dk_rd I.hok e
  refine call_len_dict hd dd (by rw [← rel.length]; rw [sizeLine_eq] at z; omega) ?_
  rw [← rel.length]
  exact h _ _ (I.tok _)
end
def NoSl (i : Expr) : Prop := ∀ ov iv, subscripted i false ov iv = operate [ov, iv] (getItem ov iv)
theorem subD_of {prog : Program} {w : World} {A : Around} {E : Value → Shared → Prop} {s : Shared} {env : Env} {value slice : Expr} {pos : Pos} {T id : String} {Q : Value → Shared → Prop}
    (hl : typeLookup (.type T) "__getitem__" = pure (some (.builtin id))) (hs : NoSl slice)
    (h : wpAny (model prog w) A (eval value env) (fun o s₁ => wpAny (model prog w) A (eval slice env) (fun i s₂ => s₂.TypeIs o T ∧ wpAny (model prog w) A (getItem o i) Q E s₂) E s₁) E s) :
    wpAny (model prog w) A (eval (.Subscript value slice pos) env) Q E s := by
  refine Subscript_ (wpAny_mono h (fun o s₁ h₁ => wpAny_mono h₁ (fun i s₂ h₂ => ?_) fun _ _ x => x) fun _ _ x => x)
  obtain ⟨hT, h₂⟩ := h₂
  unfold subscriptTail
  refine wpAny_bind ?_
  rw [getitemInPython_of_ne hT.not_modules]
  refine wpAny_bind (wpAny_specialOf hT hl ?_)
  have fin : wpAny (model prog w) A (subscripted slice false o i) (fun r s₃ => wpAny (model prog w) A (letTemporaryGo value o r >>= fun _ => pure r) Q E s₃) E s₂ := by
    rw [hs o i]
    exact wpAny_operating (wpAny_mono h₂ (fun r s₃ h₃ => wpAny_bind (wpAny_letTemporaryGo (wpAny_pure h₃))) fun _ _ x => x)
  first
    | exact wpAny_pure (wpAny_bind fin)
    | exact wpAny_bind (wpAny_pure (wpAny_bind fin))
    | exact wpAny_bind fin
theorem dict_typeIs {X : Cx} {pins : List (Addr × Obj)} {σ : St} {H : Hp} {s : Shared} {a : Addr} {y : V} {o : Option V} (I : Inv X pins σ H s) (g : DGet H a y o) : s.TypeIs (.ref a) "dict" := by
  rcases g with ⟨kvs, k, e, _, _⟩ | ⟨kvs, k, b, e, _, _, _⟩
  · obtain ⟨_, _, vs, _, dd⟩ := dk_rd I.hok e
    exact dd.typeIs
  · obtain ⟨_, _, xs, _, dd⟩ := dt_rd I.hok e
    exact dd.typeIs
def tDGet (td ty : TE) : TE := fun σ H Q => td σ H fun x H1 => ty σ H1 fun y H2 => ∃ a v, x = .ref a ∧ DGet H2 a y (some v) ∧ Q v H2
def tDIn (ty td : TE) : TE := fun σ H Q => ty σ H fun y H1 => td σ H1 fun x H2 => ∃ a o, x = .ref a ∧ DGet H2 a y o ∧ Q (.bl o.isSome) H2
def tDNotIn (ty td : TE) : TE := fun σ H Q => ty σ H fun y H1 => td σ H1 fun x H2 => ∃ a o, x = .ref a ∧ DGet H2 a y o ∧ Q (.bl (!o.isSome)) H2
def sDPut (td ty tv : TE) : TS := fun D σ H => tv σ H fun v H1 => td σ H1 fun x H2 => ty σ H2 fun y H3 => ∃ a H4, x = .ref a ∧ DPut H3 a y v H4 ∧ D.nx σ H4
section
variable {X : Cx} {o i e value : Expr} {pos pos' tpos : Pos} {td ty tv : TE}
theorem pe_dget (hu : X.A.units + 1 < cLine) (ho : PE X o td) (hi : PE X i ty) (hs : NoSl i) : PE X (.Subscript o i pos) (tDGet td ty) := by
  intro pins s σ H Q I h
  refine subD_of PySem.F.slot_dict_getitem.lookup hs (thn (ho pins s σ H _ I h) fun u s1 ⟨x, H1, I1, rx, q1⟩ => thn (hi pins s1 σ H1 _ I1 q1) fun iv s2 ⟨y, H2, I2, ry, a, v, ex, g, q2⟩ => ?_)
  subst ex
  obtain rfl : u = Value.ref a := rx
  exact ⟨dict_typeIs I2 g, d_getItem hu I2 g ry fun w' s3 I3 rw' => ⟨v, H2, I3, rw', q2⟩⟩
theorem pc_din (hu : X.A.units + 1 < cLine) (hi : PE X i ty) (ho : PE X o td) : PC X .In i o (tDIn ty td) := by
  intro pins s σ H Q I h
  refine thn (hi pins s σ H _ I h) fun iv s1 ⟨y, H1, I1, ry, q1⟩ => thn (ho pins s1 σ H1 _ I1 q1) fun u s2 ⟨x, H2, I2, rx, a, ov, ex, g, q2⟩ => ?_
  subst ex
  obtain rfl : u = Value.ref a := rx
  exact d_in hu I2 g ry fun s3 I3 => ⟨.bl ov.isSome, H2, I3, rfl, q2⟩
theorem pc_dnotin (hu : X.A.units + 1 < cLine) (hi : PE X i ty) (ho : PE X o td) : PC X .NotIn i o (tDNotIn ty td) := by
  intro pins s σ H Q I h
  refine thn (hi pins s σ H _ I h) fun iv s1 ⟨y, H1, I1, ry, q1⟩ => thn (ho pins s1 σ H1 _ I1 q1) fun u s2 ⟨x, H2, I2, rx, a, ov, ex, g, q2⟩ => ?_
  subst ex
  obtain rfl : u = Value.ref a := rx
  exact d_notIn hu I2 g ry fun s3 I3 => ⟨.bl (!ov.isSome), H2, I3, rfl, q2⟩
theorem ps_dput (hu : X.A.units + 1 < cLine) (ho : PE X o td) (hi : PE X i ty) (hv : PE X value tv) (hs : swapsWith value (some (.Subscript o i pos')) pos.line X.env = pure false) :
    PS X (.Assign [.Subscript o i pos'] value pos) (sDPut td ty tv) := by
  intro pins s σ H D I h
  refine wpAny_Assign_Subscript (thn (hv pins s σ H _ I h) fun r s1 ⟨v, H1, I1, rv, q1⟩ => thn (ho pins s1 σ H1 _ I1 q1) fun u s2 ⟨x, H2, I2, rx, q2⟩ => thn (hi pins s2 σ H2 _ I2 q2) fun iv s3 ⟨y, H3, I3, ry, a, H4, ex, g, q3⟩ => ?_) hs
  subst ex
  obtain rfl : u = Value.ref a := rx
  exact d_setItem hu I3 g ry rv fun s4 I4 => ⟨σ, H4, I4, q3⟩
end
theorem dk_empty {P : Program} {w : World} {H : Hp} (h : Heap) (hb : sysModules < h.objs.size) : ObjOk P w H (h.push { cls := .type "dict", data := .dict #[] }) h.objs.size (.dK []) :=
  ⟨Nat.zero_le _, beq_eq_false_iff_ne.mpr (Ne.symm (Nat.ne_of_lt hb)), [], .nil, Heap.DictOf.new h⟩
def tDNewK : TE := fun _ H Q => ∀ p, H p = none → Q (.ref p) (upd H p (.dK []))
section
variable {X : Cx} {pos : Pos}
theorem pe_dnewK : PE X (.Dict [] [] pos) tDNewK := fun pins s σ H Q I h =>
  wpAny_Dict_empty ⟨.ref s.heap.objs.size, _, I.laid (a := s.heap.objs.size) (o := .dK []) (t' := s.toks) (fun _ _ q => Heap.get?_push_of_some _ q) (Nat.le_refl _) (dk_empty s.heap I.big), rfl, h _ (I.hok.fresh (Nat.le_refl _))⟩
end
structure M1 (X : Cx) (o : Expr) (m : Str) (apos : Pos) (e : Expr) (cpos : Pos) : Prop where
  base : attributeBase o m X.env (eval o X.env) = eval o X.env
  few : ((backTo cpos (starEach [e] X.env)).all (fun x => !x.1) && (backToKw cpos (keywordEach [] X.env)).all (fun x => x.1.isSome)
    && decide (([e] : List Expr).length + ([] : List Keyword).length + (if ([] : List Keyword).isEmpty then 0 else 1) < 30)) = true
  line : (apos.endLine == cpos.line) = true
  trees : backTo cpos (starEach [e] X.env) = [(false, eval e X.env)]
structure M2 (X : Cx) (o : Expr) (m : Str) (apos : Pos) (e f : Expr) (cpos : Pos) : Prop where
  base : attributeBase o m X.env (eval o X.env) = eval o X.env
  few : ((backTo cpos (starEach [e, f] X.env)).all (fun x => !x.1) && (backToKw cpos (keywordEach [] X.env)).all (fun x => x.1.isSome)
    && decide (([e, f] : List Expr).length + ([] : List Keyword).length + (if ([] : List Keyword).isEmpty then 0 else 1) < 30)) = true
  line : (apos.endLine == cpos.line) = true
  trees : backTo cpos (starEach [e, f] X.env) = [(false, eval e X.env), (false, eval f X.env)]
def IsD (H : Hp) (a : Addr) : Prop := (∃ kvs, Rd H a (.dK kvs)) ∨ ∃ kvs, Rd H a (.dT kvs)
theorem isD_at {X : Cx} {pins : List (Addr × Obj)} {σ : St} {H : Hp} {s : Shared} {a : Addr} (I : Inv X pins σ H s) (d : IsD H a) :
    s.TypeIs (.ref a) "dict" ∧ (∀ b, Value.ref a = .ref b → ∃ ob, s.heap.get? b = some ob ∧ ob.dict = none) ∧ (a == sysModules) = false := by
  rcases d with ⟨kvs, e⟩ | ⟨kvs, e⟩
  · obtain ⟨_, hd, vs, _, dd⟩ := dk_rd I.hok e
    refine ⟨dd.typeIs, fun b q => ?_, hd⟩
    cases q
    obtain ⟨ob, _, _, h1, h2, _⟩ := dd
    exact ⟨ob, h1, h2.2.1⟩
  · obtain ⟨_, hd, xs, _, dd⟩ := dt_rd I.hok e
    refine ⟨dd.typeIs, fun b q => ?_, hd⟩
    cases q
    obtain ⟨ob, _, _, h1, h2, _⟩ := dd
    exact ⟨ob, h1, h2.2.1⟩
section
variable {X : Cx} {pins : List (Addr × Obj)} {σ : St} {H : Hp} {s : Shared} {a : Addr} {y d : V} {u r : Value} {o : Option V} {A : Around} {E : Value → Shared → Prop}
theorem d_get2 {Q : Value → Shared → Prop} (hu : A.units + 1 < cLine) (I : Inv X pins σ H s) (g : DGet H a y o) (ry : RelV y u) (rd : RelV d r) (h : ∀ w' s', Inv X pins σ H s' → RelV (o.getD d) w' → Q w' s') :
    wpAny (model X.prog X.w) A (call (.builtin "dict.get") [.ref a, u, r]) Q E s := by
  rcases g with ⟨kvs, k, e, ey, l⟩ | ⟨kvs, k, b, e, ey, eb, l⟩
  · subst ey
    obtain ⟨z, hd, vs, rel, dd⟩ := dk_rd I.hok e
    refine call_meetsIn PySem.F.slot_dict_get dd.typeIs PySem.F.entry_dict_get (PySem.F.args_dict_get_3 _ _ _) (meets_dict_get_default (mixKind X.prog X.w) a (kV_is ry) hd r) ⟨_, dd.mapOf, h _ _ (I.tok _) ?_⟩
    rw [l]
    exact (rel.val k).getD rd
  · subst ey
    cases (show u = Value.ref b from ry)
    obtain ⟨z, hd, xs, rel, dd⟩ := dt_rd I.hok e
    refine call_meetsIn PySem.F.slot_dict_get dd.typeIs PySem.F.entry_dict_get (PySem.F.args_dict_get_3 _ _ _) (meetsH_dict_get_default (tupleKind (mixKind X.prog X.w)) a b hd r) ⟨tupleKind_room_in1 hu, k, xs, key_of I.hok eb, dd, h _ _ (I.tok _) ?_⟩
    rw [l]
    exact (rel.val k).getD rd
end
def tDGet2 (td ty tx : TE) : TE := fun σ H Q => td σ H fun x H1 => ∃ a, x = .ref a ∧ IsD H1 a ∧ ty σ H1 fun y H2 => tx σ H2 fun z H3 => ∃ o, DGet H3 a y o ∧ Q (o.getD z) H3
def tDPop1 (td ty : TE) : TE := fun σ H Q => td σ H fun x H1 => ∃ a, x = .ref a ∧ IsD H1 a ∧ ty σ H1 fun y H2 => ∃ kvs k v, H2 a = some (.dK kvs) ∧ y = kV k ∧ valV kvs k = some v ∧ Q v (upd H2 a (.dK (dropK kvs k)))
section
variable {X : Cx} {o e f : Expr} {apos cpos : Pos} {td ty tx : TE}
theorem pe_dget2 (hu : X.A.units + 1 < cLine) (ho : PE X o td) (he : PE X e ty) (hf : PE X f tx) (m : M2 X o "get" apos e f cpos) : PE X (.Call (.Attribute o "get" apos) [e, f] [] cpos) (tDGet2 td ty tx) := by
  intro pins s σ H Q I h
  refine wpAny_Call_method m.base m.few m.line PySem.F.plainAttrs_dict PySem.F.slot_dict_get PySem.F.type_dict_get (thn (ho pins s σ H _ I h) fun u s1 ⟨x, H1, I1, rx, a, ex, d, q1⟩ => ?_)
  subst ex
  obtain rfl : u = Value.ref a := rx
  obtain ⟨t1, t2, _⟩ := isD_at I1 d
  refine ⟨t1, t2, ?_⟩
  rw [m.trees]
  refine Calls.callWith_builtin rfl (Calls.evalArgs_plain (Calls.spliced_cons (thn (he pins s1 σ H1 _ I1 q1) fun iv s2 ⟨y, H2, I2, ry, q2⟩ =>
    Calls.spliced_cons (thn (hf pins s2 σ H2 _ I2 q2) fun fv s3 ⟨z, H3, I3, rz, ov, g, q3⟩ => Calls.spliced_nil ?_))))
  exact d_get2 hu I3 g ry rz fun w' s4 I4 rw' => ⟨_, H3, I4, rw', q3⟩
theorem pe_dpop1 (ho : PE X o td) (he : PE X e ty) (m : M1 X o "pop" apos e cpos) : PE X (.Call (.Attribute o "pop" apos) [e] [] cpos) (tDPop1 td ty) := by
  intro pins s σ H Q I h
  refine wpAny_Call_method m.base m.few m.line PySem.F.plainAttrs_dict PySem.F.slot_dict_pop PySem.F.type_dict_pop (thn (ho pins s σ H _ I h) fun u s1 ⟨x, H1, I1, rx, a, ex, d, q1⟩ => ?_)
  subst ex
  obtain rfl : u = Value.ref a := rx
  obtain ⟨t1, t2, _⟩ := isD_at I1 d
  refine ⟨t1, t2, ?_⟩
  rw [m.trees]
  refine Calls.callWith_builtin rfl (Calls.evalArgs_plain (Calls.spliced_cons (thn (he pins s1 σ H1 _ I1 q1) fun iv s2 ⟨y, H2, I2, ry, kvs, k, v, ea, ey, l, q2⟩ => Calls.spliced_nil ?_)))
  subst ey
  exact d_pop I2 ea ry l (.inl rfl) fun w' s3 I3 rw' => ⟨v, _, I3, rw', q2⟩
end
section
variable {X : Cx} {pins : List (Addr × Obj)} {σ : St} {H : Hp} {s : Shared} {a : Addr} {kvs : List (Key × V)} {A : Around} {E : Value → Shared → Prop}
end
section
variable {X : Cx} {pins : List (Addr × Obj)} {σ : St} {H : Hp} {s : Shared} {a : Addr} {y : V} {u : Value} {A : Around} {E : Value → Shared → Prop}
end
end L2
namespace HT
open PySem PyProof.Rows
section
open PySem.SeqAt
open PySem.AutoSeq1 (wpAny_loadPart')
open PySem.MeetsSeq PySem.MeetsSeq2 PySem.MeetsSeq3
end
section
variable {prog : Program} {w : World} {A : Around} {E : Value → Shared → Prop} {s : Shared}
def sIx (n d : Nat) : Option Int → Nat
  | none => d
  | some v => if v < 0 then (v + (n : Int)).toNat else min v.toNat n
end
end HT
namespace L2
open PySem PySem.Spec PyProof.Rows
abbrev TO := St → Hp → (Option Int → Hp → Prop) → Prop
def PO (X : Cx) (e : Option Expr) (t : TO) : Prop :=
  ∀ (pins : List (Addr × Obj)) (s : Shared) (σ : St) (H : Hp) (Q : Option Int → Hp → Prop), Inv X pins σ H s → t σ H Q →
    wpAny (model X.prog X.w) X.A (evalPart e X.env) (fun u s' => ∃ o H', Inv X pins σ H' s' ∧ IsPart u o ∧ Q o H') X.xe s
def tPart (t : TE) : TO := fun σ H Q => t σ H fun x H1 => ∃ i, x = .int i ∧ Q (some i) H1
section
variable {X : Cx} {e : Expr} {te : TE} {lo hi : Option Expr} {tl th : TO} {pos p2 : Pos}
theorem po_some (h : PE X e te) : PO X (some e) (tPart te) := by
  intro pins s σ H Q I hw
  rw [evalPart_some]
  refine thn (h pins s σ H _ I hw) fun u s1 ⟨x, H1, I1, r1, q1⟩ => ?_
  obtain ⟨i, rfl, q⟩ := q1
  obtain ⟨t, rfl⟩ := r1
  exact ⟨some i, H1, I1, .int i t, q⟩
def SlR (X : Cx) (r : V → Option Int → Option Int → Hp → VK → Prop) : Prop :=
  ∀ (pins : List (Addr × Obj)) (s : Shared) (σ : St) (H : Hp) (x : V) (v vl vu : Value) (lo hi : Option Int) (sl : Addr) (Q : VK), Inv X pins σ H s → RelV x v → s.heap.IsSliceOf sl vl vu .none → IsPart vl lo → IsPart vu hi → r x lo hi H Q →
    ∃ T id, typeLookup (.type T) "__getitem__" = pure (some (.builtin id)) ∧ s.TypeIs v T ∧ wpAny (model X.prog X.w) X.A (getItem v (.ref sl)) (EP X pins σ Q) X.xe s
def tSl (r : V → Option Int → Option Int → Hp → VK → Prop) (te : TE) (tl th : TO) : TE := fun σ H Q => te σ H fun x H1 => tl σ H1 fun l H2 => th σ H2 fun u H3 => r x l u H3 Q
theorem pe_slice {r : V → Option Int → Option Int → Hp → VK → Prop} (hr : SlR X r) (he : PE X e te) (hl : PO X lo tl) (hu : PO X hi th) : PE X (.Subscript e (.Slice lo hi none p2) pos) (tSl r te tl th) := by
  intro pins s σ H Q I h
  refine Subscript_ (thn (he pins s σ H _ I h) fun v s1 ⟨x, H1, I1, r1, q1⟩ => ?_)
  refine wpAny_Slice (thn (hl pins s1 σ H1 _ I1 q1) fun vl s2 ⟨l, H2, I2, pl, q2⟩ => thn (hu pins s2 σ H2 _ I2 q2) fun vu s3 ⟨u, H3, I3, pu, q3⟩ => ?_)
  rw [evalPart_none]
  refine wpAny_pure ?_
  have I4 : Inv X pins σ H3 { s3 with heap := s3.heap.push { cls := .type "slice", data := .fields #[vl, vu, .none] } } := I3.kept (t' := s3.toks) fun b ob q => Heap.get?_push_of_some _ q
  obtain ⟨T, id, hT, ht, hg⟩ := hr pins { s3 with heap := s3.heap.push { cls := .type "slice", data := .fields #[vl, vu, .none] } } σ H3 x v vl vu l u s3.heap.objs.size Q I4 r1 (Heap.IsSliceOf.new ..) pl pu q3
  show wpAny (model X.prog X.w) X.A (subscriptTail e (.Slice lo hi none p2) v (.ref s3.heap.objs.size)) (EP X pins σ Q) X.xe { s3 with heap := s3.heap.push { cls := .type "slice", data := .fields #[vl, vu, .none] } }
  exact tail_any (ops := [.ref s3.heap.objs.size, v]) ht hT hg (by with_unfolding_all rfl)
def cutV (xs : List V) (lo hi : Option Int) : List V := (xs.drop (HT.sIx xs.length 0 lo)).take (HT.sIx xs.length xs.length hi - HT.sIx xs.length 0 lo)
theorem cutV_length (xs : List V) (lo hi : Option Int) : (cutV xs lo hi).length ≤ xs.length := by
  unfold cutV
  rw [List.length_take, List.length_drop]
  omega
def rSlT (K : PySem.W.Frag) : V → Option Int → Option Int → Hp → VK → Prop := fun x lo hi H Q => ∃ a xs, x = .ref a ∧ SqT K H a xs ∧
  ¬ (HT.sIx xs.length 0 lo = 0 ∧ HT.sIx xs.length xs.length hi = xs.length) ∧ ∀ p, H p = none → Q (.ref p) (upd H p (.tup (cutV xs lo hi)))
end
end L2
namespace L2
open PySem PySem.Spec PyProof.Rows
def ixN (n : Nat) (i : Int) : Option Nat := if 0 ≤ i then (if i < n then some i.toNat else none) else if -(n : Int) ≤ i then some (i + n).toNat else none
def atI {α : Type} (xs : List α) (i : Int) : Option α := (ixN xs.length i).bind fun j => xs[j]?
theorem ixN_seq {n : Nat} {i : Int} {j : Nat} (h : ixN n i = some j) : seqIndex? i n = some j ∧ j < n ∧ -(n : Int) ≤ i ∧ i < n := by
  unfold ixN at h
  by_cases h0 : 0 ≤ i
  · rw [if_pos h0] at h
    by_cases h1 : i < n
    · rw [if_pos h1] at h
      have e : i.toNat = j := Option.some.inj h
      exact ⟨by rw [seqIndex_of h0 h1, e], by omega, by omega, h1⟩
    · rw [if_neg h1] at h; cases h
  · rw [if_neg h0] at h
    by_cases h1 : -(n : Int) ≤ i
    · rw [if_pos h1] at h
      have e : (i + n).toNat = j := Option.some.inj h
      exact ⟨by rw [seqIndex_neg (by omega) h1, e], by omega, h1, by omega⟩
    · rw [if_neg h1] at h; cases h
theorem atI_get {α : Type} {xs : List α} {i : Int} {v : α} (h : atI xs i = some v) : ∃ j, seqIndex? i xs.length = some j ∧ xs[j]? = some v ∧ j < xs.length ∧ -(xs.length : Int) ≤ i ∧ i < xs.length := by
  unfold atI at h
  cases e : ixN xs.length i with
  | none => rw [e] at h; cases h
  | some j =>
    rw [e] at h
    obtain ⟨h1, h2, h3, h4⟩ := ixN_seq e
    exact ⟨j, h1, h, h2, h3, h4⟩
theorem atI_nat {α : Type} {xs : List α} {j : Nat} {v : α} (h : xs[j]? = some v) : atI xs (j : Int) = some v := by
  have hj : j < xs.length := (List.getElem?_eq_some_iff.mp h).1
  have e : ixN xs.length (j : Int) = some j := by
    unfold ixN
    rw [if_pos (by omega), if_pos (by omega)]; simp
  unfold atI; rw [e]; exact h
def PlainIx (b : Expr) : Prop := ∀ o i, subscripted b false o i = operate [o, i] (getItem o i)
def IxR (X : Cx) (r : R2) : Prop :=
  ∀ (value slice : Expr) (pins : List (Addr × Obj)) (s : Shared) (σ : St) (H : Hp) (x y : V) (v u : Value) (Q : VK), Inv X pins σ H s → RelV x v → RelV y u → r x y H Q →
    subscripted slice false v u = operate [v, u] (getItem v u) → wpAny (model X.prog X.w) X.A (subscriptTail value slice v u) (EP X pins σ Q) X.xe s
def MtR (X : Cx) (id : String) (r : V → List V → Hp → VK → Prop) : Prop :=
  ∀ (pins : List (Addr × Obj)) (s : Shared) (σ : St) (H : Hp) (x : V) (xs : List V) (v : Value) (us : List Value) (Q : VK), Inv X pins σ H s → RelV x v → Vals xs us → r x xs H Q →
    wpAny (model X.prog X.w) X.A (call (.builtin id) (v :: us)) (EP X pins σ Q) X.xe s
section
variable {X : Cx} {a b : Expr} {ta tb : TE} {pos : Pos}
theorem pe_ix {r : R2} (hr : IxR X r) (ha : PE X a ta) (hb : PE X b tb) (hs : PlainIx b) : PE X (.Subscript a b pos) (tOp r ta tb) := by
  intro pins s σ H Q I h
  exact Subscript_ (binT ha hb I h fun v u s2 x y H2 I2 rx ry q => hr a b pins s2 σ H2 x y v u Q I2 rx ry q (hs _ _))
def rIxL (K : PySem.W.Frag) : R2 := fun x y H Q => ∃ p xs i v, x = .ref p ∧ y = .int i ∧ SqL K H p xs ∧ atI xs i = some v ∧ Q v H
def rIxT (K : PySem.W.Frag) : R2 := fun x y H Q => ∃ p xs i v, x = .ref p ∧ y = .int i ∧ SqT K H p xs ∧ atI xs i = some v ∧ Q v H
theorem ix_list : IxR X (rIxL X.K) := by
  intro value slice pins s σ H x y v u Q I rx ry h hs
  obtain ⟨p, xs, i, z, rfl, rfl, hq, he, q⟩ := h
  cases rx
  obtain ⟨t, rfl⟩ := ry
  obtain ⟨its, r, pl, hz⟩ := I.list hq
  obtain ⟨j, h1, h2, h3, h4, h5⟩ := atI_get he
  obtain ⟨w, ew, rw'⟩ := r.get h2
  have hl := r.length
  have hn := line63
  have fin : EP X pins σ Q w s := ⟨z, H, I, rw', q⟩
  by_cases h0 : 0 ≤ i
  · have hj : i.toNat = j := by
      rw [seqIndex_of h0 h5] at h1
      exact Option.some.inj h1
    exact item_listR pl.isList h0 (by omega) (by rw [hj]; simpa using ew) fin hs
  · have hj : (i + (its.toArray.size : Int)).toNat = j := by
      rw [seqIndex_neg (by omega) h4] at h1
      rw [List.size_toArray, ← hl]
      exact Option.some.inj h1
    exact subscriptTail_builtinR (x := w) pl.isList.typeIs slot_list_getitem.lookup
      (wpAny_getItem_list_neg (Q := fun r s' => r = w ∧ EP X pins σ Q r s') pl.isList (by omega) (by rw [List.size_toArray] <;> omega) (by omega) (by rw [hj]; simpa using ew) ⟨rfl, fin⟩) hs
theorem ix_tup : IxR X (rIxT X.K) := by
  intro value slice pins s σ H x y v u Q I rx ry h hs
  obtain ⟨p, xs, i, z, rfl, rfl, hq, he, q⟩ := h
  cases rx
  obtain ⟨t, rfl⟩ := ry
  obtain ⟨its, r, pl, hz⟩ := I.tuple hq
  obtain ⟨j, h1, h2, h3, h4, h5⟩ := atI_get he
  obtain ⟨w, ew, rw'⟩ := r.get h2
  have hl := r.length
  have hn := line63
  have fin : EP X pins σ Q w s := ⟨z, H, I, rw', q⟩
  exact subscriptTail_builtinR (x := w) pl.typeIs slot_tuple_getitem.lookup
    (getItem_tuple (j := j) (Q := fun r s' => r = w ∧ EP X pins σ Q r s') pl (by omega) (by omega) (by rw [List.size_toArray, ← hl]; exact h1) (by simpa using ew) ⟨rfl, fin⟩) hs
theorem mapSeq_set (its : List Value) (n j : Nat) (u : Value) : Obj.mapSeq (·.setIfInBounds j u) { cls := .type "list", data := .seq its.toArray n } = { cls := .type "list", data := .seq (its.set j u).toArray n } := by
  simp [Obj.mapSeq]
theorem Inv.lst {pins : List (Addr × Obj)} {σ : St} {H : Hp} {s : Shared} {p : Addr} {xs : List V} (I : Inv X pins σ H s) (h : H p = some (.lst xs)) :
    ∃ (its : List Value) (n : Nat), Vals xs its ∧ s.heap.get? p = some { cls := .type "list", data := .seq its.toArray n } ∧ xs.length ≤ sizeLine := by
  obtain ⟨z, its, n, r, e⟩ := I.hok p _ h
  exact ⟨its, n, r, e, z⟩
theorem Inv.lstUpd {pins : List (Addr × Obj)} {σ : St} {H : Hp} {s : Shared} {p : Addr} {xs ys : List V} {its its' : List Value} {n n' : Nat} {f : Obj → Obj} (I : Inv X pins σ H s) (h : H p = some (.lst xs))
    (ho : s.heap.get? p = some { cls := .type "list", data := .seq its.toArray n }) (hf : f { cls := .type "list", data := .seq its.toArray n } = { cls := .type "list", data := .seq its'.toArray n' }) (r : Vals ys its') (hz : ys.length ≤ sizeLine) (t : Nat) :
    Inv X pins σ (upd H p (.lst ys)) { s with heap := s.heap.update p f, toks := t } := by
  have e : (s.heap.update p f).get? p = some { cls := .type "list", data := .seq its'.toArray n' } := by
    rw [Heap.get?_update_self f ho (by rw [hf] <;> rfl), hf]
  refine I.write (x := p) (e := p) (by rw [h]; trivial) (.inl rfl) (fun b u hb q => (Heap.get?_update_other _ _ (Ne.symm hb)).trans q) ⟨_, e⟩ ?_
  exact ⟨hz, its', n', r, e⟩
def rSetL : V → V → V → Hp → (Hp → Prop) → Prop := fun o i v H Q => ∃ p xs k j, o = .ref p ∧ i = .int k ∧ H p = some (.lst xs) ∧ ixN xs.length k = some j ∧ Q (upd H p (.lst (xs.set j v)))
theorem set_list : PSet X rSetL := by
  intro pins s σ H o i v ov iv u Q I ro ri rv h
  obtain ⟨p, xs, k, j, rfl, rfl, hp, hj, q⟩ := h
  cases ro
  obtain ⟨t, rfl⟩ := ri
  obtain ⟨its, n, r, ho, hz⟩ := I.lst hp
  obtain ⟨h1, h2, h3, h4⟩ := ixN_seq hj
  have hl := r.length
  have hn := line63
  have I' : Inv X pins σ (upd H p (.lst (xs.set j v))) { s with heap := s.heap.update p (Obj.mapSeq (·.setIfInBounds j u)) } :=
    I.lstUpd hp ho (mapSeq_set its n j u) (r.set rv j) (by rw [List.length_set]; exact hz) s.toks
  by_cases h0 : 0 ≤ k
  · have hk : k.toNat = j := by
      rw [seqIndex_of h0 h4] at h1
      exact Option.some.inj h1
    exact PySem.W.ki_setAt ho h0 (by omega) (by rw [List.size_toArray, ← hl]; exact h4) (by rw [hk]; exact ⟨_, I', q⟩)
  · have hk : (k + (its.toArray.size : Int)).toNat = j := by
      rw [seqIndex_neg (by omega) h3] at h1
      rw [List.size_toArray, ← hl]
      exact Option.some.inj h1
    exact PySem.W.ki_setBack ho (by omega) (by rw [List.size_toArray, ← hl]; exact h3) (by omega) (by rw [hk]; exact ⟨_, I', q⟩)
theorem slice_bounds (lo hi : Option Int) (n : Nat) : (sliceBounds lo hi none n).1 = ((HT.sIx n 0 lo : Nat) : Int) ∧ (sliceBounds lo hi none n).2.1 = ((HT.sIx n n hi : Nat) : Int) ∧ (sliceBounds lo hi none n).2.2 = 1 := by
  refine ⟨?_, ?_, rfl⟩
  · cases lo with
    | none => simp [sliceBounds, HT.sIx]
    | some i =>
      simp only [sliceBounds, HT.sIx, Option.getD_none, show (1 : Int) > 0 by decide, if_true]
      by_cases h : i < 0
      · simp only [h, if_true] <;> omega
      · simp only [h, if_false] <;> omega
  · cases hi with
    | none => simp [sliceBounds, HT.sIx]
    | some i =>
      simp only [sliceBounds, HT.sIx, Option.getD_none, show (1 : Int) > 0 by decide, if_true]
      by_cases h : i < 0
      · simp only [h, if_true] <;> omega
      · simp only [h, if_false] <;> omega
theorem slicePick_cut (its : List Value) (lo hi : Option Int) : slicePick its.toArray lo hi none = ((its.drop (HT.sIx its.length 0 lo)).take (HT.sIx its.length its.length hi - HT.sIx its.length 0 lo)).toArray := by
  obtain ⟨h1, h2, h3⟩ := slice_bounds lo hi its.toArray.size
  unfold slicePick
  rw [h1, h2, h3]
  simp only [sliceRange_one, pick_run, List.size_toArray] <;> rfl
def rSlL (K : PySem.W.Frag) : V → Option Int → Option Int → Hp → VK → Prop := fun x lo hi H Q => ∃ a xs, x = .ref a ∧ SqL K H a xs ∧ ∀ p, H p = none → Q (.ref p) (upd H p (.lst (cutV xs lo hi)))
theorem sl_list : SlR X (rSlL X.K) := by
  intro pins s σ H x v vl vu lo hi sl Q I rx hs pl pu h
  obtain ⟨a, xs, rfl, hx, q⟩ := h
  cases rx
  obtain ⟨its, r, ht, hz⟩ := I.list hx
  have hlen := r.length
  refine ⟨"list", _, slot_list_getitem.lookup, ht.isList.typeIs, ?_⟩
  refine wpAny_getItem_list_slice ht.isList hs pl pu .none (by simp) ?_ (by rw [List.size_toArray] <;> omega)
  rw [slicePick_cut, ← hlen]
  refine ⟨.ref s.heap.objs.size, _, I.laid (t' := s.toks) (o := .lst (cutV xs lo hi)) (fun b ob q => Heap.get?_push_of_some _ q) (Nat.le_refl _) ?_, rfl, q _ (I.hok.fresh (Nat.le_refl _))⟩
  exact ⟨Nat.le_trans (cutV_length xs lo hi) hz, _, 0, (r.drop (HT.sIx xs.length 0 lo)).take (HT.sIx xs.length xs.length hi - HT.sIx xs.length 0 lo), Heap.get?_push_size _ rfl⟩
def flatV : V → Bool
  | .non => true
  | .bl _ => true
  | .int _ => true
  | .str _ => true
  | _ => false
def eqV : V → V → Bool
  | .non, .non => true
  | .bl a, .bl b => a == b
  | .bl a, .int b => (if a then 1 else 0) == b
  | .int a, .bl b => a == (if b then 1 else 0)
  | .int a, .int b => a == b
  | .str a, .str b => a == b
  | _, _ => false
theorem eqAt_V {A : Around} {s : Shared} {y x : V} {u v : Value} (ry : RelV y u) (rx : RelV x v) (fy : flatV y = true) (fx : flatV x = true) : SeqAt.EqAt A s u v (eqV y x) := by
  cases y with
  | non =>
    cases ry
    cases x with
    | non => cases rx; exact SeqAt.EqAt.same _
    | bl b => cases rx; exact SeqAt.EqAt.none_bool b
    | int b => obtain ⟨t, rfl⟩ := rx; exact SeqAt.EqAt.none_int b t
    | str b => obtain ⟨t, rfl⟩ := rx; exact SeqAt.EqAt.none_str b t
    | _ => exact absurd (show false = true from fx) Bool.false_ne_true
  | bl a =>
    cases ry
    cases x with
    | non => cases rx; exact SeqAt.EqAt.bool_none a
    | bl b => cases rx; exact SeqAt.EqAt.bool_bool a b
    | int b => obtain ⟨t, rfl⟩ := rx; exact SeqAt.EqAt.bool_int a b t
    | str b => obtain ⟨t, rfl⟩ := rx; exact SeqAt.EqAt.bool_str a b t
    | _ => exact absurd (show false = true from fx) Bool.false_ne_true
  | int a =>
    obtain ⟨t', rfl⟩ := ry
    cases x with
    | non => cases rx; exact SeqAt.EqAt.int_none a t'
    | bl b => cases rx; exact SeqAt.EqAt.int_bool a t' b
    | int b => obtain ⟨t, rfl⟩ := rx; exact SeqAt.EqAt.int_int a t' b t
    | str b => obtain ⟨t, rfl⟩ := rx; exact SeqAt.EqAt.int_str a t' b t
    | _ => exact absurd (show false = true from fx) Bool.false_ne_true
  | str a =>
    obtain ⟨t', rfl⟩ := ry
    cases x with
    | non => cases rx; exact SeqAt.EqAt.str_none a t'
    | bl b => cases rx; exact SeqAt.EqAt.str_bool a t' b
    | int b => obtain ⟨t, rfl⟩ := rx; exact SeqAt.EqAt.str_int a t' b t
    | str b => obtain ⟨t, rfl⟩ := rx; exact SeqAt.EqAt.str_str a t' b t
    | _ => exact absurd (show false = true from fx) Bool.false_ne_true
  | _ => exact absurd (show false = true from fy) Bool.false_ne_true
def eqU (x : V) (u : Value) : Bool := match u with
  | .none => eqV .non x
  | .bool b => eqV (.bl b) x
  | .int i _ => eqV (.int i) x
  | .str z _ => eqV (.str z) x
  | _ => false
theorem eqU_of {x y : V} {u : Value} (r : RelV y u) (f : flatV y = true) : eqU x u = eqV y x := by
  cases y with
  | non => cases r; rfl
  | bl b => cases r; rfl
  | int i => obtain ⟨t, rfl⟩ := r; rfl
  | str z => obtain ⟨t, rfl⟩ := r; rfl
  | _ => exact absurd (show false = true from f) Bool.false_ne_true
theorem any_eqU {x : V} : ∀ {xs : List V} {us : List Value}, Vals xs us → xs.all flatV = true → us.any (eqU x) = xs.any fun y => eqV y x
  | _, _, .nil, _ => rfl
  | y :: xs, u :: us, .cons r t, f => by
    rw [List.all_cons, Bool.and_eq_true] at f
    rw [List.any_cons, List.any_cons, eqU_of r f.1, any_eqU t f.2]
theorem mem_eqAt {A : Around} {s : Shared} {x : V} {v : Value} (rx : RelV x v) (fx : flatV x = true) : ∀ {xs : List V} {us : List Value}, Vals xs us → xs.all flatV = true → ∀ u ∈ us, SeqAt.EqAt A s u v (eqU x u)
  | _, _, .nil, _ => fun u hu => by cases hu
  | y :: xs, u :: us, .cons r t, f => fun u' hu => by
    rw [List.all_cons, Bool.and_eq_true] at f
    rcases List.mem_cons.mp hu with rfl | hu
    · rw [eqU_of r f.1]; exact eqAt_V r rx f.1 fx
    · exact mem_eqAt rx fx t f.2 u' hu
def inV (x : V) (xs : List V) : Bool := xs.any fun y => eqV y x
def rIn (K : PySem.W.Frag) (neg : Bool) : R2 := fun x y H Q => ∃ p xs, y = .ref p ∧ (SqL K H p xs ∨ SqT K H p xs) ∧ flatV x = true ∧ xs.all flatV = true ∧ Q (.bl (if neg then !inV x xs else inV x xs)) H
theorem op_in_seq : OpR X (compareOp .In) (rIn X.K false) := by
  intro pins s σ H x y v u Q I rx ry h
  obtain ⟨p, xs, rfl, hq, fx, fs, q⟩ := h
  cases ry
  rcases hq with hq | hq
  · obtain ⟨its, r, pl, hz⟩ := I.list hq
    refine SeqAt.in_listAt (eqU x) pl.isList (fun w hw => mem_eqAt rx fx r fs w (by simpa using hw)) ⟨.bl _, H, I, rfl, ?_⟩
    rw [show its.toArray.any (eqU x) = its.any (eqU x) by simp, any_eqU r fs]
    exact q
  · obtain ⟨its, r, pl, hz⟩ := I.tuple hq
    refine SeqAt.in_tupleAt (eqU x) pl (fun w hw => mem_eqAt rx fx r fs w (by simpa using hw)) ⟨.bl _, H, I, rfl, ?_⟩
    rw [show its.toArray.any (eqU x) = its.any (eqU x) by simp, any_eqU r fs]
    exact q
theorem op_notIn_seq : OpR X (compareOp .NotIn) (rIn X.K true) := by
  intro pins s σ H x y v u Q I rx ry h
  obtain ⟨p, xs, rfl, hq, fx, fs, q⟩ := h
  cases ry
  rcases hq with hq | hq
  · obtain ⟨its, r, pl, hz⟩ := I.list hq
    refine SeqAt.notIn_listAt (eqU x) pl.isList (fun w hw => mem_eqAt rx fx r fs w (by simpa using hw)) ⟨.bl _, H, I, rfl, ?_⟩
    rw [show its.toArray.any (eqU x) = its.any (eqU x) by simp, any_eqU r fs]
    exact q
  · obtain ⟨its, r, pl, hz⟩ := I.tuple hq
    refine SeqAt.notIn_tupleAt (eqU x) pl (fun w hw => mem_eqAt rx fx r fs w (by simpa using hw)) ⟨.bl _, H, I, rfl, ?_⟩
    rw [show its.toArray.any (eqU x) = its.any (eqU x) by simp, any_eqU r fs]
    exact q
theorem call_len_seq : CallR X (.builtin "len") (fun xs H Q => ∃ p ys, xs = [.ref p] ∧ (SqL X.K H p ys ∨ SqT X.K H p ys) ∧ Q (.int ys.length) H) := by
  intro pins s σ H xs us Q I r h
  obtain ⟨p, ys, rfl, hq, q⟩ := h
  obtain ⟨u, rfl, rx⟩ := vals1 r
  cases rx
  have hn := line63
  rcases hq with hq | hq
  · obtain ⟨its, r', pl, hz⟩ := I.list hq
    have hlen := r'.length
    exact Calls.call_len_list pl.isList (by simp only [List.size_toArray] <;> omega) ⟨.int ys.length, H, I.tok _, ⟨s.toks + 1, by rw [List.size_toArray, hlen]⟩, q⟩
  · obtain ⟨its, r', pl, hz⟩ := I.tuple hq
    have hlen := r'.length
    exact len_tuple pl (by simp only [List.size_toArray] <;> omega) ⟨.int ys.length, H, I.tok _, ⟨s.toks + 1, by rw [List.size_toArray, hlen]⟩, q⟩
theorem call_list_of : CallR X (.type "list") (fun xs H Q => ∃ p ys, xs = [.ref p] ∧ (SqL X.K H p ys ∨ SqT X.K H p ys) ∧ ∀ l, H l = none → Q (.ref l) (upd H l (.lst ys))) := by
  intro pins s σ H xs us Q I r h
  obtain ⟨p, ys, rfl, hq, q⟩ := h
  obtain ⟨u, rfl, rx⟩ := vals1 r
  cases rx
  have fin : ∀ (its : List Value), Vals ys its → ys.length ≤ sizeLine → ∀ (h' : Heap) (c' : Nat), (∀ b o', s.heap.get? b = some o' → h'.get? b = some o') →
      h'.get? s.heap.objs.size = some { cls := .type "list", dict := none, data := .seq its.toArray c', slots := #[] } → EP X pins σ Q (.ref s.heap.objs.size) { s with heap := h' } := fun its r' hz h' c' kp e =>
    ⟨.ref s.heap.objs.size, _, I.laid (t' := s.toks) kp (Nat.le_refl _) (show ObjOk X.prog X.w _ h' _ (.lst ys) from ⟨hz, its, c', r', e⟩), rfl, q _ (I.hok.fresh (Nat.le_refl _))⟩
  rcases hq with hq | hq
  · obtain ⟨its, r', pl, hz⟩ := I.list hq
    have hlen := r'.length
    obtain ⟨o, ho, hc, n, hd⟩ := pl.isList
    exact call_list_seq p (.inl rfl) ho hc hd (fun h' c' kp e => fin its r' hz h' c' kp e) (by simp only [List.size_toArray] <;> omega)
  · obtain ⟨its, r', pl, hz⟩ := I.tuple hq
    have hlen := r'.length
    obtain ⟨o, ho, hc, n, hd⟩ := pl
    exact call_list_seq p (.inr rfl) ho hc hd (fun h' c' kp e => fin its r' hz h' c' kp e) (by simp only [List.size_toArray] <;> omega)
def tyV (K : PySem.W.Frag) (T : String) (x : V) (H : Hp) : Prop := match x with
  | .str _ => T = "str"
  | .int _ => T = "int"
  | .ref p => (T = "list" ∧ ∃ xs, SqL K H p xs) ∨ (T = "tuple" ∧ ∃ o, K.lookup p = some o ∧ o.cls = .type "tuple" ∧ o.dict = none) ∨
      (T = "dict" ∧ ((∃ kvs, H p = some (.dK kvs)) ∨ ∃ kvs, H p = some (.dT kvs))) ∨ (T = "set" ∧ ∃ S n, H p = some (.set S n))
  | _ => False
theorem tyV_is {pins : List (Addr × Obj)} {σ : St} {H : Hp} {s : Shared} {T : String} {x : V} {v : Value} (I : Inv X pins σ H s) (r : RelV x v) (ty : tyV X.K T x H) :
    s.TypeIs v T ∧ ∀ a, v = .ref a → ∃ ob, s.heap.get? a = some ob ∧ ob.dict = none := by
  cases x with
  | str z =>
    obtain ⟨t, rfl⟩ := r
    cases (show T = "str" from ty)
    exact ⟨typeIs_str s z t, fun _ e => nomatch e⟩
  | int i =>
    obtain ⟨t, rfl⟩ := r
    cases (show T = "int" from ty)
    exact ⟨typeIs_int s i t, fun _ e => nomatch e⟩
  | ref p =>
    cases r
    rcases ty with ⟨rfl, xs, hq⟩ | ⟨rfl, o, hk, hc, hd⟩ | ⟨rfl, hk⟩ | ⟨rfl, S, n, hk⟩
    · obtain ⟨its, _, pl, _⟩ := I.list hq
      refine ⟨pl.isList.typeIs, fun a e => ?_⟩
      cases e
      obtain ⟨o, n, e, c, hd, _⟩ := pl
      exact ⟨o, e, hd⟩
    · refine ⟨⟨o, I.kIn p o hk, hc⟩, fun a e => ?_⟩
      cases e
      exact ⟨o, I.kIn _ o hk, hd⟩
    · have z : ∃ o, s.heap.get? p = some o ∧ o.ExactDict := by
        rcases hk with ⟨kvs, hk⟩ | ⟨kvs, hk⟩
        · obtain ⟨_, _, _, _, o, _, _, e, ex, _⟩ := I.hok p _ hk
          exact ⟨o, e, ex⟩
        · obtain ⟨_, _, _, _, o, _, _, e, ex, _⟩ := I.hok p _ hk
          exact ⟨o, e, ex⟩
      obtain ⟨o, e, ex⟩ := z
      refine ⟨⟨o, e, ex.1⟩, fun a e2 => ?_⟩
      cases e2
      exact ⟨o, e, ex.2.1⟩
    · obtain ⟨o, _, _, _, e, ex, _⟩ := I.hok p _ hk
      refine ⟨⟨o, e, ex.1⟩, fun a e2 => ?_⟩
      cases e2
      exact ⟨o, e, ex.2.1⟩
  | _ => exact False.elim ty
def tBM (K : PySem.W.Frag) (T : String) (r : V → List V → Hp → VK → Prop) (to : TE) (t : TA) : TE := fun σ H Q => to σ H fun x H1 => tyV K T x H1 ∧ t σ H1 fun xs H2 => r x xs H2 Q
variable {o e : Expr} {es : List Expr} {to : TE} {t : TA} {name : Str} {apos cpos : Pos} {T id : String} {r : V → List V → Hp → VK → Prop}
theorem pe_bm (pa : PlainAttrs T) (slot : Slot T name id) (hty : typeOf (.builtin id) = pure (.type "method_descriptor")) (hm : MtR X id r) (ho : PE X o to) (ha : PA X (e :: es) t)
    (hbase : attributeBase o name X.env (eval o X.env) = eval o X.env := by rfl)
    (hfew : ((backTo cpos (starEach (e :: es) X.env)).all (fun x => !x.1) && (backToKw cpos (keywordEach [] X.env)).all (fun x => x.1.isSome)
      && decide ((e :: es).length + ([] : List Keyword).length + (if ([] : List Keyword).isEmpty then 0 else 1) < 30)) = true := by rfl)
    (hline : (apos.endLine == cpos.line) = true := by rfl) (hs : starEach (e :: es) X.env = (false, eval e X.env) :: starEach es X.env := by rfl) (hplain : (backTo cpos (starEach es X.env)).any (·.1) = false := by rfl) :
    PE X (.Call (.Attribute o name apos) (e :: es) [] cpos) (tBM X.K T r to t) := by
  intro pins s σ H Q I h
  refine wpAny_Call_method_late hbase hfew hline rfl (thn (ho pins s σ H _ I h) fun v s1 ⟨x, H1, I1, r1, ty, q1⟩ => ?_)
  obtain ⟨h1, h2⟩ := tyV_is I1 r1 ty
  refine ⟨T, id, pa, slot, hty, h1, h2, ?_⟩
  have hA := ha cpos pins s1 σ H1 _ I1 q1
  rw [hs] at hA ⊢
  refine Calls.callWith_builtin (by show (false || (backTo cpos (starEach es X.env)).any (·.1)) = false; rw [hplain] <;> rfl) (Calls.evalArgs_plain ?_)
  exact thn hA fun us s2 ⟨vs, H2, I2, r2, q2⟩ => hm pins s2 σ H2 x vs v us Q I2 r1 r2 q2
/- xs.append(e), list.index on a module's tuple .. are MtR facts of 06m -/
end
end L2
namespace L2
open PySem PySem.Spec PyProof.Rows
def MtM (X : Cx) (id : String) (r : V → List V → Hp → VK → Prop) : Prop :=
  ∀ (pins : List (Addr × Obj)) (s : Shared) (σ : St) (H : Hp) (x : V) (xs : List V) (v : Value) (us : List Value) (Q : VK), Inv X pins σ H s → RelV x v → Vals xs us → r x xs H Q →
    wpAny (model X.prog X.w) X.A (call (.builtin id) (v :: us)) (EP X pins σ Q) X.xe s
theorem Vals.one : ∀ {x : V} {us : List Value}, Vals [x] us → ∃ u, us = [u] ∧ RelV x u
  | _, _, .cons r .nil => ⟨_, rfl, r⟩
theorem Vals.two : ∀ {x y : V} {us : List Value}, Vals [x, y] us → ∃ u v, us = [u, v] ∧ RelV x u ∧ RelV y v
  | _, _, _, .cons r (.cons q .nil) => ⟨_, _, rfl, r, q⟩
theorem Vals.rep {xs : List V} {us : List Value} (h : Vals xs us) : ∀ k : Nat, Vals (List.replicate k xs).flatten (List.replicate k us).flatten
  | 0 => .nil
  | k + 1 => by
    rw [List.replicate_succ, List.replicate_succ, List.flatten_cons, List.flatten_cons]
    exact Vals.append h (Vals.rep h k)
theorem foldl_rep (its : List Value) : ∀ (k : Nat) (acc : List Value),
    List.foldl (fun x1 x2 => x1 ++ x2) acc.toArray (List.replicate k its.toArray) = (acc ++ (List.replicate k its).flatten).toArray
  | 0, acc => by simp
  | k + 1, acc => by
    have e : acc.toArray ++ its.toArray = (acc ++ its).toArray := by simp
    have e2 : (acc ++ its) ++ (List.replicate k its).flatten = acc ++ (List.replicate (k + 1) its).flatten := by
      rw [List.replicate_succ, List.flatten_cons, List.append_assoc]
    rw [← e2, ← foldl_rep its k (acc ++ its), ← e, List.replicate_succ, List.foldl_cons]
section
variable {X : Cx} {pins : List (Addr × Obj)} {σ : St} {H : Hp} {s : Shared} {l b : Addr} {xs ys zs : List V}
theorem Inv.lset {its its' : List Value} {n : Nat} {f : Array Value → Array Value} {t' : Nat} (I : Inv X pins σ H s) (hH : H l = some (.lst xs))
    (e : s.heap.get? l = some { cls := .type "list", data := .seq its.toArray n }) (hf : f its.toArray = its'.toArray) (hv : Vals ys its') (hz : ys.length ≤ sizeLine) :
    Inv X pins σ (upd H l (.lst ys)) { s with heap := s.heap.update l (Obj.mapSeq f), toks := t' } := by
  have q := PySem.IsL.update e f
  rw [hf] at q
  refine I.write (x := l) (e := l) (by rw [hH]; exact trivial) (.inl rfl) (fun b' u hb hu => (Heap.get?_update_other s.heap (Obj.mapSeq f) (Ne.symm hb)).trans hu) ⟨_, q⟩ ?_
  exact ⟨hz, its', _, hv, q⟩
theorem Inv.lnew {its : List Value} {t' : Nat} (I : Inv X pins σ H s) (hv : Vals ys its) (hz : ys.length ≤ sizeLine) :
    Inv X pins σ (upd H s.heap.objs.size (.lst ys)) { s with heap := s.heap.push { cls := .type "list", data := .seq its.toArray }, toks := t' } :=
  I.laid (fun _ _ q => Heap.get?_push_of_some _ q) (Nat.le_refl _) ⟨hz, its, 0, hv, Heap.get?_push_size _ rfl⟩
theorem Inv.fresh (I : Inv X pins σ H s) : H s.heap.objs.size = none := I.hok.fresh (Nat.le_refl _)
theorem Inv.lstM (I : Inv X pins σ H s) (hH : H l = some (.lst xs)) : xs.length ≤ sizeLine ∧ ∃ (its : List Value) (n : Nat), Vals xs its ∧ xs.length = its.length ∧ s.heap.get? l = some { cls := .type "list", data := .seq its.toArray n } := by
  obtain ⟨z, its, n, r, e⟩ := I.hok l _ hH
  exact ⟨z, its, n, r, r.length, e⟩
theorem notLongL {n : Nat} (h : n ≤ sizeLine) : Builtin.List.listTooLong n = false := by
  unfold Builtin.List.listTooLong
  exact decide_eq_false (by omega)
end
section
variable {X : Cx}
def rAppend : V → List V → Hp → VK → Prop := fun x vs H Q => ∃ l xs y, x = .ref l ∧ vs = [y] ∧ H l = some (.lst xs) ∧ xs.length < sizeLine ∧ Q .non (upd H l (.lst (xs ++ [y])))
theorem mt_append : MtM X "list.append" rAppend := by
  intro pins s σ H x vs v us Q I rx rv h
  obtain ⟨l, xs, y, rfl, rfl, hH, hz, q⟩ := h
  cases rx
  obtain ⟨u, rfl, ru⟩ := rv.one
  obtain ⟨z, its, n, r, hl, e⟩ := I.lstM hH
  refine call_meets F.slot_list_append ⟨_, e, rfl⟩ F.entry_list_append (F.args_list_append_2 _ _) (PySem.list_append l its.toArray n u (by rw [List.size_toArray]; omega)) ⟨e, ?_⟩
  refine ⟨.non, _, I.lset (its' := its ++ [u]) hH e (by simp) (r.append (.cons ru .nil)) ?_, rfl, q⟩
  rw [List.length_append, List.length_singleton]
  omega
def rCat : R2 := fun x y H Q => ∃ l b xs zs, x = .ref l ∧ y = .ref b ∧ H l = some (.lst xs) ∧ H b = some (.lst zs) ∧ xs.length + zs.length ≤ sizeLine ∧ ∀ p, H p = none → Q (.ref p) (upd H p (.lst (xs ++ zs)))
def rRep : R2 := fun x y H Q => ∃ l k xs, x = .ref l ∧ y = .int k ∧ H l = some (.lst xs) ∧ -(2 ^ 63) ≤ k ∧ k < 2 ^ 63 ∧ xs.length * k.toNat ≤ sizeLine ∧
  ∀ p, H p = none → Q (.ref p) (upd H p (.lst (List.replicate k.toNat xs).flatten))
theorem len_rep {α : Type} (xs : List α) (k : Nat) : (List.replicate k xs).flatten.length = k * xs.length := by
  induction k with
  | zero => simp
  | succ k ih => rw [List.replicate_succ, List.flatten_cons, List.length_append, ih, Nat.succ_mul, Nat.add_comm]
theorem op_rep : OpR X (binaryOp .Mult) rRep := by
  intro pins s σ H x y v u Q I rx ry h
  obtain ⟨l, k, xs, rfl, rfl, hH, h1, h2, hz, q⟩ := h
  cases rx
  obtain ⟨t, rfl⟩ := ry
  obtain ⟨z, its, n, r, hl, e⟩ := I.lstM hH
  have hlen : its.toArray.size * k.toNat ≤ sizeLine := by rw [List.size_toArray, ← hl]; exact hz
  have hcap : ¬ its.toArray.size * k.toNat > (2 ^ 63 - 1) / 8 := by
    have : (sizeLine : Nat) ≤ (2 ^ 63 - 1) / 8 := by decide
    omega
  have hfit : ¬ (!Builtin.List.listFitsIndex k) = true := by
    rw [fitsIndex_both h1 h2]
    exact Bool.false_ne_true
  have hlong : ¬ Builtin.List.listTooLong (its.toArray.size * k.toNat) = true := by
    rw [notLongL hlen]
    exact Bool.false_ne_true
  have hnew : List.foldl (fun x1 x2 => x1 ++ x2) #[] (List.replicate (if its.toArray.isEmpty = true then 0 else k.toNat) its.toArray) = (List.replicate k.toNat its).flatten.toArray := by
    have f0 : ∀ m : Nat, List.foldl (fun x1 x2 => x1 ++ x2) #[] (List.replicate m its.toArray) = (List.replicate m its).flatten.toArray := fun m => by
      have := foldl_rep its m []
      rw [List.nil_append] at this
      exact this
    rw [f0]
    cases its with
    | nil => simp
    | cons a r' => rw [if_neg (by simp)]
  refine wpAny_binaryOp_repeat_ref (T := "list") (U := "int") (by decide) ⟨_, e, rfl⟩ (fun s' => typeIs_int s' k t) noFill_list_mul F.fills_int_mul F.slot_int_rmul repeat_list F.slot_int_index.lookup
    (call_meets F.slot_int_rmul (typeIs_int s k t) F.entry_int_rmul (F.args_int_rmul_2 _ _) (int___rmul___int_list k t l its.toArray n)
      ⟨e, rfl, ⟨_, e, rfl⟩, call_meets F.slot_list_mul ⟨_, e, rfl⟩ F.entry_list_mul (F.args_list_mul_2 _ _) (AutoListH.list___mul___list_int_3 l its.toArray n k t hfit hcap hlong) ⟨e, ?_⟩⟩)
  rw [hnew]
  exact ⟨.ref _, _, I.lnew (t' := s.toks) (r.rep k.toNat) (by rw [len_rep, Nat.mul_comm]; exact hz), rfl, q _ I.fresh⟩
end
section
variable {prog : Program} {w : World} {A : Around} {E : Value → Shared → Prop} {s : Shared}
end
section
variable {X : Cx}
end
end L2
namespace Att
open PySem PySem.W PySem.Calls PyProof.Rows
theorem ints_of_wellAll {P : Params} {h : Heap} : ∀ (ns : List Int) (vs : List Value), WellAll P h vs (ns.map WData.int) → IntsAre vs ns := by
  intro ns
  induction ns with
  | nil =>
    intro vs w
    rw [List.map_nil] at w
    cases w
    exact .nil
  | cons n ns ih =>
    intro vs w
    rw [List.map_cons] at w
    cases w with
    | cons a b =>
      cases a
      exact .cons _ _ (ih _ b)
theorem script_of {l : OpenLaw} {n : Nat} (hn : l.most = some n) {P : Params} {h : Heap} {args : List WData} {vals : List Value}
    (hpre : l.row.toRowW.claim.pre args = true) (hwl : WellAll P h vals args) :
    ∃ a vs ns, vals = [Value.ref a] ∧ args = [WData.list (ns.map WData.int)] ∧ h.get? a = some { cls := .type "list", data := .seq vs.toArray } ∧ IntsAre vs ns ∧ ns.length ≤ n := by
  have hsh : WShape.hasAll [] args [.list .int] = true := (pre_splitW hpre).1
  have hc : l.pre.holds [] { args := args } = true := (pre_splitW hpre).2
  obtain ⟨d, r, rfl, h1, h2⟩ := hasAllW_cons hsh
  obtain rfl := hasAllW_nil h2
  obtain ⟨xs, rfl, h3⟩ := hasW_list h1
  obtain ⟨ns, rfl⟩ := items_int h3
  have hlen : ns.length ≤ n := by
    unfold OpenLaw.pre at hc
    have h4 : (WTm.not (.lt (.lit (.int (n : Int))) (.len (.arg 0)))).holds [] { args := [.list (ns.map .int)] } = true := by
      have h4 := (holds_andW hc).1
      rw [hn] at h4
      exact h4
    have h5 := condW_of h4 (w_not (w_lt w_lit (w_len_list (w_arg rfl))))
    rw [List.length_map] at h5
    refine Nat.le_of_not_lt fun q => ?_
    have q' : (n : Int) < ((ns.length : Nat) : Int) := by omega
    first
      | (rw [decide_eq_true q'] at h5; exact absurd h5 (by decide))
      | (simp at h5; omega)
  cases hwl with
  | cons w1 w2 =>
    cases w2
    cases w1 with
    | list ho hall => exact ⟨_, _, ns, rfl, rfl, ho, ints_of_wellAll ns _ hall, hlen⟩
theorem post_true (l : OpenLaw) (args : List WData) : l.row.toRowW.claim.post args (.bool true) args = true :=
  postW_of (r := l.row.toRowW) (X := (true == true))
    (show WShape.has [] (.bool true) .bool = true by first | rfl | decide | simp [WShape.has, WShape.arms, WShape.armsAll])
    (show (WTm.eq .res (.lit (.bool true))).value [] { args := args, res := some (.bool true), after := args } = some (.bool (true == true)) from w_eq_bool (w_res rfl) w_lit) rfl
section
variable {prog : Program} {w : World} {A : Around} {E : Value → Shared → Prop} {s : Shared} {K : Frag}
def ledger (h : Heap) (L d : Addr) : List (Addr × Obj) := (List.range h.objs.size).filterMap fun a => if a = L ∨ a = d then none else (h.get? a).map fun o => (a, o)
end
end Att
namespace L2
open PySem PySem.Spec PyProof.Rows
theorem vals_ints : ∀ {vs : List Value} {ns : List Int}, IntsAre vs ns → Vals (ns.map V.int) vs
  | _, _, .nil => .nil
  | _, _, .cons n t h => .cons ⟨t, rfl⟩ (vals_ints h)
def Only (H : Hp) : Prop := ∀ b, H b = none ∨ ∃ o xs, H b = some (.frz o (.lst xs))
theorem law_call {P : Program} {w : World} {K : PySem.W.Frag} {mg mb : Str → Option Value} {CX : CXT} {k : Nat} {fa a : Addr} {fd : FuncData} {x : Str} {sp : Sp} {s₁ : Shared} {vs : List Value} {ns : List Int}
    (KX : K.In s₁.heap) (hns : s₁.heap.Ns mainGlobals mg) (hb : s₁.heap.Ns builtinsNs mb) (hbb : ∀ x : Str, x ≠ "__name__" → mb x = bootBuiltins x) (hlim : s₁.heap.NoLimit) (hg : s₁.gens = #[])
    (ha : s₁.heap.get? a = some { cls := .type "list", data := .seq vs.toArray }) (hi : IntsAre vs ns) (hl : ns.length ≤ sizeLine) (hr : Room k callerA)
    (F : ∀ base : Heap, K.In base → base.Ns mainGlobals mg → FnOk P w K mg base CX k fa fd [x] sp) (hbind : ∀ (s : Shared) (u : Value), BindsTo s fd ⟨[u], []⟩ [(x, u)])
    (hsp : ∀ H : Hp, Only H → SqL K H a (ns.map V.int) → sp [.ref a] H (fun v _ => v = .bl true) fun _ _ _ => False)
    (hCX : ∀ H e s', CX [] H s₁ (fun _ _ _ => False) e s' → False) :
    codeAny (model P w) callerA (.call (.ref fa) ⟨[.ref a], []⟩) (fun r s' => r = .ok (.ret (.bool true)) ∧ OldK s₁.heap s'.heap ∧ s'.os = s₁.os ∧ AllBare s'.gens) s₁ := by
  have rv := vals_ints hi
  have lenV := hi.length
  -- from an abstract heap in which nothing but the script may be tracked
  have core : ∀ H : Hp, Only H → SqL K H a (ns.map V.int) → HOk P w H s₁.heap → (∀ b, H b ≠ none → b = a) → (H a ≠ none → K.lookup a = none) →
      codeAny (model P w) callerA (.call (.ref fa) ⟨[.ref a], []⟩) (fun r s' => r = .ok (.ret (.bool true)) ∧ OldK s₁.heap s'.heap ∧ s'.os = s₁.os ∧ AllBare s'.gens) s₁ := by
    intro H hO hS hok hA hK
    have base_of : ∀ {b : Addr} {o : Obj}, s₁.heap.get? b = some o → H b = none → (hidT s₁.heap H).get? b = some o := fun e n => hidT_get e n
    have noA : ∀ {b : Addr} {o : Obj} {es : Array DictEntry} {ep : Nat}, s₁.heap.get? b = some o → o.data = .dict es ep → H b = none := fun {b o es ep} e d => by
      cases q : H b with
      | none => rfl
      | some u =>
        have e' : b = a := hA b (by rw [q]; simp)
        subst e'
        rw [ha] at e; cases e
        have d' : Data.seq vs.toArray _ = Data.dict es ep := d
        cases d'
    have nsK : ∀ {b : Addr} {m : Str → Option Value}, s₁.heap.Ns b m → (hidT s₁.heap H).Ns b m := fun {b m} ⟨o, es, ep, e, d, r⟩ => ⟨o, es, ep, base_of e (noA e d), d, r⟩
    have hKb : K.In (hidT s₁.heap H) := fun b o e => base_of (KX b o e) (by
      cases q : H b with
      | none => rfl
      | some u =>
        have e' : b = a := hA b (by rw [q]; simp)
        subst e'
        rw [hK (by rw [q]; simp)] at e; cases e)
    have hM : Mod K mg (hidT s₁.heap H) := ⟨hKb, nsK hns, ⟨mb, nsK hb, hbb⟩, let ⟨mc, h1, h2⟩ := hlim; ⟨mc, nsK h1, h2⟩⟩
    have e0 : Env0 P w K mg (hidT s₁.heap H) callerA [] s₁ H := ⟨rfl, hM, fun b o e => of_hidT e, Nat.le_of_eq (hidT_size _ _), trivial, fun b hb => absurd (show b ∈ ([] : List Addr) from hb) (by simp), hok, .of_eq hg⟩
    refine codeAny_mono ((F _ hKb (nsK hns)).run callerA [] s₁ H ⟨[.ref a], []⟩ [.ref a] [.ref a] _ _ hr e0 (hbind s₁ (.ref a)) (.cons rfl .nil) (hsp H hO hS)) fun r s' h => ?_
    cases r with
    | error e => exact (hCX H e s' h).elim
    | ok fl =>
      cases fl with
      | next => exact False.elim h
      | brk => exact False.elim h
      | cont => exact False.elim h
      | ret u =>
        obtain ⟨v, H', os, bare, un, hok', r', q⟩ := h
        have q' : v = .bl true := q
        subst q'
        obtain rfl : u = Value.bool true := r'
        refine ⟨rfl, OldK.of_keep fun b o e => ?_, os, bare⟩
        cases q : H b with
        | none => exact un.keep b o e q (by intro z; exact absurd (show b ∈ ([] : List Addr) from z) (by simp)) (by simp)
        | some u =>
          rcases hO b with z | ⟨ob, xs, z⟩
          · rw [q] at z; cases z
          · have z2 := un.frzs b ob _ z
            obtain ⟨e1, _⟩ := hok b _ z
            obtain ⟨e2, _⟩ := hok' b _ z2
            rw [e] at e1; cases e1
            exact e2
  cases hk : K.lookup a with
  | some o =>
    -- the script is one of the module's own objects
    have e := KX a o hk
    rw [ha] at e
    cases e
    refine core (fun _ => none) (fun _ => .inl rfl) (.inr ⟨_, vs.toArray, _, hk, rfl, rfl, rfl, by rw [List.size_toArray, lenV]; exact hl, by simpa using rv⟩) (fun b u z => by have z' : (none : Option HO) = some u := z; cases z') (fun b z => absurd rfl z) fun z => absurd rfl z
  | none =>
    refine core (fun b => if b = a then some (.frz { cls := .type "list", data := .seq vs.toArray } (.lst (ns.map V.int))) else none) (fun b => ?_) (.inl (.inr ⟨{ cls := .type "list", data := .seq vs.toArray }, if_pos rfl⟩)) (fun b u z => ?_) (fun b z => ?_) fun _ => hk
    · by_cases hb : b = a
      · exact .inr ⟨_, _, if_pos hb⟩
      · exact .inl (if_neg hb)
    · by_cases hb : b = a
      · have z' := (if_pos hb).symm.trans z
        cases z'
        subst hb
        exact ⟨ha, by rw [List.length_map]; exact hl, vs, _, rv, ha⟩
      · have z' := (if_neg hb).symm.trans z
        cases z'
    · by_cases hb : b = a
      · exact hb
      · exact absurd (if_neg hb) z
end L2
namespace L2
open PySem PySem.Spec PyProof.Rows
abbrev KOf {K : PySem.W.Frag} {h : Heap} (_ : K.In h) : PySem.W.Frag := K
end L2
/- THE LAST THEOREM (shape; LID, My.* are yours):
   My.Adr: a structure of the addresses that your layer names (classes, functions); My.Txt K t: a structure (Prop) of the equations over K;
   My.txt_mk : {K} {implicit addresses ..} (e1 : nsIn K mainGlobals "law" = some (some (.ref f))) (e2 : K.lookup f = some ⟨oc, od, .func (fnOf "law" "law" params body scope dV kV doc pm an cdv ct), sl⟩) (e3 : codeIn K cdv "law" = true) .. : ∃ t, My.Txt K t
set_option maxRecDepth 100000 in
set_option maxHeartbeats 0 in
theorem PySem.Challenge.cw_LID_holds : PySem.Challenge.rw_LID.Holds := by
  w_on; o_law; k_head; (case hw => w_witness2)
  k_fill
  refine L2.walk_of (l := PySem.Challenge.rw_LID) (n := 63) (k := 40) (x := "script") (CX := fun w => ..) (sp := fun _ => My.sp_law) rfl (by decide) rfl ⟨rfl, by decide, by decide⟩ (fun w h Y => PySem.W.kIn_of Y) ?F ?S ?C
  case F =>
    intro w mg fa h KX G hmg
    have T : ∃ t, My.Txt (L2.KOf KX) t := by
      dsimp only [L2.KOf]                          -- K must stand as «<heap const> w.params» for k_is
      refine' My.txt_mk ?e1 ?e2 ?e3 ..
      (case e1 => PySem.W.k_is)                    -- in the order: a name -> its address -> its object -> its parts
      (case e2 => PySem.W.k_is)
      ..
    obtain ⟨t, T⟩ := T
    have e0 := hmg.symm.trans (PySem.W.mg_of KX G T.law)
    cases e0                                       -- fa is the law's own address
    exact ⟨_, fun s u => .of_eq rfl, fun base kb nb => My.law_fn T kb nb⟩     -- if «.of_eq rfl» comes too early: refine' ⟨_, ?b, fun base kb nb => My.law_fn T kb nb⟩; exact fun s u => .of_eq rfl
  case S => exact fun w H a ns hl hO hS => ..
  case C => exact ..
(the tactic k_is has no namespace: write k_is) -/
namespace L2
open PySem PySem.Spec PyProof.Rows
def inClass (s : Stmt) (j : Nat) : Stmt := match s with
  | .ClassDef _ _ _ body _ _ _ _ _ _ _ => body.getD j (.Pass ⟨0, 0, 0, 0⟩)
  | _ => .Pass ⟨0, 0, 0, 0⟩
def defArgs (s : Stmt) : Arguments := match s with
  | .FunctionDef _ a _ _ _ _ _ _ _ _ => a
  | _ => { posonlyargs := [], args := [], vararg := none, kwonlyargs := [], kw_defaults := [], kwarg := none, defaults := [] }
def defBody (s : Stmt) : List Stmt := match s with
  | .FunctionDef _ _ b _ _ _ _ _ _ _ => b
  | _ => []
def defScope (s : Stmt) : Scope := match s with
  | .FunctionDef _ _ _ _ _ _ sc _ _ _ => sc
  | _ => { kind := .function, names := [], isGenerator := false, isCoroutine := false }
abbrev E0 : XK := fun _ _ _ => False
structure Fun (K : PySem.W.Frag) (x qual : Str) (st : Stmt) (f : Addr) (fd : FuncData) : Prop where
  ex : ∃ (oc : Value) (od : Option Addr) (kV doc pm : Value) (an : Option Addr) (cdv ct : Value) (osl : Array (Option Value)),
    fd = PySem.W.fnOf x qual (defArgs st) (defBody st) (defScope st) .none kV doc pm an cdv ct ∧ K.lookup f = some ⟨oc, od, .func fd, osl⟩ ∧ PySem.W.codeIn K cdv qual = true
  kp : PySem.W.keepIn K (.ref f) = true
section
variable {P : Program} {w : World} {K : PySem.W.Frag} {mg : Str → Option Value} {base : Heap}
theorem Fun.binds {x qual : Str} {st : Stmt} {f : Addr} {fd : FuncData} {ps : List Str} (F : Fun K x qual st f fd)
    (h : ∀ (kV doc pm : Value) (an : Option Addr) (cdv ct : Value) (us : List Value), us.length = ps.length → bindArgs (PySem.W.fnOf x qual (defArgs st) (defBody st) (defScope st) .none kV doc pm an cdv ct) ⟨us, []⟩ = pure (ps.zip us)) : Binds K fd ps [] := by
  obtain ⟨oc, od, kV, doc, pm, an, cdv, ct, osl, rfl, lk, hcd⟩ := F.ex
  exact .all (h kV doc pm an cdv ct)
theorem fun_mk {x qual : Str} {st : Stmt} {f : Addr} {oc : Value} {od an : Option Addr} {osl : Array (Option Value)} {kV doc pm cdv ct : Value} (l : K.lookup f = some ⟨oc, od, .func (PySem.W.fnOf x qual (defArgs st) (defBody st) (defScope st) .none kV doc pm an cdv ct), osl⟩)
    (c : PySem.W.codeIn K cdv qual = true) (k : PySem.W.keepIn K (.ref f) = true) : Fun K x qual st f (PySem.W.fnOf x qual (defArgs st) (defBody st) (defScope st) .none kV doc pm an cdv ct) := ⟨⟨oc, od, kV, doc, pm, an, cdv, ct, osl, rfl, l, c⟩, k⟩
end
section
variable {X : Cx}
theorem pv (i : Nat) {x : Str} {pos : Pos} (hN : X.N[i]? = some x := by rfl) (hv : Vis X.env.scope x := by first | exact Or.inl rfl | exact Or.inr (Or.inl rfl) | exact Or.inr (Or.inr rfl)) (hd : (x == ("__debug__" : Str)) = false := by decide)
    (hcd : (x == ("__classdict__" : Str)) = false := by decide) : PE X (.Name x pos) (tVar i) := pe_var hN hv hd hcd
theorem call_lenD : CallR X (.builtin "len") (fun xs H Q => ∃ a kvs, xs = [V.ref a] ∧ H a = some (.dK kvs) ∧ Q (.int kvs.length) H) := by
  intro pins s σ H xs us Q I r h
  obtain ⟨a, kvs, rfl, ha, q⟩ := h
  obtain ⟨u, rfl, ru⟩ := vals1 r
  cases ru
  exact d_len I (.inl ha) fun t s' I' => ⟨.int kvs.length, H, I', ⟨t, rfl⟩, q⟩
end
theorem iteF {A B : Prop} (h : B) : if false = true then A else B := by
  rw [if_neg Bool.false_ne_true]
  exact h
theorem iteT {A B : Prop} (h : A) : if true = true then A else B := by
  rw [if_pos rfl]
  exact h
theorem ite2 {c A B : Prop} [Decidable c] (h1 : c → A) (h2 : ¬ c → B) : if c then A else B := by
  by_cases h : c
  · rw [if_pos h]
    exact h1 h
  · rw [if_neg h]
    exact h2 h
def Same (H H' : Hp) : Prop := ∀ b o, H b = some o → H' b = some o
theorem Same.trans {H H1 H2 : Hp} (a : Same H H1) (b : Same H1 H2) : Same H H2 := fun c o h => b c o (a c o h)
theorem Same.free {H H' : Hp} (e : Same H H') {l : Addr} (h : H' l = Option.none) : H l = Option.none := by
  cases q : H l with
  | none => rfl
  | some o =>
    rw [e l o q] at h
    cases h
theorem Same.seq {K : PySem.W.Frag} {H H' : Hp} {a : Addr} {xs : List V} (e : Same H H') (h : SqL K H a xs) : SqL K H' a xs := by
  rcases h with (h | ⟨o, h⟩) | h
  · exact .inl (.inl (e _ _ h))
  · exact .inl (.inr ⟨o, e _ _ h⟩)
  · exact .inr h
section
variable {κ : Type} [DecidableEq κ]
theorem valV_not {kvs : List (κ × V)} {k : κ} (h : valV kvs k = none) : ¬ k ∈ kvs.map (·.1) := by
  intro m
  obtain ⟨p, hp, e⟩ := List.mem_map.mp m
  have q : (kvs.any fun kv => decide (kv.1 = k)) = true := List.any_eq_true.mpr ⟨p, hp, decide_eq_true e⟩
  rw [valV_any, h] at q
  exact absurd q (by simp)
theorem valV_in {kvs : List (κ × V)} {k : κ} {v : V} (h : valV kvs k = some v) : k ∈ kvs.map (·.1) := by
  have q : (kvs.any fun kv => decide (kv.1 = k)) = true := by
    rw [valV_any, h]
    all_goals rfl
  obtain ⟨p, hp, e⟩ := List.any_eq_true.mp q
  exact List.mem_map.mpr ⟨p, hp, of_decide_eq_true e⟩
theorem dropK_pos {p : κ × V} {r : List (κ × V)} {k : κ} (e : p.1 = k) : dropK (p :: r) k = dropK r k := by
  unfold dropK
  rw [List.filter_cons, if_neg (by simp [e])]
theorem dropK_neg {p : κ × V} {r : List (κ × V)} {k : κ} (e : ¬ p.1 = k) : dropK (p :: r) k = p :: dropK r k := by
  unfold dropK
  rw [List.filter_cons, if_pos (by simp [e])]
theorem dropK_mem {kvs : List (κ × V)} {k : κ} {p : κ × V} (h : p ∈ dropK kvs k) : p ∈ kvs := (List.mem_filter.mp h).1
theorem nd_dropK : ∀ {kvs : List (κ × V)} {k : κ}, (kvs.map (·.1)).Nodup → ((dropK kvs k).map (·.1)).Nodup
  | [], _, _ => List.nodup_nil
  | p :: r, k, h => by
    have h : (p.1 :: r.map (·.1)).Nodup := h
    obtain ⟨h1, h2⟩ := List.nodup_cons.mp h
    by_cases e : p.1 = k
    · rw [dropK_pos e]
      exact nd_dropK h2
    · rw [dropK_neg e]
      show (p.1 :: (dropK r k).map (·.1)).Nodup
      refine List.nodup_cons.mpr ⟨fun m => h1 ?_, nd_dropK h2⟩
      obtain ⟨q, hq, eq⟩ := List.mem_map.mp m
      exact List.mem_map.mpr ⟨q, dropK_mem hq, eq⟩
end
end L2
set_option Elab.async false
set_option linter.all false
set_option maxRecDepth 100000
namespace L2
open PySem PySem.Spec PyProof.Rows
structure FlyAt (P : Program) (w : World) (l : List Env) (H : Hp) (h0 : Heap) (H' : Hp) (h : Heap) (ea : Addr) (cls : Value) : Prop where
  un : Un (frs l) [] H H' h0 h
  hok : HOk P w H' h
  new : h0.get? ea = none
  fly : ∃ B a0, Heap.FlyingW B l ea cls a0 h ∧ (∀ b u o, H' b = some u → h.get? b = some o → B.get? b = some o) ∧ ∀ b o o', h0.get? b = some o → h.get? b = some o' → b ∉ frs l → B.get? b = some o'
def CXR (P : Program) (w : World) : CXT := fun outer H s E e s' => ∃ (H' : Hp) (ea : Addr) (cls : Value), e = .ref ea ∧ s'.os = s.os ∧ AllBare s'.gens ∧ FlyAt P w outer H s.heap H' s'.heap ea cls ∧ E cls none H'
theorem passR0 {P : Program} {w : World} {X : Cx} : Passes (CXR P w) X E0 := fun _ _ _ _ _ _ _ ⟨_, _, _, _, _, _, _, h⟩ => h.elim
def Def (K : PySem.W.Frag) (mg : Str → Option Value) (x : Str) (st : Stmt) : Prop := ∃ f fd, mg x = some (.ref f) ∧ Fun K x x st f fd
structure FnD (P : Program) (w : World) (K : PySem.W.Frag) (mg : Str → Option Value) (base : Heap) (k : Nat) (x : Str) (ps : List Str) (sp : Sp) : Prop where
  ex : ∃ f fd, mg x = some (.ref f) ∧ PySem.W.keepIn K (.ref f) = true ∧ Binds K fd ps [] ∧ FnOk P w K mg base (CXR P w) k f fd ps sp
theorem FnD.mono {P : Program} {w : World} {K : PySem.W.Frag} {mg : Str → Option Value} {base : Heap} {j k : Nat} {x : Str} {ps : List Str} {sp : Sp} (F : FnD P w K mg base j x ps sp) (h : j ≤ k) : FnD P w K mg base k x ps sp := by
  obtain ⟨f, fd, h1, h2, h3, h4⟩ := F.ex
  exact ⟨f, fd, h1, h2, h3, h4.mono h⟩
section
variable {P : Program} {w : World} {K : PySem.W.Frag} {mg : Str → Option Value} {base : Heap}
theorem Fun.okN {x qual : Str} {st : Stmt} {f : Addr} {fd : FuncData} {N ps : List Str} {k : Nat} {sp : Sp} (F : Fun K x qual st f fd) (S : FnScope N ps (defScope st)) (len : ∀ vs H Q E, sp vs H Q E → vs.length = ps.length)
    (hbody : ∀ (cdv : Value) (A : Around) (outer : List Env) (s : Shared) (H : Hp) (vs : List V) (Q : VK) (E : XK), Room k (A.deeper (envOfC qual (defScope st) s.heap.objs.size f cdv)) → sp vs H Q E →
      ∃ t, PSs (cxOf (CXR P w) P w K mg base N qual (defScope st) f cdv A outer s H E).nox (defBody st) t ∧ t { nx := fun _ H' => Q .non H', rt := Q } (start N vs) H) : FnOk P w K mg base (CXR P w) (k + 1) f fd ps sp := by
  obtain ⟨oc, od, kV, doc, pm, an, cdv, ct, osl, rfl, lk, hcd⟩ := F.ex
  refine fn_of lk hcd S len fun A outer s H vs Q E hr hsp => ?_
  obtain ⟨t, h, q⟩ := hbody cdv A outer s H vs Q E hr hsp
  exact ⟨t, h.nox, q⟩
theorem Def.ok {x : Str} {st : Stmt} {N ps : List Str} {k : Nat} {sp : Sp} (D : Def K mg x st) (S : FnScope N ps (defScope st)) (len : ∀ vs H Q E, sp vs H Q E → vs.length = ps.length)
    (hb : ∀ (kV doc pm : Value) (an : Option Addr) (cdv ct : Value) (us : List Value), us.length = ps.length → bindArgs (PySem.W.fnOf x x (defArgs st) (defBody st) (defScope st) .none kV doc pm an cdv ct) ⟨us, []⟩ = pure (ps.zip us))
    (hbody : ∀ (f : Addr) (cdv : Value) (A : Around) (outer : List Env) (s : Shared) (H : Hp) (vs : List V) (Q : VK) (E : XK), Room k (A.deeper (envOfC x (defScope st) s.heap.objs.size f cdv)) → sp vs H Q E →
      ∃ t, PSs (cxOf (CXR P w) P w K mg base N x (defScope st) f cdv A outer s H E).nox (defBody st) t ∧ t { nx := fun _ H' => Q .non H', rt := Q } (start N vs) H) : FnD P w K mg base (k + 1) x ps sp := by
  obtain ⟨f, fd, hm, F⟩ := D
  refine ⟨f, fd, hm, F.kp, F.binds hb, ?_⟩
  obtain ⟨oc, od, kV, doc, pm, an, cdv, ct, osl, rfl, lk, hcd⟩ := F.ex
  refine fn_of lk hcd S len fun A outer s H vs Q E hr hsp => ?_
  obtain ⟨t, h, q⟩ := hbody f cdv A outer s H vs Q E hr hsp
  exact ⟨t, h.nox, q⟩
end
section
variable {X : Cx} {k : Nat} {ps : List Str} {sp : Sp} {E : XK} {x : Str} {p pos : Pos} {e : Expr} {es : List Expr} {t : TA}
theorem pe_callD (F : FnD X.prog X.w X.K X.mg X.base k x ps sp) (hr : Room k X.A) (hg : Gl X x) (hx : Passes (CXR X.prog X.w) X E) (ha : PA X (e :: es) t)
    (hdb : (x == ("__debug__" : Str)) = false := by decide) (he : starEach (e :: es) X.env = (false, eval e X.env) :: starEach es X.env := by rfl) (hpl : (backTo pos (starEach es X.env)).any (·.1) = false := by rfl) :
    PE X (.Call (.Name x p) (e :: es) [] pos) (tCall sp [] E t) := by
  obtain ⟨f, fd, h1, h2, h3, h4⟩ := F.ex
  exact pe_call h4 hr hg h1 h2 h3 .nil hx ha hdb he hpl
end
section
variable {X : Cx}
def rIsi (K : PySem.W.Frag) : List V → Hp → VK → Prop := fun xs H Q => ∃ x c t b, xs = [x, c] ∧ TyOf K H x t ∧ ((∃ n, c = .ty n ∧ PySem.W.kitOne K t (.type n) = some b) ∨ ∃ a, c = .ref a ∧ PySem.W.kitOne K t (.ref a) = some b) ∧ Q (.bl b) H
theorem call_isi : CallR X (.builtin "isinstance") (rIsi X.K) := by
  intro pins s σ H xs us Q I r h
  obtain ⟨x, c, t, b, rfl, ty, hc, q⟩ := h
  obtain ⟨u, v, rfl, ru, rv⟩ := Vals.two r
  rcases hc with ⟨n, rfl, e⟩ | ⟨a, rfl, e⟩
  · cases (show v = Value.type n from rv)
    exact isinst_ok I ru ty e fun tk => ⟨.bl b, H, I.tok tk, rfl, q⟩
  · cases (show v = Value.ref a from rv)
    exact isinst_ok I ru ty e fun tk => ⟨.bl b, H, I.tok tk, rfl, q⟩
end
theorem bt_isinstance : bootBuiltins "isinstance" = some (.builtin "isinstance") := by decide +kernel
theorem bt_len : bootBuiltins "len" = some (.builtin "len") := by decide +kernel
theorem bt_int : bootBuiltins "int" = some (.type "int") := by decide +kernel
theorem bt_bool : bootBuiltins "bool" = some (.type "bool") := by decide +kernel
theorem bt_str : bootBuiltins "str" = some (.type "str") := by decide +kernel
theorem bt_list : bootBuiltins "list" = some (.type "list") := by decide +kernel
theorem bt_tuple : bootBuiltins "tuple" = some (.type "tuple") := by decide +kernel
theorem bt_ValueError : bootBuiltins "ValueError" = some (.type "ValueError") := by decide +kernel
structure Blt (mg : Str → Option Value) : Prop where
  isinstance : mg "isinstance" = none
  len : mg "len" = none
  int : mg "int" = none
  bool : mg "bool" = none
  str : mg "str" = none
  list : mg "list" = none
  tuple : mg "tuple" = none
  dict : mg "dict" = none
  range : mg "range" = none
  sorted : mg "sorted" = none
  min : mg "min" = none
  max : mg "max" = none
  all : mg "all" = none
  any : mg "any" = none
  enumerate : mg "enumerate" = none
  sum : mg "sum" = none
  ValueError : mg "ValueError" = none
theorem blt_mk {K : PySem.W.Frag} {h : Heap} {mg : Str → Option Value} (X : K.In h) (G : h.Ns mainGlobals mg)
    (z0 : PySem.W.nsIn K mainGlobals "isinstance" = some none)
    (z1 : PySem.W.nsIn K mainGlobals "len" = some none)
    (z2 : PySem.W.nsIn K mainGlobals "int" = some none)
    (z3 : PySem.W.nsIn K mainGlobals "bool" = some none)
    (z4 : PySem.W.nsIn K mainGlobals "str" = some none)
    (z5 : PySem.W.nsIn K mainGlobals "list" = some none)
    (z6 : PySem.W.nsIn K mainGlobals "tuple" = some none)
    (z7 : PySem.W.nsIn K mainGlobals "dict" = some none)
    (z8 : PySem.W.nsIn K mainGlobals "range" = some none)
    (z9 : PySem.W.nsIn K mainGlobals "sorted" = some none)
    (z10 : PySem.W.nsIn K mainGlobals "min" = some none)
    (z11 : PySem.W.nsIn K mainGlobals "max" = some none)
    (z12 : PySem.W.nsIn K mainGlobals "all" = some none)
    (z13 : PySem.W.nsIn K mainGlobals "any" = some none)
    (z14 : PySem.W.nsIn K mainGlobals "enumerate" = some none)
    (z15 : PySem.W.nsIn K mainGlobals "sum" = some none)
    (z16 : PySem.W.nsIn K mainGlobals "ValueError" = some none)
    : Blt mg := ⟨PySem.W.mg_none_of X G z0, PySem.W.mg_none_of X G z1, PySem.W.mg_none_of X G z2, PySem.W.mg_none_of X G z3, PySem.W.mg_none_of X G z4, PySem.W.mg_none_of X G z5, PySem.W.mg_none_of X G z6, PySem.W.mg_none_of X G z7, PySem.W.mg_none_of X G z8, PySem.W.mg_none_of X G z9, PySem.W.mg_none_of X G z10, PySem.W.mg_none_of X G z11, PySem.W.mg_none_of X G z12, PySem.W.mg_none_of X G z13, PySem.W.mg_none_of X G z14, PySem.W.mg_none_of X G z15, PySem.W.mg_none_of X G z16⟩
theorem def_mk {K : PySem.W.Frag} {h : Heap} {mg : Str → Option Value} {x : Str} {st : Stmt} {f : Addr} {oc : Value} {od an : Option Addr} {osl : Array (Option Value)} {kV doc pm cdv ct : Value} (X : K.In h) (G : h.Ns mainGlobals mg)
    (a : PySem.W.nsIn K mainGlobals x = some (some (.ref f))) (l : K.lookup f = some ⟨oc, od, .func (PySem.W.fnOf x x (defArgs st) (defBody st) (defScope st) .none kV doc pm an cdv ct), osl⟩)
    (c : PySem.W.codeIn K cdv x = true) (k : PySem.W.keepIn K (.ref f) = true) : Def K mg x st := ⟨f, _, PySem.W.mg_of X G a, fun_mk l c k⟩
theorem law_F {P : Program} {w : World} {K : PySem.W.Frag} {mg : Str → Option Value} {st : Stmt} {fa : Addr} {k : Nat} {sp : Sp} {x : Str} (D : Def K mg "law" st) (hmg : mg "law" = some (.ref fa))
    (hb : ∀ (kV doc pm : Value) (an : Option Addr) (cdv ct u : Value), bindArgs (PySem.W.fnOf "law" "law" (defArgs st) (defBody st) (defScope st) .none kV doc pm an cdv ct) ⟨[u], []⟩ = pure [(x, u)])
    (ok : ∀ (base : Heap) (f : Addr) (fd : FuncData), Fun K "law" "law" st f fd → FnOk P w K mg base (CXR P w) k f fd [x] sp) :
    ∃ fd : FuncData, (∀ (s : Shared) (u : Value), BindsTo s fd ⟨[u], []⟩ [(x, u)]) ∧ ∀ base : Heap, K.In base → base.Ns mainGlobals mg → FnOk P w K mg base (CXR P w) k fa fd [x] sp := by
  obtain ⟨f, fd, hm, F⟩ := D
  rw [hm] at hmg
  cases hmg
  obtain ⟨oc, od, kV, doc, pm, an, cdv, ct, osl, rfl, lk, hcd⟩ := id F.ex
  exact ⟨_, fun s u => .of_eq (hb kV doc pm an cdv ct u), fun base _ _ => ok base _ _ F⟩
end L2
set_option Elab.async false
set_option linter.all false
set_option maxRecDepth 100000
namespace L2
open PySem PySem.Spec PyProof.Rows
def Is {α : Sort _} (a b : α) : Prop := a = b
theorem Is.eq {α : Sort _} {a b : α} (h : Is a b) : a = b := h
theorem Is.rfl {α : Sort _} {a : α} : Is a a := Eq.refl a
theorem seqI {t u : TS} {D : Ends} {σ : St} {H : Hp} (h : ∀ M, Is M (u D) → t { D with nx := M } σ H) : tSeq t u D σ H := h _ Is.rfl
def LoopL (K : PySem.W.Frag) (a : Addr) (g : TG) (tb : TS) (D : Ends) (σ : St) (H : Hp) : Prop :=
  ∃ W : Nat → Nat → St → Hp → Prop, (∃ m, W 0 m σ H) ∧ ∀ i m σ H, W i m σ H →
      ((Itl K a).stop i H ∧ D.nx σ H) ∨ ((Itl K a).go i H ∧ ∃ N : St → Hp → Prop, (∀ σ' H', N σ' H' → ∃ m', m' < m ∧ W (i + 1) m' σ' H') ∧ ∀ x H', (Itl K a).yld i H x H' → g x σ H' fun σ2 H2 => tb { D with nx := N, ct := N, bk := D.nx } σ2 H2)
theorem forL {K : PySem.W.Frag} {tl : TE} {g : TG} {tb : TS} {D : Ends} {σ : St} {H : Hp}
    (h : ∀ L, Is L (fun a H1 => LoopL K a g tb D σ H1) → tl σ H fun x H1 => ∃ a, x = .ref a ∧ (∃ xs, SqL K H1 a xs) ∧ L a H1) : tFor (iList K tl) g tb D σ H := h _ Is.rfl
theorem loopL {K : PySem.W.Frag} {a : Addr} {g : TG} {tb : TS} {D : Ends} {σ : St} {H : Hp} (xs : List V) (Pv : Nat → St → Hp → Prop) (h0 : Pv 0 σ H) (hl : ∀ i σ H, i ≤ xs.length → Pv i σ H → SqL K H a xs)
    (hs : ∀ i x σ H, xs[i]? = some x → Pv i σ H → g x σ H fun σ2 H2 => tb { D with nx := Pv (i + 1), ct := Pv (i + 1), bk := D.nx } σ2 H2) (hd : ∀ σ H, Pv xs.length σ H → D.nx σ H) : LoopL K a g tb D σ H := for_list Pv h0 hl hs hd
def LoopR (lo : Int) (n : Nat) (g : TG) (tb : TS) (D : Ends) (σ : St) (H : Hp) : Prop :=
  ∃ W : Nat → Nat → St → Hp → Prop, (∃ m, W 0 m σ H) ∧ ∀ i m σ H, W i m σ H →
      ((Itr lo n).stop i H ∧ D.nx σ H) ∨ ((Itr lo n).go i H ∧ ∃ N : St → Hp → Prop, (∀ σ' H', N σ' H' → ∃ m', m' < m ∧ W (i + 1) m' σ' H') ∧ ∀ x H', (Itr lo n).yld i H x H' → g x σ H' fun σ2 H2 => tb { D with nx := N, ct := N, bk := D.nx } σ2 H2)
theorem forR1 {ta : TA} {g : TG} {tb : TS} {D : Ends} {σ : St} {H : Hp}
    (h : ∀ L, Is L (fun n H1 => LoopR 0 n g tb D σ H1) → ta σ H fun vs H1 => ∃ j : Int, vs = [.int j] ∧ -(2 ^ 62) ≤ j ∧ j < 2 ^ 62 ∧ L j.toNat H1) : tFor (iRng1 ta) g tb D σ H := h _ Is.rfl
theorem loopR {lo : Int} {n : Nat} {g : TG} {tb : TS} {D : Ends} {σ : St} {H : Hp} (Pv : Nat → St → Hp → Prop) (h0 : Pv 0 σ H)
    (hs : ∀ i σ H, i < n → Pv i σ H → g (.int (lo + i)) σ H fun σ2 H2 => tb { D with nx := Pv (i + 1), ct := Pv (i + 1), bk := D.nx } σ2 H2) (hd : ∀ σ H, Pv n σ H → D.nx σ H) : LoopR lo n g tb D σ H := for_range Pv h0 hs hd
theorem iteD {c : Prop} [Decidable c] {A B : Prop} (h1 : c → A) (h2 : ¬ c → B) : if decide c = true then A else B := by
  by_cases h : c
  · rw [decide_eq_true h]; exact iteT (h1 h)
  · rw [decide_eq_false h]; exact iteF (h2 h)
theorem same_upd {H : Hp} {a : Addr} {o : HO} (h : H a = none) : Same H (upd H a o) := fun b o' e => by rw [upd_ne (ne_of_none e h)]; exact e
end L2
set_option Elab.async false
set_option linter.all false
set_option maxRecDepth 100000
namespace L2
open PySem PySem.Spec PyProof.Rows
section
variable {X : Cx}
def rIxA : R2 := fun x y H Q => ∃ p i, x = .ref p ∧ y = .int i ∧ ((∃ xs, H p = some (.lst xs) ∧ ∃ v, atI xs i = some v ∧ Q v H) ∨ (∃ xs, H p = some (.tup xs) ∧ ∃ v, atI xs i = some v ∧ Q v H))
theorem ix_any : IxR X rIxA := by
  intro value slice pins s σ H x y v u Q I rx ry h hs
  obtain ⟨p, i, e1, e2, ⟨xs, hp, z, ha, q⟩ | ⟨xs, hp, z, ha, q⟩⟩ := h
  · exact ix_list value slice pins s σ H x y v u Q I rx ry ⟨p, xs, i, z, e1, e2, SqL.of hp, ha, q⟩ hs
  · exact ix_tup value slice pins s σ H x y v u Q I rx ry ⟨p, xs, i, z, e1, e2, SqT.of hp, ha, q⟩ hs
def rLenA : List V → Hp → VK → Prop := fun xs H Q => ∃ p, xs = [.ref p] ∧ ((∃ ys, H p = some (.lst ys) ∧ Q (.int ys.length) H) ∨ (∃ ys, H p = some (.tup ys) ∧ Q (.int ys.length) H) ∨ (∃ kvs, H p = some (.dK kvs) ∧ Q (.int kvs.length) H))
theorem call_lenA : CallR X (.builtin "len") rLenA := by
  intro pins s σ H xs us Q I r h
  obtain ⟨p, e1, ⟨ys, hp, q⟩ | ⟨ys, hp, q⟩ | ⟨kvs, hp, q⟩⟩ := h
  · exact call_len_seq pins s σ H xs us Q I r ⟨p, ys, e1, .inl (SqL.of hp), q⟩
  · exact call_len_seq pins s σ H xs us Q I r ⟨p, ys, e1, .inr (SqT.of hp), q⟩
  · exact call_lenD pins s σ H xs us Q I r ⟨p, kvs, e1, hp, q⟩
theorem atI_0 {α : Type} {x : α} {xs : List α} : atI (x :: xs) 0 = some x := atI_nat (j := 0) rfl
theorem atI_1 {α : Type} {x y : α} {xs : List α} : atI (x :: y :: xs) 1 = some y := atI_nat (j := 1) rfl
theorem atI_2 {α : Type} {x y z : α} {xs : List α} : atI (x :: y :: z :: xs) 2 = some z := atI_nat (j := 2) rfl
theorem atI_3 {α : Type} {x y z t : α} {xs : List α} : atI (x :: y :: z :: t :: xs) 3 = some t := atI_nat (j := 3) rfl
theorem atI_4 {α : Type} {x y z t r : α} {xs : List α} : atI (x :: y :: z :: t :: r :: xs) 4 = some r := atI_nat (j := 4) rfl
def isiT (t n : String) : Option Bool := PySem.W.kitOne [] (.type t) (.type n)
def tyN (H : Hp) : V → Option String
  | .non => some "NoneType"
  | .bl _ => some "bool"
  | .int _ => some "int"
  | .str _ => some "str"
  | .ref a => match H a with
    | some (.lst _) => some "list"
    | some (.tup _) => some "tuple"
    | some (.dK _) => some "dict"
    | _ => none
  | _ => none
theorem tyN_ok {K : PySem.W.Frag} {H : Hp} {x : V} {t : String} (h : tyN H x = some t) : TyOf K H x (.type t) := by
  cases x with
  | non => cases h; exact .non
  | bl b => cases h; exact .bl b
  | int i => cases h; exact .int i
  | str i => cases h; exact .str i
  | ref a =>
    unfold tyN at h
    cases e : H a with
    | none => simp only [e] at h; cases h
    | some o =>
      simp only [e] at h
      cases o with
      | lst xs => cases h; exact .lst e
      | tup xs => cases h; exact .tup e
      | dK xs => cases h; exact .dK e
      | _ => cases h
  | _ => cases h
theorem kit_ty (K : PySem.W.Frag) (t n : String) : PySem.W.kitOne K (.type t) (.type n) = isiT t n := by
  unfold isiT PySem.W.kitOne PySem.W.kitCls PySem.W.subIn
  rfl
def rIsiN : List V → Hp → VK → Prop := fun xs H Q => ∃ x n t b, xs = [x, .ty n] ∧ tyN H x = some t ∧ isiT t n = some b ∧ Q (.bl b) H
theorem call_isiN : CallR X (.builtin "isinstance") rIsiN := by
  intro pins s σ H xs us Q I r h
  obtain ⟨x, n, t, b, e1, e2, e3, q⟩ := h
  exact call_isi pins s σ H xs us Q I r ⟨x, .ty n, .type t, b, e1, tyN_ok e2, .inl ⟨n, rfl, by rw [kit_ty]; exact e3⟩, q⟩
theorem isi_int_int : isiT "int" "int" = some true := rfl
theorem isi_int_bool : isiT "int" "bool" = some false := rfl
theorem isi_bool_bool : isiT "bool" "bool" = some true := rfl
theorem isi_none_int : isiT "NoneType" "int" = some false := rfl
theorem isi_none_bool : isiT "NoneType" "bool" = some false := rfl
theorem isi_str_int : isiT "str" "int" = some false := rfl
theorem isi_str_bool : isiT "str" "bool" = some false := rfl
theorem isi_list_int : isiT "list" "int" = some false := rfl
theorem isi_list_bool : isiT "list" "bool" = some false := rfl
theorem isi_tuple_int : isiT "tuple" "int" = some false := rfl
theorem isi_tuple_bool : isiT "tuple" "bool" = some false := rfl
theorem isi_list_list : isiT "list" "list" = some true := rfl
theorem isi_tuple_tuple : isiT "tuple" "tuple" = some true := rfl
theorem isi_list_tuple : isiT "list" "tuple" = some false := rfl
theorem isi_none_list : isiT "NoneType" "list" = some false := rfl
theorem isi_none_tuple : isiT "NoneType" "tuple" = some false := rfl
theorem isi_str_str : isiT "str" "str" = some true := rfl
end
section
variable {X : Cx} {o e : Expr} {to : TE} {t : TA} {apos pos : Pos}
end
end L2
set_option Elab.async false
set_option linter.all false
set_option maxRecDepth 100000
namespace L2
open PySem PySem.Spec PyProof.Rows
theorem ObjOk.there {P : Program} {w : World} {H : Hp} {h : Heap} {a : Addr} {o : HO} (x : ObjOk P w H h a o) : ∃ u, h.get? a = some u := by
  cases o with
  | lst xs => obtain ⟨_, _, _, _, e⟩ := x; exact ⟨_, e⟩
  | tup xs => obtain ⟨_, _, _, o, e, _⟩ := x; exact ⟨_, e⟩
  | dK kvs => obtain ⟨_, _, _, _, o, _, _, e, _⟩ := x; exact ⟨_, e⟩
  | dT kvs => obtain ⟨_, _, _, _, o, _, _, e, _⟩ := x; exact ⟨_, e⟩
  | set S n => obtain ⟨o, _, _, _, e, _⟩ := x; exact ⟨_, e⟩
  | ins C dx fs => obtain ⟨_, _, _, e, _⟩ := x; exact ⟨_, e⟩
  | own y => obtain ⟨_, e⟩ := x; exact ⟨_, e⟩
  | xd fs => obtain ⟨_, ⟨_, _, _, e, _⟩, _⟩ := x; exact ⟨_, e⟩
  | rng lo hi => obtain ⟨_, _, _, e⟩ := x; exact ⟨_, e⟩
  | frz ob u => obtain ⟨e, _⟩ := x; exact ⟨_, e⟩
  | tbl ps => exact ⟨_, (show h.get? a = some _ from x)⟩
  | met f y => exact ⟨_, (show h.get? a = some _ from x)⟩
  | ext φ => obtain ⟨_, ⟨_, e⟩, _⟩ := x; exact ⟨_, e⟩
theorem fly_un {P : Program} {w : World} {l : List Env} {H H' : Hp} {h0 h h2 B : Heap} (un : Un (frs l) [] H H' h0 h) (hok : HOk P w H' h) (fr : h.FunFrames B l)
    (tr : ∀ b u o, H' b = some u → h.get? b = some o → B.get? b = some o) (kp : ∀ b o o', h0.get? b = some o → h.get? b = some o' → b ∉ frs l → B.get? b = some o') (st : B.StaysIn h2) (sm : h.UpToSlots h2) :
    Un (frs l) [] H H' h0 h2 ∧ HOk P w H' h2 := by
  refine ⟨⟨fun b o q n hb hx => ?_, fun b o q n hb hx => ?_, un.free, fun b o q hx => ?_, un.tups, un.frzs, un.tbls⟩, fun a o e => ?_⟩
  · exact st b o (kp b o o q (un.keep b o q n hb hx) hb)
  · obtain ⟨sl, e⟩ := un.slot b o q n hb hx
    obtain ⟨_, o', ho', hd⟩ := fr.mem hb
    rw [e] at ho'; cases ho'
    obtain ⟨sl', e'⟩ := sm b _ e hd
    exact ⟨sl', e'⟩
  · obtain ⟨o', e⟩ := un.there b o q hx
    by_cases hb : b ∈ frs l
    · obtain ⟨_, o2, ho2, hd⟩ := fr.mem hb
      obtain ⟨sl', e'⟩ := sm b _ ho2 hd
      exact ⟨_, e'⟩
    · exact ⟨o', st b o' (kp b o o' q e hb)⟩
  · refine (hok a o e).stay (fun b u hb q => ?_) (fun _ q => q) fun _ _ q => q
    rcases hb with rfl | hb
    · exact st b u (tr b _ u e q)
    · exact st b u (tr b _ u hb q)
theorem un_down {fs fs' : List Addr} {L : Addr} {H H1 H2 : Hp} {h h1 h2 : Heap} (a : Un fs [] H H1 h h1) (b : Un fs' [] H1 H2 h1 h2) (hL : h.get? L = none) (sub : ∀ x ∈ fs', x = L ∨ x ∈ fs) : Un fs [] H H2 h h2 where
  keep := fun c ob q n hc hx => b.keep c ob (a.keep c ob q n hc hx) (a.free c ob q n hx) (fun z => (sub c z).elim (fun e => by rw [e, hL] at q; cases q) hc) hx
  slot := fun c ob q n hc hx => by
    obtain ⟨sl, e1⟩ := a.slot c ob q n hc hx
    obtain ⟨sl', e2⟩ := b.any e1 (a.free c ob q n hx) hx
    exact ⟨sl', e2⟩
  free := fun c ob q n hx => by
    obtain ⟨o', e1⟩ := a.there c ob q hx
    exact b.free c o' e1 (a.free c ob q n hx) hx
  there := fun c ob q hx => by
    obtain ⟨o', e1⟩ := a.there c ob q hx
    exact b.there c o' e1 hx
  tups := fun c xs q => b.tups c xs (a.tups c xs q)
  frzs := fun c ob xs q => b.frzs c ob xs (a.frzs c ob xs q)
  tbls := fun c ps q => by
    obtain ⟨m1, e1⟩ := a.tbls c ps q
    obtain ⟨m2, e2⟩ := b.tbls c _ e1
    exact ⟨m1 ++ m2, by rw [e2, Array.append_assoc]⟩
section
variable {P : Program} {w : World} {K : PySem.W.Frag} {mg : Str → Option Value} {base : Heap} {N : List Str} {qual : Str} {scope : Scope} {f : Addr} {cd : Value} {A : Around} {outer : List Env} {s : Shared} {H : Hp} {E : XK}
abbrev cxR (P : Program) (w : World) (K : PySem.W.Frag) (mg : Str → Option Value) (base : Heap) (N : List Str) (qual : Str) (scope : Scope) (f : Addr) (cd : Value) (A : Around) (outer : List Env) (s : Shared) (H : Hp) (E : XK) : Cx :=
  cxOf (CXR P w) P w K mg base N qual scope f cd A outer s H E
theorem frs_cons {L : Addr} {env : Env} {l : List Env} (h : env.frame = some L) : frs (env :: l) = L :: frs l := by unfold frs; rw [List.filterMap_cons, h]
theorem passR : Passes (CXR P w) (cxR P w K mg base N qual scope f cd A outer s H E) E := by
  intro pins σ H1 s1 e s' I h
  obtain ⟨H', ea, cls, rfl, os, bare, fl, hE⟩ := h
  obtain ⟨B, a0, hfl, tr, kp⟩ := fl.fly
  have fr := hfl.2.2.1
  show wpAny _ _ (leaving _ _) _ _ s'
  refine wpAny_leaves_onW (I.ok.frames) (L := s.heap.objs.size) rfl hfl fun h2 hfl2 sm => ?_
  obtain ⟨un2, hok2⟩ := fly_un fl.un fl.hok fr tr kp hfl2.1 sm
  have hfs : frs (envOfC qual scope s.heap.objs.size f cd :: outer) = s.heap.objs.size :: frs outer := frs_cons rfl
  have hL : s.heap.get? s.heap.objs.size = none := Heap.get?_none_of_le (Nat.le_refl _)
  have sub : ∀ x ∈ frs (envOfC qual scope s.heap.objs.size f cd :: outer), x = s.heap.objs.size ∨ x ∈ frs outer := fun x hx => by rw [hfs] at hx; exact List.mem_cons.mp hx
  refine ⟨H', ea, cls, rfl, os.trans I.os, bare, ⟨un_down I.base un2 hL sub, hok2, ?_, B, a0, hfl2, fun b u o e q => ?_, fun b o o2 q q2 hb => ?_⟩, hE⟩
  · cases q : s.heap.get? ea with
    | none => rfl
    | some o =>
      obtain ⟨o', e⟩ := I.base.there ea o q (by intro z; cases z)
      rw [fl.new] at e; cases e
  · obtain ⟨o', e'⟩ := (fl.hok b u e).there
    have h1 := tr b u o' e e'
    have h2' := hfl2.1 b o' h1
    rw [q] at h2'; cases h2'; exact h1
  · obtain ⟨o1, e1⟩ := I.base.there b o q (by intro z; cases z)
    obtain ⟨o', e'⟩ := fl.un.there b o1 e1 (by intro z; cases z)
    have nb : b ∉ frs (envOfC qual scope s.heap.objs.size f cd :: outer) := fun z => (sub b z).elim (fun e => by rw [e, hL] at q; cases q) hb
    have h1 := kp b o1 o' e1 e' nb
    have h2' := hfl2.1 b o' h1
    rw [q2] at h2'; cases h2'; exact h1
theorem raise_leaves {pins : List (Addr × Obj)} {σ : St} {H1 : Hp} {s2 : Shared} {h' : Heap} {e C : Addr} {vs : List Value} (I : Inv (cxR P w K mg base N qual scope f cd A outer s H E) pins σ H1 s2)
    (hx : Heap.MadeExcOf s2.heap h' e (.ref C) vs) (hE : E (.ref C) none H1) : (cxR P w K mg base N qual scope f cd A outer s H E).xe (.ref e) { s2 with heap := h' } := by
  have hfs : frs (envOfC qual scope s.heap.objs.size f cd :: outer) = s.heap.objs.size :: frs outer := frs_cons rfl
  have hL : s.heap.get? s.heap.objs.size = none := Heap.get?_none_of_le (Nat.le_refl _)
  have sub : ∀ x ∈ frs (envOfC qual scope s.heap.objs.size f cd :: outer), x = s.heap.objs.size ∨ x ∈ frs outer := fun x hx => by rw [hfs] at hx; exact List.mem_cons.mp hx
  have hin : ∀ env ∈ (envOfC qual scope s.heap.objs.size f cd :: outer), ∀ b, env.frame = some b → b ∈ (envOfC qual scope s.heap.objs.size f cd :: outer).filterMap (·.frame) := fun env he b hb => List.mem_filterMap.mpr ⟨env, he, hb⟩
  have fr0 : s2.heap.FunFrames (PySem.W.hideAll s2.heap (frs (envOfC qual scope s.heap.objs.size f cd :: outer))) (envOfC qual scope s.heap.objs.size f cd :: outer) := PySem.W.funFrames_hide I.stack hin
  have kB : ∀ b o, s2.heap.get? b = some o → b ∉ frs (envOfC qual scope s.heap.objs.size f cd :: outer) → (PySem.W.hideAll s2.heap (frs (envOfC qual scope s.heap.objs.size f cd :: outer))).get? b = some o := fun b o q hb => PySem.W.hideAll_get _ q hb
  show wpAny _ _ (leaving _ _) _ _ _
  refine wpAny_leaves_madeW (s := { s2 with heap := h' }) (base := PySem.W.hideAll s2.heap (frs (envOfC qual scope s.heap.objs.size f cd :: outer))) (h := s2.heap) I.ok.frames (L := s.heap.objs.size) rfl (fun b o q => PySem.W.of_hideAll _ q) fr0 hx fun h2 t hfl2 _ _ sm => ?_
  have nfr : ∀ b u, H1 b = some u → b ∉ frs (envOfC qual scope s.heap.objs.size f cd :: outer) := fun b u q z => by rw [I.stkFree b z] at q; cases q
  have tr : ∀ b u o, H1 b = some u → h'.get? b = some o → (PySem.W.hideAll s2.heap (frs (envOfC qual scope s.heap.objs.size f cd :: outer))).get? b = some o := fun b u o q qo => by
    obtain ⟨o', e'⟩ := (I.hok b u q).there
    have := hx.keeps b o' e'
    rw [qo] at this; cases this
    exact kB b _ e' (nfr b u q)
  have kp : ∀ b o o', s2.heap.get? b = some o → h'.get? b = some o' → b ∉ frs (envOfC qual scope s.heap.objs.size f cd :: outer) → (PySem.W.hideAll s2.heap (frs (envOfC qual scope s.heap.objs.size f cd :: outer))).get? b = some o' := fun b o o' q q' hb => by
    have := hx.keeps b o q
    rw [q'] at this; cases this
    exact kB b _ q hb
  obtain ⟨un2, hok2⟩ := fly_un (l := envOfC qual scope s.heap.objs.size f cd :: outer) (H := H1) (H' := H1) (h0 := s2.heap) (Un.kept hx.keeps) (I.hok.kept hx.keeps) (fr0.of_keeps fun b o q _ => ⟨o, hx.keeps b o q, rfl⟩) tr kp hfl2.1 sm
  refine ⟨H1, e, .ref C, rfl, I.os, I.bare, ⟨un_down I.base un2 hL sub, hok2, ?_, _, _, hfl2, fun b u o q qo => ?_, fun b o o2 q q2 hb => ?_⟩, hE⟩
  · cases q : s.heap.get? e with
    | none => rfl
    | some o =>
      obtain ⟨o', e'⟩ := I.base.there e o q (by intro z; cases z)
      rw [hx.new] at e'; cases e'
  · obtain ⟨o', e'⟩ := (I.hok b u q).there
    have h1 := kB b o' e' (nfr b u q)
    have h2' := hfl2.1 b o' h1
    rw [qo] at h2'; cases h2'; exact h1
  · obtain ⟨o1, e1⟩ := I.base.there b o q (by intro z; cases z)
    have nb : b ∉ frs (envOfC qual scope s.heap.objs.size f cd :: outer) := fun z => (sub b z).elim (fun e => by rw [e, hL] at q; cases q) hb
    have h1 := kB b o1 e1 nb
    have h2' := hfl2.1 b o1 h1
    rw [q2] at h2'; cases h2'; exact h1
end
structure Exc (K : PySem.W.Frag) (mg : Str → Option Value) (x : Str) (C : Addr) : Prop where
  mgC : mg x = some (.ref C)
  ex : PySem.W.excIn K C [.type "ValueError", .type "Exception", .type "BaseException", .type "object"] "ValueError.__new__" = true
theorem Exc.own {K : PySem.W.Frag} {mg : Str → Option Value} {x : Str} {C : Addr} {h : Heap} (O : Exc K mg x C) (X : K.In h) : OwnCls x C [.type "ValueError", .type "Exception", .type "BaseException", .type "object"] "ValueError.__new__" mg h := by
  refine ⟨O.mgC, ?_⟩
  have q := O.ex
  unfold PySem.W.excIn at q
  split at q
  · rename_i dd cd sl ho
    split at q
    · rename_i C' bm k0 k1 k2 k3 n k5 hm hs
      simp only [Bool.and_eq_true, beq_iff_eq, Bool.not_eq_true'] at q
      obtain ⟨⟨⟨⟨⟨rfl, rfl⟩, hdel⟩, ht⟩, hok⟩, hni⟩ := q
      obtain ⟨nm, bs, mro, ns, qn, hd, sn, sub, ab, col, del⟩ := cd
      dsimp only at hm hdel hok hni
      subst hm hdel
      have hsl : sl = #[k0, k1, k2, k3, some (.builtin "ValueError.__new__"), k5] := by
        obtain ⟨l⟩ := sl
        simp only at hs
        rw [hs]
      subst hsl
      exact ⟨bm, ns, nm, qn, bs, hd, sn, sub, ab, col, dd, k0, k1, k2, k3, k5, _, X _ _ ho, .of_isNs (PySem.W.isNs_of_in X hok), PySem.W.nsMap_none_of_in X hok hni, PySem.W.tail_of_in X ht⟩
    · cases q
  · cases q
theorem exc_mk {K : PySem.W.Frag} {h : Heap} {mg : Str → Option Value} {x : Str} {C : Addr} (X : K.In h) (G : h.Ns mainGlobals mg) (a : PySem.W.nsIn K mainGlobals x = some (some (.ref C)))
    (q : PySem.W.excIn K C [.type "ValueError", .type "Exception", .type "BaseException", .type "object"] "ValueError.__new__" = true) : Exc K mg x C := ⟨PySem.W.mg_of X G a, q⟩
section
variable {P : Program} {w : World} {K : PySem.W.Frag} {mg : Str → Option Value} {base : Heap} {N : List Str} {qual : Str} {scope : Scope} {f : Addr} {cd : Value} {A : Around} {outer : List Env} {s : Shared} {H : Hp} {E : XK}
def tRaise (E : XK) (C : Addr) (ta : TA) : TS := fun _ σ H => ta σ H fun vs H1 => vs.length ≤ sizeLine ∧ E (.ref C) none H1
theorem ps_raise {x : Str} {C : Addr} {e₀ : Expr} {np cpos pos : Pos} {ta : TA} (O : Exc K mg x C) (hg : Gl (cxR P w K mg base N qual scope f cd A outer s H E) x) (ha : PA (cxR P w K mg base N qual scope f cd A outer s H E) [e₀] ta)
    (hd : (x == ("__debug__" : Str)) = false := by decide) (he : starEach [e₀] (cxR P w K mg base N qual scope f cd A outer s H E).env = [(false, eval e₀ (cxR P w K mg base N qual scope f cd A outer s H E).env)] := by rfl) :
    PS (cxR P w K mg base N qual scope f cd A outer s H E) (.Raise (some (.Call (.Name x np) [e₀] [] cpos)) none pos) (tRaise E C ta) := by
  intro pins s1 σ H1 D I h
  have own := O.own I.mod.kin
  obtain ⟨tl, NN, nm, q, bs, hdct, sn, sub, ab, col, dd, k0, k1, k2, k3, k5, mN, hC, hN, hni, T⟩ := own.obj
  refine wpAny_Raise_call_subT (C := C) (nm := nm) (q := q) (N := NN) (bs := bs) (bm := tl) (hdct := hdct) (sn := sn) (sub := sub) (ab := ab) (col := col) (dd := dd) (k0 := k0) (k1 := k1) (k2 := k2) (k3 := k3) (k5 := k5)
    PySem.F.excBase_ValueError (mN := mN) (T.hasType PySem.F.excBase_ValueError.hasBase) (I.ok.hd rfl) (by rw [he]; rfl) hni (ld_glob I hg O.mgC ⟨rfl, ?_⟩ hd)
  rw [he]
  have ha' := ha cpos pins s1 σ H1 _ I h
  rw [he] at ha'
  refine Calls.evalArgs_plain (wpAny_mono ha' (fun us s2 hq => ?_) fun _ _ y => y)
  obtain ⟨vs, H2, I2, r, hl, hE⟩ := hq
  exact ⟨rfl, by rw [← r.length]; exact hl, I2.bk _ _ hC, hN.keeps I2.bk, T.keeps I2.bk, fun h' e hx => raise_leaves I2 hx hE⟩
end
end L2
set_option Elab.async false
set_option linter.all false
set_option maxRecDepth 100000
namespace L2
open PySem PySem.Spec PyProof.Rows
abbrev Cx.caught (X : Cx) (ea : Addr) : Cx := { X with A := X.A.mark (some (.ref ea)), calm := false }
def IsExc (ea : Addr) (cls : Value) : Heap → Prop := fun h => ∃ o, h.get? ea = some o ∧ o.cls = cls
section
variable {X : Cx} {pins : List (Addr × Obj)} {σ : St} {H : Hp} {s : Shared}
theorem Inv.caught (I : Inv X pins σ H s) (ea : Addr) : Inv (X.caught ea) pins σ H s :=
  ⟨⟨I.ok.mod, I.ok.kind, I.ok.glob, I.ok.blt, I.ok.above, I.ok.inj, I.ok.has, I.ok.cab, (fun z => nomatch z), I.ok.frames, I.ok.stk, I.ok.exf, I.ok.bs, I.ok.bsz, I.ok.noex, I.ok.exfs, I.ok.funs, I.ok.frf⟩, I.os, I.bare, I.base, I.loc, I.cell, I.free, I.freeC, I.pin, I.hok, I.len⟩
theorem Inv.uncaught {ea : Addr} (I : Inv (X.caught ea) pins σ H s) (ok : X.Ok) : Inv X pins σ H s := ⟨ok, I.os, I.bare, I.base, I.loc, I.cell, I.free, I.freeC, I.pin, I.hok, I.len⟩
theorem Inv.track {ea : Addr} {o : HO} (I : Inv X pins σ H s) (hn : H ea = none) (h0 : X.s₀.heap.get? ea = none) (hL : ea ≠ X.env.locals) (hc : ∀ x c, X.env.cells.lookup x = some c → c ≠ ea) (hp : ∀ p ∈ X.pn ++ pins, p.1 ≠ ea)
    (new : ObjOk X.prog X.w (upd H ea o) s.heap ea o) : Inv X pins σ (upd H ea o) s := by
  have nn : ∀ b u, H b = some u → b ≠ ea := fun b u q z => by rw [z, hn] at q; cases q
  refine ⟨I.ok, I.os, I.bare, ⟨I.base.keep, I.base.slot, fun b ob q n hx => ?_, I.base.there, fun b xs q => ?_, fun b ob u q => ?_, fun b ps q => ?_⟩, I.loc, I.cell, ?_, fun x c e => ?_, fun p hp' => ?_, fun b u q => ?_, I.len⟩
  · rw [upd_ne (fun z => by rw [z, h0] at q; cases q)]; exact I.base.free b ob q n hx
  · have := I.base.tups b xs q
    rw [upd_ne (nn b _ this)]; exact this
  · have := I.base.frzs b ob u q
    rw [upd_ne (nn b _ this)]; exact this
  · obtain ⟨m, e⟩ := I.base.tbls b ps q
    exact ⟨m, by rw [upd_ne (nn b _ e)]; exact e⟩
  · rw [upd_ne (Ne.symm hL)]; exact I.free
  · rw [upd_ne (hc x c e)]; exact I.freeC x c e
  · obtain ⟨a, b, c, d, e⟩ := I.pin p hp'
    exact ⟨a, by rw [upd_ne (hp p hp')]; exact b, c, d, e⟩
  · by_cases hb : b = ea
    · subst hb; rw [upd_same] at q; cases q; exact new
    · rw [upd_ne hb] at q
      refine (I.hok b u q).stay (fun _ _ _ r => r) (fun c r => by rw [upd_ne (nn c _ r)]; exact r) fun c xs r => by rw [upd_ne (nn c _ r)]; exact r
theorem unbind_ok {M : Model} {A : Around} {E : Value → Shared → Prop} {i : Nat} {x : Str} {pos : Pos} {Q : Unit → Shared → Prop} (I : Inv X pins σ H s) (hN : X.N.Nodup) (hi : X.N[i]? = some x) (hk : X.env.scope.names.lookup x = some .local)
    (h : ∀ s', Inv X pins (σ.set i none) H s' → Q () s') : wpAny M A (do bindName X.env x .none; unbindBehindTheSuite X.env x pos) Q E s := by
  obtain ⟨m, hn, hl⟩ := id I.loc
  have hcls : (X.env.scope.kind == .class || (X.env.scope.kind == .module && X.env.locals != X.env.globals)) = false := by rw [I.ok.kind]; rfl
  have hiσ : i < σ.length := by rw [I.len]; exact (List.getElem?_eq_some_iff.mp hi).1
  have cne := I.cne
  refine wpAny_nameGoes_keeps hk hn hcls fun h' v hn' hs => ?_
  obtain ⟨oL, _, _, hoL, _⟩ := id hn
  have tracked : HOk X.prog X.w H h' := fun b ob e => by
    refine (I.hok b ob e).stay (fun c w' hc q => (hs.2 c ?_).trans q) (fun _ q => q) fun _ _ q => q
    rintro rfl
    rcases hc with rfl | hc
    · rw [I.free] at e; cases e
    · rw [I.free] at hc; cases hc
  refine h _ ⟨I.ok, I.os, I.bare, ⟨fun b o e n hb hx => ?_, fun b o e n hb hx => ?_, I.base.free, fun b o e hx => ?_, I.base.tups, I.base.frzs, I.base.tbls⟩, ⟨_, hn', fun j y v' e1 e2 e3 => ?_⟩, fun y c e => ?_, I.free, I.freeC, fun p hp => ?_, tracked, by simpa using I.len⟩
  · exact (hs.2 b (Nat.ne_of_lt (Nat.lt_of_lt_of_le (Heap.lt_size e) I.ok.above))).trans (I.base.keep b o e n hb hx)
  · obtain ⟨sl, e1⟩ := I.base.slot b o e n hb hx
    exact ⟨sl, (hs.2 b (Nat.ne_of_lt (Nat.lt_of_lt_of_le (Heap.lt_size e) I.ok.above))).trans e1⟩
  · obtain ⟨o', e1⟩ := I.base.there b o e hx
    exact ⟨o', (hs.2 b (Nat.ne_of_lt (Nat.lt_of_lt_of_le (Heap.lt_size e) I.ok.above))).trans e1⟩
  · by_cases hj : j = i
    · subst hj
      rw [List.getElem?_set_self hiσ] at e2
      cases e2
    · rw [List.getElem?_set_ne (Ne.symm hj)] at e2
      obtain ⟨u', r', q⟩ := hl j y v' e1 e2 e3
      refine ⟨u', r', ?_⟩
      rcases q with ⟨k, e⟩ | ⟨k, c, e, z⟩
      · refine .inl ⟨k, ?_⟩
        have : y ≠ x := fun e => hj (nodup_ix hN e1 (e ▸ hi))
        simp [this, e]
      · exact .inr ⟨k, c, e, z.sameBut hs (cne y c e)⟩
  · obtain ⟨w', z⟩ := I.cell y c e
    exact ⟨w', z.sameBut hs (cne y c e)⟩
  · obtain ⟨e, n, ne, nf, d⟩ := I.pin p hp
    exact ⟨(hs.2 p.1 ne).trans e, n, ne, nf, d⟩
end
abbrev XR (X : Cx) (pins : List (Addr × Obj)) (σ : St) (E : XK) : Value → Shared → Prop := fun e s' => ∃ H1 s1, Inv X pins σ H1 s1 ∧ CXR X.prog X.w X.stack H1 s1 E e s'
def PEX (X : Cx) (e : Expr) (t : XK → TE) : Prop :=
  ∀ (E : XK) (pins : List (Addr × Obj)) (s : Shared) (σ : St) (H : Hp) (Q : VK), Inv X pins σ H s → t E σ H Q → wpAny (model X.prog X.w) X.A (eval e X.env) (EP X pins σ Q) (XR X pins σ E) s
def PSX (X : Cx) (st : Stmt) (t : XK → TS) : Prop :=
  ∀ (E : XK) (pins : List (Addr × Obj)) (s : Shared) (σ : St) (H : Hp) (D : Ends), Inv X pins σ H s → t E D σ H → wpAny (model X.prog X.w) X.A (exec st X.env) (SP X pins D) (XR X pins σ E) s
def PSXs (X : Cx) (st : List Stmt) (t : XK → TS) : Prop :=
  ∀ (E : XK) (pins : List (Addr × Obj)) (s : Shared) (σ : St) (H : Hp) (D : Ends), Inv X pins σ H s → t E D σ H → wpAny (model X.prog X.w) X.A (execs st X.env) (SP X pins D) (XR X pins σ E) s
section
variable {X : Cx}
theorem psxs_one {st : Stmt} {t : XK → TS} (h1 : PSX X st t) : PSXs X [st] t := by
  intro E pins s σ H D I h
  refine wpAny_execs_cons (thn (h1 E pins s σ H D I h) fun f s1 q => ?_)
  cases f with
  | next =>
    obtain ⟨σ', H', I', q'⟩ := q
    exact wpAny_execs_nil ⟨σ', H', I', q'⟩
  | _ => exact q
theorem psx_expr {e : Expr} {te : XK → TE} {pos : Pos} (he : PEX X e te) (hs : swapsWith e none pos.line X.env = pure false := by rfl) : PSX X (.Expr e pos) fun E => tDrop (te E) := by
  intro E pins s σ H D I h
  exact wpAny_Expr_any (thn (he E pins s σ H _ I h) fun v s1 ⟨x', H1, I1, r, q⟩ => ⟨_, _, I1, q⟩) I.quiet hs
end
end L2
set_option Elab.async false
set_option linter.all false
set_option maxRecDepth 100000
namespace PySem.W
open PySem PySem.Spec PySem.Calls PyProof.Rows Builtin Builtin.ObjectAttr Builtin.Getset_descriptor
section
variable {prog : Program} {w : World} {A : Around} {E : Value → Shared → Prop} {s : Shared} {K : Frag} {x C : Addr} {R : Result → Shared → Prop}
theorem xc_get {tp : Value} (X : K.In s.heap) (L0 : ∀ M, Looks M s.heap (typeOf (.ref x)) (.ref C)) (hm : mroIn K C (.type "object") = some true)
    (h : R (.ok (.ret (.ref C))) s) : codeAny (model prog w) A (.call (.builtin "getset_descriptor.__get__") ⟨[.builtin "object.__class__", .ref x, tp], []⟩) R s := by
  obtain ⟨hh, g, dr, t, os⟩ := s
  have L0 := L0 (model prog w)
  have L1 := looks_mroIn (M := model prog w) X hm
  refine codeAny_call_builtin KF.slot_gs.plain KF.entry_gs (KF.slot_gs.check _ _ _ _ _ _ _ _ KF.type_class (KF.args_gs _ _ _) ?_)
  unfold Builtin.«getset_descriptor.__get__» descrGet
  rw [dga_obj]
  refine wpAny_bind (wpAny_pure ?_)
  unfold descrGetter descrCheckInstance descrNameAndClass isInstance
  simp only [KF.owner_class]
  repeat lk
  refine ⟨Code.quiet_builtin _ (by decide +kernel), codeAny_builtin KF.entry_class ?_⟩
  unfold Builtin.«object.__class__» shownTypeOf
  repeat lk
  exact h
theorem xc_find {M : Model} {h : Heap} {a g : Value} {name : Str} (X : K.In h) (ha : findIn K (.ref C) name = some (some a)) (hg : specialIn K a "__get__" = some (some g)) (hd : takesIn K a = some true) : Looks M h (find (.ref x) (.ref C) name) (.bind g a) := by
  have L1 := looks_findIn (M := M) X ha
  have L2 : Looks M h (getOf (some a)) (some g) := looks_specialIn X hg
  refine L1.andThen (L2.andThen ?_)
  have L3 := looks_takesIn (M := M) X hd
  exact (show Looks M h (dataDescriptor? (some a) (some g)) (some (g, a)) from L3.andThen .now).andThen (Looks.tag .now)
theorem xc_check {M : Model} {nameV : Value} {Q : Unit → Shared → Prop} (X : K.In s.heap) (L0 : ∀ M, Looks M s.heap (typeOf (.ref x)) (.ref C)) (hb : subIn K (.ref C) (.type "BaseException") = some true) (hq : Q () s) :
    wpAny M A (checkBuiltinCall "BaseException.__getattribute__" ⟨[.ref x, nameV], []⟩) Q E s := by
  have hk : builtinKind "BaseException.__getattribute__" = some .slot := by decide +kernel
  have hsplit : splitId "BaseException.__getattribute__" = some ("BaseException", "__getattribute__") := by decide +kernel
  have ha := F.args_bexc_ga (.ref x) nameV
  have L0 := L0 M
  have L1 : Looks M s.heap (isSubtype (.ref C) (.type "BaseException")) true := looks_subIn X hb
  obtain ⟨hh, g, dr, t, os⟩ := s
  simp only [checkBuiltinCall, hk, hsplit]
  refine wpAny_bind ?_
  unfold isInstance
  repeat (any_goals (first | assumption | with_reducible refine Looks.at (by assumption) ?_ | wp_step))
  all_goals exact hq
theorem xc_class {Q : Option Value → Shared → Prop} (X : K.In s.heap) (L0 : ∀ M h, (∀ b o, s.heap.get? b = some o → h.get? b = some o) → Looks M h (typeOf (.ref x)) (.ref C))
    (h1 : findIn K (.ref C) "__getattribute__" = some (some (.builtin "BaseException.__getattribute__"))) (h2 : findIn K (.ref C) "__getattr__" = some none) (h3 : findIn K (.ref C) "__class__" = some (some (.builtin "object.__class__")))
    (h4 : specialIn K (.builtin "object.__class__") "__get__" = some (some (.builtin "getset_descriptor.__get__"))) (h5 : takesIn K (.builtin "object.__class__") = some true) (h6 : mroIn K C (.type "object") = some true) (h7 : subIn K (.ref C) (.type "BaseException") = some true)
    (h : Q (some (.ref C)) { s with toks := s.toks + 1 }) : wpAny (model prog w) A (getAttr? (.ref x) "__class__") Q E s := by
  obtain ⟨hh, g, dr, t, os⟩ := s
  have LT := L0 (model prog w) hh fun _ _ e => e
  have L1 := looks_findIn (M := model prog w) X h1
  have L2 := looks_findIn (M := model prog w) X h2
  have L3 : Looks (model prog w) hh (find (.ref x) (.ref C) "__class__") (.bind (.builtin "getset_descriptor.__get__") (.builtin "object.__class__")) := xc_find X h3 h4 h5
  have hx2 : (Value.builtin "BaseException.__getattribute__" == Value.builtin "object.__getattribute__") = false := by decide +kernel
  unfold getAttr? getAttrBy? getAttrBy
  refine wpAny_bind (wpAny_mkText (wpAny_bind (wpAny_attempt (wpAny_holding (wpAny_bind (LT.at (wpAny_bind (L1.at ?_))))))))
  dsimp only
  rw [if_neg (by rw [hx2]; simp)]
  unfold getAttrByItsOwn hookBefore
  rw [if_pos (by rfl)]
  refine wpAny_bind (L2.at ?_)
  refine wpAny_bind (wpAny_attempt (wpAny_holding ?_))
  unfold callGetattribute
  rw [if_neg (by simp)]
  unfold boundAndCalled
  have ga : Slot "ValueError" "__getattribute__" "BaseException.__getattribute__" := PySem.F.attr_ValueError.ga
  have f3 := ga.bind (.ref x)
  refine wpAny_bind (wpAny_of_eq f3 ?_)
  show wpAny _ _ (call (.builtin "BaseException.__getattribute__") [.ref x, _]) _ _ _
  refine wpAny_call (codeAny_call_builtin ga.plain F.entry_bexc_ga (xc_check X (fun M => L0 M hh fun _ _ e => e) h7 ?_))
  repeat (any_goals (first | assumption | with_reducible refine Looks.at (by assumption) ?_ | wp_step))
  refine xc_get X (fun M => L0 M hh fun _ _ e => e) h6 ?_
  repeat (any_goals (first | assumption | with_reducible refine Looks.at (by assumption) ?_ | wp_step))
structure ExcI (K : Frag) (C : Addr) : Prop where
  c0 : hasDictIn K C = true
  c1 : findIn K (.ref C) "__getattribute__" = some (some (.builtin "BaseException.__getattribute__"))
  c2 : findIn K (.ref C) "__getattr__" = some none
  c3 : findIn K (.ref C) "__class__" = some (some (.builtin "object.__class__"))
  c4 : specialIn K (.builtin "object.__class__") "__get__" = some (some (.builtin "getset_descriptor.__get__"))
  c5 : takesIn K (.builtin "object.__class__") = some true
  c6 : mroIn K C (.type "object") = some true
  c7 : subIn K (.ref C) (.type "BaseException") = some true
theorem kitx_exc (Z : ExcI K C) : KitX K (.ref x) (.ref C) (L2.IsExc x (.ref C)) where
  ty := fun _ _ _ ⟨o, e, c⟩ => c ▸ (Looks.ld e).andThen .now
  it := fun _ _ X _ => by
    obtain ⟨cdD, hcD, _⟩ := any_some Z.c0
    unfold clsIn at hcD
    split at hcD
    · rename_i c' d' cd' sl' ho
      intro A' Q' E' s' k q
      unfold isType loadHead
      exact wpAny_bind (wpAny_loadPart (k _ _ (X _ _ ho)) (wpAny_pure q))
    · cases hcD
  ne := fun h tp dd its n sl X htp => by
    obtain ⟨cdD, hcD, _⟩ := any_some Z.c0
    refine Bool.eq_false_iff.mpr fun q => ?_
    have e : C = tp := Value.ref.inj (beq_iff_eq.mp q)
    subst e
    unfold clsIn at hcD
    split at hcD
    · rename_i c' d' cd' sl' ho
      have z := (X _ _ ho).symm.trans htp
      cases z
    · cases hcD
  ca := fun {prog w A E Q s} X I k => xc_class X (fun M h kk => by
    obtain ⟨o, e, c⟩ := I
    exact c ▸ (Looks.ld (kk _ _ e)).andThen .now) Z.c1 Z.c2 Z.c3 Z.c4 Z.c5 Z.c6 Z.c7 k
end
end PySem.W
set_option Elab.async false
set_option linter.all false
set_option maxRecDepth 100000
namespace L2
open PySem PySem.Spec PyProof.Rows
section
variable {X : Cx}
def tTry (K : PySem.W.Frag) (C : Addr) (i : Nat) (tb : XK → TS) (ts : TS) : TS := fun D σ H =>
  tb (fun cls _ H' => PySem.W.exmOne K cls (.ref C) = some true ∧ ∀ ea, H' ea = none →
    ts { nx := fun σ2 H2 => D.nx (σ2.set i none) H2, rt := D.rt, bk := fun σ2 H2 => D.bk (σ2.set i none) H2, ct := fun σ2 H2 => D.ct (σ2.set i none) H2 } (σ.set i (some (.ref ea))) (upd H' ea (.ext (IsExc ea cls)))) D σ H
theorem inv_at {pins : List (Addr × Obj)} {σ : St} {H1 H' : Hp} {s1 s' : Shared} {h6 B : Heap} {ea : Addr} {cls a0 : Value} (I : Inv X pins σ H1 s1) (os : s'.os = s1.os) (bare : AllBare s'.gens) (fl : FlyAt X.prog X.w X.stack H1 s1.heap H' s'.heap ea cls)
    (hfl : Heap.FlyingW B X.stack ea cls a0 s'.heap) (tr : ∀ b u o, H' b = some u → s'.heap.get? b = some o → B.get? b = some o) (kp : ∀ b o o', s1.heap.get? b = some o → s'.heap.get? b = some o' → b ∉ frs X.stack → B.get? b = some o')
    (h6l : Heap.FlyingW B X.stack ea cls a0 h6) (sm : s'.heap.UpToSlots h6) : Inv X pins σ H' { s' with heap := h6 } := by
  obtain ⟨un2, hok2⟩ := fly_un fl.un fl.hok hfl.2.2.1 tr kp h6l.1 sm
  exact I.call' (s' := { s' with heap := h6 }) (ch := []) os un2 hok2 bare (fun _ z => nomatch z)
theorem ps_try {body : List Stmt} {b₀ : Stmt} {suite : List Stmt} {x n : Str} {C : Addr} {i : Nat} {tb : XK → TS} {ts : TS} {np hpos pos : Pos} (hst : X.stack = X.env :: X.outer) (hf : X.env.frame = some X.env.locals) (hex : X.ex = []) (hb : PSXs X body tb) (hg : Gl X x) (hm : X.mg x = some (.ref C))
    (hN : X.N.Nodup) (hi : X.N[i]? = some n) (hk : X.env.scope.names.lookup n = some .local) (hs : ∀ ea, PSs (X.caught ea).nox (b₀ :: suite) ts) (hd : (x == ("__debug__" : Str)) = false := by decide) :
    PS X (.Try body [.ExceptHandler (some (.Name x np)) (some n) (b₀ :: suite) hpos] [] [] pos) (tTry X.K C i tb ts) := by
  intro pins s σ H D I h
  refine wpAny_Try_except (wpAny_mono (hb _ pins s σ H D I h) (fun f s1 q => ?_) fun e s' q => ?_)
  · cases f with
    | next => exact wpAny_execs_nil q
    | _ => exact q
  · obtain ⟨H1, s1, I1, H', ea, cls, rfl, os, bare, fl, hmt, k⟩ := q
    obtain ⟨B, a0, hfl, tr, kp⟩ := id fl.fly
    have up : ∀ {h6 : Heap}, Heap.FlyingW B (X.env :: X.outer) ea cls a0 h6 → s'.heap.UpToSlots h6 → Inv X pins σ H' { s' with heap := h6 } := fun z sm => inv_at I1 os bare fl hfl tr kp (by rw [hst]; exact z) sm
    have hfl' : Heap.FlyingW B (X.env :: X.outer) ea cls a0 s'.heap := by rw [← hst]; exact hfl
    refine wpAny_looks_onW (by rw [I1.ok.frames, hst]) hf hfl' fun h4 hh4 sm4 => ?_
    refine wpAny_landsW hh4 fun h5 hfl5 sm5 => ?_
    have I5 := up hfl5 (sm4.trans sm5)
    have hea : H' ea = none := by
      cases q : H' ea with
      | none => rfl
      | some u =>
        obtain ⟨o, e⟩ := (fl.hok ea u q).there
        have := tr ea u o q e
        rw [hfl.2.1] at this; cases this
    refine wpAny_handleBy_cons (codeAny_handlers_test (ld_glob (X := X.caught ea) (I5.caught ea) hg hm ?_ hd)) (by intro q; cases q)
    have LT : PySem.W.Looks (model X.prog X.w) h5 (typeOf (.ref ea)) cls := by
      obtain ⟨ob, e, c⟩ := hfl5.there
      exact c ▸ (PySem.W.Looks.ld e).andThen .now
    refine (PySem.W.exm_one I5.kIn LT hmt).here ?_
    refine codeAny_handlers_suite_as ?_
    refine lands_againW hfl5 fun h6 hfl6 sm6 => ?_
    have I6 := up hfl6 ((sm4.trans sm5).trans sm6)
    have e0 : ∀ b o, s1.heap.get? b = some o → b ≠ ea := fun b o e z => by rw [z, fl.new] at e; cases e
    have I7 : Inv X pins σ (upd H' ea (.ext (IsExc ea cls))) { s' with heap := h6 } := by
      refine I6.track hea ?_ ?_ (fun y c e => ?_) (fun p hp => ?_) ?_
      · cases q : X.s₀.heap.get? ea with
        | none => rfl
        | some o =>
          obtain ⟨o', e⟩ := I1.base.there ea o q (by rw [hex]; intro z; cases z)
          rw [fl.new] at e; cases e
      · obtain ⟨m, ⟨o, _, _, e, _⟩, _⟩ := I1.loc
        exact (e0 _ o e).symm
      · obtain ⟨v, o, ho, _⟩ := I1.cell y c e
        exact e0 c o ho
      · exact e0 _ _ (I1.pin p hp).1
      · obtain ⟨ob, e, c⟩ := hfl6.there
        exact ⟨⟨ob, e, c⟩, ⟨ob, e⟩, fun h1 h2 ⟨o1, e1, c1⟩ kk => ⟨o1, kk o1 e1, c1⟩⟩
    refine store_ok (X := X) I7 hN hi (Or.inl hk) (v := .ref ea) rfl (fun s8 I8 => ?_) (Or.inr hk)
    refine wpAny_mono (hs ea pins s8 _ _ _ ((I8.caught ea).wish _) (k ea hea)) (fun f s9 q9 => ?_) fun _ _ z => z.elim
    cases f with
    | next =>
      obtain ⟨σ', H9, I9, q'⟩ := q9
      exact unbind_ok (I9.unwish.uncaught I.ok) hN hi hk fun s10 I10 => ⟨_, _, I10, q'⟩
    | brk =>
      obtain ⟨σ', H9, I9, q'⟩ := q9
      exact unbind_ok (I9.unwish.uncaught I.ok) hN hi hk fun s10 I10 => ⟨_, _, I10, q'⟩
    | cont =>
      obtain ⟨σ', H9, I9, q'⟩ := q9
      exact unbind_ok (I9.unwish.uncaught I.ok) hN hi hk fun s10 I10 => ⟨_, _, I10, q'⟩
    | ret u =>
      obtain ⟨v, σ', H9, I9, r, q'⟩ := q9
      exact unbind_ok (I9.unwish.uncaught I.ok) hN hi hk fun s10 I10 => ⟨_, _, _, I10, r, q'⟩
end
section
variable {X : Cx} {k : Nat} {f C : Addr} {fd : FuncData} {ps : List Str} {sp : Sp} {x m : Str} {p pos apos : Pos} {e o : Expr} {es : List Expr} {ta : TE} {t : TA}
theorem run_fnX {E : XK} {pins : List (Addr × Obj)} {σ : St} {H : Hp} {s : Shared} {Q : VK} {us : List Value} {vs : List V} (F : FnOk X.prog X.w X.K X.mg X.base (CXR X.prog X.w) k f fd ps sp) (hr : Room k X.A) (hb : Binds X.K fd ps [])
    (I : Inv X pins σ H s) (r : Vals vs us) (h : sp vs H Q E) : wpAny (model X.prog X.w) X.A (call (.ref f) us) (EP X pins σ Q) (XR X pins σ E) s := by
  have hl : (us ++ []).length = ps.length := by rw [List.append_nil, ← r.length]; exact F.len _ _ _ _ h
  refine wpAny_call (codeAny_mono (F.run X.A X.stack s H ⟨us, []⟩ us vs Q E hr I.env0 (by have := hb s us I.kIn hl; rw [List.append_nil] at this; exact this) r h) fun r s' hq => ?_)
  cases r with
  | error e => exact ⟨H, s, I, hq⟩
  | ok fl =>
    cases fl with
    | ret u => exact I.after hq
    | next => exact False.elim hq
    | brk => exact False.elim hq
    | cont => exact False.elim hq
theorem pex_callD (F : FnD X.prog X.w X.K X.mg X.base k x ps sp) (hr : Room k X.A) (hg : Gl X x) (ha : PA X.nox (e :: es) t)
    (hdb : (x == ("__debug__" : Str)) = false := by decide) (he : starEach (e :: es) X.env = (false, eval e X.env) :: starEach es X.env := by rfl) (hpl : (backTo pos (starEach es X.env)).any (·.1) = false := by rfl) :
    PEX X (.Call (.Name x p) (e :: es) [] pos) fun E => tCall sp [] E t := by
  obtain ⟨f, fd, h1, h2, h3, h4⟩ := F.ex
  intro E pins s σ H Q I h
  refine wpAny_Call_Name_kw (ld_glob I hg h1 ?_ hdb)
  refine PySem.W.callWith_K (h₀ := X.base) I.ok.mod.kin h2 (wpAny_mono (ha pos pins s σ H _ (I.wish _) h) (fun us s1 ⟨vs, H1, I1, r, q⟩ => ⟨I1.kIn, ?_⟩) fun _ _ z => z.elim) he hpl
  have q' : sp (vs ++ []) H1 Q E := q
  rw [List.append_nil] at q'
  exact run_fnX h4 hr h3 I1.unwish r q'
end
def rIsiX (K : PySem.W.Frag) : List V → Hp → VK → Prop := fun xs H Q => ∃ ea C c b, xs = [.ref ea, c] ∧ H ea = some (.ext (IsExc ea (.ref C))) ∧ PySem.W.ExcI K C ∧
  ((∃ n, c = .ty n ∧ PySem.W.kitOne K (.ref C) (.type n) = some b) ∨ (∃ d, c = .ref d ∧ PySem.W.kitOne K (.ref C) (.ref d) = some b) ∨ ∃ (d : Addr) (ds : List Addr), c = .ref d ∧ H d = some (.tup (ds.map V.ref)) ∧ PySem.W.kitAny K (.ref C) (ds.map Value.ref) = some b) ∧ Q (.bl b) H
theorem vals_refs : ∀ {ds : List Addr} {us : List Value}, Vals (ds.map V.ref) us → us = ds.map Value.ref
  | [], _, .nil => rfl
  | _ :: _, _, .cons r t => by rw [vals_refs t, show _ = Value.ref _ from r]; rfl
theorem call_isiX {X : Cx} : CallR X (.builtin "isinstance") (rIsiX X.K) := by
  intro pins s σ H xs us Q I r h
  obtain ⟨ea, C, c, b, rfl, he, Z, hc, q⟩ := h
  obtain ⟨u, v, rfl, ru, rv⟩ := Vals.two r
  cases (show u = Value.ref ea from ru)
  have ob : IsExc ea (.ref C) s.heap := (I.hok ea _ he).1
  have kx := PySem.W.kitx_exc (x := ea) Z
  rcases hc with ⟨n, rfl, e⟩ | ⟨d, rfl, e⟩ | ⟨d, ds, rfl, hd, e⟩
  · cases (show v = Value.type n from rv)
    exact PySem.W.kia_one kx I.kIn ob e (fun z => nomatch z) fun tk => ⟨.bl b, H, I.tok tk, rfl, q⟩
  · cases (show v = Value.ref d from rv)
    exact PySem.W.kia_one kx I.kIn ob e (fun z => nomatch z) fun tk => ⟨.bl b, H, I.tok tk, rfl, q⟩
  · cases (show v = Value.ref d from rv)
    obtain ⟨_, its, rr, o, h1, h2, n, h3⟩ := (show ObjOk X.prog X.w H s.heap d (.tup (ds.map V.ref)) from I.hok d _ hd)
    have e2 := vals_refs rr
    subst e2
    obtain ⟨oc, od, oda, osl⟩ := o
    cases h2
    cases h3
    exact PySem.W.kia_tup kx I.kIn ob h1 e (fun z => nomatch z) fun tk => ⟨.bl b, H, I.tok tk, rfl, q⟩
end L2
set_option Elab.async false
set_option linter.all false
set_option maxRecDepth 100000
namespace L2
open PySem PySem.Spec PyProof.Rows
def closOf (cells : List (Str × Addr)) : List (Str × NameKind) → List (Str × Addr) → List (Str × Addr)
  | [], cs => cs
  | (n, k) :: r, cs => closOf cells r (if k == .free then (n, (cells.lookup n).getD 0) :: cs else cs)
theorem closureFor_eq {scope : Scope} {env : Env} (h : ∀ y ∈ scope.names, y.2 = .free → ∃ c, env.cells.lookup y.1 = some c) : closureFor scope env = pure (closOf env.cells scope.names []) := by
  simp only [closureFor]
  have all : ∀ (l : List (Str × NameKind)) (cs : List (Str × Addr)), (∀ y ∈ l, y.2 = .free → ∃ c, env.cells.lookup y.1 = some c) →
      (forIn l cs fun (x : Str × NameKind) (r : List (Str × Addr)) => match x with
        | (name, kind) => if (kind == NameKind.free) = true then do
            let __do_lift ← cellOf env name
            pure (ForInStep.yield ((name, __do_lift) :: r))
          else pure (ForInStep.yield r)) = (pure (closOf env.cells l cs) : Sem (List (Str × Addr))) := by
    intro l
    induction l with
    | nil => intro cs _; rfl
    | cons y r ih =>
      intro cs hy
      obtain ⟨n, k⟩ := y
      rw [List.forIn_cons]
      have hr : ∀ y ∈ r, y.2 = .free → ∃ c, env.cells.lookup y.1 = some c := fun y hm => hy y (List.mem_cons_of_mem _ hm)
      by_cases hk : k = .free
      · subst hk
        obtain ⟨c, hc⟩ := hy (n, .free) List.mem_cons_self rfl
        have hc' : env.cells.lookup n = some c := hc
        have e1 : cellOf env n = pure c := by unfold cellOf; rw [hc']
        simp only [beq_self_eq_true, if_true, e1, pure_bind]
        rw [ih _ hr]
        simp only [closOf, beq_self_eq_true, if_true, hc', Option.getD_some]
      · have hb : (k == NameKind.free) = false := by simpa using hk
        simp only [hb, Bool.false_eq_true, if_false, pure_bind]
        rw [ih _ hr]
        simp only [closOf, hb, Bool.false_eq_true, if_false]
  first
    | (rw [all scope.names [] h]; rfl)
    | (have := all scope.names [] h; simp only [this, pure_bind])
theorem closOf_sub {cells : List (Str × Addr)} : ∀ (l : List (Str × NameKind)) (cs : List (Str × Addr)) {y : Str} {c : Addr}, (closOf cells l cs).lookup y = some c → ((y, .free) ∈ l ∧ c = (cells.lookup y).getD 0) ∨ cs.lookup y = some c
  | [], _, _, _, h => .inr h
  | (n, k) :: r, cs, y, c, h => by
    rw [closOf] at h
    rcases closOf_sub r _ h with ⟨a, b⟩ | q
    · exact .inl ⟨List.mem_cons_of_mem _ a, b⟩
    · by_cases hk : k = .free
      · subst hk
        simp only [beq_self_eq_true, if_true, List.lookup_cons] at q
        by_cases hy : y = n
        · subst hy
          simp only [beq_self_eq_true] at q
          cases q
          exact .inl ⟨List.mem_cons_self, rfl⟩
        · have : (y == n) = false := by simpa using hy
          simp only [this] at q
          exact .inr q
      · have hb : (k == NameKind.free) = false := by simpa using hk
        simp only [hb, Bool.false_eq_true, if_false] at q
        exact .inr q
theorem closOf_keeps {cells : List (Str × Addr)} : ∀ (l : List (Str × NameKind)) (cs : List (Str × Addr)) {y : Str}, (∃ c, cs.lookup y = some c) ∨ (y, NameKind.free) ∈ l → ∃ c, (closOf cells l cs).lookup y = some c
  | [], _, _, h => by
    rcases h with h | h
    · exact h
    · cases h
  | (n, k) :: r, cs, y, h => by
    rw [closOf]
    refine closOf_keeps r _ ?_
    rcases h with ⟨c, h⟩ | h
    · refine .inl ?_
      split
      · rw [List.lookup_cons]
        split
        · exact ⟨_, rfl⟩
        · exact ⟨c, h⟩
      · exact ⟨c, h⟩
    · rcases List.mem_cons.mp h with e | e
      · cases e
        refine .inl ⟨(List.lookup n cells).getD 0, ?_⟩
        simp only [beq_self_eq_true, if_true, List.lookup_cons]
      · exact .inr e
structure CompSc (scope es : Scope) (x : Str) (N : List Str) : Prop where
  kind : scope.kind = .function
  cell : ∀ y ∈ scope.names, y.2 ≠ .cell
  nms : ∀ y ∈ scope.names, y.2 = .local → scope.names.lookup y.1 = some .local
  loc : scope.names.lookup x = some .local
  noe : scope.names.lookup ("" : Str) = none
  fre : ∀ y ∈ scope.names, y.2 = .free → es.names.lookup y.1 = some .cell ∨ es.names.lookup y.1 = some .free
  only : ∀ y ∈ scope.names, y.2 = .local → y.1 = x ∨ y.1 ∉ N
  nd : (x :: N.map fun y => if y = x then ("" : Str) else y).Nodup
theorem lookup_mem {α β : Type} [BEq α] [LawfulBEq α] : ∀ {l : List (α × β)} {x : α} {v : β}, l.lookup x = some v → (x, v) ∈ l
  | (n, k) :: r, x, v, h => by
    rw [List.lookup_cons] at h
    split at h
    · rename_i e; cases h; rw [eq_of_beq e]; exact List.mem_cons_self
    · exact List.mem_cons_of_mem _ (lookup_mem h)
theorem relabel_lookup {scope : Scope} {env : Env} : ∀ {l : List (Str × NameKind)} {y : Str} {k : NameKind}, (l.map fun (p : Str × NameKind) => match p with | (n, k) => if (k == .free && env.scope.kind == .function && env.kindOf n == some .cell) then (n, NameKind.cell) else (n, k)).lookup y = some k →
    l.lookup y = some k ∨ (k = .cell ∧ l.lookup y = some .free)
  | [], _, _, h => by simp at h
  | (n, k0) :: r, y, k, h => by
    rw [List.map_cons, List.lookup_cons] at h
    rw [List.lookup_cons]
    dsimp only at h
    split at h
    · rename_i e
      split at e
      · rename_i hc
        dsimp only at e h
        cases h
        have : k0 = .free := by simp only [Bool.and_eq_true, beq_iff_eq] at hc; exact hc.1.1
        subst this
        rw [e, if_pos hc]
        exact .inr ⟨rfl, rfl⟩
      · rename_i hc
        dsimp only at e h
        rw [e]
        rw [if_neg hc] at h
        exact .inl h
    · rename_i e
      have e' : (y == n) = false := by
        split at e <;> exact e
      rw [e']
      exact relabel_lookup (scope := scope) h
def compPostX (M : Model) (A : Around) (E : Value → Shared → Prop) (use : Option (Value → Sem Unit)) (Q : Value → Shared → Prop) (acc : Value) (cenv : Env) (r : Result) (s' : Shared) : Prop :=
  match r, use with
  | .ok _, none => ∃ m, s'.heap.Ns cenv.locals m ∧ ∀ h', Heap.SameBut cenv.locals s'.heap h' → Q acc { s' with heap := h' }
  | .ok _, some u => wpAny M A (u acc) (fun _ s'' => ∃ m, s''.heap.Ns cenv.locals m ∧ ∀ h', Heap.SameBut cenv.locals s''.heap h' → Q .none { s'' with heap := h' }) E s'
  | .error x, _ => ∃ m, s'.heap.Ns cenv.locals m ∧ ∀ h', Heap.SameBut cenv.locals s'.heap h' → wpAny M A (passOn "comprehension.variables-let-go" x cenv : Sem Value) (fun _ _ => False) E { s' with heap := h' }
theorem wpAny_comprehensionX {M : Model} {A : Around} {E : Value → Shared → Prop} {s : Shared} {env : Env} {e : Expr} {scope : Scope} {pos : Pos} {newAcc first : Sem Value} {g : Comprehension} {gs : List Comprehension} {cl : List (Str × Addr)} {use : Option (Value → Sem Unit)}
    {Q : Value → Shared → Prop}
    (hcl : clausesOf e = g :: gs) (hs : ∀ x, foldedSetIterable g.iter env x = pure x) (hclos : closureFor scope env = pure cl)
    (hkind : scope.kind = .function) (hnames : ∀ x ∈ scope.names, x.2 = .local → scope.names.lookup x.1 = some .local)
    (h : wpAny M A first (fun x s₁ => wpAny M A (pyIter x) (fun it s₂ => wpAny M A newAcc (fun acc s₃ =>
      wpAny M A (newFunctionEnv scope env.globals cl [] env.qual none .none (some env)) (fun cenv s₄ =>
        codeAny M A (.compStart e 0 it acc { cenv with scope := relabel scope env }) (compPostX M A E use Q acc { cenv with scope := relabel scope env }) s₄) E s₃) E s₂) E s₁) E s) :
    wpAny M A (comprehension e scope env pos newAcc false first use) Q E s := by
  unfold comprehension
  rw [hclos, hcl]
  refine wpAny_bind (wpAny_mono h (fun x s₁ h₁ => wpAny_bind (wpAny_standAt (wpAny_bind (wpAny_of_eq (hs x) (wpAny_bind (wpAny_holding (wpAny_mono h₁ (fun it s₂ h₂ =>
    wpAny_standIf (wpAny_bind (wpAny_mono h₂ (fun acc s₃ h₃ => wpAny_bind (wpAny_pure (wpAny_bind (wpAny_mono h₃ (fun cenv s₄ h₄ => ?_) fun _ _ h' => h')))) fun _ _ h' => h')))
      fun _ _ h' => h'))))))) fun _ _ h' => h')
  dsimp only
  have hv : ∀ x ∈ (scope.names.filter fun x => (x.2 == .local || x.2 == .cell) && x.1 != (".0" : Str)).reverse, x.2 = .local →
      Env.kindOf { cenv with scope := relabel scope env } x.1 = some .local := fun x hx hl => lookup_relabel_local (hnames x (List.mem_filter.mp (List.mem_reverse.mp hx)).1 hl)
  have hv' : ∀ x ∈ (scope.names.filter fun x => (x.2 == .local || x.2 == .cell) && x.1 != (".0" : Str)).reverse.drop 1 ++ (scope.names.filter fun x => (x.2 == .local || x.2 == .cell) && x.1 != (".0" : Str)).reverse.take 1,
      x.2 = .local → Env.kindOf { cenv with scope := relabel scope env } x.1 = some .local := fun x hx hl => by
    rcases List.mem_append.mp hx with h1 | h1
    · exact hv x (List.mem_of_mem_drop h1) hl
    · exact hv x (List.mem_of_mem_take h1) hl
  refine wpAny_holding (wpAny_bind (wpAny_attempt (wpAny_holding (wpAny_run (codeAny_mono h₄ fun r s' hr => ?_)))))
  cases r with
  | ok f =>
    cases use with
    | none =>
      obtain ⟨m, hn, hr⟩ := hr
      exact wpAny_bind (wpAny_holding (wpAny_comp_letGo (cenv := { cenv with scope := relabel scope env }) hkind _ s' m hv hn fun h' m' _ hs' => wpAny_pure (hr h' hs')))
    | some u =>
      refine wpAny_bind (wpAny_rule (wpAny_bind (wpAny_holding (wpAny_mono hr (fun _ s'' hr' => ?_) fun _ _ h' => h'))))
      obtain ⟨m, hn, hr'⟩ := hr'
      exact wpAny_bind (wpAny_comp_letGo (cenv := { cenv with scope := relabel scope env }) hkind _ s'' m hv' hn fun h' m' _ hs' => wpAny_pure (hr' h' hs'))
  | error x =>
    have hr' : ∃ m, s'.heap.Ns cenv.locals m ∧ ∀ h', Heap.SameBut cenv.locals s'.heap h' → wpAny M A (passOn "comprehension.variables-let-go" x { cenv with scope := relabel scope env } : Sem Value) (fun _ _ => False) E { s' with heap := h' } := by cases use <;> exact hr
    obtain ⟨m, hn, hr⟩ := hr'
    exact wpAny_bind (wpAny_holding (wpAny_comp_letGo (cenv := { cenv with scope := relabel scope env }) hkind _ s' m hv hn fun h' m' _ hs' => wpAny_mono (hr h' hs') (fun _ _ f => f.elim) fun _ _ y => y))
def Cx.comp (X : Cx) (scope : Scope) (x : Str) (pins : List (Addr × Obj)) (fp : List Addr) (s3 : Shared) (H3 : Hp) (E : Value → Shared → Prop) : Cx where
  prog := X.prog
  w := X.w
  K := X.K
  mg := X.mg
  base := X.base
  A := X.A
  N := x :: X.N.map fun y => if y = x then ("" : Str) else y
  s₀ := s3
  H₀ := H3
  env := compEnvC scope (closOf X.env.cells scope.names []) s3.heap.objs.size X.env
  outer := X.stack
  stack := X.stack
  ex := fp
  fn := fun _ => false
  calm := X.calm
  pn := X.pn ++ pins
  xe := E
section
variable {X : Cx} {pins : List (Addr × Obj)} {σ : St} {H3 : Hp} {s3 : Shared} {scope : Scope} {x : Str} {fp : List Addr} {E : Value → Shared → Prop}
theorem comp_kind {y : Str} (h : (compEnvC scope (closOf X.env.cells scope.names []) s3.heap.objs.size X.env).kindOf y = some .cell ∨ (compEnvC scope (closOf X.env.cells scope.names []) s3.heap.objs.size X.env).kindOf y = some .free) (hc : ∀ y ∈ scope.names, y.2 ≠ .cell) : (y, NameKind.free) ∈ scope.names := by
  rcases h with h | h
  · rcases relabel_lookup (scope := scope) (env := X.env) h with q | ⟨_, q⟩
    · exact absurd rfl (hc _ (lookup_mem q))
    · exact lookup_mem q
  · rcases relabel_lookup (scope := scope) (env := X.env) h with q | ⟨z, _⟩
    · exact lookup_mem q
    · cases z
theorem clos_cell (ok : X.Ok) (S : CompSc scope X.env.scope x X.N) {y : Str} {c : Addr} (h : (closOf X.env.cells scope.names []).lookup y = some c) : (y, NameKind.free) ∈ scope.names ∧ X.env.cells.lookup y = some c := by
  rcases closOf_sub scope.names [] h with ⟨a, b⟩ | q
  · obtain ⟨c', e⟩ := ok.has y (S.fre _ a rfl)
    rw [e] at b
    exact ⟨a, by rw [e, b]; rfl⟩
  · simp at q
theorem comp_ok (I : Inv X pins σ H3 s3) (S : CompSc scope X.env.scope x X.N) (hfp : ∀ b ∈ fp, FpOk X pins H3 b) (hfo : ∀ b ∈ fp, ∃ o, s3.heap.get? b = some o) : (X.comp scope x pins fp s3 H3 E).Ok where
  mod := I.ok.mod
  kind := S.kind
  glob := I.ok.glob
  blt := I.ok.blt
  above := Nat.le_refl _
  inj := fun y z c h1 h2 => I.ok.inj y z c (clos_cell I.ok S h1).2 (clos_cell I.ok S h2).2
  has := fun y h => closOf_keeps scope.names [] (.inr (comp_kind h S.cell))
  cab := fun _ _ h => nomatch h
  hd := I.ok.hd
  frames := I.ok.frames
  stk := .inl rfl
  exf := fun b hb => by
    obtain ⟨o, e⟩ := hfo b hb
    refine ⟨Nat.ne_of_lt (Heap.lt_size e), fun y c h => ?_⟩
    exact (hfp b hb).2.2.2.2.1 y c (clos_cell I.ok S h).2
  bs := I.bs
  bsz := Nat.le_trans I.ok.bsz I.sz
  noex := fun b o e hb => by
    rcases (hfp b hb).2.2.2.1 with z | z
    · exact I.ok.noex b o e z
    · exact absurd (Nat.lt_of_lt_of_le (Heap.lt_size e) (Nat.le_trans I.ok.bsz z)) (Nat.lt_irrefl _)
  exfs := fun b hb z => by
    rcases List.mem_cons.mp (I.stkSub b z) with q | q
    · exact (hfp b hb).2.1 q
    · exact (hfp b hb).2.2.1 q
  funs := I.stack
  frf := I.stkFree
theorem comp_start {s4 : Shared} (I : Inv X pins σ H3 s3) (S : CompSc scope X.env.scope x X.N) (hfp : ∀ b ∈ fp, FpOk X pins H3 b) (hfo : ∀ b ∈ fp, ∃ o, s3.heap.get? b = some o) {m : Str → Option Value} (hn : s4.heap.Ns s3.heap.objs.size m) (kk : ∀ b o, s3.heap.get? b = some o → s4.heap.get? b = some o)
    (os : s4.os = s3.os) (bare : AllBare s4.gens) : Inv (X.comp scope x pins fp s3 H3 E) [] (none :: σ) H3 s4 := by
  refine ⟨comp_ok I S hfp hfo, os, bare, Un.kept kk, ⟨m, hn, fun i y v h1 h2 h3 => ?_⟩, fun y c h => ?_, I.hok.fresh (Nat.le_refl _), fun y c h => I.freeC y c (clos_cell I.ok S h).2, fun p hp => ?_, I.hok.kept kk, ?_⟩
  · cases i with
    | zero => cases h2
    | succ i =>
      have h1' : (X.N.map fun y => if y = x then ("" : Str) else y)[i]? = some y := h1
      have h2' : σ[i]? = some (some v) := h2
      rw [List.getElem?_map] at h1'
      cases hN : X.N[i]? with
      | none => rw [hN] at h1'; cases h1'
      | some z =>
        rw [hN] at h1'
        have h1'' : (if z = x then ("" : Str) else z) = y := Option.some.inj h1'
        have vis : ∀ y, Vis (relabel scope X.env) y → y ≠ ("" : Str) := fun y hv e => by
          subst e
          have no : ∀ k, (relabel scope X.env).names.lookup ("" : Str) = some k → False := fun k h => by
            rcases relabel_lookup (scope := scope) (env := X.env) h with q | ⟨_, q⟩ <;> (rw [S.noe] at q; cases q)
          rcases hv with q | q | q <;> exact no _ q
        have hz : z ≠ x := fun e => by rw [if_pos e] at h1''; exact vis y h3 h1''.symm
        rw [if_neg hz] at h1''
        subst h1''
        -- z is seen by the block, and is no local of it: it is free there
        have hf : (z, NameKind.free) ∈ scope.names ∨ (relabel scope X.env).names.lookup z = some .local := by
          rcases h3 with q | q | q
          · exact .inr q
          · exact .inl (comp_kind (X := X) (s3 := s3) (.inl q) S.cell)
          · exact .inl (comp_kind (X := X) (s3 := s3) (.inr q) S.cell)
        have hfr : (z, NameKind.free) ∈ scope.names := by
          rcases hf with q | q
          · exact q
          · rcases relabel_lookup (scope := scope) (env := X.env) q with q | ⟨e, _⟩
            · rcases S.only _ (lookup_mem q) rfl with e | e
              · exact absurd e hz
              · exact absurd (List.mem_of_getElem? hN) e
            · cases e
        have hnl : (relabel scope X.env).names.lookup z ≠ some .local := fun q => by
          rcases relabel_lookup (scope := scope) (env := X.env) q with q | ⟨e, _⟩
          · rcases S.only _ (lookup_mem q) rfl with e | e
            · exact absurd e hz
            · exact absurd (List.mem_of_getElem? hN) e
          · cases e
        have hk := S.fre _ hfr rfl
        obtain ⟨m0, hn0, hl0⟩ := I.loc
        obtain ⟨u, r, l⟩ := hl0 i z v hN h2' (hk.elim (fun q => .inr (.inl q)) fun q => .inr (.inr q))
        refine ⟨u, r, .inr ⟨?_, ?_⟩⟩
        · rcases h3 with q | q | q
          · exact absurd q hnl
          · exact .inl q
          · exact .inr q
        · rcases l with ⟨k, _⟩ | ⟨_, c, e, hc⟩
          · have k' : X.env.scope.names.lookup z = some .local := k
            rcases hk with q | q <;> (rw [show List.lookup z X.env.scope.names = _ from k'] at q; cases q)
          · obtain ⟨c', e'⟩ := closOf_keeps (cells := X.env.cells) scope.names [] (.inr hfr)
            have := (clos_cell I.ok S e').2
            rw [e] at this; cases this
            obtain ⟨o, ho, hd⟩ := hc
            exact ⟨c, e', o, kk _ _ ho, hd⟩
  · obtain ⟨v, o, ho, hd⟩ := I.cell y c (clos_cell I.ok S h).2
    exact ⟨v, o, kk _ _ ho, hd⟩
  · have hp' : p ∈ X.pn ++ pins := by simpa [Cx.comp] using hp
    obtain ⟨a, b, c, d, e⟩ := I.pin p hp'
    refine ⟨kk _ _ a, b, Nat.ne_of_lt (Heap.lt_size a), fun z => ?_, e⟩
    rcases List.mem_cons.mp (I.stkSub _ z) with q | q
    · exact c q
    · exact d q
  · show (none :: σ).length = (x :: X.N.map fun y => if y = x then ("" : Str) else y).length
    rw [List.length_cons, List.length_cons, List.length_map, I.len]
end
end L2
set_option Elab.async false
set_option linter.all false
set_option maxRecDepth 100000
namespace L2
open PySem PySem.Spec PyProof.Rows
theorem fly_unX {P : Program} {w : World} {l : List Env} {ex : List Addr} {H H' : Hp} {h0 h h2 B : Heap} (un : Un (frs l) ex H H' h0 h) (hok : HOk P w H' h) (fr : h.FunFrames B l)
    (tr : ∀ b u o, H' b = some u → h.get? b = some o → B.get? b = some o) (kp : ∀ b o o', h0.get? b = some o → h.get? b = some o' → b ∉ frs l → b ∉ ex → B.get? b = some o') (st : B.StaysIn h2)
    (sm : ∀ b ∈ frs l, ∀ o, h.get? b = some o → (∀ vs, o.data ≠ .fields vs) → ∃ sl, h2.get? b = some { o with slots := sl }) : Un (frs l) ex H H' h0 h2 ∧ HOk P w H' h2 := by
  refine ⟨⟨fun b o q n hb hx => ?_, fun b o q n hb hx => ?_, un.free, fun b o q hx => ?_, un.tups, un.frzs, un.tbls⟩, fun a o e => ?_⟩
  · exact st b o (kp b o o q (un.keep b o q n hb hx) hb hx)
  · obtain ⟨sl, e⟩ := un.slot b o q n hb hx
    obtain ⟨_, o', ho', hd⟩ := fr.mem hb
    rw [e] at ho'; cases ho'
    obtain ⟨sl', e'⟩ := sm b hb _ e hd
    exact ⟨sl', e'⟩
  · obtain ⟨o', e⟩ := un.there b o q hx
    by_cases hb : b ∈ frs l
    · obtain ⟨_, o2, ho2, hd⟩ := fr.mem hb
      obtain ⟨sl', e'⟩ := sm b hb _ ho2 hd
      exact ⟨_, e'⟩
    · exact ⟨o', st b o' (kp b o o' q e hb hx)⟩
  · refine (hok a o e).stay (fun b u hb q => ?_) (fun _ q => q) fun _ _ q => q
    rcases hb with rfl | hb
    · exact st b u (tr b _ u e q)
    · exact st b u (tr b _ u hb q)
def HXR (X : Cx) (E : XK) : Value → Shared → Prop := fun e s'' => ∃ (pins : List (Addr × Obj)) (σ : St) (H' : Hp) (ea : Addr) (cls a0 : Value) (B : Heap), Inv X pins σ H' s'' ∧ e = .ref ea ∧ X.s₀.heap.get? ea = none ∧ Heap.HeldW B X.stack ea cls a0 X.env.locals s''.heap ∧
  (∀ b u o, H' b = some u → s''.heap.get? b = some o → B.get? b = some o) ∧ (∀ b o o', X.s₀.heap.get? b = some o → s''.heap.get? b = some o' → b ∉ frs X.stack → B.get? b = some o') ∧ E cls none H'
section
variable {P : Program} {w : World} {K : PySem.W.Frag} {mg : Str → Option Value} {base : Heap} {N : List Str} {qual : Str} {scope : Scope} {f : Addr} {cd : Value} {A : Around} {outer : List Env} {s : Shared} {H : Hp} {E : XK}
theorem passH : ∀ e s', HXR (cxR P w K mg base N qual scope f cd A outer s H E) E e s' → (cxR P w K mg base N qual scope f cd A outer s H E).xe e s' := by
  rintro e s' ⟨pins, σ, H', ea, cls, a0, B, I, rfl, new, hh, tr, kp, hE⟩
  have hfs : frs (envOfC qual scope s.heap.objs.size f cd :: outer) = s.heap.objs.size :: frs outer := frs_cons rfl
  have hL : s.heap.get? s.heap.objs.size = none := Heap.get?_none_of_le (Nat.le_refl _)
  have sub : ∀ x ∈ frs (envOfC qual scope s.heap.objs.size f cd :: outer), x = s.heap.objs.size ∨ x ∈ frs outer := fun x hx => by rw [hfs] at hx; exact List.mem_cons.mp hx
  show wpAny _ _ (leaving _ _) _ _ s'
  unfold leaving
  refine wpAny_bind (wpAny_noteFrame_againW (L := s.heap.objs.size) rfl hh.2.2.2 ?_)
  refine wpAny_landsW hh fun h2 hfl2 sm => ?_
  have fr : s'.heap.FunFrames B outer := hh.2.2.1.2.2
  have kp' : ∀ b o o', s.heap.get? b = some o → s'.heap.get? b = some o' → b ∉ frs outer → B.get? b = some o' := fun b o o' q q' hb => kp b o o' q q' fun z => (sub b z).elim (fun e => by rw [e, hL] at q; cases q) hb
  obtain ⟨un2, hok2⟩ := fly_un (l := outer) I.base I.hok fr tr kp' hfl2.1 sm
  obtain ⟨k1, k2, ⟨_, _, k3⟩, k4⟩ := hfl2
  refine ⟨H', ea, cls, rfl, I.os, I.bare, ⟨un2, hok2, new, B, a0, ⟨k1, k2, k3, k4⟩, fun b u o e q => ?_, fun b o o2 q q2 hb => ?_⟩, hE⟩
  · obtain ⟨o', e'⟩ := (I.hok b u e).there
    have h1 := tr b u o' e e'
    have h2' := k1 b o' h1
    rw [q] at h2'; cases h2'; exact h1
  · obtain ⟨o1, e1⟩ := I.base.there b o q (by intro z; cases z)
    have h1 := kp' b o o1 q e1 hb
    have h2' := k1 b o1 h1
    rw [q2] at h2'; cases h2'; exact h1
end
theorem funFrames_same {C : Addr} {h h' base : Heap} (hs : Heap.SameBut C h h') : ∀ {l : List Env}, (∀ b ∈ frs l, b ≠ C) → h.FunFrames base l → h'.FunFrames base l
  | [], _, _ => trivial
  | env :: l, hc, ⟨hk, ⟨L, o, hf, hn, ho, hd⟩, hr⟩ => ⟨hk, ⟨L, o, hf, hn, (hs.2 L (hc L (by rw [frs_cons hf]; exact List.mem_cons_self))).trans ho, hd⟩, funFrames_same hs (fun b hb => hc b (by rw [frs_cons hf]; exact List.mem_cons_of_mem _ hb)) hr⟩
theorem setFlight_held {M : Model} {A : Around} {E : Value → Shared → Prop} {s : Shared} {base : Heap} {l : List Env} {e L : Addr} {cls a0 : Value} {Q : Unit → Shared → Prop} (R : Heap.HeldW base l e cls a0 L s.heap)
    (h : ∀ h', Heap.HeldW base l e cls a0 L h' → s.heap.UpToSlots h' → Q () { s with heap := h' }) : wpAny M A (setFlight (.ref e) (some L)) Q E s := by
  obtain ⟨hkb, hen, hl, oe, vs, T, oT, ts, he, hcls, hd, h1, hnT, hTe, hT, hdT, h3⟩ := R
  have hsz3 : 3 < ts.size := (Array.getElem?_eq_some_iff.mp h3).1
  have other : ∀ b, b ≠ T → (s.heap.update T (Obj.mapFields (·.setIfInBounds 3 ((some L).elim Value.none fun f => rawInt f)))).get? b = s.heap.get? b :=
    fun b hb => Heap.get?_update_other _ _ (Ne.symm hb)
  have noRecord : ∀ b o, s.heap.get? b = some o → (∀ vs, o.data ≠ .fields vs) → b ≠ T := fun b o hb hnf q => by
    rw [q, hT] at hb; injection hb with hb; subst hb; exact hnf ts hdT
  unfold setFlight
  refine wpAny_bind (wpAny_field he hd h1 ?_)
  rw [if_pos (show (Value.ref T != Value.none) = true from by simp)]
  refine wpAny_setField hT hdT hsz3 (h _ ⟨fun b o hbo => (other b fun q => by rw [q, hnT] at hbo; cases hbo).trans (hkb b o hbo), hen,
    hl.of_keeps fun b o hb hnf => ⟨o, (other b (noRecord b o hb hnf)).trans hb, rfl⟩, ?_⟩ fun b o hb hnf => ⟨o.slots, (other b (noRecord b o hb hnf)).trans hb⟩)
  exact ⟨oe, vs, T, _, _, (other e (Ne.symm hTe)).trans he, hcls, hd, h1, hnT, hTe, Heap.get?_update_self _ hT (Obj.isFreed_of_fields (Obj.data_mapFields hdT _)), Obj.data_mapFields hdT _, by simp [hsz3]⟩
theorem passOn_held {α : Type} {M : Model} {A : Around} {E : Value → Shared → Prop} {s : Shared} {base : Heap} {l : List Env} {e L : Addr} {cls a0 : Value} {what : String} {env : Env} {Q : α → Shared → Prop} (hf : env.frame = some L) (R : Heap.HeldW base l e cls a0 L s.heap)
    (h : ∀ h', Heap.HeldW base l e cls a0 L h' → s.heap.UpToSlots h' → E (.ref e) { s with heap := h' }) : wpAny M A (PySem.passOn what (.ref e) env : Sem α) Q E s := by
  obtain ⟨_, _, _, oe, vs, T, oT, ts, he, hcls, hd, h1, _⟩ := id R
  unfold PySem.passOn
  refine wpAny_bind (wpAny_field he hd h1 ?_)
  rw [if_neg (show ¬ ((Value.ref T == Value.none) = true) from by simp), hf]
  first
    | exact wpAny_bind (wpAny_pure (wpAny_bind (setFlight_held R fun h' hh hs => wpAny_throw (h h' hh hs))))
    | exact wpAny_bind (setFlight_held R fun h' hh hs => wpAny_throw (h h' hh hs))
theorem held_same {C L e : Addr} {h h' B : Heap} {l : List Env} {cls a0 : Value} {m : Str → Option Value} (R : Heap.HeldW B l e cls a0 L h) (hn : h.Ns C m) (hc : ∀ b ∈ frs l, b ≠ C) (hs : Heap.SameBut C h h') : Heap.HeldW (PySem.W.hideAll B [C]) l e cls a0 L h' := by
  have hB : (PySem.W.hideAll B [C]).StaysIn B := fun b o q => PySem.W.of_hideAll _ q
  obtain ⟨f1, f2, f3, oe, vs, T, oT, ts, a1, a2, a3, a4, a5, a6, a7, a8, a9⟩ := PySem.W.heldW_base hB R
  obtain ⟨oC, es, ep, hoC, hdC, _⟩ := hn
  have ne : e ≠ C := fun z => by rw [z, hoC] at a1; cases a1; rw [hdC] at a3; cases a3
  have nT : T ≠ C := fun z => by rw [z, hoC] at a7; cases a7; rw [hdC] at a8; cases a8
  refine ⟨fun b o q => ?_, f2, funFrames_same hs hc f3, oe, vs, T, oT, ts, (hs.2 e ne).trans a1, a2, a3, a4, a5, a6, (hs.2 T nT).trans a7, a8, a9⟩
  have nb : b ≠ C := fun z => by rw [z, PySem.W.hideAll_none _ (by simp)] at q; cases q
  exact (hs.2 b nb).trans (f1 b o q)
section
variable {X : Cx} {pins : List (Addr × Obj)} {σ : St} {H3 : Hp} {s3 : Shared} {scope : Scope} {x : Str} {fp : List Addr}
abbrev XC (Xb : Cx) (E : XK) : Value → Shared → Prop := fun e s' => ∃ (pins' : List (Addr × Obj)) (σ' : St) (H1 : Hp) (s1 : Shared), Inv Xb pins' σ' H1 s1 ∧ CXR Xb.prog Xb.w Xb.stack H1 s1 E e s'
theorem noteFrame_eq {e : Value} {env env' : Env} (h : env.frame = env'.frame) : noteFrame e env = noteFrame e env' := by
  unfold noteFrame PySem.frameOf
  rw [h]
theorem comp_raised {E : XK} {Q : Value → Shared → Prop} {use : Option (Value → Sem Unit)} {acc : Value} {cenv : Env} {e : Value} {s' : Shared} (hst : X.stack = X.env :: X.outer) (hf : X.env.frame = some X.env.locals) (hex : X.ex = []) (I : Inv X pins σ H3 s3)
    (hfp : ∀ b ∈ fp, FpOk X pins H3 b) (hxh : ∀ e s, HXR X E e s → X.xe e s) (hcf : cenv.frame = X.env.frame) (hcl : cenv.locals = s3.heap.objs.size) (h : XC (X.comp scope x pins fp s3 H3 fun _ _ => False) E e s') :
    notedBy (model X.prog X.w) X.A cenv (fun x s'' => compPostX (model X.prog X.w) X.A X.xe use Q acc cenv (.error x) s'') e s' := by
  obtain ⟨pins', σ', H1, s1, Ib, H', ea, cls, rfl, os, bare, fl, hE⟩ := h
  have fl : FlyAt X.prog X.w X.stack H1 s1.heap H' s'.heap ea cls := fl
  have osb : s1.os = s3.os := Ib.os
  have unb : Un (frs X.stack) fp H3 H1 s3.heap s1.heap := Ib.base
  obtain ⟨B, a0, hfl, tr, kp⟩ := fl.fly
  have fr := hfl.2.2.1
  have hfl' : Heap.FlyingW B (X.env :: X.outer) ea cls a0 s'.heap := by rw [← hst]; exact hfl
  have nfr : ∀ b ∈ frs X.stack, b ≠ s3.heap.objs.size := fun b hb z => by
    obtain ⟨_, o, ho, _⟩ := I.stack.mem hb
    exact absurd (Heap.lt_size ho) (by rw [z]; exact Nat.lt_irrefl _)
  show wpAny _ _ (noteFrame _ cenv) _ _ _
  rw [noteFrame_eq hcf]
  refine wpAny_looks_onW (by rw [I.ok.frames, hst]) hf hfl' fun h4 hh4 sm4 => ?_
  obtain ⟨m1, hn1, _⟩ := Ib.loc
  have hn1 : s1.heap.Ns s3.heap.objs.size m1 := hn1
  obtain ⟨un4, hok4⟩ := fly_un fl.un fl.hok fr tr kp hh4.1 sm4
  have hC1 : H1 s3.heap.objs.size = none := Ib.free
  have hC' : H' s3.heap.objs.size = none := by
    obtain ⟨o, _, _, ho, _⟩ := hn1
    exact fl.un.free _ o ho hC1 (by intro z; cases z)
  have hn4 : h4.Ns s3.heap.objs.size m1 := hn1.at' fun o ho => un4.keep _ o ho hC1 (fun z => nfr _ z rfl) (by intro z; cases z)
  refine ⟨m1, by rw [hcl]; exact hn4, fun h' hs' => ?_⟩
  rw [hcl] at hs'
  have hh' : Heap.HeldW (PySem.W.hideAll B [s3.heap.objs.size]) X.stack ea cls a0 X.env.locals h' := held_same (by rw [hst]; exact hh4) hn4 nfr hs'
  refine passOn_held (s := { s' with heap := h' }) (hcf.trans hf) hh' fun h2 hh2 sm2 => ?_
  have hB : ∀ b o, B.get? b = some o → b ≠ s3.heap.objs.size → (PySem.W.hideAll B [s3.heap.objs.size]).get? b = some o := fun b o q n => PySem.W.hideAll_get _ q (by simpa using n)
  have tr' : ∀ b u o, H' b = some u → s'.heap.get? b = some o → (PySem.W.hideAll B [s3.heap.objs.size]).get? b = some o := fun b u o q qo => hB b o (tr b u o q qo) fun z => by rw [z, hC'] at q; cases q
  have kp' : ∀ b o o', s3.heap.get? b = some o → s'.heap.get? b = some o' → b ∉ frs X.stack → b ∉ fp → (PySem.W.hideAll B [s3.heap.objs.size]).get? b = some o' := fun b o o' q q' hb hx => by
    obtain ⟨o1, e1⟩ := unb.there b o q hx
    exact hB b o' (kp b o1 o' e1 q' hb) (Nat.ne_of_lt (Heap.lt_size q))
  have fr' : s'.heap.FunFrames (PySem.W.hideAll B [s3.heap.objs.size]) X.stack := PySem.W.funFrames_base (fun b o q => PySem.W.of_hideAll _ q) fr
  have sm' : ∀ b ∈ frs X.stack, ∀ o, s'.heap.get? b = some o → (∀ vs, o.data ≠ .fields vs) → ∃ sl, h2.get? b = some { o with slots := sl } := fun b hb o q hd => by
    obtain ⟨sl, e⟩ := sm4 b o q hd
    have e' : h'.get? b = some { o with slots := sl } := (hs'.2 b (nfr b hb)).trans e
    obtain ⟨sl2, e2⟩ := sm2 b _ e' hd
    exact ⟨sl2, e2⟩
  have unA : Un (frs X.stack) fp H3 H' s3.heap s'.heap := unb.trans (fl.un.mono (fun _ z => z) (fun _ z => nomatch z))
  obtain ⟨un2, hok2⟩ := fly_unX unA fl.hok fr' tr' kp' hh2.1 sm'
  have I2 : Inv X pins σ H' { s' with heap := h2 } := I.call' (s' := { s' with heap := h2 }) (ch := fp) (os.trans osb) un2 hok2 bare fun b hb => ⟨(hfp b hb).2.2.2.1, (hfp b hb).2.1, (hfp b hb).2.2.2.2.1, (hfp b hb).2.2.2.2.2⟩
  have nx : ∀ b o, X.s₀.heap.get? b = some o → b ∉ fp := fun b o q z => by
    rcases (hfp b z).2.2.2.1 with y | y
    · rw [hex] at y; cases y
    · exact absurd (Nat.lt_of_lt_of_le (Heap.lt_size q) y) (Nat.lt_irrefl _)
  have in3 : ∀ b o, X.s₀.heap.get? b = some o → ∃ o', s3.heap.get? b = some o' := fun b o q => I.base.there b o q (by rw [hex]; intro z; cases z)
  refine hxh _ _ ⟨pins, σ, H', ea, cls, a0, _, I2, rfl, ?_, hh2, fun b u o q qo => ?_, fun b o o2 q q2 hb => ?_, hE⟩
  · cases q : X.s₀.heap.get? ea with
    | none => rfl
    | some o =>
      obtain ⟨o3, e3⟩ := in3 ea o q
      obtain ⟨o1, e1⟩ := unb.there ea o3 e3 (nx ea o q)
      rw [fl.new] at e1; cases e1
  · obtain ⟨o', e'⟩ := (fl.hok b u q).there
    have h1 := tr' b u o' q e'
    have h2' := hh2.1 b o' h1
    rw [qo] at h2'; cases h2'; exact h1
  · obtain ⟨o3, e3⟩ := in3 b o q
    obtain ⟨o1, e1⟩ := unA.there b o3 e3 (nx b o q)
    have h1 := kp' b o3 o1 e3 e1 hb (nx b o q)
    have h2' := hh2.1 b o1 h1
    rw [q2] at h2'; cases h2'; exact h1
end
end L2
namespace L2
open PySem PySem.Spec PyProof.Rows
def tComp (wi : TI) (tt : TT) (te : TE) : TE := fun σ H Q => wi σ H fun J H1 => ∀ p, H1 p = none → ∃ W : Nat → Nat → List V → Hp → Prop, (∃ m, W 0 m [] (upd H1 p (.lst []))) ∧ ∀ i m acc H2, W i m acc H2 →
  H2 p = some (.lst acc) ∧ ((J.stop i H2 ∧ Q (.ref p) H2) ∨ (J.go i H2 ∧ ∃ N : List V → Hp → Prop, (∀ acc' H', N acc' H' → ∃ m', m' < m ∧ W (i + 1) m' acc' H') ∧ ∀ x H3, J.yld i H2 x H3 → tt (some x :: σ) H3 fun b H4 =>
    if b = true then te (some x :: σ) H4 fun v H5 => H5 p = some (.lst acc) ∧ acc.length < sizeLine ∧ N (acc ++ [v]) (upd H5 p (.lst (acc ++ [v]))) else N acc H4))
def tYes : TT := fun _ H Q => Q true H
def PTs (X : Cx) (ifs : List Expr) (t : TT) : Prop :=
  ∀ (pins : List (Addr × Obj)) (s : Shared) (σ : St) (H : Hp) (Q : Bool → Hp → Prop), Inv X pins σ H s → t σ H Q → wpAny (model X.prog X.w) X.A (forIn ifs true fun c r => if r = true then do let ok ← isTrue c X.env (eval c X.env); pure (ForInStep.yield ok) else pure (ForInStep.yield r)) (TP X pins σ Q) X.xe s
theorem pts_nil {X : Cx} : PTs X [] tYes := fun pins s σ H Q I h => wpAny_tests_nil ⟨H, I, h⟩
section
variable {X : Cx} {pins : List (Addr × Obj)} {σ : St} {H3 : Hp} {s3 : Shared} {scope : Scope} {x : Str} {fp : List Addr}
theorem comp_fp {E : Value → Shared → Prop} {H' : Hp} (I : Inv X pins σ H3 s3) (S : CompSc scope X.env.scope x X.N) (hfp : ∀ b ∈ fp, FpOk X pins H3 b) (hfo : ∀ b ∈ fp, ∃ o, s3.heap.get? b = some o) (hn : ∀ b ∈ fp, H' b = none) : ∀ b ∈ fp, FpOk (X.comp scope x pins fp s3 H3 E) [] H' b := fun b hb => by
  obtain ⟨o, e⟩ := hfo b hb
  refine ⟨hn b hb, Nat.ne_of_lt (Heap.lt_size e), fun z => ?_, .inl hb, fun y c h => (hfp b hb).2.2.2.2.1 y c (clos_cell I.ok S h).2, fun p hp => (hfp b hb).2.2.2.2.2 p (by simpa [Cx.comp] using hp)⟩
  rcases List.mem_cons.mp (I.stkSub b z) with q | q
  · exact (hfp b hb).2.1 q
  · exact (hfp b hb).2.2.1 q
theorem comp_left {E : Value → Shared → Prop} {pins' : List (Addr × Obj)} {σ' : St} {H' : Hp} {s' : Shared} (I : Inv X pins σ H3 s3) (hfp : ∀ b ∈ fp, FpOk X pins H3 b) (J : Inv (X.comp scope x pins fp s3 H3 E) pins' σ' H' s') : Inv X pins σ H' s' :=
  I.call' (ch := fp) J.os J.base J.hok J.bare fun b hb => ⟨(hfp b hb).2.2.2.1, (hfp b hb).2.1, (hfp b hb).2.2.2.2.1, (hfp b hb).2.2.2.2.2⟩
theorem comp_turned {E : Value → Shared → Prop} {H' : Hp} {σ'' : St} {s' s'' : Shared} {h' : Heap} (I : Inv X pins σ H3 s3) (J : Inv X pins σ'' H' s'') (hC : H' s3.heap.objs.size = none) (hs : Heap.SameBut s3.heap.objs.size s''.heap h') : Inv X pins σ'' H' { s'' with heap := h' } := by
  refine J.turned (t' := s''.toks) (fun b o hb e => (hs.2 b hb).trans e) hC (Nat.ne_of_gt I.lt) (.inr I.sz) (fun y c e z => ?_) fun p hp z => ?_
  · obtain ⟨v, q⟩ := I.cell y c e
    exact absurd q.lt (by rw [z]; exact Nat.lt_irrefl _)
  · exact absurd (Heap.lt_size (I.pin p hp).1) (by rw [z]; exact Nat.lt_irrefl _)
theorem compLoop_any {prog : Program} {w : World} {A : Around} {R : Result → Shared → Prop} {s : Shared} {elt target iter : Expr} {ifs : List Expr} {scope : Scope} {pos : Pos} {it acc : Value} {env : Env} (I : Nat → Shared → Prop)
    (turn : ∀ n s, I n s → wpAny (model prog w) A (pyNext it) (fun r s₁ => match r with
      | none => R (.ok .next) s₁
      | some v => wpAny (model prog w) A (letOwnedTupleGo target it v) (fun _ s₁' => wpAny (model prog w) A (assign target env v) (fun _ s₂ =>
          wpAny (model prog w) A (forIn ifs true fun c r => if r = true then do let ok ← isTrue c env (eval c env); pure (ForInStep.yield ok) else pure (ForInStep.yield r)) (fun ok s₃ =>
            if ok = true then wpAny (model prog w) A (eval elt env) (fun x s₄ =>
              wpAny (model prog w) A (call (.builtin "list.append") [acc, x]) (fun _ s₅ => ∃ m, m < n ∧ I m s₅) (notedBy (model prog w) A env fun e s' => R (.error e) s') s₄) (notedBy (model prog w) A env fun e s' => R (.error e) s') s₃
            else ∃ m, m < n ∧ I m s₃) (notedBy (model prog w) A env fun e s' => R (.error e) s') s₂) (notedBy (model prog w) A env fun e s' => R (.error e) s') s₁') (notedBy (model prog w) A env fun e s' => R (.error e) s') s₁) (notedBy (model prog w) A env fun e s' => R (.error e) s') s)
    (n : Nat) (h : I n s) :
    codeAny (model prog w) A (.compLoop (.ListComp elt [⟨target, iter, ifs, 0⟩] scope pos) 0 it acc env) R s := by
  refine codeAny_loop rfl I (fun n s hI => ?_) n h
  show wpAny _ A ((compTurn (.ListComp elt [⟨target, iter, ifs, 0⟩] scope pos) 0 it acc env).onRaise (fun x => do noteFrame x env; theTreesLotGoes x)) _ _ s
  refine wpAny_noted ?_
  rw [compTurn_list]
  refine wpAny_bind (wpAny_standAt (wpAny_bind (wpAny_mono (turn n s hI) (fun r s₁ h₁ => ?_) fun _ _ h' => h')))
  cases r with
  | none => exact wpAny_pure h₁
  | some v =>
    refine wpAny_bind (wpAny_mono h₁ (fun _ s₁' h₁' => ?_) fun _ _ h' => h')
    refine wpAny_bind (wpAny_mono h₁' (fun _ s₂ h₂ => wpAny_bind (wpAny_mono h₂ (fun ok s₃ h₃ => ?_) fun _ _ h' => h')) fun _ _ h' => h')
    cases ok with
    | false => exact wpAny_pure ⟨rfl, h₃⟩
    | true =>
      exact wpAny_bind (wpAny_bind (wpAny_mono h₃ (fun x s₄ h₄ => wpAny_bind (wpAny_mono h₄ (fun _ s₅ h₅ => wpAny_pure (wpAny_pure ⟨rfl, h₅⟩)) fun _ _ h' => h')) fun _ _ h' => h'))
theorem comp_block {E : XK} {use : Option (Value → Sem Unit)} {QQ : Value → Shared → Prop} {elt iter : Expr} {px : Pos} {ifs : List Expr} {pos : Pos} {tt : TT} {te : TE} {it : Addr} {tn : Nat → Heap → Prop} {J : It} {Q : VK} {H2 : Hp} {s2 : Shared}
    (hc : X.calm = true) (hst : X.stack = X.env :: X.outer) (hf : X.env.frame = some X.env.locals) (hex : X.ex = []) (hxh : ∀ e s, HXR X E e s → X.xe e s) (S : CompSc scope X.env.scope x X.N)
    (ht : ∀ (pins : List (Addr × Obj)) (fp : List Addr) (s3 : Shared) (H3 : Hp), PTs ((X.comp scope x pins fp s3 H3 fun _ _ => False).wish (XC (X.comp scope x pins fp s3 H3 fun _ _ => False) E)) ifs tt)
    (he : ∀ (pins : List (Addr × Obj)) (fp : List Addr) (s3 : Shared) (H3 : Hp), PE ((X.comp scope x pins fp s3 H3 fun _ _ => False).wish (XC (X.comp scope x pins fp s3 H3 fun _ _ => False) E)) elt te)
    (I2 : Inv X pins σ H2 s2) (T : Turn X.prog X.w X.K (.Name x px) J fp it tn) (st2 : tn 0 s2.heap) (f2 : ∀ b ∈ fp, FpOk X pins H2 b)
    (h : ∀ p, H2 p = none → ∃ W : Nat → Nat → List V → Hp → Prop, (∃ m, W 0 m [] (upd H2 p (.lst []))) ∧ ∀ i m acc H2, W i m acc H2 →
      H2 p = some (.lst acc) ∧ ((J.stop i H2 ∧ Q (.ref p) H2) ∨ (J.go i H2 ∧ ∃ N : List V → Hp → Prop, (∀ acc' H', N acc' H' → ∃ m', m' < m ∧ W (i + 1) m' acc' H') ∧ ∀ x H3, J.yld i H2 x H3 → tt (some x :: σ) H3 fun b H4 =>
        if b = true then te (some x :: σ) H4 fun v H5 => H5 p = some (.lst acc) ∧ acc.length < sizeLine ∧ N (acc ++ [v]) (upd H5 p (.lst (acc ++ [v]))) else N acc H4)))
    (fin : ∀ (s3 : Shared) (H3 : Hp) (p : Addr) (s' : Shared) (H' : Hp) (m : Str → Option Value), Inv X pins σ H3 s3 → Inv X pins σ H' s' → H' s3.heap.objs.size = none → s'.heap.Ns s3.heap.objs.size m → Q (.ref p) H' → ∀ cenv : Env, cenv.locals = s3.heap.objs.size → compPostX (model X.prog X.w) X.A X.xe use QQ (.ref p) cenv (.ok .next) s') :
    wpAny (model X.prog X.w) X.A (newList []) (fun acc s₃ => wpAny (model X.prog X.w) X.A (newFunctionEnv scope X.env.globals (closOf X.env.cells scope.names []) [] X.env.qual none .none (some X.env)) (fun cenv s₄ =>
      codeAny (model X.prog X.w) X.A (.compStart (.ListComp elt [⟨.Name x px, iter, ifs, 0⟩] scope pos) 0 (.ref it) acc { cenv with scope := relabel scope X.env }) (compPostX (model X.prog X.w) X.A X.xe use QQ acc { cenv with scope := relabel scope X.env }) s₄) X.xe s₃) X.xe s2 := by
  have hp : H2 s2.heap.objs.size = none := I2.hok.fresh (Nat.le_refl _)
  obtain ⟨W, ⟨m0, w0⟩, turn⟩ := h _ hp
  refine wpAny_newObj_type (wpAny_newFunctionEnv S.cell (by intro y hy; simp at hy) (fun h₁ hns₁ hsb₁ => ?_) S.kind)
  generalize hs3 : ({ s2 with heap := s2.heap.push { cls := .type "list", dict := none, data := .seq ([] : List Value).toArray } } : Shared) = s3
  have eh3 : s3.heap = s2.heap.push { cls := .type "list", dict := none, data := .seq ([] : List Value).toArray } := by rw [← hs3]
  have I3 : Inv X pins σ (upd H2 s2.heap.objs.size (.lst [])) s3 := by
    rw [← hs3]
    exact I2.laid (t' := s2.toks) (fun b o e => Heap.get?_push_of_some _ e) (Nat.le_refl _) ⟨by show 0 ≤ sizeLine; exact Nat.zero_le _, [], 0, .nil, Heap.get?_push_size _ rfl⟩
  have f3 : ∀ b ∈ fp, FpOk X pins (upd H2 s2.heap.objs.size (.lst [])) b := fun b hb => ⟨by
    obtain ⟨o, e, _⟩ := T.obj _ _ st2 b hb
    rw [upd_ne (Nat.ne_of_lt (Heap.lt_size e))]; exact (f2 b hb).1, (f2 b hb).2⟩
  have o3 : ∀ b ∈ fp, ∃ o, s3.heap.get? b = some o := fun b hb => by
    obtain ⟨o, e, _⟩ := T.obj _ _ st2 b hb
    exact ⟨o, by rw [eh3]; exact Heap.get?_push_of_some _ e⟩
  have hns₁ : h₁.Ns s3.heap.objs.size (fun x => ([] : List (Str × Value)).reverse.lookup x) := by rw [eh3]; exact hns₁
  have kk : ∀ b o, s3.heap.get? b = some o → h₁.get? b = some o := fun b o e => hsb₁.extBut b o (by
    have := Heap.lt_size e
    rw [eh3] at this
    exact Nat.ne_of_lt this) (Heap.get?_push_of_some _ (by rw [← eh3]; exact e))
  generalize hs4 : ({ s3 with heap := h₁, toks := s3.toks + ([] : List (Str × Value)).length } : Shared) = s4
  have eh4 : s4.heap = h₁ := by rw [← hs4]
  have I4 : Inv (X.comp scope x pins fp s3 (upd H2 s2.heap.objs.size (.lst [])) fun _ _ => False) [] (none :: σ) (upd H2 s2.heap.objs.size (.lst [])) s4 := comp_start I3 S f3 o3 (by rw [eh4]; exact hns₁) (by rw [eh4]; exact kk) (by rw [← hs4]) (by rw [← hs4]; exact I3.bare)
  have st4 : tn 0 s4.heap := T.keep _ _ _ st2 fun b hb o e => by rw [eh4]; exact kk b o (by rw [eh3]; exact Heap.get?_push_of_some _ e)
  have loop : codeAny (model X.prog X.w) X.A (.compLoop (.ListComp elt [⟨.Name x px, iter, ifs, 0⟩] scope pos) 0 (.ref it) (.ref s2.heap.objs.size) (compEnvC scope (closOf X.env.cells scope.names []) s3.heap.objs.size X.env))
      (compPostX (model X.prog X.w) X.A X.xe use QQ (.ref s2.heap.objs.size) (compEnvC scope (closOf X.env.cells scope.names []) s3.heap.objs.size X.env)) s4 := by
    have raised : ∀ e s', XC (X.comp scope x pins fp s3 (upd H2 s2.heap.objs.size (.lst [])) fun _ _ => False) E e s' → notedBy (model X.prog X.w) X.A (compEnvC scope (closOf X.env.cells scope.names []) s3.heap.objs.size X.env) (fun x s'' => compPostX (model X.prog X.w) X.A X.xe use QQ (.ref s2.heap.objs.size) (compEnvC scope (closOf X.env.cells scope.names []) s3.heap.objs.size X.env) (.error x) s'') e s' :=
      fun e s' h => comp_raised hst hf hex I3 f3 hxh rfl rfl h
    refine compLoop_any (fun n s' => ∃ i acc H' v0, Inv (X.comp scope x pins fp s3 (upd H2 s2.heap.objs.size (.lst [])) fun _ _ => False) [] (v0 :: σ) H' s' ∧ tn i s'.heap ∧ (∀ b ∈ fp, H' b = none) ∧ W i n acc H') ?_ m0 ⟨0, [], _, none, I4, st4, fun b hb => (f3 b hb).1, w0⟩
    rintro n s5 ⟨i, acc, H5, v0, I5, st5, fr5, w5⟩
    obtain ⟨hacc, hh⟩ := turn i n acc H5 w5
    rcases hh with ⟨stop, q⟩ | ⟨go, N, hN, step⟩
    · refine thn (T.done (X.comp scope x pins fp s3 (upd H2 s2.heap.objs.size (.lst [])) fun _ _ => False) rfl rfl rfl hc i [] s5 _ H5 _ I5 (comp_fp I3 S f3 o3 fr5) st5 stop) fun r s6 ⟨hr, I6⟩ => ?_
      subst hr
      obtain ⟨m6, hn6, _⟩ := id I6.loc
      exact fin s3 _ _ s6 H5 m6 I3 (comp_left I3 f3 I6) I6.free hn6 q _ rfl
    · refine thn (T.item (X.comp scope x pins fp s3 (upd H2 s2.heap.objs.size (.lst [])) fun _ _ => False) rfl rfl rfl hc i [] s5 _ H5 _ I5 (comp_fp I3 S f3 o3 fr5) st5 go) fun r s6 ⟨u, hr, h6⟩ => ?_
      subst hr
      refine thn h6 fun _ s7 ⟨y, H7, I7, r7, y7, st7, fr7⟩ => ?_
      have I7' := I7.pinned (comp_fp I3 S f3 o3 fr7) (T.obj _ _ st7)
      have again : ∀ {n' : List V} {v1 : Option V} {H9 : Hp} {s9 : Shared}, Inv (X.comp scope x pins fp s3 (upd H2 s2.heap.objs.size (.lst [])) fun _ _ => False) ([] ++ pinsAt fp s7.heap) (v1 :: σ) H9 s9 → N n' H9 → ∃ m, m < n ∧ ∃ i acc H' v0, Inv (X.comp scope x pins fp s3 (upd H2 s2.heap.objs.size (.lst [])) fun _ _ => False) [] (v0 :: σ) H' s9 ∧ tn i s9.heap ∧ (∀ b ∈ fp, H' b = none) ∧ W i m acc H' := fun {n' v1 H9 s9} I9 n9 => by
        obtain ⟨m', hm, w9⟩ := hN n' H9 n9
        refine ⟨m', hm, i + 1, n', H9, v1, I9.unpinned, T.keep _ _ _ st7 fun b hb o e => (I9.pin (b, o) (List.mem_append_right _ (List.mem_append_right _ (mem_pinsAt hb e)))).1, fun b hb => ?_, w9⟩
        obtain ⟨o, e, d⟩ := T.obj _ _ st7 b hb
        exact (I9.pin (b, o) (List.mem_append_right _ (List.mem_append_right _ (mem_pinsAt hb e)))).2.1
      refine wpAny_assign_Name (store_ok (X := X.comp scope x pins fp s3 (upd H2 s2.heap.objs.size (.lst [])) fun _ _ => False) (i := 0) I7' S.nd rfl (Or.inl (lookup_relabel_local S.loc)) r7 (fun s8 I8 => ?_) (Or.inr (lookup_relabel_local S.loc)))
      refine wpAny_mono (ht pins fp s3 _ _ s8 _ H7 _ (I8.wish _) (step y H7 y7)) (fun ok s9 ⟨H9, I9, q9⟩ => ?_) raised
      cases ok with
      | false =>
        rw [if_neg Bool.false_ne_true]
        have q9' : N acc H9 := by simpa using q9
        exact again I9.unwish q9'
      | true =>
        rw [if_pos rfl]
        have q9' : te (some y :: σ) H9 (fun v H5 => H5 s2.heap.objs.size = some (.lst acc) ∧ acc.length < sizeLine ∧ N (acc ++ [v]) (upd H5 s2.heap.objs.size (.lst (acc ++ [v])))) := q9
        refine wpAny_mono (he pins fp s3 _ _ s9 _ H9 _ I9 q9') (fun u10 s10 ⟨v, H10, I10, r10, ha, hl, n10⟩ => ?_) raised
        refine wpAny_mono (mt_append (X := (X.comp scope x pins fp s3 (upd H2 s2.heap.objs.size (.lst [])) fun _ _ => False).wish (XC (X.comp scope x pins fp s3 (upd H2 s2.heap.objs.size (.lst [])) fun _ _ => False) E)) _ s10 _ H10 (.ref s2.heap.objs.size) [v] (.ref s2.heap.objs.size) [u10] (fun w H' => w = .non ∧ H' = upd H10 s2.heap.objs.size (.lst (acc ++ [v]))) I10 rfl (.cons r10 .nil) ⟨_, acc, v, rfl, rfl, ha, hl, rfl, rfl⟩) (fun u11 s11 ⟨v11, H11, I11, r11, q11, e11⟩ => ?_) raised
        rw [e11] at I11
        exact again I11.unwish n10
  exact codeAny_compStart_list loop (T.self _ 0 _ _ _ st4 loop)
end
section
variable {X : Cx} {scope : Scope} {x : Str} {E : XK} {elt iter : Expr} {px pos : Pos} {ifs : List Expr} {wi : TI} {tt : TT} {te : TE}
abbrev Cx.blk (X : Cx) (scope : Scope) (x : Str) (pins : List (Addr × Obj)) (fp : List Addr) (s3 : Shared) (H3 : Hp) (E : XK) : Cx := (X.comp scope x pins fp s3 H3 fun _ _ => False).wish (XC (X.comp scope x pins fp s3 H3 fun _ _ => False) E)
theorem pe_comp (hc : X.calm = true) (hst : X.stack = X.env :: X.outer) (hf : X.env.frame = some X.env.locals) (hex : X.ex = []) (hxh : ∀ e s, HXR X E e s → X.xe e s) (S : CompSc scope X.env.scope x X.N) (hi : PI X (.Name x px) iter wi)
    (ht : ∀ pins fp s3 H3, PTs (X.blk scope x pins fp s3 H3 E) ifs tt) (he : ∀ pins fp s3 H3, PE (X.blk scope x pins fp s3 H3 E) elt te) (hs : ∀ x, foldedSetIterable iter X.env x = pure x := by intro _; rfl) :
    PE X (.ListComp elt [⟨.Name x px, iter, ifs, 0⟩] scope pos) (tComp wi tt te) := by
  intro pins s σ H Q I h
  rw [eval_ListComp]
  refine wpAny_comprehensionX (use := none) rfl hs (closureFor_eq fun y hy e => I.ok.has y.1 (S.fre y hy e)) S.kind S.nms (thn (hi pins s σ H _ I h) fun v s1 h1 => thn h1 fun itv s2 h2 => ?_)
  obtain ⟨it, fp, tn, J, H2, e, I2, T, st2, f2, hW⟩ := h2
  subst e
  refine comp_block hc hst hf hex hxh S ht he I2 T st2 f2 hW fun s3 H3 p s' H' m I3 I' hC hn q cenv hcl => ?_
  refine ⟨m, by rw [hcl]; exact hn, fun h' hs' => ⟨.ref p, H', comp_turned (E := X.xe) (s' := s') I3 I' hC (by rw [← hcl]; exact hs'), rfl, q⟩⟩
theorem ps_setComp {y : Str} {i : Nat} {py spos : Pos} (hc : X.calm = true) (hst : X.stack = X.env :: X.outer) (hf : X.env.frame = some X.env.locals) (hex : X.ex = []) (hxh : ∀ e s, HXR X E e s → X.xe e s) (S : CompSc scope X.env.scope x X.N) (hi : PI X (.Name x px) iter wi)
    (ht : ∀ pins fp s3 H3, PTs (X.blk scope x pins fp s3 H3 E) ifs tt) (he : ∀ pins fp s3 H3, PE (X.blk scope x pins fp s3 H3 E) elt te) (hN : X.N.Nodup) (hy : X.N[i]? = some y) (hl : Loc X.env.scope y)
    (hs : ∀ x, foldedSetIterable iter X.env x = pure x := by intro _; rfl) (hsw : swapsWith (.ListComp elt [⟨.Name x px, iter, ifs, 0⟩] scope pos) (some (.Name y py)) spos.line X.env = pure true := by rfl)
    (hfn : X.fn y = true ∨ X.env.scope.names.lookup y = some .local := by first | exact .inl rfl | exact .inr rfl | assumption) :
    PS X (.Assign [.Name y py] (.ListComp elt [⟨.Name x px, iter, ifs, 0⟩] scope pos) spos) (tAsg (tComp wi tt te) (gName i)) := by
  intro pins s σ H D I h
  rw [exec_Assign_Name_used _ _ _ _ hsw]
  refine wpAny_bind (wpAny_standAt (wpAny_bind ?_))
  show wpAny _ X.A (do let _ ← comprehension (.ListComp elt [⟨.Name x px, iter, ifs, 0⟩] scope pos) scope X.env _ (newList []) false (eval iter X.env) (some (assign (.Name y py) X.env))) _ _ s
  refine wpAny_bind (wpAny_mono (wpAny_comprehensionX (use := some (assign (.Name y py) X.env)) (Q := fun _ s' => SP X pins D .next s') rfl hs (closureFor_eq fun y hy e => I.ok.has y.1 (S.fre y hy e)) S.kind S.nms
    (thn (hi pins s σ H _ I h) fun v s1 h1 => thn h1 fun itv s2 h2 => ?_)) (fun _ s' hq => wpAny_pure (wpAny_pure hq)) fun _ _ e => e)
  obtain ⟨it, fp, tn, J, H2, e, I2, T, st2, f2, hW⟩ := h2
  subst e
  refine comp_block (Q := fun v H1 => gName i v σ H1 D.nx) hc hst hf hex hxh S ht he I2 T st2 f2 hW fun s3 H3 p s' H' m I3 I' hC hn q cenv hcl => ?_
  show wpAny _ X.A (assign (.Name y py) X.env (.ref p)) _ _ s'
  refine wpAny_assign_Name (store_ok2 I' hN hy hl (v := .ref p) rfl (fun s'' I'' hch => ?_) hfn)
  obtain ⟨a, hsb, ha⟩ := hch
  have neC : s3.heap.objs.size ≠ a := by
    rcases ha with rfl | ha
    · exact Nat.ne_of_gt I3.lt
    · obtain ⟨w, z⟩ := I3.cell y a ha
      exact Nat.ne_of_gt z.lt
  refine ⟨m, by rw [hcl]; exact hn.sameBut hsb neC, fun h' hs' => ⟨_, H', comp_turned (E := X.xe) (s' := s') I3 I'' hC (by rw [← hcl]; exact hs'), q⟩⟩
end
end L2
set_option Elab.async false
set_option linter.all false
set_option maxRecDepth 100000
namespace L2
open PySem PySem.Spec PyProof.Rows
mutual
inductive DatV (H : Hp) : V → PyData → Prop
  | non : DatV H .non .none
  | bl (b : Bool) : DatV H (.bl b) (.bool b)
  | int (i : Int) : DatV H (.int i) (.int i)
  | str (x : Str) : DatV H (.str x) (.str x)
  | lst {a : Addr} {xs : List V} {ds : List PyData} (e : H a = some (.lst xs)) (h : DatVs H xs ds) : DatV H (.ref a) (.list ds)
  | tup {a : Addr} {xs : List V} {ds : List PyData} (e : H a = some (.tup xs)) (h : DatVs H xs ds) : DatV H (.ref a) (.tuple ds)
inductive DatVs (H : Hp) : List V → List PyData → Prop
  | nil : DatVs H [] []
  | cons {x : V} {xs : List V} {d : PyData} {ds : List PyData} : DatV H x d → DatVs H xs ds → DatVs H (x :: xs) (d :: ds)
end
mutual
theorem DatV.reads {P : Program} {w : World} {H : Hp} {h : Heap} (ok : HOk P w H h) : ∀ {x : V} {d : PyData} {u : Value}, DatV H x d → RelV x u → ∃ as, Reads h u d as
  | _, _, _, .non, r => by cases r; exact ⟨_, .none⟩
  | _, _, _, .bl b, r => by cases r; exact ⟨_, .bool b⟩
  | _, _, _, .int i, r => by obtain ⟨t, rfl⟩ := r; exact ⟨_, .int i t⟩
  | _, _, _, .str x, r => by obtain ⟨t, rfl⟩ := r; exact ⟨_, .str x t⟩
  | _, _, _, .lst e hs, r => by
    cases r
    obtain ⟨_, its, n, rv, ho⟩ := (show ObjOk P w H h _ (.lst _) from ok _ _ e)
    obtain ⟨as, ra⟩ := DatVs.reads ok hs rv
    exact ⟨_, .list ho rfl rfl ra⟩
  | _, _, _, .tup e hs, r => by
    cases r
    obtain ⟨_, its, rv, o, ho, hc, n, hd⟩ := (show ObjOk P w H h _ (.tup _) from ok _ _ e)
    obtain ⟨as, ra⟩ := DatVs.reads ok hs rv
    exact ⟨_, .tuple ho hc hd ra⟩
theorem DatVs.reads {P : Program} {w : World} {H : Hp} {h : Heap} (ok : HOk P w H h) : ∀ {xs : List V} {ds : List PyData} {us : List Value}, DatVs H xs ds → Vals xs us → ∃ as, ReadsAll h us ds as
  | _, _, _, .nil, .nil => ⟨_, .nil⟩
  | _, _, _, .cons a b, .cons r t => by
    obtain ⟨_, ra⟩ := DatV.reads ok a r
    obtain ⟨_, rb⟩ := DatVs.reads ok b t
    exact ⟨_, .cons ra rb⟩
end
mutual
theorem DatV.mono {H H' : Hp} (k : ∀ a xs, H a = some (.lst xs) → H' a = some (.lst xs)) (k2 : ∀ a xs, H a = some (.tup xs) → H' a = some (.tup xs)) : ∀ {x : V} {d : PyData}, DatV H x d → DatV H' x d
  | _, _, .non => .non
  | _, _, .bl b => .bl b
  | _, _, .int i => .int i
  | _, _, .str x => .str x
  | _, _, .lst e hs => .lst (k _ _ e) (DatVs.mono k k2 hs)
  | _, _, .tup e hs => .tup (k2 _ _ e) (DatVs.mono k k2 hs)
theorem DatVs.mono {H H' : Hp} (k : ∀ a xs, H a = some (.lst xs) → H' a = some (.lst xs)) (k2 : ∀ a xs, H a = some (.tup xs) → H' a = some (.tup xs)) : ∀ {xs : List V} {ds : List PyData}, DatVs H xs ds → DatVs H' xs ds
  | _, _, .nil => .nil
  | _, _, .cons a b => .cons (DatV.mono k k2 a) (DatVs.mono k k2 b)
end
theorem DatV.same {H H' : Hp} (s : Same H H') {x : V} {d : PyData} (h : DatV H x d) : DatV H' x d := h.mono (fun _ _ e => s _ _ e) fun _ _ e => s _ _ e
theorem DatVs.same {H H' : Hp} (s : Same H H') {xs : List V} {ds : List PyData} (h : DatVs H xs ds) : DatVs H' xs ds := h.mono (fun _ _ e => s _ _ e) fun _ _ e => s _ _ e
theorem DatVs.length {H : Hp} : ∀ {xs : List V} {ds : List PyData}, DatVs H xs ds → xs.length = ds.length
  | _, _, .nil => rfl
  | _, _, .cons _ b => by rw [List.length_cons, List.length_cons, DatVs.length b]
abbrev shaped := PySem.SeqAt.shaped
section
variable {X : Cx}
end
end L2
set_option Elab.async false
set_option linter.all false
set_option maxRecDepth 100000
namespace L2
open PySem PySem.Spec PyProof.Rows
theorem bits_of_weight : ∀ (ns : List Int), ∀ n ∈ ns, Builtin.Int.intBits n ≤ PySem.W.WData.weightAll (ns.map PySem.W.WData.int)
  | m :: r, n, h => by
    simp only [List.map_cons, PySem.W.WData.weightAll]
    rcases List.mem_cons.mp h with rfl | h
    · have : PySem.W.WData.weight (.int n) = Builtin.Int.intBits n := by simp only [PySem.W.WData.weight, Builtin.Int.intBits]
      omega
    · have := bits_of_weight r n h
      omega
theorem bits_of_lay {ns : List Int} (h : PySem.W.WData.layableAll [.list (ns.map PySem.W.WData.int)] = true) : ∀ n ∈ ns, Builtin.Int.intBits n ≤ 1048576 := fun n hn => by
  have h1 : PySem.W.WData.layable (.list (ns.map PySem.W.WData.int)) = true := by simpa [PySem.W.WData.layableAll] using h
  unfold PySem.W.WData.layable at h1
  have h2 := of_decide_eq_true (Bool.and_eq_true_iff.mp h1).2
  have e : (2 : Nat) ^ 20 = 1048576 := by decide
  simp only [PySem.W.WData.weight, e] at h2
  exact Nat.le_trans (bits_of_weight ns n hn) h2
end L2
namespace Att
open PySem PySem.W PySem.Calls PyProof.Rows
theorem attach_callB {l : OpenLaw} {n : Nat} {q : Program} {loose : List Str} {XP : (Str → Option Value) → Heap → Prop} {YP : World → Heap → Prop} {d : DefRec}
    (hn : l.most = some n) (hdf : d.params.defaults = [])
    (call : ∀ (w : World) (s₀ s₁ : Shared) (mg mb : Str → Option Value) (fa : Addr) (o : Obj) (pm cd doc : Value) (a : Addr) (vs : List Value) (ns : List Int),
      Ground q loose [] XP w s₀ mg mb s₁.heap → YP w s₁.heap →
      s₁.heap.get? fa = some o → o.data = .func (docDef d.name d.params d.body d.scope pm cd doc) → s₁.heap.CodeRec cd d.name → mg d.name = some (.ref fa) →
      s₁.heap.get? a = some { cls := .type "list", data := .seq vs.toArray } → IntsAre vs ns → ns.length ≤ n → (∀ n ∈ ns, Builtin.Int.intBits n ≤ 1048576) → s₁.gens = #[] →
      codeAny (model l.prog w) callerA (.call (.ref fa) ⟨[.ref a], []⟩) (fun r s' => r = .ok (.ret (.bool true)) ∧ OldK s₁.heap s'.heap ∧ s'.os = s₁.os ∧ AllBare s'.gens) s₁) :
    WalkO q loose XP YP l.row.toRowW d [] (fun f vs => PySem.call f vs) := by
  intro w s₀ s₁ mg mb G Y fa o pm cd doc dV kV ho hd hcd hD hmg hg args vals as hpre hlay hrd hwl hlo
  obtain rfl : dV = .none := Dflts.none hD hdf
  obtain rfl : kV = .none := Dflts.noKw hD
  obtain ⟨a, vs, ns, rfl, rfl, hobj, hints, hlen⟩ := script_of hn hpre hwl
  refine enter_call (codeAny_mono (call w s₀ s₁ mg mb fa o pm cd doc a vs ns G Y ho (fd_plain hd) hcd hmg hobj hints hlen (L2.bits_of_lay hlay) hg) fun r s' hq => ?_)
  obtain ⟨rfl, h2, h3, h4⟩ := hq
  exact ⟨.inl ⟨.bool true, .bool true, [], rfl, fun _ => rfl, .bool true, post_true l _, fun _ => ⟨List.Pairwise.nil, fun _ hm => (nomatch hm)⟩⟩, h2, h3, h4⟩
end Att
namespace L2
open PySem PySem.Spec PyProof.Rows
def spLawB (K : PySem.W.Frag) : Sp := fun vs H Q _ => ∃ (a : Addr) (ns : List Int), vs = [.ref a] ∧ SqL K H a (ns.map V.int) ∧ ns.length ≤ 63 ∧ (∀ n ∈ ns, Builtin.Int.intBits n ≤ 1048576) ∧ Only H ∧ ∀ H', Q (.bl true) H'
theorem law_walkB {l : PySem.W.OpenLaw} {q : Program} {loose : List Str} {XP : (Str → Option Value) → Heap → Prop} {YP : World → Heap → Prop} {d : DefRec} {K : Params → PySem.W.Frag} {k : Nat} {x : Str} (hn : l.most = some 63) (hdf : d.params.defaults = [])
    (hr : Room k callerA) (hY : ∀ (w : World) (h : Heap), YP w h → (K w.params).In h)
    (F : ∀ (w : World) (mg : Str → Option Value) (fa : Addr) (h : Heap), (K w.params).In h → h.Ns mainGlobals mg → mg d.name = some (.ref fa) →
      ∃ fd : FuncData, (∀ (s : Shared) (u : Value), BindsTo s fd ⟨[u], []⟩ [(x, u)]) ∧ ∀ base : Heap, (K w.params).In base → base.Ns mainGlobals mg → FnOk l.prog w (K w.params) mg base (CXR l.prog w) k fa fd [x] (spLawB (K w.params))) :
    PySem.W.WalkO q loose XP YP l.row.toRowW d [] (fun f vs => PySem.call f vs) := by
  refine Att.attach_callB hn hdf fun w s₀ s₁ mg mb fa o pm cd doc a vs ns G Y ho hd hcd hmg hobj hints hlen hbits hg => ?_
  have KX := hY w _ Y
  obtain ⟨fd, hb, hF⟩ := F w mg fa _ KX G.T.g hmg
  exact law_call KX G.T.g G.T.b G.T.builtins G.T.nolimit hg hobj hints (Nat.le_trans hlen (by decide)) hr hF hb (fun H hO hS => ⟨a, ns, rfl, hS, hlen, hbits, hO, fun _ => rfl⟩) fun H e s' ⟨_, _, _, _, _, _, _, z⟩ => z
theorem op_mulB {X : Cx} : OpR X (binaryOp .Mult) (rI (fun i j => IntMulOk i j) fun i j => .int (i * j)) := opI fun _ _ _ _ _ _ _ hc q => mul_int q hc
end L2
set_option Elab.async false
set_option linter.all false
set_option maxRecDepth 100000
namespace L2
open PySem PySem.Spec PyProof.Rows
def compChk (scope es : Scope) (x : Str) (N : List Str) : Bool :=
  decide (scope.kind = .function) && (scope.names.all fun y => decide (y.2 ≠ .cell)) && (scope.names.all fun y => decide (y.2 ≠ .local) || decide (scope.names.lookup y.1 = some .local)) && decide (scope.names.lookup x = some .local) &&
  decide (scope.names.lookup ("" : Str) = none) && (scope.names.all fun y => decide (y.2 ≠ .free) || (decide (es.names.lookup y.1 = some .cell) || decide (es.names.lookup y.1 = some .free))) &&
  (scope.names.all fun y => decide (y.2 ≠ .local) || (decide (y.1 = x) || !N.contains y.1)) && decide (x :: N.map fun y => if y = x then ("" : Str) else y).Nodup
theorem compSc_of {scope es : Scope} {x : Str} {N : List Str} (h : compChk scope es x N = true) : CompSc scope es x N := by
  unfold compChk at h
  simp only [Bool.and_eq_true, decide_eq_true_eq, List.all_eq_true, Bool.or_eq_true, Bool.not_eq_true'] at h
  obtain ⟨⟨⟨⟨⟨⟨⟨h1, h2⟩, h3⟩, h4⟩, h5⟩, h6⟩, h7⟩, h8⟩ := h
  refine ⟨h1, h2, fun y hy e => (h3 y hy).resolve_left fun z => z e, h4, h5, fun y hy e => (h6 y hy).resolve_left fun z => z e, fun y hy e => ?_, h8⟩
  rcases (h7 y hy).resolve_left fun z => z e with q | q
  · exact .inl q
  · exact .inr fun m => by
      have : N.contains y.1 = true := List.contains_iff_mem.mpr m
      rw [q] at this; cases this
def visB (sc : Scope) (x : Str) : Bool := match sc.names.lookup x with
  | some .local => true
  | some .cell => true
  | some .free => true
  | _ => false
theorem vis_of {sc : Scope} {x : Str} (h : visB sc x = true) : Vis sc x := by
  unfold visB at h
  unfold Vis
  split at h <;> simp_all
section
variable {X : Cx}
theorem pk (i : Nat) {x : Str} {pos : Pos} (hN : X.N[i]? = some x := by kernel_rfl) (hv : visB X.env.scope x = true := by kernel_rfl) (hd : (x == ("__debug__" : Str)) = false := by decide)
    (hcd : (x == ("__classdict__" : Str)) = false := by decide) : PE X (.Name x pos) (tVar i) := pe_var hN (vis_of hv) hd hcd
theorem noH {X : Cx} : ∀ e s, HXR X E0 e s → X.xe e s := fun _ _ ⟨_, _, _, _, _, _, _, _, _, _, _, _, _, z⟩ => z.elim
end
section
variable {P : Program} {w : World} {K : PySem.W.Frag} {mg : Str → Option Value} {base : Heap}
theorem Def.okR {x : Str} {st : Stmt} {N ps : List Str} {k : Nat} {sp : Sp} (D : Def K mg x st) (S : FnScope N ps (defScope st)) (len : ∀ vs H Q E, sp vs H Q E → vs.length = ps.length)
    (hb : ∀ (kV doc pm : Value) (an : Option Addr) (cdv ct : Value) (us : List Value), us.length = ps.length → bindArgs (PySem.W.fnOf x x (defArgs st) (defBody st) (defScope st) .none kV doc pm an cdv ct) ⟨us, []⟩ = pure (ps.zip us))
    (hbody : ∀ (f : Addr) (cdv : Value) (A : Around) (outer : List Env) (s : Shared) (H : Hp) (vs : List V) (Q : VK) (E : XK), Room k (A.deeper (envOfC x (defScope st) s.heap.objs.size f cdv)) → sp vs H Q E →
      ∃ t, PSs (cxR P w K mg base N x (defScope st) f cdv A outer s H E) (defBody st) t ∧ t { nx := fun _ H' => Q .non H', rt := Q } (start N vs) H) : FnD P w K mg base (k + 1) x ps sp := by
  obtain ⟨f, fd, hm, F⟩ := D
  refine ⟨f, fd, hm, F.kp, F.binds hb, ?_⟩
  obtain ⟨oc, od, kV, doc, pm, an, cdv, ct, osl, rfl, lk, hcd⟩ := F.ex
  exact fn_of lk hcd S len fun A outer s H vs Q E hr hsp => hbody _ cdv A outer s H vs Q E hr hsp
structure ClsD (K : PySem.W.Frag) (mg : Str → Option Value) (x : Str) (C : Addr) : Prop where
  cl : Cls K C
  mgC : mg x = some (.ref C)
def MDef (K : PySem.W.Frag) (C : Addr) (m qual : Str) (st : Stmt) : Prop := ∃ f fd, Meth K C m f ∧ Fun K m qual st f fd
structure MethD (P : Program) (w : World) (K : PySem.W.Frag) (mg : Str → Option Value) (base : Heap) (k : Nat) (C : Addr) (m : Str) (ps : List Str) (sp : Sp) : Prop where
  ex : ∃ f fd, Meth K C m f ∧ Binds K fd ps [] ∧ FnOk P w K mg base (CXR P w) k f fd ps sp
def IDef (K : PySem.W.Frag) (C : Addr) (qual : Str) (st : Stmt) : Prop := ∃ f fd, Mk K C f ∧ Fun K "__init__" qual st f fd
structure InitD (P : Program) (w : World) (K : PySem.W.Frag) (mg : Str → Option Value) (base : Heap) (k : Nat) (C : Addr) (ps : List Str) (sp : Sp) : Prop where
  ex : ∃ f fd, Mk K C f ∧ Binds K fd ps [] ∧ FnOk P w K mg base (CXR P w) k f fd ps sp
theorem MethD.mono {C : Addr} {m : Str} {ps : List Str} {sp : Sp} {j k : Nat} (F : MethD P w K mg base j C m ps sp) (h : j ≤ k) : MethD P w K mg base k C m ps sp := by
  obtain ⟨f, fd, h1, h3, h4⟩ := F.ex
  exact ⟨f, fd, h1, h3, h4.mono h⟩
theorem MDef.okR {C : Addr} {m qual : Str} {st : Stmt} {N ps : List Str} {k : Nat} {sp : Sp} (D : MDef K C m qual st) (S : FnScope N ps (defScope st)) (len : ∀ vs H Q E, sp vs H Q E → vs.length = ps.length)
    (hb : ∀ (kV doc pm : Value) (an : Option Addr) (cdv ct : Value) (us : List Value), us.length = ps.length → bindArgs (PySem.W.fnOf m qual (defArgs st) (defBody st) (defScope st) .none kV doc pm an cdv ct) ⟨us, []⟩ = pure (ps.zip us))
    (hbody : ∀ (f : Addr) (cdv : Value) (A : Around) (outer : List Env) (s : Shared) (H : Hp) (vs : List V) (Q : VK) (E : XK), Room k (A.deeper (envOfC qual (defScope st) s.heap.objs.size f cdv)) → sp vs H Q E →
      ∃ t, PSs (cxR P w K mg base N qual (defScope st) f cdv A outer s H E) (defBody st) t ∧ t { nx := fun _ H' => Q .non H', rt := Q } (start N vs) H) : MethD P w K mg base (k + 1) C m ps sp := by
  obtain ⟨f, fd, hm, F⟩ := D
  refine ⟨f, fd, hm, F.binds hb, ?_⟩
  obtain ⟨oc, od, kV, doc, pm, an, cdv, ct, osl, rfl, lk, hcd⟩ := F.ex
  exact fn_of lk hcd S len fun A outer s H vs Q E hr hsp => hbody _ cdv A outer s H vs Q E hr hsp
theorem MDef.ok {C : Addr} {m qual : Str} {st : Stmt} {N ps : List Str} {k : Nat} {sp : Sp} (D : MDef K C m qual st) (S : FnScope N ps (defScope st)) (len : ∀ vs H Q E, sp vs H Q E → vs.length = ps.length)
    (hb : ∀ (kV doc pm : Value) (an : Option Addr) (cdv ct : Value) (us : List Value), us.length = ps.length → bindArgs (PySem.W.fnOf m qual (defArgs st) (defBody st) (defScope st) .none kV doc pm an cdv ct) ⟨us, []⟩ = pure (ps.zip us))
    (hbody : ∀ (f : Addr) (cdv : Value) (A : Around) (outer : List Env) (s : Shared) (H : Hp) (vs : List V) (Q : VK) (E : XK), Room k (A.deeper (envOfC qual (defScope st) s.heap.objs.size f cdv)) → sp vs H Q E →
      ∃ t, PSs (cxOf (CXR P w) P w K mg base N qual (defScope st) f cdv A outer s H E).nox (defBody st) t ∧ t { nx := fun _ H' => Q .non H', rt := Q } (start N vs) H) : MethD P w K mg base (k + 1) C m ps sp := by
  refine D.okR S len hb fun f cdv A outer s H vs Q E hr h => ?_
  obtain ⟨t, h, q⟩ := hbody f cdv A outer s H vs Q E hr h
  exact ⟨t, h.nox, q⟩
theorem IDef.okR {C : Addr} {qual : Str} {st : Stmt} {N ps : List Str} {k : Nat} {sp : Sp} (D : IDef K C qual st) (S : FnScope N ps (defScope st)) (len : ∀ vs H Q E, sp vs H Q E → vs.length = ps.length)
    (hb : ∀ (kV doc pm : Value) (an : Option Addr) (cdv ct : Value) (us : List Value), us.length = ps.length → bindArgs (PySem.W.fnOf "__init__" qual (defArgs st) (defBody st) (defScope st) .none kV doc pm an cdv ct) ⟨us, []⟩ = pure (ps.zip us))
    (hbody : ∀ (f : Addr) (cdv : Value) (A : Around) (outer : List Env) (s : Shared) (H : Hp) (vs : List V) (Q : VK) (E : XK), Room k (A.deeper (envOfC qual (defScope st) s.heap.objs.size f cdv)) → sp vs H Q E →
      ∃ t, PSs (cxR P w K mg base N qual (defScope st) f cdv A outer s H E) (defBody st) t ∧ t { nx := fun _ H' => Q .non H', rt := Q } (start N vs) H) : InitD P w K mg base (k + 1) C ps sp := by
  obtain ⟨f, fd, hm, F⟩ := D
  refine ⟨f, fd, hm, F.binds hb, ?_⟩
  obtain ⟨oc, od, kV, doc, pm, an, cdv, ct, osl, rfl, lk, hcd⟩ := F.ex
  exact fn_of lk hcd S len fun A outer s H vs Q E hr hsp => hbody _ cdv A outer s H vs Q E hr hsp
theorem IDef.ok {C : Addr} {qual : Str} {st : Stmt} {N ps : List Str} {k : Nat} {sp : Sp} (D : IDef K C qual st) (S : FnScope N ps (defScope st)) (len : ∀ vs H Q E, sp vs H Q E → vs.length = ps.length)
    (hb : ∀ (kV doc pm : Value) (an : Option Addr) (cdv ct : Value) (us : List Value), us.length = ps.length → bindArgs (PySem.W.fnOf "__init__" qual (defArgs st) (defBody st) (defScope st) .none kV doc pm an cdv ct) ⟨us, []⟩ = pure (ps.zip us))
    (hbody : ∀ (f : Addr) (cdv : Value) (A : Around) (outer : List Env) (s : Shared) (H : Hp) (vs : List V) (Q : VK) (E : XK), Room k (A.deeper (envOfC qual (defScope st) s.heap.objs.size f cdv)) → sp vs H Q E →
      ∃ t, PSs (cxOf (CXR P w) P w K mg base N qual (defScope st) f cdv A outer s H E).nox (defBody st) t ∧ t { nx := fun _ H' => Q .non H', rt := Q } (start N vs) H) : InitD P w K mg base (k + 1) C ps sp := by
  refine D.okR S len hb fun f cdv A outer s H vs Q E hr h => ?_
  obtain ⟨t, h, q⟩ := hbody f cdv A outer s H vs Q E hr h
  exact ⟨t, h.nox, q⟩
theorem cls_mk {h : Heap} {x : Str} {C : Addr} (X : K.In h) (G : h.Ns mainGlobals mg) (a : PySem.W.nsIn K mainGlobals x = some (some (.ref C))) (h1 : PySem.W.plainGet K C Str.empty = true) (h2 : PySem.W.hasDictIn K C = true) (h3 : PySem.W.plainOver K C = true)
    (h4 : PySem.W.findIn K (.ref C) "__setattr__" = some (some (.builtin "object.__setattr__"))) : ClsD K mg x C := ⟨⟨h1, h2, h3, h4⟩, PySem.W.mg_of X G a⟩
theorem mdef_mk {C f : Addr} {m qual : Str} {st : Stmt} {oc : Value} {od an : Option Addr} {osl : Array (Option Value)} {kV doc pm cdv ct : Value} (a : PySem.W.findIn K (.ref C) m = some (some (.ref f))) (fn : PySem.W.isFn K (.ref f) = true)
    (l : K.lookup f = some ⟨oc, od, .func (PySem.W.fnOf m qual (defArgs st) (defBody st) (defScope st) .none kV doc pm an cdv ct), osl⟩) (c : PySem.W.codeIn K cdv qual = true) (k : PySem.W.keepIn K (.ref f) = true) : MDef K C m qual st := ⟨f, _, ⟨a, fn, k⟩, fun_mk l c k⟩
theorem idef_mk {C f : Addr} {qual : Str} {st : Stmt} {oc : Value} {od an : Option Addr} {osl : Array (Option Value)} {kV doc pm cdv ct : Value} (m : PySem.W.makesIn K C = true) (a : PySem.W.findIn K (.ref C) "__init__" = some (some (.ref f))) (fn : PySem.W.isFn K (.ref f) = true) (kC : PySem.W.keepIn K (.ref C) = true)
    (l : K.lookup f = some ⟨oc, od, .func (PySem.W.fnOf "__init__" qual (defArgs st) (defBody st) (defScope st) .none kV doc pm an cdv ct), osl⟩) (c : PySem.W.codeIn K cdv qual = true) (k : PySem.W.keepIn K (.ref f) = true) : IDef K C qual st := ⟨f, _, ⟨m, a, fn, kC⟩, fun_mk l c k⟩
end
section
variable {X : Cx} {k : Nat} {C : Addr} {ps : List Str} {sp : Sp} {E : XK} {x m : Str} {p pos apos : Pos} {e o : Expr} {es : List Expr} {ta : TE} {t : TA}
theorem pe_methD {pl : Sem Bool} (T : ClsD X.K X.mg x C) (F : MethD X.prog X.w X.K X.mg X.base k C m ps sp) (hr : Room k X.A) (hx : Passes (CXR X.prog X.w) X E) (he : PE X o ta) (ha : PA X (e :: es) t)
    (hst : starEach (e :: es) X.env = (false, eval e X.env) :: starEach es X.env := by rfl) (hpl : (backTo pos (starEach es X.env)).any (·.1) = false := by rfl)
    (ht : eval (.Call (.Attribute o m apos) (e :: es) [] pos) X.env = (do
      let ov ← eval o X.env
      standAt apos.atName
      let (f, first) ← holding [ov] (getMethod ov m pl)
      callWith pos f first (backTo pos (starEach (e :: es) X.env)) (backToKw pos (keywordEach [] X.env))) := by rfl) :
    PE X (.Call (.Attribute o m apos) (e :: es) [] pos) (tMeth C m sp [] E ta t) := by
  obtain ⟨f, fd, h1, h3, h4⟩ := F.ex
  exact pe_meth he T.cl h1 h4 hr h3 .nil hx ha hst hpl ht
theorem pe_methD0 {pl : Sem Bool} (T : ClsD X.K X.mg x C) (F : MethD X.prog X.w X.K X.mg X.base k C m ps sp) (hr : Room k X.A) (hx : Passes (CXR X.prog X.w) X E) (he : PE X o ta)
    (ht : eval (.Call (.Attribute o m apos) [] [] pos) X.env = (do
      let ov ← eval o X.env
      standAt apos.atName
      let (f, first) ← holding [ov] (getMethod ov m pl)
      callWith pos f first (backTo pos (starEach [] X.env)) (backToKw pos (keywordEach [] X.env))) := by rfl) :
    PE X (.Call (.Attribute o m apos) [] [] pos) (tMeth C m sp [] E ta tNil) := by
  obtain ⟨f, fd, h1, h3, h4⟩ := F.ex
  exact pe_meth0 he T.cl h1 h4 hr h3 .nil hx ht
theorem pe_makeD (T : ClsD X.K X.mg x C) (F : InitD X.prog X.w X.K X.mg X.base k C ps sp) (hr : Room (k + 1) X.A) (hg : Gl X x) (hx : Passes (CXR X.prog X.w) X E) (ha : PA X (e :: es) t)
    (hdb : (x == ("__debug__" : Str)) = false := by decide) (he : starEach (e :: es) X.env = (false, eval e X.env) :: starEach es X.env := by rfl) (hpl : (backTo pos (starEach es X.env)).any (·.1) = false := by rfl) :
    PE X (.Call (.Name x p) (e :: es) [] pos) (tMake C sp [] E t) := by
  obtain ⟨f, fd, h1, h3, h4⟩ := F.ex
  exact pe_make h1 h4 hr hg T.mgC h3 .nil hx ha hdb he hpl
theorem pe_makeD0 (T : ClsD X.K X.mg x C) (F : InitD X.prog X.w X.K X.mg X.base k C ps sp) (hr : Room (k + 1) X.A) (hg : Gl X x) (hx : Passes (CXR X.prog X.w) X E)
    (hdb : (x == ("__debug__" : Str)) = false := by decide) : PE X (.Call (.Name x p) [] [] pos) (tMake C sp [] E tNil) := by
  obtain ⟨f, fd, h1, h3, h4⟩ := F.ex
  exact pe_make0 h1 h4 hr hg T.mgC h3 .nil hx hdb
def tFldC (C : Addr) (ta : TE) (f : Str) : TE := fun σ H Q => ta σ H fun x H1 => ∃ a dx fs v, x = .ref a ∧ H1 a = some (.ins C dx fs) ∧ fs.lookup f = some v ∧ Q v H1
theorem pe_fldC {f : Str} (T : ClsD X.K X.mg x C) (na : NoAttr X.K C f) (he : PE X o ta) (hb : attributeBase o f X.env (eval o X.env) = eval o X.env := by rfl) : PE X (.Attribute o f pos) (tFldC C ta f) := by
  intro pins s σ H Q I h
  refine attr_of hb (thn (he pins s σ H _ I h) fun u s1 ⟨x, H1, I1, rx, a, dx, fs, v, ex, ea, l, q⟩ => ?_)
  subst ex
  obtain rfl : u = Value.ref a := rx
  exact getattr_ok I1 ea T.cl na l fun u' s2 I2 ru => ⟨v, H1, I2, ru, q⟩
def sFldC (C : Addr) (ta tv : TE) (f : Str) : TS := fun D σ H => tv σ H fun y H1 => ta σ H1 fun x H2 => ∃ a dx fs, x = .ref a ∧ H2 a = some (.ins C dx fs) ∧ fs.length < 1000 ∧ D.nx σ (upd H2 a (.ins C dx (putF f y fs)))
theorem ps_fldC {f : Str} {value : Expr} {tv : TE} {pos' : Pos} (T : ClsD X.K X.mg x C) (na : NoAttr X.K C f) (ha : PE X o ta) (hv : PE X value tv) (hs : swapsWith value (some (.Attribute o f pos')) pos.line X.env = pure false := by rfl) : PS X (.Assign [.Attribute o f pos'] value pos) (sFldC C ta tv f) := by
  intro pins s σ H D I h
  refine plainObj_wpAny_Assign_Attribute (thn (hv pins s σ H _ I h) fun u s1 ⟨y, H1, I1, ry, q⟩ => thn (ha pins s1 σ H1 _ I1 q) fun ov s2 ⟨x, H2, I2, rx, a, dx, fs, ex, ea, l, q2⟩ => ?_) hs
  subst ex
  obtain rfl : ov = Value.ref a := rx
  exact setattr_ok I2 ea T.cl na l ry fun s3 I3 => ⟨σ, _, I3, q2⟩
end
end L2
set_option Elab.async false
set_option linter.all false
set_option maxRecDepth 100000
namespace L2
open PySem PySem.Spec PyProof.Rows
structure GlC (mg : Str → Option Value) (x : Str) (C : Addr) : Prop where
  mgC : mg x = some (.ref C)
theorem glc_mk {K : PySem.W.Frag} {h : Heap} {mg : Str → Option Value} {x : Str} {C : Addr} (X : K.In h) (G : h.Ns mainGlobals mg) (a : PySem.W.nsIn K mainGlobals x = some (some (.ref C))) : GlC mg x C := ⟨PySem.W.mg_of X G a⟩
theorem exci_mk {K : PySem.W.Frag} {C : Addr} (c0 : PySem.W.hasDictIn K C = true) (c1 : PySem.W.findIn K (.ref C) "__getattribute__" = some (some (.builtin "BaseException.__getattribute__"))) (c2 : PySem.W.findIn K (.ref C) "__getattr__" = some none)
    (c3 : PySem.W.findIn K (.ref C) "__class__" = some (some (.builtin "object.__class__"))) (c4 : PySem.W.specialIn K (.builtin "object.__class__") "__get__" = some (some (.builtin "getset_descriptor.__get__"))) (c5 : PySem.W.takesIn K (.builtin "object.__class__") = some true)
    (c6 : PySem.W.mroIn K C (.type "object") = some true) (c7 : PySem.W.subIn K (.ref C) (.type "BaseException") = some true) : PySem.W.ExcI K C := ⟨c0, c1, c2, c3, c4, c5, c6, c7⟩
theorem isi_none_str : isiT "NoneType" "str" = some false := rfl
theorem isi_list_str : isiT "list" "str" = some false := rfl
theorem isi_tuple_str : isiT "tuple" "str" = some false := rfl
theorem cpow_60 : CPow 10 60 = True := eq_true ⟨by decide, by decide, by decide⟩
theorem cpow_59 : CPow 10 59 = True := eq_true ⟨by decide, by decide, by decide⟩
theorem cpow_20 : CPow 10 20 = True := eq_true ⟨by decide, by decide, by decide⟩
section
variable {X : Cx} {K : PySem.W.Frag}
theorem call_isiXK (h : X.K = K) : CallR X (.builtin "isinstance") (rIsiX K) := by subst h; exact call_isiX
theorem ix_listK (h : X.K = K) : IxR X (rIxL K) := by subst h; exact ix_list
theorem sl_listK (h : X.K = K) : SlR X (rSlL K) := by subst h; exact sl_list
theorem call_len_seqK (h : X.K = K) : CallR X (.builtin "len") (fun xs H Q => ∃ p ys, xs = [.ref p] ∧ (SqL K H p ys ∨ SqT K H p ys) ∧ Q (.int ys.length) H) := by subst h; exact call_len_seq
theorem call_list_ofK (h : X.K = K) : CallR X (.type "list") (fun xs H Q => ∃ p ys, xs = [.ref p] ∧ (SqL K H p ys ∨ SqT K H p ys) ∧ ∀ l, H l = none → Q (.ref l) (upd H l (.lst ys))) := by subst h; exact call_list_of
end
end L2
set_option Elab.async false
set_option linter.all false
set_option maxRecDepth 100000
namespace L2
open PySem PySem.Spec PyProof.Rows
def CompJ (J : It) (tt : TT) (te : TE) (σ : St) (Q : VK) (H1 : Hp) : Prop := ∀ p, H1 p = none → ∃ W : Nat → Nat → List V → Hp → Prop, (∃ m, W 0 m [] (upd H1 p (.lst []))) ∧ ∀ i m acc H2, W i m acc H2 →
  H2 p = some (.lst acc) ∧ ((J.stop i H2 ∧ Q (.ref p) H2) ∨ (J.go i H2 ∧ ∃ N : List V → Hp → Prop, (∀ acc' H', N acc' H' → ∃ m', m' < m ∧ W (i + 1) m' acc' H') ∧ ∀ x H3, J.yld i H2 x H3 → tt (some x :: σ) H3 fun b H4 =>
    if b = true then te (some x :: σ) H4 fun v H5 => H5 p = some (.lst acc) ∧ acc.length < sizeLine ∧ N (acc ++ [v]) (upd H5 p (.lst (acc ++ [v]))) else N acc H4))
theorem compL {K : PySem.W.Frag} {tl : TE} {tt : TT} {te : TE} {σ : St} {H : Hp} {Q : VK}
    (h : ∀ L, Is L (fun a H1 => CompJ (Itl K a) tt te σ Q H1) → tl σ H fun x H1 => ∃ a, x = .ref a ∧ (∃ xs, SqL K H1 a xs) ∧ L a H1) : tComp (iList K tl) tt te σ H Q := h _ Is.rfl
theorem compR1 {ta : TA} {tt : TT} {te : TE} {σ : St} {H : Hp} {Q : VK}
    (h : ∀ L, Is L (fun n H1 => CompJ (Itr 0 n) tt te σ Q H1) → ta σ H fun vs H1 => ∃ j : Int, vs = [.int j] ∧ -(2 ^ 62) ≤ j ∧ j < 2 ^ 62 ∧ L j.toNat H1) : tComp (iRng1 ta) tt te σ H Q := h _ Is.rfl
theorem compList {K : PySem.W.Frag} {a : Addr} {tt : TT} {te : TE} {σ : St} {Q : VK} {H1 : Hp} (xs : List V) (Pv : Addr → Nat → List V → Hp → Prop) (h0 : ∀ p, H1 p = none → Pv p 0 [] (upd H1 p (.lst [])))
    (hl : ∀ p i acc H, H1 p = none → Pv p i acc H → H p = some (.lst acc) ∧ SqL K H a xs)
    (hs : ∀ p i x acc H, H1 p = none → xs[i]? = some x → Pv p i acc H → tt (some x :: σ) H fun b H4 => if b = true then te (some x :: σ) H4 fun v H5 => H5 p = some (.lst acc) ∧ acc.length < sizeLine ∧ Pv p (i + 1) (acc ++ [v]) (upd H5 p (.lst (acc ++ [v]))) else Pv p (i + 1) acc H4)
    (hd : ∀ p acc H, H1 p = none → Pv p xs.length acc H → Q (.ref p) H) : CompJ (Itl K a) tt te σ Q H1 := by
  intro p hp
  refine ⟨fun i m acc H => Pv p i acc H ∧ i ≤ xs.length ∧ m = xs.length - i, ⟨_, h0 p hp, Nat.zero_le _, rfl⟩, ?_⟩
  rintro i m acc H2 ⟨hP, hi, rfl⟩
  obtain ⟨ha, hq⟩ := hl p i acc H2 hp hP
  refine ⟨ha, ?_⟩
  by_cases e : i = xs.length
  · subst e
    exact .inl ⟨⟨xs, hq, Nat.le_refl _⟩, hd p acc H2 hp hP⟩
  · have hlt : i < xs.length := by omega
    refine .inr ⟨⟨xs, xs[i], hq, by simp [hlt]⟩, fun acc' H' => Pv p (i + 1) acc' H', fun acc' H' h' => ⟨_, ?_, h', hlt, rfl⟩, ?_⟩
    · omega
    · rintro x H3 ⟨rfl, hx⟩
      exact hs p i x acc H3 hp (hx xs hq) hP
theorem compRange {lo : Int} {n : Nat} {tt : TT} {te : TE} {σ : St} {Q : VK} {H1 : Hp} (Pv : Addr → Nat → List V → Hp → Prop) (h0 : ∀ p, H1 p = none → Pv p 0 [] (upd H1 p (.lst [])))
    (hl : ∀ p i acc H, H1 p = none → Pv p i acc H → H p = some (.lst acc))
    (hs : ∀ p i acc H, H1 p = none → i < n → Pv p i acc H → tt (some (.int (lo + i)) :: σ) H fun b H4 => if b = true then te (some (.int (lo + i)) :: σ) H4 fun v H5 => H5 p = some (.lst acc) ∧ acc.length < sizeLine ∧ Pv p (i + 1) (acc ++ [v]) (upd H5 p (.lst (acc ++ [v]))) else Pv p (i + 1) acc H4)
    (hd : ∀ p acc H, H1 p = none → Pv p n acc H → Q (.ref p) H) : CompJ (Itr lo n) tt te σ Q H1 := by
  intro p hp
  refine ⟨fun i m acc H => Pv p i acc H ∧ i ≤ n ∧ m = n - i, ⟨_, h0 p hp, Nat.zero_le _, rfl⟩, ?_⟩
  rintro i m acc H2 ⟨hP, hi, rfl⟩
  refine ⟨hl p i acc H2 hp hP, ?_⟩
  by_cases e : i = n
  · subst e
    exact .inl ⟨Nat.le_refl _, hd p acc H2 hp hP⟩
  · have hlt : i < n := by omega
    refine .inr ⟨hlt, fun acc' H' => Pv p (i + 1) acc' H', fun acc' H' h' => ⟨_, ?_, h', hlt, rfl⟩, ?_⟩
    · omega
    · rintro x H3 ⟨rfl, rfl⟩
      exact hs p i acc H3 hp hlt hP
theorem atI_5 {α : Type} {x0 x1 x2 x3 x4 x5 : α} {xs : List α} : atI (x0 :: x1 :: x2 :: x3 :: x4 :: x5 :: xs) 5 = some x5 := atI_nat (j := 5) rfl
theorem atI_7 {α : Type} {x0 x1 x2 x3 x4 x5 x6 x7 : α} {xs : List α} : atI (x0 :: x1 :: x2 :: x3 :: x4 :: x5 :: x6 :: x7 :: xs) 7 = some x7 := atI_nat (j := 7) rfl
structure New (H : Hp) (p : Addr) (H' : Hp) : Prop where
  free : H p = none
  same : Same H H'
theorem New.upd {H : Hp} {p : Addr} {o : HO} (h : H p = none) : New H p (L2.upd H p o) := ⟨h, same_upd h⟩
end L2
set_option Elab.async false
set_option linter.all false
set_option maxRecDepth 100000
namespace L2
open PySem PySem.Spec PyProof.Rows
theorem Is.use {α β : Type} {R S : α → β → Prop} (h : Is R S) {x : α} {y : β} (k : S x y) : R x y := by cases h; exact k
def Hid {α β : Type} (S : α → β → Prop) (g : (α → β → Prop) → Prop) : Prop := ∀ R, (∀ x y, S x y → R x y) → g R
theorem hidI {α β : Type} {S : α → β → Prop} {g : (α → β → Prop) → Prop} (h : ∀ R, (∀ x y, S x y → R x y) → g R) : Hid S g := h
section
variable {σ : St} {H : Hp} {Q : VK} {D : Ends} {ta tb tc te : TE} {t u : TA} {r : R2} {b : TS} {QB : Bool → Hp → Prop} {c d : TT} {QA : List V → Hp → Prop}
theorem asgH {g : TG} (h : ∀ R, Is R (fun x H1 => g x σ H1 D.nx) → te σ H R) : tAsg te g D σ H := h _ Is.rfl
theorem dropH (h : ∀ R, Is R (fun _ H1 => D.nx σ H1) → te σ H R) : tDrop te D σ H := h _ Is.rfl
theorem retH (h : ∀ R, Is R (fun x H1 => D.rt x H1) → te σ H R) : tRet te D σ H := h _ Is.rfl
theorem ifH {a b : TS} (h : ∀ R, Is R (fun k H1 => if k = true then a D σ H1 else b D σ H1) → c σ H R) : tIfS c a b D σ H := h _ Is.rfl
theorem testH (h : ∀ R, Is R (fun x H1 => ∃ k, x = .bl k ∧ QB k H1) → te σ H R) : tTest te σ H QB := h _ Is.rfl
theorem tBH (h : ∀ R, Is R (fun x H1 => ∃ k, x = .bl k ∧ QB k H1) → te σ H R) : tB te σ H QB := h _ Is.rfl
theorem notH (h : ∀ R, Is R (fun k H1 => QB (!k) H1) → c σ H R) : tNot c σ H QB := h _ Is.rfl
theorem andH (h : ∀ R, Is R (fun k H1 => if k = true then d σ H1 QB else QB false H1) → c σ H R) : tAnd c d σ H QB := h _ Is.rfl
theorem orH (h : ∀ R, Is R (fun k H1 => if k = true then QB true H1 else d σ H1 QB) → c σ H R) : tOr c d σ H QB := h _ Is.rfl
theorem use2 {α β : Type} {R S : α → β → Prop} (h : ∀ x y, S x y → R x y) {x : α} {y : β} (k : S x y) : R x y := h x y k
theorem andVH (h : ∀ R, Is R (fun x H1 => ∃ c, x = .bl c ∧ if c = true then tb σ H1 Q else Q (.bl false) H1) → ta σ H R) : tAndV ta tb σ H Q := h _ Is.rfl
theorem orVH (h : ∀ R, Is R (fun x H1 => ∃ c, x = .bl c ∧ if c = true then Q (.bl true) H1 else tb σ H1 Q) → ta σ H R) : tOrV ta tb σ H Q := h _ Is.rfl
theorem notVH (h : ∀ R, Is R (fun x H1 => ∃ c, x = .bl c ∧ Q (.bl (!c)) H1) → ta σ H R) : tNotV ta σ H Q := h _ Is.rfl
theorem opH (h : ∀ R, (∀ x H1, Hid (fun y H2 => r x y H2 Q) (fun R2 => tb σ H1 R2) → R x H1) → ta σ H R) : tOp r ta tb σ H Q := h (fun x H1 => tb σ H1 fun y H2 => r x y H2 Q) fun _ _ z => z _ fun _ _ z2 => z2
theorem unH {q : V → Hp → VK → Prop} (h : ∀ R, Is R (fun x H1 => q x H1 Q) → ta σ H R) : tUn q ta σ H Q := h _ Is.rfl
theorem slH {q : V → Option Int → Option Int → Hp → VK → Prop} {tl th : TO} (h : ∀ R, Is R (fun x H1 => tl σ H1 fun l H2 => th σ H2 fun u H3 => q x l u H3 Q) → te σ H R) : tSl q te tl th σ H Q := h _ Is.rfl
theorem partH {QO : Option Int → Hp → Prop} (h : ∀ R, Is R (fun x H1 => ∃ i, x = .int i ∧ QO (some i) H1) → te σ H R) : tPart te σ H QO := h _ Is.rfl
theorem consH (h : ∀ R, Is R (fun x H1 => t σ H1 fun xs H2 => QA (x :: xs) H2) → te σ H R) : tCons te t σ H QA := h _ Is.rfl
theorem tupH (h : ∀ R, Is R (fun xs H1 => xs.length ≤ sizeLine ∧ ∀ p, H1 p = none → Q (.ref p) (upd H1 p (.tup xs))) → t σ H R) : tTup t σ H Q := h _ Is.rfl
theorem lstH (h : ∀ R, Is R (fun xs H1 => xs.length ≤ sizeLine ∧ ∀ p, H1 p = none → Q (.ref p) (upd H1 p (.lst xs))) → t σ H R) : tLst t σ H Q := h _ Is.rfl
theorem callH {sp : Sp} {dvs : List V} {E : XK} (h : ∀ R, Is R (fun vs H1 => sp (vs ++ dvs) H1 Q E) → t σ H R) : tCall sp dvs E t σ H Q := h _ Is.rfl
theorem cbH {q : List V → Hp → VK → Prop} (h : ∀ R, Is R (fun vs H1 => q vs H1 Q) → t σ H R) : tCB q t σ H Q := h _ Is.rfl
theorem methH {C : Addr} {m : Str} {sp : Sp} {dvs : List V} {E : XK} (h : ∀ R, Is R (fun x H1 => ∃ a dx fs, x = .ref a ∧ H1 a = some (.ins C dx fs) ∧ fs.lookup m = none ∧ t σ H1 fun vs H2 => sp (x :: (vs ++ dvs)) H2 Q E) → ta σ H R) : tMeth C m sp dvs E ta t σ H Q := h _ Is.rfl
theorem makeH {C : Addr} {sp : Sp} {dvs : List V} {E : XK} (h : ∀ R, Is R (fun vs H1 => ∀ x dx, H1 x = none → H1 dx = none → dx ≠ x → sp (.ref x :: (vs ++ dvs)) (upd (upd H1 dx (.own x)) x (.ins C dx [])) (fun v H2 => v = .non ∧ Q (.ref x) H2) E) → t σ H R) : tMake C sp dvs E t σ H Q := h _ Is.rfl
theorem fldH {C : Addr} {f : Str} (h : ∀ R, Is R (fun x H1 => ∃ a dx fs v, x = .ref a ∧ H1 a = some (.ins C dx fs) ∧ fs.lookup f = some v ∧ Q v H1) → ta σ H R) : tFldC C ta f σ H Q := h _ Is.rfl
theorem sfldH {C : Addr} {f : Str} (h : ∀ R, Is R (fun y H1 => ta σ H1 fun x H2 => ∃ a dx fs, x = .ref a ∧ H2 a = some (.ins C dx fs) ∧ fs.length < 1000 ∧ D.nx σ (upd H2 a (.ins C dx (putF f y fs)))) → te σ H R) : sFldC C ta te f D σ H := h _ Is.rfl
theorem bmH {K : PySem.W.Frag} {T : String} {q : V → List V → Hp → VK → Prop} (h : ∀ R, Is R (fun x H1 => tyV K T x H1 ∧ t σ H1 fun xs H2 => q x xs H2 Q) → ta σ H R) : tBM K T q ta t σ H Q := h _ Is.rfl
theorem dputH (h : ∀ R, (∀ v H1, Hid (fun x H2 => Hid (fun y H3 => ∃ a H4, x = .ref a ∧ DPut H3 a y v H4 ∧ D.nx σ H4) (fun R3 => tb σ H2 R3)) (fun R2 => ta σ H1 R2) → R v H1) → te σ H R) : sDPut ta tb te D σ H := h (fun v H1 => ta σ H1 fun x H2 => tb σ H2 fun y H3 => ∃ a H4, x = .ref a ∧ DPut H3 a y v H4 ∧ D.nx σ H4) fun v H1 z => z _ fun x H2 z2 => z2 _ fun _ _ z3 => z3
theorem gsubH {to ti : TE} {tt : TSet} {v : V} {QS : St → Hp → Prop} (h : ∀ R, (∀ o H1, Hid (fun i H2 => tt o i v H2 fun H3 => QS σ H3) (fun R2 => ti σ H1 R2) → R o H1) → to σ H R) : gSub to ti tt v σ H QS := h (fun o H1 => ti σ H1 fun i H2 => tt o i v H2 fun H3 => QS σ H3) fun _ _ z => z _ fun _ _ z2 => z2
theorem dgetH (h : ∀ R, Is R (fun x H1 => tb σ H1 fun y H2 => ∃ a v, x = .ref a ∧ DGet H2 a y (some v) ∧ Q v H2) → ta σ H R) : tDGet ta tb σ H Q := h _ Is.rfl
theorem dinH (h : ∀ R, Is R (fun y H1 => tb σ H1 fun x H2 => ∃ a o, x = .ref a ∧ DGet H2 a y o ∧ Q (.bl o.isSome) H2) → ta σ H R) : tDIn ta tb σ H Q := h _ Is.rfl
theorem dninH (h : ∀ R, Is R (fun y H1 => tb σ H1 fun x H2 => ∃ a o, x = .ref a ∧ DGet H2 a y o ∧ Q (.bl (!o.isSome)) H2) → ta σ H R) : tDNotIn ta tb σ H Q := h _ Is.rfl
theorem varH {i : Nat} {v : V} (e : σ[i]? = some (some v)) (h : Q v H) : tVar i σ H Q := ⟨v, e, h⟩
theorem conH {v : V} (h : Q v H) : tC v σ H Q := h
theorem nilH (h : QA [] H) : tNil σ H QA := h
theorem nextH (h : D.nx σ H) : tNext D σ H := h
theorem nameH {i : Nat} {v : V} {QS : St → Hp → Prop} (h : QS (σ.set i (some v)) H) : gName i v σ H QS := h
theorem i0H {g : Int → Int → V} {i j : Int} (h : Q (g i j) H) : rI0 g (.int i) (.int j) H Q := ⟨i, j, rfl, rfl, h⟩
theorem iH {C : Int → Int → Prop} {g : Int → Int → V} {i j : Int} (c : C i j) (h : Q (g i j) H) : rI C g (.int i) (.int j) H Q := ⟨i, j, rfl, rfl, c, h⟩
theorem uH {g : Int → V} {i : Int} (h : Q (g i) H) : rU g (.int i) H Q := ⟨i, rfl, h⟩
theorem blH {b : Bool} {S : Bool → Prop} (h : S b) : ∃ k, V.bl b = .bl k ∧ S k := ⟨b, rfl, h⟩
theorem intH {n : Int} {S : Int → Prop} (h : S n) : ∃ k, V.int n = .int k ∧ S k := ⟨n, rfl, h⟩
end
def lasts : HO → Bool
  | .tup _ => true
  | .frz _ _ => true
  | _ => false
abbrev Cells := List (Addr × HO)
structure Led (H : Hp) (L : Cells) : Prop where
  at_ : ∀ p ∈ L, H p.1 = some p.2
  nd : ((L.filter fun p => !lasts p.2).map (·.1)).Nodup
theorem Led.get {H : Hp} {L : Cells} (h : Led H L) {a : Addr} {o : HO} (m : (a, o) ∈ L) : H a = some o := h.at_ _ m
theorem Led.nil {H : Hp} : Led H [] := ⟨fun _ h => (nomatch h), List.nodup_nil⟩
theorem Led.new {H : Hp} {L : Cells} (h : Led H L) {p : Addr} {o : HO} (hp : H p = none) : Led (upd H p o) ((p, o) :: L) := by
  have ne : ∀ q ∈ L, q.1 ≠ p := fun q hq e => by have := h.at_ q hq; rw [e, hp] at this; cases this
  refine ⟨fun q hq => ?_, ?_⟩
  · rcases List.mem_cons.mp hq with rfl | hq
    · exact upd_same
    · rw [upd_ne (ne q hq)]; exact h.at_ q hq
  · rw [List.filter_cons]
    split
    · rw [List.map_cons]
      refine List.nodup_cons.mpr ⟨fun m => ?_, h.nd⟩
      obtain ⟨q, hq, e⟩ := List.mem_map.mp m
      exact ne q (List.mem_filter.mp hq).1 e
    · exact h.nd
theorem Led.perm {H : Hp} {L L' : Cells} (h : Led H L) (e : L.Perm L') : Led H L' := by
  refine ⟨fun p hp => h.at_ p (e.mem_iff.mpr hp), ?_⟩
  exact ((e.filter _).map _).nodup_iff.mp h.nd
theorem Led.put {H : Hp} {L : Cells} {a : Addr} {o o' : HO} (h : Led H ((a, o) :: L)) (hl : lasts o = false) (hl' : lasts o' = false) : Led (upd H a o') ((a, o') :: L) := by
  have ha := h.at_ _ List.mem_cons_self
  have nd := h.nd
  rw [List.filter_cons, if_pos (by simp [hl]), List.map_cons] at nd
  obtain ⟨n1, n2⟩ := List.nodup_cons.mp nd
  have ne : ∀ q ∈ L, q.1 ≠ a := fun q hq e => by
    have hq' := h.at_ q (List.mem_cons_of_mem _ hq)
    rw [e, ha] at hq'
    have e2 : o = q.2 := Option.some.inj hq'
    refine n1 (List.mem_map.mpr ⟨q, List.mem_filter.mpr ⟨hq, by rw [← e2, hl]; rfl⟩, e⟩)
  refine ⟨fun q hq => ?_, ?_⟩
  · rcases List.mem_cons.mp hq with rfl | hq
    · exact upd_same
    · rw [upd_ne (ne q hq)]; exact h.at_ q (List.mem_cons_of_mem _ hq)
  · rw [List.filter_cons, if_pos (by simp [hl']), List.map_cons]
    exact List.nodup_cons.mpr ⟨n1, n2⟩
theorem Led.sub {H : Hp} {L L' : Cells} (h : Led H L) (s : L'.Sublist L) : Led H L' := ⟨fun p hp => h.at_ p (s.subset hp), List.Nodup.sublist ((s.filter _).map _) h.nd⟩
theorem Led.tail {H : Hp} {L : Cells} {p : Addr × HO} (h : Led H (p :: L)) : Led H L := h.sub (List.sublist_cons_self p L)
theorem Led.left {H : Hp} {L M : Cells} (h : Led H (L ++ M)) : Led H L := h.sub (List.sublist_append_left L M)
theorem Led.right {H : Hp} {L M : Cells} (h : Led H (L ++ M)) : Led H M := h.sub (List.sublist_append_right L M)
theorem Led.again {H : Hp} {L : Cells} {a : Addr} {o : HO} (h : Led H L) (ha : H a = some o) (hl : lasts o = true) : Led H ((a, o) :: L) := by
  refine ⟨fun q hq => ?_, ?_⟩
  · rcases List.mem_cons.mp hq with rfl | hq
    · exact ha
    · exact h.at_ q hq
  · rw [List.filter_cons, if_neg (by simp [hl])]; exact h.nd
theorem Led.swap {H : Hp} {L : Cells} {p q : Addr × HO} (h : Led H (p :: q :: L)) : Led H (q :: p :: L) := h.perm (List.Perm.swap q p L)
theorem Led.pull {H : Hp} {L M : Cells} {p : Addr × HO} (h : Led H (L ++ p :: M)) : Led H (p :: (L ++ M)) := h.perm List.perm_middle
theorem Led.push {H : Hp} {L M : Cells} {p : Addr × HO} (h : Led H (p :: (L ++ M))) : Led H (L ++ p :: M) := h.perm List.perm_middle.symm
theorem Led.alloc {H : Hp} {L : Cells} {o : HO} {Q : VK} (h : Led H L) (k : ∀ p H', H p = none → Led H' ((p, o) :: L) → Same H H' → Q (.ref p) H') : ∀ p, H p = none → Q (.ref p) (upd H p o) := fun p hp => k p _ hp (h.new hp) (same_upd hp)
theorem Led.same {H H' : Hp} {L : Cells} (h : Led H L) (s : Same H H') : Led H' L := ⟨fun p hp => s _ _ (h.at_ p hp), h.nd⟩
theorem FnD.imp {P : Program} {w : World} {K : PySem.W.Frag} {mg : Str → Option Value} {base : Heap} {k : Nat} {x : Str} {ps : List Str} {sp sp' : Sp} (F : FnD P w K mg base k x ps sp) (h : ∀ vs H Q E, sp' vs H Q E → sp vs H Q E) : FnD P w K mg base k x ps sp' := by
  obtain ⟨f, fd, h1, h2, h3, h4⟩ := F.ex
  exact ⟨f, fd, h1, h2, h3, h4.imp h⟩
def Scr (K : PySem.W.Frag) (L : Cells) (a : Addr) (xs : List V) : Prop := (∃ o, (a, HO.frz o (.lst xs)) ∈ L) ∨ ∀ H, SqL K H a xs
theorem Scr.seq {K : PySem.W.Frag} {L : Cells} {a : Addr} {xs : List V} {H : Hp} (s : Scr K L a xs) (h : Led H L) : SqL K H a xs := by
  rcases s with ⟨o, m⟩ | s
  · exact .inl (.inr ⟨o, h.get m⟩)
  · exact s H
theorem Scr.mono {K : PySem.W.Frag} {L L' : Cells} {a : Addr} {xs : List V} (s : Scr K L a xs) (h : ∀ p ∈ L, p ∈ L') : Scr K L' a xs := by
  rcases s with ⟨o, m⟩ | s
  · exact .inl ⟨o, h _ m⟩
  · exact .inr s
theorem scr_start {K : PySem.W.Frag} {H : Hp} {a : Addr} {xs : List V} (hS : SqL K H a xs) (hO : Only H) : ∃ L, Led H L ∧ Scr K L a xs := by
  rcases hS with (h | ⟨o, h⟩) | h
  · rcases hO a with z | ⟨o, ys, z⟩
    · rw [h] at z; cases z
    · rw [h] at z; cases z
  · exact ⟨[(a, .frz o (.lst xs))], Led.nil.again h rfl, .inl ⟨o, List.mem_cons_self⟩⟩
  · exact ⟨[], Led.nil, .inr fun H' => .inr h⟩
theorem repH {H : Hp} {Q : VK} {l : Addr} {k : Int} {xs : List V} (h1 : H l = some (.lst xs)) (hk : -(2 ^ 63) ≤ k ∧ k < 2 ^ 63) (hl : xs.length * k.toNat ≤ sizeLine) (h : ∀ p, H p = none → Q (.ref p) (upd H p (.lst (List.replicate k.toNat xs).flatten))) : rRep (.ref l) (.int k) H Q := ⟨l, k, xs, rfl, rfl, h1, hk.1, hk.2, hl, h⟩
theorem Led.putI {H : Hp} {L : Cells} {a : Addr} {o o' : HO} (i : Nat) (h : Led H L) (e : L[i]? = some (a, o)) (hl : lasts o = false) (hl' : lasts o' = false) : Led (upd H a o') (L.set i (a, o')) := by
  have hi : i < L.length := (List.getElem?_eq_some_iff.mp e).1
  have e1 : L = L.take i ++ (a, o) :: L.drop (i + 1) := by
    have := (List.getElem?_eq_some_iff.mp e).2
    rw [← this, List.getElem_cons_drop, List.take_append_drop]
  have e2 : L.set i (a, o') = L.take i ++ (a, o') :: L.drop (i + 1) := by
    rw [List.set_eq_take_append_cons_drop, if_pos hi]
  rw [e1] at h
  rw [e2]
  exact ((h.pull).put hl hl').push
section
variable {H : Hp} {Q : VK} {x y v : V} {a : Addr} {xs : List V} {i : Int}
theorem eqIH {m n : Int} (h : Q (.bl (decide (m = n))) H) : rEq (.int m) (.int n) H Q := ⟨rfl, by rw [show decide (V.int m = V.int n) = decide (m = n) by simp]; exact h⟩
theorem neIH {m n : Int} (h : Q (.bl (!decide (m = n))) H) : rNe (.int m) (.int n) H Q := ⟨rfl, by rw [show decide (V.int m = V.int n) = decide (m = n) by simp]; exact h⟩
theorem eqSH {m n : Str} (h : Q (.bl (decide (m = n))) H) : rEq (.str m) (.str n) H Q := ⟨rfl, by rw [show decide (V.str m = V.str n) = decide (m = n) by simp]; exact h⟩
theorem eqBH {m n : Bool} (h : Q (.bl (decide (m = n))) H) : rEq (.bl m) (.bl n) H Q := ⟨rfl, by rw [show decide (V.bl m = V.bl n) = decide (m = n) by simp]; exact h⟩
theorem isiH {n t : String} {b : Bool} (h1 : tyN H x = some t) (h2 : isiT t n = some b) (h : Q (.bl b) H) : rIsiN [x, .ty n] H Q := ⟨x, n, t, b, rfl, h1, h2, h⟩
theorem ixLH (h1 : H a = some (.lst xs)) (h2 : atI xs i = some v) (h : Q v H) : rIxA (.ref a) (.int i) H Q := ⟨a, i, rfl, rfl, .inl ⟨xs, h1, v, h2, h⟩⟩
theorem ixTH (h1 : H a = some (.tup xs)) (h2 : atI xs i = some v) (h : Q v H) : rIxA (.ref a) (.int i) H Q := ⟨a, i, rfl, rfl, .inr ⟨xs, h1, v, h2, h⟩⟩
theorem lenLH (h1 : H a = some (.lst xs)) (h : Q (.int xs.length) H) : rLenA [.ref a] H Q := ⟨a, rfl, .inl ⟨xs, h1, h⟩⟩
theorem lenTH (h1 : H a = some (.tup xs)) (h : Q (.int xs.length) H) : rLenA [.ref a] H Q := ⟨a, rfl, .inr (.inl ⟨xs, h1, h⟩)⟩
theorem lenDH {kvs : List (Key × V)} (h1 : H a = some (.dK kvs)) (h : Q (.int kvs.length) H) : rLenA [.ref a] H Q := ⟨a, rfl, .inr (.inr ⟨kvs, h1, h⟩)⟩
theorem tyL (h : H a = some (.lst xs)) : tyN H (.ref a) = some "list" := by unfold tyN; simp only [h]
theorem tyT (h : H a = some (.tup xs)) : tyN H (.ref a) = some "tuple" := by unfold tyN; simp only [h]
theorem slLH {K : PySem.W.Frag} {lo hi : Option Int} (h1 : SqL K H a xs) (h : ∀ p, H p = none → Q (.ref p) (upd H p (.lst (cutV xs lo hi)))) : rSlL K (.ref a) lo hi H Q := ⟨a, xs, rfl, h1, h⟩
theorem setLH {QH : Hp → Prop} {p : Addr} {k : Int} {j : Nat} (h1 : H p = some (.lst xs)) (h2 : ixN xs.length k = some j) (h : QH (upd H p (.lst (xs.set j v)))) : rSetL (.ref p) (.int k) v H QH := ⟨p, xs, k, j, rfl, rfl, h1, h2, h⟩
theorem rtH {n b' c' : St → Hp → Prop} {q : VK} (h : q x H) : (Ends.mk n q b' c').rt x H := h
theorem nxH {n b' c' : St → Hp → Prop} {q : VK} {σ : St} (h : n σ H) : (Ends.mk n q b' c').nx σ H := h
theorem iteNT {A B : Prop} (h : B) : if (!true) = true then A else B := by simpa using h
theorem iteNF {A B : Prop} (h : A) : if (!false) = true then A else B := by simpa using h
theorem iteND {c : Prop} [Decidable c] {A B : Prop} (h1 : ¬ c → A) (h2 : c → B) : if (!decide c) = true then A else B := by
  by_cases h : c
  · rw [decide_eq_true h]; exact iteNT (h2 h)
  · rw [decide_eq_false h]; exact iteNF (h1 h)
theorem powH {m : Int} (e : (10 : Int) ^ i.toNat = m) (c : CPow 10 i) (h : Q (.int m) H) : rI CPow (fun i j => .int (i ^ j.toNat)) (.int 10) (.int i) H Q := ⟨10, i, rfl, rfl, c, by dsimp only; rw [e]; exact h⟩
theorem pow60H (h : Q (.int 1000000000000000000000000000000000000000000000000000000000000) H) : rI CPow (fun i j => .int (i ^ j.toNat)) (.int 10) (.int 60) H Q := powH (by decide) (of_eq_true cpow_60) h
theorem pow59H (h : Q (.int 100000000000000000000000000000000000000000000000000000000000) H) : rI CPow (fun i j => .int (i ^ j.toNat)) (.int 10) (.int 59) H Q := powH (by decide) (of_eq_true cpow_59) h
theorem pow20H (h : Q (.int 100000000000000000000) H) : rI CPow (fun i j => .int (i ^ j.toNat)) (.int 10) (.int 20) H Q := powH (by decide) (of_eq_true cpow_20) h
theorem tyI {n : Int} : tyN H (.int n) = some "int" := rfl
theorem tyB {n : Bool} : tyN H (.bl n) = some "bool" := rfl
theorem tyS {n : Str} : tyN H (.str n) = some "str" := rfl
theorem tyO : tyN H .non = some "NoneType" := rfl
theorem tyVL {K : PySem.W.Frag} (h : H a = some (.lst xs)) : tyV K "list" (.ref a) H := .inl ⟨rfl, xs, SqL.of h⟩
end
def Keep (p : Prop) : Prop := p ∧ True
theorem seqK {t u : TS} {D : Ends} {σ : St} {H : Hp} (h : ∀ M, Keep (Is M (u D)) → t { D with nx := M } σ H) : tSeq t u D σ H := h _ ⟨Is.rfl, trivial⟩
theorem Keep.use {M N : St → Hp → Prop} (h : Keep (Is M N)) {σ : St} {H : Hp} (k : N σ H) : M σ H := by cases h.1; exact k
theorem listH {K : PySem.W.Frag} {H : Hp} {Q : VK} {a : Addr} {ys : List V} (h1 : SqL K H a ys) (h : ∀ l, H l = none → Q (.ref l) (upd H l (.lst ys))) : ∃ p ys, [V.ref a] = [.ref p] ∧ (SqL K H p ys ∨ SqT K H p ys) ∧ ∀ l, H l = none → Q (.ref l) (upd H l (.lst ys)) := ⟨a, ys, rfl, .inl h1, h⟩
theorem ixN_of {n : Nat} {i : Int} (h0 : 0 ≤ i) (h1 : i < n) : ixN n i = some i.toNat := by unfold ixN; rw [if_pos h0, if_pos h1]
theorem atI_of {xs : List V} {i : Int} {v : V} (h0 : 0 ≤ i) (h : xs[i.toNat]? = some v) : atI xs i = some v := by
  have hj : i.toNat < xs.length := (List.getElem?_eq_some_iff.mp h).1
  unfold atI
  rw [ixN_of h0 (by omega)]
  exact h
theorem compRangeL {lo : Int} {n : Nat} {te : TE} {σ : St} {Q : VK} {H1 : Hp} {L : Cells} (F : Nat → V → Prop) (hL : Led H1 L) (hn : n ≤ sizeLine)
    (hs : ∀ (i : Nat) (H : Hp) (R : VK) (q : Addr × HO), i < n → Led H (q :: L) → (∀ v H', F i v → Led H' (q :: L) → R v H') → te (some (.int (lo + i)) :: σ) H R)
    (hd : ∀ p acc H', acc.length = n → (∀ i v, acc[i]? = some v → F i v) → Led H' ((p, .lst acc) :: L) → Q (.ref p) H') : CompJ (Itr lo n) tYes te σ Q H1 := by
  refine compRange (fun p i acc H => i ≤ n ∧ acc.length = i ∧ (∀ j v, acc[j]? = some v → F j v) ∧ Led H ((p, .lst acc) :: L)) (fun p hp => ⟨Nat.zero_le _, rfl, fun j v h => by simp at h, hL.new hp⟩) (fun p i acc H hp h => h.2.2.2.get List.mem_cons_self) ?_ ?_
  · rintro p i acc H hp hi ⟨_, rfl, hF, hl⟩
    unfold tYes
    dsimp only
    rw [if_pos rfl]
    refine hs _ _ _ (p, .lst acc) hi hl fun v H' fv hl' => ⟨hl'.get List.mem_cons_self, by omega, hi, by simp, fun j u hj => ?_, hl'.put rfl rfl⟩
    rw [List.getElem?_append] at hj
    split at hj
    · exact hF j u hj
    · rename_i hge
      have : j - acc.length = 0 := by
        rcases Nat.lt_or_ge (j - acc.length) 1 with h | h
        · omega
        · rw [List.getElem?_eq_none (by simpa using h)] at hj; cases hj
      rw [this] at hj
      have e : j = acc.length := by omega
      subst e
      cases hj
      exact fv
  · rintro p acc H hp ⟨_, e, hF, hl⟩
    exact hd p acc H e hF hl
end L2
set_option Elab.async false
set_option linter.all false
set_option maxRecDepth 100000
namespace L2
open PySem PySem.Spec PyProof.Rows PySem.W
section
variable {X : Cx}
theorem ints_keys {P : Program} {w : World} : ∀ {ns : List Int} {vs : List (Key × Value)} {us : List Value}, vs.map (·.1) = ns.map Sum.inl → us.length = vs.length → (∀ (j : Nat) (v : Value), us[j]? = some v → ∃ k x, vs[j]? = some (k, x) ∧ (mixKind P w).is k v = true) → IntsAre us ns
  | [], [], [], _, _, _ => .nil
  | [], [], _ :: _, _, h, _ => nomatch h
  | [], _ :: _, _, h, _, _ => nomatch h
  | _ :: _, [], _, h, _, _ => nomatch h
  | _ :: _, _ :: _, [], _, h, _ => nomatch h
  | n :: ns, (k, x) :: vs, u :: us, h, hl, hv => by
    obtain ⟨k', x', e, hk⟩ := hv 0 u rfl
    cases e
    have h1 : k = Sum.inl n := (List.cons.inj h).1
    subst h1
    have e : ∃ t, u = Value.int n t := Value.isInt_shape hk
    obtain ⟨t, rfl⟩ := e
    exact .cons n t (ints_keys (List.cons.inj h).2 (Nat.succ.inj hl) fun j v e => hv (j + 1) v e)
end
end L2
set_option Elab.async false
set_option linter.all false
set_option maxRecDepth 100000
namespace L2
open PySem PySem.Spec PyProof.Rows
section
variable {X : Cx} {pins : List (Addr × Obj)} {σ : St} {H : Hp} {s : Shared} {h' : Heap}
end
section
variable {X : Cx}
end
end L2
set_option Elab.async false
set_option linter.all false
set_option maxRecDepth 100000
namespace L2
open PySem PySem.Spec PyProof.Rows
section
variable {H : Hp} {Q : VK} {a : Addr} {σ : St} {D : Ends}
theorem fldR {C dx : Addr} {fs : List (Str × V)} {f : Str} {v : V} {S : V → Prop} (h1 : H a = some (.ins C dx fs)) (h2 : fs.lookup f = some v) (h : S v) : ∃ b dx fs v, V.ref a = .ref b ∧ H b = some (.ins C dx fs) ∧ fs.lookup f = some v ∧ S v := ⟨a, dx, fs, v, rfl, h1, h2, h⟩
theorem methR {C dx : Addr} {fs : List (Str × V)} {m : Str} {S : Prop} (h1 : H a = some (.ins C dx fs)) (h2 : fs.lookup m = none) (h : S) : ∃ b dx fs, V.ref a = .ref b ∧ H b = some (.ins C dx fs) ∧ fs.lookup m = none ∧ S := ⟨a, dx, fs, rfl, h1, h2, h⟩
theorem dinR {kvs : List (Key × V)} {n : Int} {S : Option V → Prop} (h1 : H a = some (.dK kvs)) (h : S (valV kvs (.inl n))) : ∃ b o, V.ref a = .ref b ∧ DGet H b (.int n) o ∧ S o := ⟨a, _, rfl, DGet.k (k := .inl n) h1, h⟩
theorem dgetR {kvs : List (Key × V)} {n : Int} {v : V} {S : V → Prop} (h1 : H a = some (.dK kvs)) (h2 : valV kvs (.inl n) = some v) (h : S v) : ∃ b v, V.ref a = .ref b ∧ DGet H b (.int n) (some v) ∧ S v := ⟨a, v, rfl, h2 ▸ DGet.k (k := .inl n) h1, h⟩
theorem dputR {kvs : List (Key × V)} {n : Int} {v : V} (h1 : H a = some (.dK kvs)) (hl : kvs.length < sizeLine) (h : D.nx σ (upd H a (.dK (putK kvs (.inl n) v)))) : ∃ b H4, V.ref a = .ref b ∧ DPut H b (.int n) v H4 ∧ D.nx σ H4 := ⟨a, _, rfl, DPut.k (k := .inl n) h1 hl, h⟩
theorem sfldR {C dx : Addr} {fs : List (Str × V)} {f : Str} {y : V} (h1 : H a = some (.ins C dx fs)) (h2 : fs.length < 1000) (h : D.nx σ (upd H a (.ins C dx (putF f y fs)))) : ∃ b dx fs, V.ref a = .ref b ∧ H b = some (.ins C dx fs) ∧ fs.length < 1000 ∧ D.nx σ (upd H b (.ins C dx (putF f y fs))) := ⟨a, dx, fs, rfl, h1, h2, h⟩
theorem newDH {L : Cells} (hL : Led H L) (h : ∀ p H', H p = none → Led H' ((p, .dK []) :: L) → Same H H' → Q (.ref p) H') : tDNewK σ H Q := fun p hp => h p _ hp (hL.new hp) (same_upd hp)
theorem isH {x : V} (h : Q (.bl (decide (x = .non))) H) : V.non = .non ∧ Q (.bl (decide (x = .non))) H := ⟨rfl, h⟩
theorem isnH {x : V} (h : Q (.bl (!decide (x = .non))) H) : V.non = .non ∧ Q (.bl (!decide (x = .non))) H := ⟨rfl, h⟩
theorem dpop1H {td ty : TE} (h : ∀ R, (∀ x H1, Hid (fun y H2 => ∃ a kvs k v, x = .ref a ∧ H2 a = some (.dK kvs) ∧ y = kV k ∧ valV kvs k = some v ∧ Q v (upd H2 a (.dK (dropK kvs k)))) (fun R2 => (∃ a, x = .ref a ∧ IsD H1 a) ∧ ty σ H1 R2) → R x H1) → td σ H R) : tDPop1 td ty σ H Q := by
  unfold tDPop1
  refine h (fun x H1 => ∃ a, x = .ref a ∧ IsD H1 a ∧ ty σ H1 fun y H2 => ∃ kvs k v, H2 a = some (.dK kvs) ∧ y = kV k ∧ valV kvs k = some v ∧ Q v (upd H2 a (.dK (dropK kvs k)))) fun x H1 z => ?_
  obtain ⟨a, e, hd⟩ := (z (fun _ _ => True) fun _ _ _ => True.intro).1
  subst e
  refine ⟨a, rfl, hd, (z _ fun y H2 q => ?_).2⟩
  obtain ⟨b, kvs, k, v, e, q⟩ := q
  cases e
  exact ⟨kvs, k, v, q⟩
theorem isD_of {kvs : List (Key × V)} (h : H a = some (.dK kvs)) : ∃ b, V.ref a = .ref b ∧ IsD H b := ⟨a, rfl, .inl ⟨kvs, .inl h⟩⟩
theorem dpopR {kvs : List (Key × V)} {n : Int} {v : V} (h1 : H a = some (.dK kvs)) (h2 : valV kvs (.inl n) = some v) (h : Q v (upd H a (.dK (dropK kvs (.inl n))))) : ∃ b kvs k v, V.ref a = .ref b ∧ H b = some (.dK kvs) ∧ V.int n = kV k ∧ valV kvs k = some v ∧ Q v (upd H b (.dK (dropK kvs k))) := ⟨a, kvs, .inl n, v, rfl, h1, rfl, h2, h⟩
end
end L2
set_option Elab.async false
set_option linter.all false
set_option maxRecDepth 100000
namespace L2
open PySem PySem.Spec PyProof.Rows
theorem compListL {K : PySem.W.Frag} {a : Addr} {te : TE} {σ : St} {Q : VK} {H1 : Hp} {L : Cells} (xs : List V) (G : Nat → V → Cells → Prop) (hL : Led H1 L) (ha : (a, HO.lst xs) ∈ L) (hn : xs.length ≤ sizeLine)
    (hs : ∀ (i : Nat) (x : V) (H : Hp) (R : VK) (M : Cells), xs[i]? = some x → Led H (M ++ L) → (∀ v H' C, G i v C → Led H' (C ++ (M ++ L)) → R v H') → te (some x :: σ) H R)
    (hd : ∀ (p : Addr) (vs : List V) (Cs : List Cells) (H' : Hp), vs.length = xs.length → Cs.length = xs.length → (∀ (i : Nat) v C, vs[i]? = some v → Cs[i]? = some C → G i v C) → Led H' ((p, .lst vs) :: (Cs.flatten ++ L)) → Q (.ref p) H') : CompJ (Itl K a) tYes te σ Q H1 := by
  refine compList xs (fun p i acc H => i ≤ xs.length ∧ acc.length = i ∧ ∃ Cs : List Cells, Cs.length = i ∧ (∀ (j : Nat) v C, acc[j]? = some v → Cs[j]? = some C → G j v C) ∧ Led H ((p, .lst acc) :: (Cs.flatten ++ L))) (fun p hp => ⟨Nat.zero_le _, rfl, [], rfl, fun j v C h => by simp at h, hL.new hp⟩) (fun p i acc H hp h => ?_) ?_ ?_
  · obtain ⟨_, _, Cs, _, _, hl⟩ := h
    exact ⟨hl.get List.mem_cons_self, SqL.of (hl.get (List.mem_cons_of_mem _ (List.mem_append_right _ ha)))⟩
  · rintro p i x acc H hp hx ⟨_, rfl, Cs, hc, hG, hl⟩
    have hi : acc.length < xs.length := (List.getElem?_eq_some_iff.mp hx).1
    unfold tYes
    dsimp only
    rw [if_pos rfl]
    refine hs _ x H _ ((p, .lst acc) :: Cs.flatten) hx hl fun v H' C g hl' => ?_
    have h1 : Led H' ((p, .lst acc) :: (C ++ (Cs.flatten ++ L))) := Led.pull hl'
    refine ⟨h1.get List.mem_cons_self, by omega, hi, by simp, Cs ++ [C], by simp [hc], fun j u D hu hD => ?_, ?_⟩
    · rw [List.getElem?_append] at hu hD
      rw [hc] at hD
      by_cases hj : j < acc.length
      · rw [if_pos hj] at hu hD
        exact hG j u D hu hD
      · rw [if_neg hj] at hu hD
        have h0 : j - acc.length = 0 := by
          rcases Nat.lt_or_ge (j - acc.length) 1 with h | h
          · omega
          · rw [List.getElem?_eq_none (by simpa using h)] at hu; cases hu
        rw [h0] at hu hD
        have e : j = acc.length := by omega
        subst e
        cases hu
        cases hD
        exact g
    · refine (h1.put (o' := .lst (acc ++ [v])) rfl rfl).perm (List.Perm.cons _ ?_)
      rw [List.flatten_append, List.flatten_cons, List.flatten_nil, List.append_nil, List.append_assoc, ← List.append_assoc, ← List.append_assoc]
      exact List.Perm.append_right _ List.perm_append_comm
  · rintro p acc H hp ⟨_, e, Cs, hc, hG, hl⟩
    exact hd p acc Cs H e hc hG hl
end L2
set_option Elab.async false
set_option linter.all false
set_option maxRecDepth 100000
namespace L2
open PySem PySem.Spec PyProof.Rows
section
variable {H : Hp} {Q : VK} {a : Addr} {σ : St} {D : Ends}
end
section
variable {α : Type} {A B B' X Y : List α} {a b : α}
theorem pcC (h : (a :: B').Perm B) : (a :: b :: B').Perm (b :: B) := (List.Perm.swap _ _ _).trans (h.cons b)
theorem pcA (h : (a :: B').Perm B) : (a :: (Y ++ B')).Perm (Y ++ B) := (List.perm_middle.symm).trans (List.Perm.append_left Y h)
theorem paC (h : (X ++ B').Perm B) : (X ++ (b :: B')).Perm (b :: B) := List.perm_middle.trans (h.cons b)
theorem paA (h : (X ++ B').Perm B) : (X ++ (Y ++ B')).Perm (Y ++ B) := by
  refine List.Perm.trans ?_ (List.Perm.append_left Y h)
  rw [← List.append_assoc, ← List.append_assoc]
  exact List.Perm.append_right _ List.perm_append_comm
def SubP (B A : List α) : Prop := ∃ A', B.Perm A' ∧ A'.Sublist A
theorem spR : SubP A A := ⟨A, .refl _, .refl _⟩
theorem spC (h1 : (a :: A).Perm B) (h2 : SubP Y A) : SubP (a :: Y) B := by
  obtain ⟨A', p, s⟩ := h2
  obtain ⟨C, p2, s2⟩ := List.exists_perm_sublist (s.cons₂ a) h1
  exact ⟨C, (p.cons a).trans p2.symm, s2⟩
theorem spA (h1 : (X ++ A).Perm B) (h2 : SubP Y A) : SubP (X ++ Y) B := by
  obtain ⟨A', p, s⟩ := h2
  obtain ⟨C, p2, s2⟩ := List.exists_perm_sublist (List.Sublist.append_left s X) h1
  exact ⟨C, (List.Perm.append_left X p).trans p2.symm, s2⟩
theorem spD (h : SubP B A) : SubP B (a :: A) := by
  obtain ⟨A', p, s⟩ := h
  exact ⟨A', p, s.cons a⟩
theorem spDA (h : SubP B A) : SubP B (X ++ A) := by
  obtain ⟨A', p, s⟩ := h
  exact ⟨A', p, s.trans (List.sublist_append_right X A)⟩
end
theorem Led.wk {H : Hp} {L L' : Cells} (h : Led H L) (s : SubP L' L) : Led H L' := by
  obtain ⟨A', p, q⟩ := s
  exact (h.sub q).perm p.symm
theorem Led.make {H : Hp} {L : Cells} {C x dx : Addr} (hL : Led H L) (h1 : H x = none) (h2 : H dx = none) (hn : dx ≠ x) : Led (upd (upd H dx (.own x)) x (.ins C dx [])) ((x, .ins C dx []) :: L) := by
  have := (hL.new (o := .own x) h2).new (p := x) (o := .ins C dx []) (by rw [upd_ne (Ne.symm hn)]; exact h1)
  exact this.sub (.cons₂ _ (.cons _ (.refl _)))
end L2
set_option Elab.async false
set_option linter.all false
set_option maxRecDepth 100000
namespace L2
open PySem PySem.Spec PyProof.Rows PySem.W
theorem shaped_kqd {d : Dat} (h : kqdOk 8 d = true) : shaped (kqdP d) = true := by
  have l := kqd_lay 8 d h
  show ((kqdP d).canLay0 && decide ((kqdP d).depth ≤ 64)) = true
  rw [l.1, Bool.true_and]
  exact decide_eq_true (Nat.le_trans l.2 (by decide))
theorem kqdPs_map : ∀ ds : List Dat, kqdPs ds = ds.map kqdP
  | [] => rfl
  | d :: ds => by rw [kqdPs, kqdPs_map ds]; rfl
theorem slTH {H : Hp} {Q : VK} {K : PySem.W.Frag} {a : Addr} {xs : List V} {lo hi : Option Int} (h1 : H a = some (.tup xs)) (h2 : ¬ (HT.sIx xs.length 0 lo = 0 ∧ HT.sIx xs.length xs.length hi = xs.length)) (h : ∀ p, H p = none → Q (.ref p) (upd H p (.tup (cutV xs lo hi)))) : rSlT K (.ref a) lo hi H Q := ⟨a, xs, rfl, SqT.of h1, h2, h⟩
end L2
set_option Elab.async false
set_option linter.all false
set_option maxRecDepth 100000
namespace L2
open PySem PySem.Spec PyProof.Rows
theorem valV_drop (k j : Key) : ∀ kvs : List (Key × V), valV (dropK kvs k) j = if j = k then none else valV kvs j
  | [] => by simp [dropK, valV]
  | p :: r => by
    by_cases e : p.1 = k
    · rw [dropK_pos e, valV_drop k j r]
      by_cases hj : j = k
      · rw [if_pos hj, if_pos hj]
      · rw [if_neg hj, if_neg hj, valV_neg (fun z => hj (by rw [← z, e]))]
    · rw [dropK_neg e]
      by_cases hp : p.1 = j
      · rw [valV_pos hp, valV_pos hp, if_neg (fun z => e (by rw [hp, z]))]
      · rw [valV_neg hp, valV_neg hp, valV_drop k j r]
structure WD (kvs : List (Key × V)) (f : Int → V) (n : Nat) : Prop where
  nd : (kvs.map (·.1)).Nodup
  ik : ∀ k ∈ kvs.map (·.1), ∃ m : Int, k = Sum.inl m
  le : kvs.length ≤ n
  vl : ∀ m, valV kvs (.inl m) = if f m = .non then none else some (f m)
theorem WD.keys {kvs : List (Key × V)} (h : ∀ k ∈ kvs.map (·.1), ∃ m : Int, k = Sum.inl m) : ∃ ns : List Int, kvs.map (·.1) = ns.map Sum.inl := by
  induction kvs with
  | nil => exact ⟨[], rfl⟩
  | cons p r ih =>
    obtain ⟨ns, e⟩ := ih fun k hk => h k (List.mem_cons_of_mem _ hk)
    obtain ⟨m, hm⟩ := h p.1 List.mem_cons_self
    exact ⟨m :: ns, by rw [List.map_cons, List.map_cons, e, hm]⟩
theorem WD.ns {kvs : List (Key × V)} {f : Int → V} {n : Nat} (h : WD kvs f n) : ∃ ns : List Int, kvs.map (·.1) = ns.map Sum.inl ∧ ns.length ≤ n ∧ ns.Nodup ∧ ∀ m, m ∈ ns ↔ f m ≠ .non := by
  obtain ⟨ns, e⟩ := WD.keys h.ik
  refine ⟨ns, e, ?_, ?_, fun m => ?_⟩
  · have := congrArg List.length e
    rw [List.length_map, List.length_map] at this
    have := h.le
    omega
  · have := h.nd
    rw [e] at this
    exact (List.pairwise_map.mp this).imp fun {a b} hab z => hab (by rw [z])
  · have h1 : m ∈ ns ↔ (Sum.inl m : Key) ∈ kvs.map (·.1) := by
      rw [e, List.mem_map]
      constructor
      · intro hm; exact ⟨m, hm, rfl⟩
      · rintro ⟨m', hm, z⟩; cases z; exact hm
    rw [h1]
    have hv := h.vl m
    constructor
    · intro hk z
      rw [if_pos z] at hv
      exact valV_not hv hk
    · intro z
      rw [if_neg z] at hv
      exact valV_in hv
theorem WD.start : WD [] (fun _ => .non) 0 := ⟨List.nodup_nil, (fun _ h => nomatch h), Nat.le_refl _, fun m => by rw [if_pos rfl]; rfl⟩
theorem WD.drop {kvs : List (Key × V)} {f : Int → V} {n : Nat} (h : WD kvs f n) (p : Int) : WD (dropK kvs (.inl p)) (fun m => if m = p then .non else f m) n := by
  refine ⟨nd_dropK h.nd, fun k hk => ?_, Nat.le_trans (dropK_le kvs _) h.le, fun m => ?_⟩
  · obtain ⟨q, hq, rfl⟩ := List.mem_map.mp hk
    exact h.ik _ (List.mem_map.mpr ⟨q, dropK_mem hq, rfl⟩)
  · rw [valV_drop, h.vl m]
    by_cases hm : m = p
    · rw [if_pos (by rw [hm]), if_pos hm, if_pos rfl]
    · rw [if_neg (fun z => hm (Sum.inl.inj z)), if_neg hm]
theorem WD.mono {kvs : List (Key × V)} {f : Int → V} {n n' : Nat} (h : WD kvs f n) (hn : n ≤ n') : WD kvs f n' := ⟨h.nd, h.ik, Nat.le_trans h.le hn, h.vl⟩
theorem WD.get {kvs : List (Key × V)} {f : Int → V} {n : Nat} (h : WD kvs f n) (m : Int) : (valV kvs (.inl m)).getD .non = f m := by
  rw [h.vl]
  split
  · rename_i e; rw [e]; rfl
  · rfl
theorem cut_ints (ns : List Int) (lo hi : Option Int) : ∃ ms : List Int, cutV (ns.map V.int) lo hi = ms.map V.int ∧ ms.length ≤ ns.length := by
  refine ⟨(ns.drop (HT.sIx (ns.map V.int).length 0 lo)).take (HT.sIx (ns.map V.int).length (ns.map V.int).length hi - HT.sIx (ns.map V.int).length 0 lo), ?_, ?_⟩
  · unfold cutV
    rw [List.map_take, List.map_drop]
  · rw [List.length_take, List.length_drop]
    omega
theorem sl4b {H : Hp} {Q : VK} {K : PySem.W.Frag} {p : Addr} {a b c d : V} (h1 : H p = some (.tup [a, b, c, d])) (h : ∀ q, H q = none → Q (.ref q) (upd H q (.tup [c, d]))) : rSlT K (.ref p) (some 2) none H Q := slTH h1 (show ¬ (HT.sIx 4 0 (some 2) = 0 ∧ HT.sIx 4 4 none = 4) by decide) h
end L2
set_option Elab.async false
set_option linter.all false
set_option maxRecDepth 100000
namespace L2
open PySem PySem.Spec PyProof.Rows
end L2
set_option Elab.async false
set_option linter.all false
set_option maxRecDepth 100000
namespace L2
open PySem PySem.Spec PyProof.Rows PySem.W
section
variable {X : Cx}
end
section
variable {X : Cx}
def rInD (neg : Bool) : R2 := fun x y H Q => ∃ d ds, DatV H x d ∧ DatV H y (.list ds) ∧ d.depth ≤ 60 ∧ shaped d = true ∧ shaped (.list ds) = true ∧ Q (.bl (if neg then !(ds.any fun e => PyData.eqv e d) else ds.any fun e => PyData.eqv e d)) H
theorem shaped_lay {d : PyData} (h : shaped d = true) : d.canLay0 = true ∧ d.depth ≤ 64 := by
  have h' : (d.canLay0 && decide (d.depth ≤ 64)) = true := h
  rw [Bool.and_eq_true, decide_eq_true_iff] at h'
  exact h'
theorem shaped_all {ds : List PyData} (h : shaped (.list ds) = true) : PyData.canLayAll0 ds = true := by
  have := (shaped_lay h).1
  simpa [PyData.canLay0] using this
theorem op_inD (hu : X.A.units + 64 < cLine) : OpR X (compareOp .In) (rInD false) := by
  intro pins s σ H x y u v Q I rx ry h
  obtain ⟨d, ds, hd, he, h60, sd, se, q⟩ := h
  obtain ⟨_, ra⟩ := hd.reads I.hok rx
  obtain ⟨_, rb⟩ := he.reads I.hok ry
  have h1 := shaped_lay sd
  exact SeqAt.in_list_reads rb ra (shaped_all se) h1.1 (by have := Nat.min_le_right (PyData.depthAll ds) d.depth; omega) ⟨.bl _, H, I, rfl, q⟩
theorem op_notInD (hu : X.A.units + 64 < cLine) : OpR X (compareOp .NotIn) (rInD true) := by
  intro pins s σ H x y u v Q I rx ry h
  obtain ⟨d, ds, hd, he, h60, sd, se, q⟩ := h
  obtain ⟨_, ra⟩ := hd.reads I.hok rx
  obtain ⟨_, rb⟩ := he.reads I.hok ry
  have h1 := shaped_lay sd
  exact SeqAt.notIn_list_reads rb ra (shaped_all se) h1.1 (by have := Nat.min_le_right (PyData.depthAll ds) d.depth; omega) ⟨.bl _, H, I, rfl, q⟩
end
end L2
set_option Elab.async false
set_option linter.all false
set_option maxRecDepth 100000
namespace L2
open PySem PySem.Spec PyProof.Rows PySem.W
theorem tryI {K : PySem.W.Frag} {C : Addr} {i : Nat} {tb : XK → TS} {ts : TS} {D : Ends} {σ : St} {H : Hp} (h : ∀ E : XK, Is E (fun cls _ H' => PySem.W.exmOne K cls (.ref C) = some true ∧ ∀ ea, H' ea = none →
    ts { nx := fun σ2 H2 => D.nx (σ2.set i none) H2, rt := D.rt, bk := fun σ2 H2 => D.bk (σ2.set i none) H2, ct := fun σ2 H2 => D.ct (σ2.set i none) H2 } (σ.set i (some (.ref ea))) (upd H' ea (.ext (IsExc ea cls)))) → tb E D σ H) : tTry K C i tb ts D σ H := h _ Is.rfl
theorem raiseI {E : XK} {C : Addr} {ta : TA} {D : Ends} {σ : St} {H : Hp} (h : ∀ R, Is R (fun vs H1 => vs.length ≤ sizeLine ∧ E (.ref C) none H1) → ta σ H R) : tRaise E C ta D σ H := h _ Is.rfl
section
variable {X : Cx} {k : Nat} {C : Addr} {ps : List Str} {sp : Sp} {x m : Str} {pos apos : Pos} {e o : Expr} {es : List Expr} {ta : TE} {t : TA}
end
theorem tupN2 {K : PySem.W.Frag} {H : Hp} {p : Addr} {x y : V} {σ : L2.St} {i j : Nat} {Q : L2.St → Hp → Prop} (h : H p = some (.tup [x, y])) (hq : Q ((σ.set i (some x)).set j (some y)) H) : gTup K 2 (gCons (gName i) (gCons (gName j) gNil)) (.ref p) σ H Q := ⟨p, [x, y], rfl, SqT.of h, rfl, x, [y], rfl, y, [], rfl, rfl, hq⟩
end L2
set_option Elab.async false
set_option linter.all false
set_option maxRecDepth 100000
namespace L2
open PySem PySem.Spec PyProof.Rows PySem.W
section
variable {X : Cx}
end
end L2
set_option Elab.async false
set_option linter.all false
set_option maxRecDepth 100000
namespace L2
open PySem PySem.Spec PyProof.Rows PySem.W
section
variable {X : Cx}
def rIndex : V → List V → Hp → VK → Prop := fun x vs H Q => ∃ l xs y j, x = .ref l ∧ vs = [y] ∧ H l = some (.lst xs) ∧ flatV y = true ∧ xs.all flatV = true ∧ (∃ v, xs[j]? = some v ∧ eqV v y = true) ∧ (∀ m v, m < j → xs[m]? = some v → eqV v y = false) ∧ Q (.int (j : Nat)) H
theorem mt_index : MtM X "list.index" rIndex := by
  intro pins s σ H x vs v us Q I rx rv h
  obtain ⟨l, xs, y, j, rfl, rfl, hH, fy, fs, ⟨vj, hvj, hit⟩, hno, q⟩ := h
  cases rx
  obtain ⟨u, rfl, ru⟩ := rv.one
  obtain ⟨z, its, n, r, hl, e⟩ := I.lstM hH
  have hj : j < xs.length := (List.getElem?_eq_some_iff.mp hvj).1
  have at_ : ∀ (m : Nat) (hm : m < its.toArray.size) (w : V), xs[m]? = some w → eqU y its.toArray[m] = eqV w y := fun m hm w hw => by
    obtain ⟨u', hu', ru'⟩ := r.get hw
    have fw : flatV w = true := List.all_eq_true.mp fs w (List.mem_of_getElem? hw)
    have e1 : its.toArray[m] = u' := by
      have : its[m]? = some u' := hu'
      simpa [List.getElem?_eq_some_iff] using (List.getElem?_eq_some_iff.mp this).2
    rw [e1]
    exact eqU_of ru' fw
  have hsz : its.toArray.size = xs.length := by rw [List.size_toArray]; omega
  have hl2 := line63
  refine call_meets F.slot_list_index ⟨_, e, rfl⟩ F.entry_list_index (F.args_list_index_2 _ _) (SeqAt.list_indexAt l its.toArray n none #[] u (eqU y) j (by omega) (by omega) ?_ ?_) ⟨e, fun w hw => mem_eqAt ru fy r fs w (by simpa using hw), ?_⟩
  · rw [at_ j (by omega) vj hvj]; exact hit
  · intro m hm hlt
    have hmx : m < xs.length := by omega
    rw [at_ m hm _ (List.getElem?_eq_getElem hmx)]
    exact hno m _ hlt (List.getElem?_eq_getElem hmx)
  · exact ⟨.int j, H, I.tok _, ⟨_, rfl⟩, q⟩
theorem indexH {H : Hp} {Q : VK} {l : Addr} {xs : List V} {y v : V} {j : Nat} (h1 : H l = some (.lst xs)) (fy : flatV y = true) (fs : xs.all flatV = true) (hj : xs[j]? = some v) (hit : eqV v y = true) (hno : ∀ m v, m < j → xs[m]? = some v → eqV v y = false) (h : Q (.int (j : Nat)) H) : rIndex (.ref l) [y] H Q := ⟨l, xs, y, j, rfl, rfl, h1, fy, fs, ⟨v, hj, hit⟩, hno, h⟩
def rListD : List V → Hp → VK → Prop := fun xs H Q => ∃ (p : Addr) (kvs : List (Key × V)) (ns : List Int), xs = [.ref p] ∧ H p = some (.dK kvs) ∧ kvs.map (·.1) = ns.map Sum.inl ∧ ∀ l, H l = none → Q (.ref l) (upd H l (.lst (ns.map V.int)))
theorem kv_keys : ∀ {a : List (Key × V)} {b : List (Key × Value)}, KV a b → b.map (·.1) = a.map (·.1) := by
  intro a
  induction a with
  | nil => intro b h; cases b with
    | nil => rfl
    | cons _ _ => cases h
  | cons x a ih => intro b h; cases h with
    | cons h1 h2 => rw [List.map_cons, List.map_cons, ih h2, h1.1]
theorem call_listD (hc : X.calm = true) : CallR X (.type "list") rListD := by
  intro pins s σ H xs us Q I r h
  obtain ⟨p, kvs, ns, rfl, hp, hk, q⟩ := h
  obtain ⟨u, rfl, rx⟩ := vals1 r
  cases rx
  obtain ⟨hz, hS, vs, rr, m⟩ := dk_of I.hok hp
  obtain ⟨ep, hat⟩ := m.dictAt
  have hl : kvs.length = vs.length := Paired.length rr
  have hkn : kvs.length = ns.length := by have := congrArg List.length hk; simpa using this
  have hkv : vs.map (·.1) = ns.map Sum.inl := by rw [← hk]; exact kv_keys rr
  refine kdl_call (kdl_dict (knd := mixKind X.prog X.w) (kvs := vs) (ep := ep) hS) (I.ok.hd hc) hat (by omega) fun h' tk acc' c' hk' hS' hacc => ?_
  have hints : IntsAre acc'.toList ns := ints_keys hkv (by rw [Array.length_toList]; exact hacc.1) fun j v e => hacc.2 j v (by rw [← Array.getElem?_toList]; exact e)
  exact ⟨.ref s.heap.objs.size, _, I.laid (t' := tk) hk' (Nat.le_refl _) (show ObjOk X.prog X.w _ h' _ (.lst (ns.map V.int)) from ⟨by rw [List.length_map]; omega, acc'.toList, c', vals_ints hints, by simpa using hS'⟩), rfl, q _ (I.hok.fresh (Nat.le_refl _))⟩
theorem listDH {H : Hp} {Q : VK} {p : Addr} {kvs : List (Key × V)} {ns : List Int} (h1 : H p = some (.dK kvs)) (hk : kvs.map (·.1) = ns.map Sum.inl) (h : ∀ l, H l = none → Q (.ref l) (upd H l (.lst (ns.map V.int)))) : rListD [.ref p] H Q := ⟨p, kvs, ns, rfl, h1, hk, h⟩
end
abbrev Ents := List (Int × Addr × List Int)
def kvE (es : Ents) : List (Key × V) := es.map fun e => (Sum.inl e.1, V.ref e.2.1)
def rowC (es : Ents) : Cells := es.map fun e => (e.2.1, HO.lst (e.2.2.map V.int))
theorem kvE_val (es : Ents) (n : Int) : valV (kvE es) (.inl n) = (es.find? fun e => decide (e.1 = n)).map fun e => .ref e.2.1 := by
  induction es with
  | nil => rfl
  | cons e es ih =>
    unfold kvE at ih ⊢
    rw [List.map_cons, List.find?_cons]
    by_cases h : e.1 = n
    · rw [valV_pos (by rw [h]), decide_eq_true h]; rfl
    · rw [valV_neg (fun q => h (Sum.inl.inj q)), decide_eq_false h]; exact ih
theorem kvE_none {es : Ents} {n : Int} (h : n ∉ es.map (·.1)) : valV (kvE es) (.inl n) = none := by
  rw [kvE_val, List.find?_eq_none.mpr]
  · rfl
  · intro e he q
    exact h (List.mem_map.mpr ⟨e, he, of_decide_eq_true q⟩)
theorem kvE_put {es : Ents} {n : Int} (h : n ∉ es.map (·.1)) (a : Addr) (row : List Int) : putK (kvE es) (.inl n) (.ref a) = kvE (es ++ [(n, a, row)]) := by
  unfold putK
  rw [if_neg]
  · unfold kvE; rw [List.map_append]; rfl
  · rw [valV_any, kvE_none h]; exact Bool.false_ne_true
theorem kvE_drop (es : Ents) (n : Int) : dropK (kvE es) (.inl n) = kvE (es.filter fun e => decide (e.1 ≠ n)) := by
  unfold dropK kvE
  rw [List.filter_map]
  congr 1
  refine List.filter_congr fun e _ => ?_
  show decide ((Sum.inl e.1 : Key) ≠ Sum.inl n) = decide (e.1 ≠ n)
  exact decide_eq_decide.mpr ⟨fun q z => q (by rw [z]), fun q z => q (Sum.inl.inj z)⟩
theorem find_mem {es : Ents} {e : Int × Addr × List Int} (nd : (es.map (·.1)).Nodup) (h : e ∈ es) : es.find? (fun x => decide (x.1 = e.1)) = some e := by
  induction es with
  | nil => cases h
  | cons x es ih =>
    rw [List.map_cons, List.nodup_cons] at nd
    rw [List.find?_cons]
    rcases List.mem_cons.mp h with rfl | h
    · rw [decide_eq_true rfl]
    · have : x.1 ≠ e.1 := fun q => nd.1 (q ▸ List.mem_map.mpr ⟨e, h, rfl⟩)
      rw [decide_eq_false this]
      exact ih nd.2 h
theorem cpow_40 : CPow 10 40 = True := eq_true ⟨by decide, by decide, by decide⟩
section
variable {H : Hp} {Q : VK}
theorem pow40H (h : Q (.int 10000000000000000000000000000000000000000) H) : rI CPow (fun i j => .int (i ^ j.toNat)) (.int 10) (.int 40) H Q := powH (by decide) (of_eq_true cpow_40) h
end
theorem bits_add {x y : Int} {n : Nat} (hx : Builtin.Int.intBits x ≤ n) (h0 : 0 ≤ y) (h1 : y ≤ 1000000) (hn : 20 ≤ n) : Builtin.Int.intBits (x + y) ≤ n + 1 := by
  have hy : Builtin.Int.intBits y ≤ 20 := intBits_le_iff.mpr (by omega)
  exact Nat.le_trans (intBits_add_le hx hy) (by omega)
theorem bits_small {x : Int} (h0 : 0 ≤ x) (h1 : x ≤ 1000000) : Builtin.Int.intBits x ≤ 20 := intBits_le_iff.mpr (by omega)
theorem mul_ok {c m : Int} (hb : Builtin.Int.intBits c ≤ 2000000) (hm : Builtin.Int.intBits m ≤ 1000) : IntMulOk c m := IntMulOk.of_le hb hm (by decide)
theorem at6i {a0 a1 a2 a3 a4 a5 t : Int} (h0 : 0 ≤ t) (h5 : t ≤ 5) : ∃ z : Int, atI [V.int a0, .int a1, .int a2, .int a3, .int a4, .int a5] t = some (.int z) := by
  have h : t = 0 ∨ t = 1 ∨ t = 2 ∨ t = 3 ∨ t = 4 ∨ t = 5 := by omega
  rcases h with rfl | rfl | rfl | rfl | rfl | rfl
  · exact ⟨_, atI_0⟩
  · exact ⟨_, atI_1⟩
  · exact ⟨_, atI_2⟩
  · exact ⟨_, atI_3⟩
  · exact ⟨_, atI_4⟩
  · exact ⟨_, atI_5⟩
theorem ent_split {es : Ents} {e : Int × Addr × List Int} (nd : (es.map (·.1)).Nodup) (h : e ∈ es) : ∃ as bs, es = as ++ e :: bs ∧ es.filter (fun x => decide (x.1 ≠ e.1)) = as ++ bs := by
  obtain ⟨as, bs, rfl⟩ := List.append_of_mem h
  refine ⟨as, bs, rfl, ?_⟩
  rw [List.map_append, List.map_cons] at nd
  have h1 : ∀ x ∈ as ++ bs, x.1 ≠ e.1 := fun x hx q => by
    have nd2 := (List.perm_middle (l₁ := as.map (·.1)) (a := e.1) (l₂ := bs.map (·.1))).nodup_iff.mp nd
    rw [List.nodup_cons] at nd2
    refine nd2.1 ?_
    rw [← List.map_append, ← q]
    exact List.mem_map.mpr ⟨x, hx, rfl⟩
  rw [List.filter_append, List.filter_cons, if_neg (by simp)]
  rw [List.filter_eq_self.mpr, List.filter_eq_self.mpr]
  · intro x hx; exact decide_eq_true (h1 x (List.mem_append_right _ hx))
  · intro x hx; exact decide_eq_true (h1 x (List.mem_append_left _ hx))
theorem rowC_mid (as bs : Ents) (e : Int × Addr × List Int) : rowC (as ++ e :: bs) = rowC as ++ (e.2.1, HO.lst (e.2.2.map V.int)) :: rowC bs := by unfold rowC; rw [List.map_append]; rfl
theorem rowC_app (as bs : Ents) : rowC (as ++ bs) = rowC as ++ rowC bs := by unfold rowC; rw [List.map_append]
theorem inFlatH {K : PySem.W.Frag} {H : Hp} {Q : VK} {p : Addr} {xs : List V} {y : V} (h1 : H p = some (.lst xs)) (fy : flatV y = true) (fs : xs.all flatV = true) (h : Q (.bl (inV y xs)) H) : rIn K false y (.ref p) H Q := ⟨p, xs, rfl, .inl (SqL.of h1), fy, fs, h⟩
end L2
set_option Elab.async false
set_option linter.all false
set_option maxRecDepth 100000
namespace L2
open PySem PySem.Spec PyProof.Rows PySem.W
section
variable {X : Cx} {pins : List (Addr × Obj)} {σ : St} {H : Hp} {s : Shared} {h' : Heap}
end
section
variable {X : Cx}
end
end L2
set_option Elab.async false
set_option linter.all false
set_option maxRecDepth 100000
namespace L2
open PySem PySem.Spec PyProof.Rows PySem.W
end L2
set_option Elab.async false
set_option linter.all false
set_option maxRecDepth 100000
namespace L2
open PySem PySem.Spec PyProof.Rows PySem.W
end L2
set_option Elab.async false
set_option linter.all false
set_option maxRecDepth 100000
namespace L2
open PySem PySem.Spec PyProof.Rows PySem.W
section
variable {X : Cx}
def rIndexD : V → List V → Hp → VK → Prop := fun x vs H Q => ∃ l xs y d ds j, x = .ref l ∧ vs = [y] ∧ H l = some (.lst xs) ∧ DatV H y d ∧ DatVs H xs ds ∧ d.depth ≤ 60 ∧ shaped d = true ∧ shaped (.list ds) = true ∧ (∃ e, ds[j]? = some e ∧ PyData.eqv e d = true) ∧ (∀ (m : Nat) e, m < j → ds[m]? = some e → PyData.eqv e d = false) ∧ Q (.int (j : Nat)) H
theorem mt_indexD (hu : X.A.units + 64 < cLine) : MtM X "list.index" rIndexD := by
  intro pins s σ H x vs v us Q I rx rv h
  obtain ⟨l, xs, y, d, ds, j, rfl, rfl, hH, hd, hds, h60, sd, se, ⟨ej, hej, hit⟩, hno, q⟩ := h
  cases rx
  obtain ⟨u, rfl, ru⟩ := rv.one
  obtain ⟨z, its, n, r, hl, e⟩ := I.lstM hH
  obtain ⟨_, ra⟩ := hd.reads I.hok ru
  obtain ⟨_, rb⟩ := hds.reads I.hok r
  have h1 := shaped_lay sd
  have hcl := shaped_all se
  have hm := SeqAt.readsAll_map ds its _ hcl rb
  have hdl := hds.length
  have hj : j < ds.length := (List.getElem?_eq_some_iff.mp hej).1
  have hsz : its.toArray.size = ds.length := by rw [List.size_toArray, ← hm, List.length_map]
  have at_ : ∀ (m : Nat) (hmm : m < its.toArray.size) (w : PyData), ds[m]? = some w → SeqAt.readOf s.heap its.toArray[m] = w := fun m hmm w hw => by
    rw [← hm, List.getElem?_map] at hw
    have hm2 : m < its.length := by simpa using hmm
    rw [List.getElem?_eq_getElem hm2] at hw
    simpa using hw
  have hl2 := line63
  refine call_meets F.slot_list_index ⟨_, e, rfl⟩ F.entry_list_index (F.args_list_index_2 _ _) (SeqAt.list_indexAt l its.toArray n none #[] u (fun v => PyData.eqv (SeqAt.readOf s.heap v) d) j (by omega) (by omega) ?_ ?_) ⟨e, SeqAt.items_eqAt (by simpa using rb) ra hcl h1.1 (by have := Nat.min_le_right (PyData.depthAll ds) d.depth; omega), ?_⟩
  · show PyData.eqv (SeqAt.readOf s.heap its.toArray[j]) d = true
    rw [at_ j (by omega) ej hej]; exact hit
  · intro m hmm hlt
    have hmx : m < ds.length := by omega
    show PyData.eqv (SeqAt.readOf s.heap its.toArray[m]) d = false
    rw [at_ m hmm _ (List.getElem?_eq_getElem hmx)]
    exact hno m _ hlt (List.getElem?_eq_getElem hmx)
  · exact ⟨.int j, H, I.tok _, ⟨_, rfl⟩, q⟩
end
theorem idxDH {H : Hp} {Q : VK} {l : Addr} {xs : List V} {y : V} {d : Dat} {ds : List Dat} {j : Nat} (h1 : H l = some (.lst xs)) (hd : DatV H y (kqdP d)) (hds : DatVs H xs (kqdPs ds)) (o1 : kqdOk 8 d = true) (o2 : ∀ e ∈ ds, kqdOk 7 e = true) (hj : ds[j]? = some d) (hno : ∀ (m : Nat) e, m < j → ds[m]? = some e → e ≠ d) (h : Q (.int (j : Nat)) H) : rIndexD (.ref l) [y] H Q := by
  have s1 : kqdOk 8 (.list ds) = true := by rw [kqdOk, List.all_eq_true]; exact o2
  have s2 := shaped_kqd s1
  rw [kqdP] at s2
  have dp := (kqd_lay 8 d o1).2
  refine ⟨l, xs, y, kqdP d, kqdPs ds, j, rfl, rfl, h1, hd, hds, by omega, shaped_kqd o1, s2, ⟨kqdP d, by rw [kqdPs_map, List.getElem?_map, hj]; rfl, (kqd_eqv 8 d d 8 o1 o1).mpr rfl⟩, fun m e hm he => ?_, h⟩
  rw [kqdPs_map, List.getElem?_map] at he
  obtain ⟨e', he', rfl⟩ := Option.map_eq_some_iff.mp he
  exact Bool.eq_false_iff.mpr fun z => hno m e' hm he' ((kqd_eqv 7 e' d 8 (o2 e' (List.mem_of_getElem? he')) o1).mp z)
theorem inDH {H : Hp} {Q : VK} {l : Addr} {y : V} {d : Dat} {ds : List Dat} {xs : List V} {neg b : Bool} (h1 : H l = some (.lst xs)) (hd : DatV H y (kqdP d)) (hds : DatVs H xs (kqdPs ds)) (o1 : kqdOk 8 d = true) (o2 : ∀ e ∈ ds, kqdOk 7 e = true) (hb : b = true ↔ d ∈ ds) (h : Q (.bl (if neg then !b else b)) H) : rInD neg y (.ref l) H Q := by
  have s1 : kqdOk 8 (.list ds) = true := by rw [kqdOk, List.all_eq_true]; exact o2
  have s2 := shaped_kqd s1
  rw [kqdP] at s2
  have dp := (kqd_lay 8 d o1).2
  have e : ((kqdPs ds).any fun e => PyData.eqv e (kqdP d)) = b := by
    rw [Bool.eq_iff_iff, hb, kqdPs_map, List.any_map, List.any_eq_true]
    constructor
    · rintro ⟨x, hx, hz⟩
      rw [← (kqd_eqv 7 x d 8 (o2 x hx) o1).mp hz]
      exact hx
    · intro hx
      exact ⟨d, hx, (kqd_eqv 8 d d 8 o1 o1).mpr rfl⟩
  exact ⟨kqdP d, kqdPs ds, hd, .lst h1 hds, by omega, shaped_kqd o1, s2, by rw [e]; exact h⟩
end L2
set_option Elab.async false
set_option linter.all false
set_option maxRecDepth 100000
namespace L2
open PySem PySem.Spec PyProof.Rows PySem.W
section
variable {X : Cx}
end
end L2
set_option Elab.async false
set_option linter.all false
set_option maxRecDepth 100000
namespace L2
open PySem PySem.Spec PyProof.Rows PySem.W
abbrev Rws := List (Addr × List Int)
def rfs (rs : Rws) : List V := rs.map fun r => V.ref r.1
theorem rfs_len (rs : Rws) : (rfs rs).length = rs.length := List.length_map _
abbrev FEnt := Str × Addr × Rws
abbrev FEnts := List FEnt
def kvF (es : FEnts) : List (Key × V) := es.map fun e => (Sum.inr e.1, V.ref e.2.1)
def filC (es : FEnts) : Cells := es.map fun e => (e.2.1, HO.lst (rfs e.2.2))
theorem kvF_val (es : FEnts) (z : Str) : valV (kvF es) (.inr z) = (es.find? fun e => decide (e.1 = z)).map fun e => .ref e.2.1 := by
  induction es with
  | nil => rfl
  | cons e es ih =>
    unfold kvF at ih ⊢
    rw [List.map_cons, List.find?_cons]
    by_cases h : e.1 = z
    · rw [valV_pos (by rw [h]), decide_eq_true h]; rfl
    · rw [valV_neg (fun q => h (Sum.inr.inj q)), decide_eq_false h]; exact ih
theorem kvF_none {es : FEnts} {z : Str} (h : z ∉ es.map (·.1)) : valV (kvF es) (.inr z) = none := by
  rw [kvF_val, List.find?_eq_none.mpr]
  · rfl
  · intro e he q
    exact h (List.mem_map.mpr ⟨e, he, of_decide_eq_true q⟩)
theorem findF {es : FEnts} {e : FEnt} (nd : (es.map (·.1)).Nodup) (h : e ∈ es) : es.find? (fun x => decide (x.1 = e.1)) = some e := by
  induction es with
  | nil => cases h
  | cons x es ih =>
    rw [List.map_cons, List.nodup_cons] at nd
    rw [List.find?_cons]
    rcases List.mem_cons.mp h with rfl | h
    · rw [decide_eq_true rfl]
    · have : x.1 ≠ e.1 := fun q => nd.1 (q ▸ List.mem_map.mpr ⟨e, h, rfl⟩)
      rw [decide_eq_false this]
      exact ih nd.2 h
theorem kvF_some {es : FEnts} {e : FEnt} (nd : (es.map (·.1)).Nodup) (h : e ∈ es) : valV (kvF es) (.inr e.1) = some (.ref e.2.1) := by rw [kvF_val, findF nd h]; rfl
theorem splitF {es : FEnts} {e : FEnt} (nd : (es.map (·.1)).Nodup) (h : e ∈ es) : ∃ as bs, es = as ++ e :: bs ∧ es.filter (fun x => decide (x.1 ≠ e.1)) = as ++ bs := by
  obtain ⟨as, bs, rfl⟩ := List.append_of_mem h
  refine ⟨as, bs, rfl, ?_⟩
  rw [List.map_append, List.map_cons] at nd
  have h1 : ∀ x ∈ as ++ bs, x.1 ≠ e.1 := fun x hx q => by
    have nd2 := (List.perm_middle (l₁ := as.map (·.1)) (a := e.1) (l₂ := bs.map (·.1))).nodup_iff.mp nd
    rw [List.nodup_cons] at nd2
    refine nd2.1 ?_
    rw [← List.map_append, ← q]
    exact List.mem_map.mpr ⟨x, hx, rfl⟩
  rw [List.filter_append, List.filter_cons, if_neg (by simp)]
  rw [List.filter_eq_self.mpr, List.filter_eq_self.mpr]
  · intro x hx; exact decide_eq_true (h1 x (List.mem_append_right _ hx))
  · intro x hx; exact decide_eq_true (h1 x (List.mem_append_left _ hx))
theorem filC_mid (as bs : FEnts) (e : FEnt) : filC (as ++ e :: bs) = filC as ++ (e.2.1, HO.lst (rfs e.2.2)) :: filC bs := by unfold filC; rw [List.map_append]; rfl
theorem filC_mem {es : FEnts} {e : FEnt} (h : e ∈ es) : (e.2.1, HO.lst (rfs e.2.2)) ∈ filC es := List.mem_map.mpr ⟨e, h, rfl⟩
theorem kvF_mid (as bs : FEnts) (e e' : FEnt) (h1 : e.1 = e'.1) (h2 : e.2.1 = e'.2.1) : kvF (as ++ e :: bs) = kvF (as ++ e' :: bs) := by unfold kvF; rw [List.map_append, List.map_append, List.map_cons, List.map_cons, h1, h2]
section
variable {H : Hp} {a : Addr} {Q : VK} {D : Ends} {σ : St}
theorem dinS {kvs : List (Key × V)} {z : Str} {S : Option V → Prop} (h1 : H a = some (.dK kvs)) (h : S (valV kvs (.inr z))) : ∃ b o, V.ref a = .ref b ∧ DGet H b (.str z) o ∧ S o := ⟨a, _, rfl, DGet.k (k := .inr z) h1, h⟩
theorem dgetS {kvs : List (Key × V)} {z : Str} {v : V} {S : V → Prop} (h1 : H a = some (.dK kvs)) (h2 : valV kvs (.inr z) = some v) (h : S v) : ∃ b v, V.ref a = .ref b ∧ DGet H b (.str z) (some v) ∧ S v := ⟨a, v, rfl, h2 ▸ DGet.k (k := .inr z) h1, h⟩
end
end L2
set_option Elab.async false
set_option linter.all false
set_option maxRecDepth 100000
namespace L2
open PySem PySem.Spec PyProof.Rows PySem.W
section
variable {X : Cx}
end
section
variable {X : Cx} {k : Nat} {f C : Addr} {fd : FuncData} {ps : List Str} {sp : Sp} {x : Str} {p pos : Pos} {e : Expr} {es : List Expr} {t : TA}
end
end L2
set_option Elab.async false
set_option linter.all false
set_option maxRecDepth 100000
namespace L2
open PySem PySem.Spec PyProof.Rows PySem.W
section
variable {X : Cx}
end
section
variable {P : Program} {w : World} {K : PySem.W.Frag} {mg : Str → Option Value} {base : Heap}
end
section
variable {X : Cx} {ea : Addr} {k : Nat} {ps : List Str} {sp : Sp} {x : Str} {p pos : Pos} {e : Expr} {es : List Expr} {t : TA}
end
end L2
set_option Elab.async false
set_option linter.all false
set_option maxRecDepth 100000
namespace L2
open PySem PySem.Spec PyProof.Rows PySem.W
section
variable {X : Cx}
end
end L2
set_option Elab.async false
set_option linter.all false
set_option maxRecDepth 100000
namespace L2
open PySem PySem.Spec PyProof.Rows PySem.W
section
variable {prog : Program} {w : World} {A : Around} {E : Value → Shared → Prop} {s : Shared}
end
end L2
set_option Elab.async false
set_option linter.all false
set_option maxRecDepth 100000
namespace L2
open PySem PySem.Spec PyProof.Rows PySem.W
namespace SI
end SI
section
variable {prog : Program} {w : World} {A : Around} {E : Value → Shared → Prop} {s : Shared}
end
end L2
set_option Elab.async false
set_option linter.all false
set_option maxRecDepth 100000
namespace L2
open PySem PySem.Spec PyProof.Rows PySem.W
section
variable {prog : Program} {w : World} {A : Around} {E : Value → Shared → Prop} {s : Shared}
end
end L2
set_option Elab.async false
set_option linter.all false
set_option maxRecDepth 100000
namespace L2
open PySem PySem.Spec PyProof.Rows PySem.W
section
variable {prog : Program} {w : World} {A : Around} {E : Value → Shared → Prop} {s : Shared}
end
section
variable {X : Cx} {pins : List (Addr × Obj)} {σ : St} {H : Hp} {s : Shared}
end
end L2
set_option Elab.async false
set_option linter.all false
set_option maxRecDepth 100000
set_option maxHeartbeats 4000000
namespace My
open PySem PySem.Spec PyProof.Rows L2
def top (i : Nat) : Stmt := PySem.Challenge.pw_paneworks_k43_sheets_counted.main.body.getD i (.Pass ⟨0, 0, 0, 0⟩)
abbrev s_Dial_init : Stmt := inClass (top 13) 0
theorem sc_Dial_init : FnScope ["self", "many"] ["self", "many"] (defScope s_Dial_init) := ⟨rfl, rfl, rfl, by decide +kernel, rfl, by decide +kernel, by decide +kernel⟩
abbrev s_Dial_pointer : Stmt := inClass (top 13) 1
theorem sc_Dial_pointer : FnScope ["self"] ["self"] (defScope s_Dial_pointer) := ⟨rfl, rfl, rfl, by decide +kernel, rfl, by decide +kernel, by decide +kernel⟩
abbrev s_Dial_touch : Stmt := inClass (top 13) 2
theorem sc_Dial_touch : FnScope ["self", "frame"] ["self", "frame"] (defScope s_Dial_touch) := ⟨rfl, rfl, rfl, by decide +kernel, rfl, by decide +kernel, by decide +kernel⟩
abbrev s_Dial_clear : Stmt := inClass (top 13) 3
theorem sc_Dial_clear : FnScope ["self", "frame"] ["self", "frame"] (defScope s_Dial_clear) := ⟨rfl, rfl, rfl, by decide +kernel, rfl, by decide +kernel, by decide +kernel⟩
abbrev s_Dial_marks : Stmt := inClass (top 13) 4
theorem sc_Dial_marks : FnScope ["self"] ["self"] (defScope s_Dial_marks) := ⟨rfl, rfl, rfl, by decide +kernel, rfl, by decide +kernel, by decide +kernel⟩
abbrev s_Dial_choose : Stmt := inClass (top 13) 5
theorem sc_Dial_choose : FnScope ["self", "may", "many", "step", "frame"] ["self", "may"] (defScope s_Dial_choose) := ⟨rfl, rfl, rfl, by decide +kernel, rfl, by decide +kernel, by decide +kernel⟩
abbrev s_Files_init : Stmt := inClass (top 15) 0
theorem sc_Files_init : FnScope ["self"] ["self"] (defScope s_Files_init) := ⟨rfl, rfl, rfl, by decide +kernel, rfl, by decide +kernel, by decide +kernel⟩
abbrev s_Files_size_of : Stmt := inClass (top 15) 2
theorem sc_Files_size_of : FnScope ["self", "name"] ["self", "name"] (defScope s_Files_size_of) := ⟨rfl, rfl, rfl, by decide +kernel, rfl, by decide +kernel, by decide +kernel⟩
abbrev s_Files_store_row : Stmt := inClass (top 15) 4
theorem sc_Files_store_row : FnScope ["self", "name", "page", "row"] ["self", "name", "page", "row"] (defScope s_Files_store_row) := ⟨rfl, rfl, rfl, by decide +kernel, rfl, by decide +kernel, by decide +kernel⟩
abbrev s_Files_ask_name : Stmt := inClass (top 15) 7
theorem sc_Files_ask_name : FnScope ["self", "name"] ["self", "name"] (defScope s_Files_ask_name) := ⟨rfl, rfl, rfl, by decide +kernel, rfl, by decide +kernel, by decide +kernel⟩
abbrev s_Files_ask_page : Stmt := inClass (top 15) 8
theorem sc_Files_ask_page : FnScope ["self", "name", "page", "size"] ["self", "name", "page"] (defScope s_Files_ask_page) := ⟨rfl, rfl, rfl, by decide +kernel, rfl, by decide +kernel, by decide +kernel⟩
abbrev s_Frames_init : Stmt := inClass (top 17) 0
theorem sc_Frames_init : FnScope ["self", "many"] ["self", "many"] (defScope s_Frames_init) := ⟨rfl, rfl, rfl, by decide +kernel, rfl, by decide +kernel, by decide +kernel⟩
abbrev s_Frames_fill : Stmt := inClass (top 17) 1
theorem sc_Frames_fill : FnScope ["self", "frame", "thing", "row"] ["self", "frame", "thing", "row"] (defScope s_Frames_fill) := ⟨rfl, rfl, rfl, by decide +kernel, rfl, by decide +kernel, by decide +kernel⟩
abbrev s_Frames_empty : Stmt := inClass (top 17) 2
theorem sc_Frames_empty : FnScope ["self", "frame"] ["self", "frame"] (defScope s_Frames_empty) := ⟨rfl, rfl, rfl, by decide +kernel, rfl, by decide +kernel, by decide +kernel⟩
abbrev s_Frames_thing_in : Stmt := inClass (top 17) 3
theorem sc_Frames_thing_in : FnScope ["self", "frame"] ["self", "frame"] (defScope s_Frames_thing_in) := ⟨rfl, rfl, rfl, by decide +kernel, rfl, by decide +kernel, by decide +kernel⟩
abbrev s_Frames_row_in : Stmt := inClass (top 17) 4
theorem sc_Frames_row_in : FnScope ["self", "frame"] ["self", "frame"] (defScope s_Frames_row_in) := ⟨rfl, rfl, rfl, by decide +kernel, rfl, by decide +kernel, by decide +kernel⟩
abbrev s_Frames_is_soiled : Stmt := inClass (top 17) 6
theorem sc_Frames_is_soiled : FnScope ["self", "frame"] ["self", "frame"] (defScope s_Frames_is_soiled) := ⟨rfl, rfl, rfl, by decide +kernel, rfl, by decide +kernel, by decide +kernel⟩
abbrev s_Frames_least_free : Stmt := inClass (top 17) 7
theorem sc_Frames_least_free : FnScope ["self"] ["self"] (defScope s_Frames_least_free) := ⟨rfl, rfl, rfl, by decide +kernel, rfl, by decide +kernel, by decide +kernel⟩
abbrev s_Frames_where : Stmt := inClass (top 17) 8
theorem sc_Frames_where : FnScope ["self", "thing"] ["self", "thing"] (defScope s_Frames_where) := ⟨rfl, rfl, rfl, by decide +kernel, rfl, by decide +kernel, by decide +kernel⟩
abbrev s_Frames_things : Stmt := inClass (top 17) 9
theorem sc_Frames_things : FnScope ["self"] ["self"] (defScope s_Frames_things) := ⟨rfl, rfl, rfl, by decide +kernel, rfl, by decide +kernel, by decide +kernel⟩
abbrev s_Shelf_init : Stmt := inClass (top 19) 0
theorem sc_Shelf_init : FnScope ["self", "many"] ["self", "many"] (defScope s_Shelf_init) := ⟨rfl, rfl, rfl, by decide +kernel, rfl, by decide +kernel, by decide +kernel⟩
abbrev s_Shelf_put_on : Stmt := inClass (top 19) 1
theorem sc_Shelf_put_on : FnScope ["self", "sheet", "row", "place"] ["self", "sheet", "row"] (defScope s_Shelf_put_on) := ⟨rfl, rfl, rfl, by decide +kernel, rfl, by decide +kernel, by decide +kernel⟩
abbrev s_Shelf_take_off : Stmt := inClass (top 19) 2
theorem sc_Shelf_take_off : FnScope ["self", "sheet"] ["self", "sheet"] (defScope s_Shelf_take_off) := ⟨rfl, rfl, rfl, by decide +kernel, rfl, by decide +kernel, by decide +kernel⟩
abbrev s_Shelf_has : Stmt := inClass (top 19) 4
theorem sc_Shelf_has : FnScope ["self", "sheet"] ["self", "sheet"] (defScope s_Shelf_has) := ⟨rfl, rfl, rfl, by decide +kernel, rfl, by decide +kernel, by decide +kernel⟩
abbrev s_Shelf_is_full : Stmt := inClass (top 19) 5
theorem sc_Shelf_is_full : FnScope ["self"] ["self"] (defScope s_Shelf_is_full) := ⟨rfl, rfl, rfl, by decide +kernel, rfl, by decide +kernel, by decide +kernel⟩
abbrev s_Shelf_sheets : Stmt := inClass (top 19) 6
theorem sc_Shelf_sheets : FnScope ["self"] ["self"] (defScope s_Shelf_sheets) := ⟨rfl, rfl, rfl, by decide +kernel, rfl, by decide +kernel, by decide +kernel⟩
abbrev s_Store_init : Stmt := inClass (top 21) 0
theorem sc_Store_init : FnScope ["self", "many", "places"] ["self", "many", "places"] (defScope s_Store_init) := ⟨rfl, rfl, rfl, by decide +kernel, rfl, by decide +kernel, by decide +kernel⟩
abbrev s_is_sheet : Stmt := top 22
theorem sc_is_sheet : FnScope ["thing"] ["thing"] (defScope s_is_sheet) := ⟨rfl, rfl, rfl, by decide +kernel, rfl, by decide +kernel, by decide +kernel⟩
abbrev s_free_frame : Stmt := top 23
theorem sc_free_frame : FnScope ["store", "frame"] ["store", "frame"] (defScope s_free_frame) := ⟨rfl, rfl, rfl, by decide +kernel, rfl, by decide +kernel, by decide +kernel⟩
abbrev s_put_out : Stmt := top 24
theorem sc_put_out : FnScope ["store", "frame", "thing", "row"] ["store", "frame"] (defScope s_put_out) := ⟨rfl, rfl, rfl, by decide +kernel, rfl, by decide +kernel, by decide +kernel⟩
abbrev s_have_frame : Stmt := top 25
theorem sc_have_frame : FnScope ["store", "free", "full", "frame"] ["store"] (defScope s_have_frame) := ⟨rfl, rfl, rfl, by decide +kernel, rfl, by decide +kernel, by decide +kernel⟩
abbrev s_room_of : Stmt := top 27
theorem sc_room_of : FnScope ["store", "most"] ["store"] (defScope s_room_of) := ⟨rfl, rfl, rfl, by decide +kernel, rfl, by decide +kernel, by decide +kernel⟩
abbrev s_new_sheet : Stmt := top 28
theorem sc_new_sheet : FnScope ["store", "row", "frame", "sheet"] ["store", "row"] (defScope s_new_sheet) := ⟨rfl, rfl, rfl, by decide +kernel, rfl, by decide +kernel, by decide +kernel⟩
abbrev s_holders_of : Stmt := top 29
theorem sc_holders_of : FnScope ["store", "sheet"] ["store", "sheet"] (defScope s_holders_of) := ⟨rfl, rfl, rfl, by decide +kernel, rfl, by decide +kernel, by decide +kernel⟩
abbrev s_hold : Stmt := top 30
theorem sc_hold : FnScope ["store", "sheet"] ["store", "sheet"] (defScope s_hold) := ⟨rfl, rfl, rfl, by decide +kernel, rfl, by decide +kernel, by decide +kernel⟩
abbrev s_let_go : Stmt := top 31
theorem sc_let_go : FnScope ["store", "sheet", "left"] ["store", "sheet"] (defScope s_let_go) := ⟨rfl, rfl, rfl, by decide +kernel, rfl, by decide +kernel, by decide +kernel⟩
abbrev s_end_sheet : Stmt := top 32
theorem sc_end_sheet : FnScope ["store", "sheet", "frame"] ["store", "sheet"] (defScope s_end_sheet) := ⟨rfl, rfl, rfl, by decide +kernel, rfl, by decide +kernel, by decide +kernel⟩
abbrev s_l_cell_at : Stmt := top 34
theorem sc_l_cell_at : FnScope ["_law_script", "_law_k"] ["_law_script", "_law_k"] (defScope s_l_cell_at) := ⟨rfl, rfl, rfl, by decide +kernel, rfl, by decide +kernel, by decide +kernel⟩
abbrev s_l_whole : Stmt := top 35
theorem sc_l_whole : FnScope ["_law_found"] ["_law_found"] (defScope s_l_whole) := ⟨rfl, rfl, rfl, by decide +kernel, rfl, by decide +kernel, by decide +kernel⟩
abbrev s_l_alike : Stmt := top 36
theorem sc_l_alike : FnScope ["_law_found", "_law_due", "_law_k"] ["_law_found", "_law_due"] (defScope s_l_alike) := ⟨rfl, rfl, rfl, by decide +kernel, rfl, by decide +kernel, by decide +kernel⟩
abbrev s_l_num : Stmt := top 37
theorem sc_l_num : FnScope ["_law_cell", "_law_k", "_law_most", "_law_big", "_law_way"] ["_law_cell", "_law_k"] (defScope s_l_num) := ⟨rfl, rfl, rfl, by decide +kernel, rfl, by decide +kernel, by decide +kernel⟩
abbrev s_l_row : Stmt := top 38
theorem sc_l_row : FnScope ["_law_cell"] ["_law_cell"] (defScope s_l_row) := ⟨rfl, rfl, rfl, by decide +kernel, rfl, by decide +kernel, by decide +kernel⟩
abbrev s_l_sizes : Stmt := top 39
theorem sc_l_sizes : FnScope ["_law_cell"] ["_law_cell"] (defScope s_l_sizes) := ⟨rfl, rfl, rfl, by decide +kernel, rfl, by decide +kernel, by decide +kernel⟩
abbrev s_l_goes : Stmt := top 40
theorem sc_l_goes : FnScope ["_law_spots", "_law_marks", "_law_shelf", "_law_pointer", "_law_found", "_law_may", "_law_far", "_law_marked", "_law_frame", "_law_ahead"] ["_law_spots", "_law_marks", "_law_shelf", "_law_pointer", "_law_found"] (defScope s_l_goes) := ⟨rfl, rfl, rfl, by decide +kernel, rfl, by decide +kernel, by decide +kernel⟩
abbrev s_l_is_store : Stmt := top 41
theorem sc_l_is_store : FnScope ["_law_store", "_law_spots", "_law_marks", "_law_shelf", "_law_pointer"] ["_law_store", "_law_spots", "_law_marks", "_law_shelf", "_law_pointer"] (defScope s_l_is_store) := ⟨rfl, rfl, rfl, by decide +kernel, rfl, by decide +kernel, by decide +kernel⟩
abbrev s_l_let : Stmt := top 42
theorem sc_l_let : FnScope ["_law_store", "_law_spots", "_law_marks", "_law_shelf", "_law_holders", "_law_sheet", "_law_left"] ["_law_store", "_law_spots", "_law_marks", "_law_shelf", "_law_holders", "_law_sheet"] (defScope s_l_let) := ⟨rfl, rfl, rfl, by decide +kernel, rfl, by decide +kernel, by decide +kernel⟩
abbrev s_l_held : Stmt := top 43
theorem sc_l_held : FnScope ["_law_store", "_law_holders", "_law_sheet"] ["_law_store", "_law_holders", "_law_sheet"] (defScope s_l_held) := ⟨rfl, rfl, rfl, by decide +kernel, rfl, by decide +kernel, by decide +kernel⟩
abbrev s_l_refused : Stmt := top 44
theorem sc_l_refused : FnScope ["_law_store", "_law_row_here", "_law_own", "e"] ["_law_store", "_law_row_here"] (defScope s_l_refused) := ⟨rfl, rfl, rfl, by decide +kernel, rfl, by decide +kernel, by decide +kernel⟩
abbrev s_l_made : Stmt := top 45
theorem sc_l_made : FnScope ["_law_store", "_law_spots", "_law_marks", "_law_shelf", "_law_holders", "_law_pointer", "_law_number_next", "_law_cell", "_law_found"] ["_law_store", "_law_spots", "_law_marks", "_law_shelf", "_law_holders", "_law_pointer", "_law_number_next", "_law_cell"] (defScope s_l_made) := ⟨rfl, rfl, rfl, by decide +kernel, rfl, by decide +kernel, by decide +kernel⟩
abbrev s_l_counts : Stmt := top 46
theorem sc_l_counts : FnScope ["_law_store", "_law_spots", "_law_shelf", "_law_holders", "_law_made_here", "_law_cell", "_law_sheet"] ["_law_store", "_law_spots", "_law_shelf", "_law_holders", "_law_made_here", "_law_cell"] (defScope s_l_counts) := ⟨rfl, rfl, rfl, by decide +kernel, rfl, by decide +kernel, by decide +kernel⟩
abbrev s_l_less : Stmt := top 47
theorem sc_l_less : FnScope ["_law_store", "_law_spots", "_law_marks", "_law_shelf", "_law_holders", "_law_cell", "_law_sheet", "_law_many", "_law_k"] ["_law_store", "_law_spots", "_law_marks", "_law_shelf", "_law_holders", "_law_cell"] (defScope s_l_less) := ⟨rfl, rfl, rfl, by decide +kernel, rfl, by decide +kernel, by decide +kernel⟩
abbrev s_l_touched : Stmt := top 48
theorem sc_l_touched : FnScope ["_law_store", "_law_marks", "_law_cell", "_law_frame"] ["_law_store", "_law_marks", "_law_cell"] (defScope s_l_touched) := ⟨rfl, rfl, rfl, by decide +kernel, rfl, by decide +kernel, by decide +kernel⟩
abbrev s_law : Stmt := top 49
theorem sc_law : FnScope ["_law_script", "_law_many", "_law_places", "_law_store", "_law_spots", "_law_marks", "_law_shelf", "_law_holders", "_law_pointer", "_law_made_here", "_law_raw", "_law_cell", "_law_fresh"] ["_law_script"] (defScope s_law) := ⟨rfl, rfl, rfl, by decide +kernel, rfl, by decide +kernel, by decide +kernel⟩
structure Txt (K : PySem.W.Frag) (mg : Str → Option Value) (cP cU cA cB c1 c2 c3 cC c4 c5 cT cF cD cS cI : Addr) : Prop where
  PaneError : GlC mg "PaneError" cP
  Full : Exc K mg "Full" cU
  NoFile : Exc K mg "NoFile" cA
  NoPage : Exc K mg "NoPage" cB
  NoNumber : GlC mg "NoNumber" c1
  NoSpace : GlC mg "NoSpace" c2
  NoRight : GlC mg "NoRight" c3
  Taken : GlC mg "Taken" cC
  Held : GlC mg "Held" c4
  NoRow : GlC mg "NoRow" c5
  xi_cU : PySem.W.ExcI K cU
  xm_cU_cP : PySem.W.exmOne K (.ref cU) (.ref cP) = some true
  xo_cU_cU : PySem.W.kitOne K (.ref cU) (.ref cU) = some true
  xo_cU_ValueError : PySem.W.kitOne K (.ref cU) (.type "ValueError") = some true
  xo : PySem.W.kitAny K (.ref cU) [.ref c1, .ref c2, .ref cA, .ref cB, .ref c3, .ref cC, .ref c4, .ref c5] = some false
  Store : ClsD K mg "Store" cT
  n_frames : NoAttr K cT "frames"
  n_dial : NoAttr K cT "dial"
  n_shelf : NoAttr K cT "shelf"
  n_files : NoAttr K cT "files"
  n_holders : NoAttr K cT "holders"
  n_sheets_made : NoAttr K cT "sheets_made"
  i_Store : IDef K cT "Store.__init__" s_Store_init
  Frames : ClsD K mg "Frames" cF
  n_held : NoAttr K cF "held"
  n_rows : NoAttr K cF "rows"
  n_soiled : NoAttr K cF "soiled"
  i_Frames : IDef K cF "Frames.__init__" s_Frames_init
  m_Frames_fill : MDef K cF "fill" "Frames.fill" s_Frames_fill
  m_Frames_empty : MDef K cF "empty" "Frames.empty" s_Frames_empty
  m_Frames_thing_in : MDef K cF "thing_in" "Frames.thing_in" s_Frames_thing_in
  m_Frames_row_in : MDef K cF "row_in" "Frames.row_in" s_Frames_row_in
  m_Frames_is_soiled : MDef K cF "is_soiled" "Frames.is_soiled" s_Frames_is_soiled
  m_Frames_least_free : MDef K cF "least_free" "Frames.least_free" s_Frames_least_free
  m_Frames_where : MDef K cF "where" "Frames.where" s_Frames_where
  m_Frames_things : MDef K cF "things" "Frames.things" s_Frames_things
  Dial : ClsD K mg "Dial" cD
  n_stands_at : NoAttr K cD "stands_at"
  n_marked : NoAttr K cD "marked"
  i_Dial : IDef K cD "Dial.__init__" s_Dial_init
  m_Dial_pointer : MDef K cD "pointer" "Dial.pointer" s_Dial_pointer
  m_Dial_touch : MDef K cD "touch" "Dial.touch" s_Dial_touch
  m_Dial_clear : MDef K cD "clear" "Dial.clear" s_Dial_clear
  m_Dial_marks : MDef K cD "marks" "Dial.marks" s_Dial_marks
  m_Dial_choose : MDef K cD "choose" "Dial.choose" s_Dial_choose
  Shelf : ClsD K mg "Shelf" cS
  n_placed : NoAttr K cS "placed"
  n_row_by_sheet : NoAttr K cS "row_by_sheet"
  i_Shelf : IDef K cS "Shelf.__init__" s_Shelf_init
  m_Shelf_put_on : MDef K cS "put_on" "Shelf.put_on" s_Shelf_put_on
  m_Shelf_take_off : MDef K cS "take_off" "Shelf.take_off" s_Shelf_take_off
  m_Shelf_has : MDef K cS "has" "Shelf.has" s_Shelf_has
  m_Shelf_is_full : MDef K cS "is_full" "Shelf.is_full" s_Shelf_is_full
  m_Shelf_sheets : MDef K cS "sheets" "Shelf.sheets" s_Shelf_sheets
  Files : ClsD K mg "Files" cI
  n_rows_by_name : NoAttr K cI "rows_by_name"
  i_Files : IDef K cI "Files.__init__" s_Files_init
  m_Files_size_of : MDef K cI "size_of" "Files.size_of" s_Files_size_of
  m_Files_store_row : MDef K cI "store_row" "Files.store_row" s_Files_store_row
  m_Files_ask_name : MDef K cI "ask_name" "Files.ask_name" s_Files_ask_name
  m_Files_ask_page : MDef K cI "ask_page" "Files.ask_page" s_Files_ask_page
  d_is_sheet : Def K mg "is_sheet" s_is_sheet
  d_free_frame : Def K mg "free_frame" s_free_frame
  d_put_out : Def K mg "put_out" s_put_out
  d_have_frame : Def K mg "have_frame" s_have_frame
  d_room_of : Def K mg "room_of" s_room_of
  d_new_sheet : Def K mg "new_sheet" s_new_sheet
  d_holders_of : Def K mg "holders_of" s_holders_of
  d_hold : Def K mg "hold" s_hold
  d_let_go : Def K mg "let_go" s_let_go
  d_end_sheet : Def K mg "end_sheet" s_end_sheet
  d_l_cell_at : Def K mg "_law_cell_at" s_l_cell_at
  d_l_whole : Def K mg "_law_whole" s_l_whole
  d_l_alike : Def K mg "_law_alike" s_l_alike
  d_l_num : Def K mg "_law_num" s_l_num
  d_l_row : Def K mg "_law_row" s_l_row
  d_l_sizes : Def K mg "_law_sizes" s_l_sizes
  d_l_goes : Def K mg "_law_goes" s_l_goes
  d_l_is_store : Def K mg "_law_is_store" s_l_is_store
  d_l_let : Def K mg "_law_let" s_l_let
  d_l_held : Def K mg "_law_held" s_l_held
  d_l_refused : Def K mg "_law_refused" s_l_refused
  d_l_made : Def K mg "_law_made" s_l_made
  d_l_counts : Def K mg "_law_counts" s_l_counts
  d_l_less : Def K mg "_law_less" s_l_less
  d_l_touched : Def K mg "_law_touched" s_l_touched
  d_law : Def K mg "law" s_law
theorem txt_mk {K : PySem.W.Frag} {h : Heap} {mg : Str → Option Value} {cP cU cA cB c1 c2 c3 cC c4 c5 cT cF cD cS cI : Addr} {fStore_init : Addr} {fStore_initoc : Value} {fStore_initod fStore_initan : Option Addr} {fStore_initosl : Array (Option Value)} {fStore_initkV fStore_initdoc fStore_initpm fStore_initcdv fStore_initct : Value} {fFrames_init : Addr} {fFrames_initoc : Value} {fFrames_initod fFrames_initan : Option Addr} {fFrames_initosl : Array (Option Value)} {fFrames_initkV fFrames_initdoc fFrames_initpm fFrames_initcdv fFrames_initct : Value} {fFrames_fill : Addr} {fFrames_filloc : Value} {fFrames_fillod fFrames_fillan : Option Addr} {fFrames_fillosl : Array (Option Value)} {fFrames_fillkV fFrames_filldoc fFrames_fillpm fFrames_fillcdv fFrames_fillct : Value} {fFrames_empty : Addr} {fFrames_emptyoc : Value} {fFrames_emptyod fFrames_emptyan : Option Addr} {fFrames_emptyosl : Array (Option Value)} {fFrames_emptykV fFrames_emptydoc fFrames_emptypm fFrames_emptycdv fFrames_emptyct : Value} {fFrames_thing_in : Addr} {fFrames_thing_inoc : Value} {fFrames_thing_inod fFrames_thing_inan : Option Addr} {fFrames_thing_inosl : Array (Option Value)} {fFrames_thing_inkV fFrames_thing_indoc fFrames_thing_inpm fFrames_thing_incdv fFrames_thing_inct : Value} {fFrames_row_in : Addr} {fFrames_row_inoc : Value} {fFrames_row_inod fFrames_row_inan : Option Addr} {fFrames_row_inosl : Array (Option Value)} {fFrames_row_inkV fFrames_row_indoc fFrames_row_inpm fFrames_row_incdv fFrames_row_inct : Value} {fFrames_is_soiled : Addr} {fFrames_is_soiledoc : Value} {fFrames_is_soiledod fFrames_is_soiledan : Option Addr} {fFrames_is_soiledosl : Array (Option Value)} {fFrames_is_soiledkV fFrames_is_soileddoc fFrames_is_soiledpm fFrames_is_soiledcdv fFrames_is_soiledct : Value} {fFrames_least_free : Addr} {fFrames_least_freeoc : Value} {fFrames_least_freeod fFrames_least_freean : Option Addr} {fFrames_least_freeosl : Array (Option Value)} {fFrames_least_freekV fFrames_least_freedoc fFrames_least_freepm fFrames_least_freecdv fFrames_least_freect : Value} {fFrames_where : Addr} {fFrames_whereoc : Value} {fFrames_whereod fFrames_wherean : Option Addr} {fFrames_whereosl : Array (Option Value)} {fFrames_wherekV fFrames_wheredoc fFrames_wherepm fFrames_wherecdv fFrames_wherect : Value} {fFrames_things : Addr} {fFrames_thingsoc : Value} {fFrames_thingsod fFrames_thingsan : Option Addr} {fFrames_thingsosl : Array (Option Value)} {fFrames_thingskV fFrames_thingsdoc fFrames_thingspm fFrames_thingscdv fFrames_thingsct : Value} {fDial_init : Addr} {fDial_initoc : Value} {fDial_initod fDial_initan : Option Addr} {fDial_initosl : Array (Option Value)} {fDial_initkV fDial_initdoc fDial_initpm fDial_initcdv fDial_initct : Value} {fDial_pointer : Addr} {fDial_pointeroc : Value} {fDial_pointerod fDial_pointeran : Option Addr} {fDial_pointerosl : Array (Option Value)} {fDial_pointerkV fDial_pointerdoc fDial_pointerpm fDial_pointercdv fDial_pointerct : Value} {fDial_touch : Addr} {fDial_touchoc : Value} {fDial_touchod fDial_touchan : Option Addr} {fDial_touchosl : Array (Option Value)} {fDial_touchkV fDial_touchdoc fDial_touchpm fDial_touchcdv fDial_touchct : Value} {fDial_clear : Addr} {fDial_clearoc : Value} {fDial_clearod fDial_clearan : Option Addr} {fDial_clearosl : Array (Option Value)} {fDial_clearkV fDial_cleardoc fDial_clearpm fDial_clearcdv fDial_clearct : Value} {fDial_marks : Addr} {fDial_marksoc : Value} {fDial_marksod fDial_marksan : Option Addr} {fDial_marksosl : Array (Option Value)} {fDial_markskV fDial_marksdoc fDial_markspm fDial_markscdv fDial_marksct : Value} {fDial_choose : Addr} {fDial_chooseoc : Value} {fDial_chooseod fDial_choosean : Option Addr} {fDial_chooseosl : Array (Option Value)} {fDial_choosekV fDial_choosedoc fDial_choosepm fDial_choosecdv fDial_choosect : Value} {fShelf_init : Addr} {fShelf_initoc : Value} {fShelf_initod fShelf_initan : Option Addr} {fShelf_initosl : Array (Option Value)} {fShelf_initkV fShelf_initdoc fShelf_initpm fShelf_initcdv fShelf_initct : Value} {fShelf_put_on : Addr} {fShelf_put_onoc : Value} {fShelf_put_onod fShelf_put_onan : Option Addr} {fShelf_put_onosl : Array (Option Value)} {fShelf_put_onkV fShelf_put_ondoc fShelf_put_onpm fShelf_put_oncdv fShelf_put_onct : Value} {fShelf_take_off : Addr} {fShelf_take_offoc : Value} {fShelf_take_offod fShelf_take_offan : Option Addr} {fShelf_take_offosl : Array (Option Value)} {fShelf_take_offkV fShelf_take_offdoc fShelf_take_offpm fShelf_take_offcdv fShelf_take_offct : Value} {fShelf_has : Addr} {fShelf_hasoc : Value} {fShelf_hasod fShelf_hasan : Option Addr} {fShelf_hasosl : Array (Option Value)} {fShelf_haskV fShelf_hasdoc fShelf_haspm fShelf_hascdv fShelf_hasct : Value} {fShelf_is_full : Addr} {fShelf_is_fulloc : Value} {fShelf_is_fullod fShelf_is_fullan : Option Addr} {fShelf_is_fullosl : Array (Option Value)} {fShelf_is_fullkV fShelf_is_fulldoc fShelf_is_fullpm fShelf_is_fullcdv fShelf_is_fullct : Value} {fShelf_sheets : Addr} {fShelf_sheetsoc : Value} {fShelf_sheetsod fShelf_sheetsan : Option Addr} {fShelf_sheetsosl : Array (Option Value)} {fShelf_sheetskV fShelf_sheetsdoc fShelf_sheetspm fShelf_sheetscdv fShelf_sheetsct : Value} {fFiles_init : Addr} {fFiles_initoc : Value} {fFiles_initod fFiles_initan : Option Addr} {fFiles_initosl : Array (Option Value)} {fFiles_initkV fFiles_initdoc fFiles_initpm fFiles_initcdv fFiles_initct : Value} {fFiles_size_of : Addr} {fFiles_size_ofoc : Value} {fFiles_size_ofod fFiles_size_ofan : Option Addr} {fFiles_size_ofosl : Array (Option Value)} {fFiles_size_ofkV fFiles_size_ofdoc fFiles_size_ofpm fFiles_size_ofcdv fFiles_size_ofct : Value} {fFiles_store_row : Addr} {fFiles_store_rowoc : Value} {fFiles_store_rowod fFiles_store_rowan : Option Addr} {fFiles_store_rowosl : Array (Option Value)} {fFiles_store_rowkV fFiles_store_rowdoc fFiles_store_rowpm fFiles_store_rowcdv fFiles_store_rowct : Value} {fFiles_ask_name : Addr} {fFiles_ask_nameoc : Value} {fFiles_ask_nameod fFiles_ask_namean : Option Addr} {fFiles_ask_nameosl : Array (Option Value)} {fFiles_ask_namekV fFiles_ask_namedoc fFiles_ask_namepm fFiles_ask_namecdv fFiles_ask_namect : Value} {fFiles_ask_page : Addr} {fFiles_ask_pageoc : Value} {fFiles_ask_pageod fFiles_ask_pagean : Option Addr} {fFiles_ask_pageosl : Array (Option Value)} {fFiles_ask_pagekV fFiles_ask_pagedoc fFiles_ask_pagepm fFiles_ask_pagecdv fFiles_ask_pagect : Value} {fis_sheet : Addr} {fis_sheetoc : Value} {fis_sheetod fis_sheetan : Option Addr} {fis_sheetosl : Array (Option Value)} {fis_sheetkV fis_sheetdoc fis_sheetpm fis_sheetcdv fis_sheetct : Value} {ffree_frame : Addr} {ffree_frameoc : Value} {ffree_frameod ffree_framean : Option Addr} {ffree_frameosl : Array (Option Value)} {ffree_framekV ffree_framedoc ffree_framepm ffree_framecdv ffree_framect : Value} {fput_out : Addr} {fput_outoc : Value} {fput_outod fput_outan : Option Addr} {fput_outosl : Array (Option Value)} {fput_outkV fput_outdoc fput_outpm fput_outcdv fput_outct : Value} {fhave_frame : Addr} {fhave_frameoc : Value} {fhave_frameod fhave_framean : Option Addr} {fhave_frameosl : Array (Option Value)} {fhave_framekV fhave_framedoc fhave_framepm fhave_framecdv fhave_framect : Value} {froom_of : Addr} {froom_ofoc : Value} {froom_ofod froom_ofan : Option Addr} {froom_ofosl : Array (Option Value)} {froom_ofkV froom_ofdoc froom_ofpm froom_ofcdv froom_ofct : Value} {fnew_sheet : Addr} {fnew_sheetoc : Value} {fnew_sheetod fnew_sheetan : Option Addr} {fnew_sheetosl : Array (Option Value)} {fnew_sheetkV fnew_sheetdoc fnew_sheetpm fnew_sheetcdv fnew_sheetct : Value} {fholders_of : Addr} {fholders_ofoc : Value} {fholders_ofod fholders_ofan : Option Addr} {fholders_ofosl : Array (Option Value)} {fholders_ofkV fholders_ofdoc fholders_ofpm fholders_ofcdv fholders_ofct : Value} {fhold : Addr} {fholdoc : Value} {fholdod fholdan : Option Addr} {fholdosl : Array (Option Value)} {fholdkV fholddoc fholdpm fholdcdv fholdct : Value} {flet_go : Addr} {flet_gooc : Value} {flet_good flet_goan : Option Addr} {flet_goosl : Array (Option Value)} {flet_gokV flet_godoc flet_gopm flet_gocdv flet_goct : Value} {fend_sheet : Addr} {fend_sheetoc : Value} {fend_sheetod fend_sheetan : Option Addr} {fend_sheetosl : Array (Option Value)} {fend_sheetkV fend_sheetdoc fend_sheetpm fend_sheetcdv fend_sheetct : Value} {fl_cell_at : Addr} {fl_cell_atoc : Value} {fl_cell_atod fl_cell_atan : Option Addr} {fl_cell_atosl : Array (Option Value)} {fl_cell_atkV fl_cell_atdoc fl_cell_atpm fl_cell_atcdv fl_cell_atct : Value} {fl_whole : Addr} {fl_wholeoc : Value} {fl_wholeod fl_wholean : Option Addr} {fl_wholeosl : Array (Option Value)} {fl_wholekV fl_wholedoc fl_wholepm fl_wholecdv fl_wholect : Value} {fl_alike : Addr} {fl_alikeoc : Value} {fl_alikeod fl_alikean : Option Addr} {fl_alikeosl : Array (Option Value)} {fl_alikekV fl_alikedoc fl_alikepm fl_alikecdv fl_alikect : Value} {fl_num : Addr} {fl_numoc : Value} {fl_numod fl_numan : Option Addr} {fl_numosl : Array (Option Value)} {fl_numkV fl_numdoc fl_numpm fl_numcdv fl_numct : Value} {fl_row : Addr} {fl_rowoc : Value} {fl_rowod fl_rowan : Option Addr} {fl_rowosl : Array (Option Value)} {fl_rowkV fl_rowdoc fl_rowpm fl_rowcdv fl_rowct : Value} {fl_sizes : Addr} {fl_sizesoc : Value} {fl_sizesod fl_sizesan : Option Addr} {fl_sizesosl : Array (Option Value)} {fl_sizeskV fl_sizesdoc fl_sizespm fl_sizescdv fl_sizesct : Value} {fl_goes : Addr} {fl_goesoc : Value} {fl_goesod fl_goesan : Option Addr} {fl_goesosl : Array (Option Value)} {fl_goeskV fl_goesdoc fl_goespm fl_goescdv fl_goesct : Value} {fl_is_store : Addr} {fl_is_storeoc : Value} {fl_is_storeod fl_is_storean : Option Addr} {fl_is_storeosl : Array (Option Value)} {fl_is_storekV fl_is_storedoc fl_is_storepm fl_is_storecdv fl_is_storect : Value} {fl_let : Addr} {fl_letoc : Value} {fl_letod fl_letan : Option Addr} {fl_letosl : Array (Option Value)} {fl_letkV fl_letdoc fl_letpm fl_letcdv fl_letct : Value} {fl_held : Addr} {fl_heldoc : Value} {fl_heldod fl_heldan : Option Addr} {fl_heldosl : Array (Option Value)} {fl_heldkV fl_helddoc fl_heldpm fl_heldcdv fl_heldct : Value} {fl_refused : Addr} {fl_refusedoc : Value} {fl_refusedod fl_refusedan : Option Addr} {fl_refusedosl : Array (Option Value)} {fl_refusedkV fl_refuseddoc fl_refusedpm fl_refusedcdv fl_refusedct : Value} {fl_made : Addr} {fl_madeoc : Value} {fl_madeod fl_madean : Option Addr} {fl_madeosl : Array (Option Value)} {fl_madekV fl_madedoc fl_madepm fl_madecdv fl_madect : Value} {fl_counts : Addr} {fl_countsoc : Value} {fl_countsod fl_countsan : Option Addr} {fl_countsosl : Array (Option Value)} {fl_countskV fl_countsdoc fl_countspm fl_countscdv fl_countsct : Value} {fl_less : Addr} {fl_lessoc : Value} {fl_lessod fl_lessan : Option Addr} {fl_lessosl : Array (Option Value)} {fl_lesskV fl_lessdoc fl_lesspm fl_lesscdv fl_lessct : Value} {fl_touched : Addr} {fl_touchedoc : Value} {fl_touchedod fl_touchedan : Option Addr} {fl_touchedosl : Array (Option Value)} {fl_touchedkV fl_toucheddoc fl_touchedpm fl_touchedcdv fl_touchedct : Value} {flaw : Addr} {flawoc : Value} {flawod flawan : Option Addr} {flawosl : Array (Option Value)} {flawkV flawdoc flawpm flawcdv flawct : Value} (X : K.In h) (G : h.Ns mainGlobals mg)
    (z1 : PySem.W.nsIn K mainGlobals "PaneError" = some (some (.ref cP)))
    (z2 : PySem.W.nsIn K mainGlobals "Full" = some (some (.ref cU)))
    (z3 : PySem.W.excIn K cU [.type "ValueError", .type "Exception", .type "BaseException", .type "object"] "ValueError.__new__" = true)
    (z4 : PySem.W.nsIn K mainGlobals "NoFile" = some (some (.ref cA)))
    (z5 : PySem.W.excIn K cA [.type "ValueError", .type "Exception", .type "BaseException", .type "object"] "ValueError.__new__" = true)
    (z6 : PySem.W.nsIn K mainGlobals "NoPage" = some (some (.ref cB)))
    (z7 : PySem.W.excIn K cB [.type "ValueError", .type "Exception", .type "BaseException", .type "object"] "ValueError.__new__" = true)
    (z8 : PySem.W.nsIn K mainGlobals "NoNumber" = some (some (.ref c1)))
    (z9 : PySem.W.nsIn K mainGlobals "NoSpace" = some (some (.ref c2)))
    (z10 : PySem.W.nsIn K mainGlobals "NoRight" = some (some (.ref c3)))
    (z11 : PySem.W.nsIn K mainGlobals "Taken" = some (some (.ref cC)))
    (z12 : PySem.W.nsIn K mainGlobals "Held" = some (some (.ref c4)))
    (z13 : PySem.W.nsIn K mainGlobals "NoRow" = some (some (.ref c5)))
    (z14 : PySem.W.hasDictIn K cU = true)
    (z15 : PySem.W.findIn K (.ref cU) "__getattribute__" = some (some (.builtin "BaseException.__getattribute__")))
    (z16 : PySem.W.findIn K (.ref cU) "__getattr__" = some none)
    (z17 : PySem.W.findIn K (.ref cU) "__class__" = some (some (.builtin "object.__class__")))
    (z18 : PySem.W.specialIn K (.builtin "object.__class__") "__get__" = some (some (.builtin "getset_descriptor.__get__")))
    (z19 : PySem.W.takesIn K (.builtin "object.__class__") = some true)
    (z20 : PySem.W.mroIn K cU (.type "object") = some true)
    (z21 : PySem.W.subIn K (.ref cU) (.type "BaseException") = some true)
    (z22 : PySem.W.exmOne K (.ref cU) (.ref cP) = some true)
    (z23 : PySem.W.kitOne K (.ref cU) (.ref cU) = some true)
    (z24 : PySem.W.kitOne K (.ref cU) (.type "ValueError") = some true)
    (z25 : PySem.W.kitAny K (.ref cU) [.ref c1, .ref c2, .ref cA, .ref cB, .ref c3, .ref cC, .ref c4, .ref c5] = some false)
    (z26 : PySem.W.nsIn K mainGlobals "Store" = some (some (.ref cT)))
    (z27 : PySem.W.plainGet K cT Str.empty = true)
    (z28 : PySem.W.hasDictIn K cT = true)
    (z29 : PySem.W.plainOver K cT = true)
    (z30 : PySem.W.findIn K (.ref cT) "__setattr__" = some (some (.builtin "object.__setattr__")))
    (z31 : PySem.W.findIn K (.ref cT) "frames" = some none)
    (z32 : PySem.W.findIn K (.ref cT) "dial" = some none)
    (z33 : PySem.W.findIn K (.ref cT) "shelf" = some none)
    (z34 : PySem.W.findIn K (.ref cT) "files" = some none)
    (z35 : PySem.W.findIn K (.ref cT) "holders" = some none)
    (z36 : PySem.W.findIn K (.ref cT) "sheets_made" = some none)
    (z37 : PySem.W.makesIn K cT = true)
    (z38 : PySem.W.findIn K (.ref cT) "__init__" = some (some (.ref fStore_init)))
    (z39 : PySem.W.isFn K (.ref fStore_init) = true)
    (z40 : PySem.W.keepIn K (.ref cT) = true)
    (z41 : K.lookup fStore_init = some ⟨fStore_initoc, fStore_initod, .func (PySem.W.fnOf "__init__" "Store.__init__" (defArgs s_Store_init) (defBody s_Store_init) (defScope s_Store_init) .none fStore_initkV fStore_initdoc fStore_initpm fStore_initan fStore_initcdv fStore_initct), fStore_initosl⟩)
    (z42 : PySem.W.codeIn K fStore_initcdv "Store.__init__" = true)
    (z43 : PySem.W.keepIn K (.ref fStore_init) = true)
    (z44 : PySem.W.nsIn K mainGlobals "Frames" = some (some (.ref cF)))
    (z45 : PySem.W.plainGet K cF Str.empty = true)
    (z46 : PySem.W.hasDictIn K cF = true)
    (z47 : PySem.W.plainOver K cF = true)
    (z48 : PySem.W.findIn K (.ref cF) "__setattr__" = some (some (.builtin "object.__setattr__")))
    (z49 : PySem.W.findIn K (.ref cF) "held" = some none)
    (z50 : PySem.W.findIn K (.ref cF) "rows" = some none)
    (z51 : PySem.W.findIn K (.ref cF) "soiled" = some none)
    (z52 : PySem.W.makesIn K cF = true)
    (z53 : PySem.W.findIn K (.ref cF) "__init__" = some (some (.ref fFrames_init)))
    (z54 : PySem.W.isFn K (.ref fFrames_init) = true)
    (z55 : PySem.W.keepIn K (.ref cF) = true)
    (z56 : K.lookup fFrames_init = some ⟨fFrames_initoc, fFrames_initod, .func (PySem.W.fnOf "__init__" "Frames.__init__" (defArgs s_Frames_init) (defBody s_Frames_init) (defScope s_Frames_init) .none fFrames_initkV fFrames_initdoc fFrames_initpm fFrames_initan fFrames_initcdv fFrames_initct), fFrames_initosl⟩)
    (z57 : PySem.W.codeIn K fFrames_initcdv "Frames.__init__" = true)
    (z58 : PySem.W.keepIn K (.ref fFrames_init) = true)
    (z59 : PySem.W.findIn K (.ref cF) "fill" = some (some (.ref fFrames_fill)))
    (z60 : PySem.W.isFn K (.ref fFrames_fill) = true)
    (z61 : K.lookup fFrames_fill = some ⟨fFrames_filloc, fFrames_fillod, .func (PySem.W.fnOf "fill" "Frames.fill" (defArgs s_Frames_fill) (defBody s_Frames_fill) (defScope s_Frames_fill) .none fFrames_fillkV fFrames_filldoc fFrames_fillpm fFrames_fillan fFrames_fillcdv fFrames_fillct), fFrames_fillosl⟩)
    (z62 : PySem.W.codeIn K fFrames_fillcdv "Frames.fill" = true)
    (z63 : PySem.W.keepIn K (.ref fFrames_fill) = true)
    (z64 : PySem.W.findIn K (.ref cF) "empty" = some (some (.ref fFrames_empty)))
    (z65 : PySem.W.isFn K (.ref fFrames_empty) = true)
    (z66 : K.lookup fFrames_empty = some ⟨fFrames_emptyoc, fFrames_emptyod, .func (PySem.W.fnOf "empty" "Frames.empty" (defArgs s_Frames_empty) (defBody s_Frames_empty) (defScope s_Frames_empty) .none fFrames_emptykV fFrames_emptydoc fFrames_emptypm fFrames_emptyan fFrames_emptycdv fFrames_emptyct), fFrames_emptyosl⟩)
    (z67 : PySem.W.codeIn K fFrames_emptycdv "Frames.empty" = true)
    (z68 : PySem.W.keepIn K (.ref fFrames_empty) = true)
    (z69 : PySem.W.findIn K (.ref cF) "thing_in" = some (some (.ref fFrames_thing_in)))
    (z70 : PySem.W.isFn K (.ref fFrames_thing_in) = true)
    (z71 : K.lookup fFrames_thing_in = some ⟨fFrames_thing_inoc, fFrames_thing_inod, .func (PySem.W.fnOf "thing_in" "Frames.thing_in" (defArgs s_Frames_thing_in) (defBody s_Frames_thing_in) (defScope s_Frames_thing_in) .none fFrames_thing_inkV fFrames_thing_indoc fFrames_thing_inpm fFrames_thing_inan fFrames_thing_incdv fFrames_thing_inct), fFrames_thing_inosl⟩)
    (z72 : PySem.W.codeIn K fFrames_thing_incdv "Frames.thing_in" = true)
    (z73 : PySem.W.keepIn K (.ref fFrames_thing_in) = true)
    (z74 : PySem.W.findIn K (.ref cF) "row_in" = some (some (.ref fFrames_row_in)))
    (z75 : PySem.W.isFn K (.ref fFrames_row_in) = true)
    (z76 : K.lookup fFrames_row_in = some ⟨fFrames_row_inoc, fFrames_row_inod, .func (PySem.W.fnOf "row_in" "Frames.row_in" (defArgs s_Frames_row_in) (defBody s_Frames_row_in) (defScope s_Frames_row_in) .none fFrames_row_inkV fFrames_row_indoc fFrames_row_inpm fFrames_row_inan fFrames_row_incdv fFrames_row_inct), fFrames_row_inosl⟩)
    (z77 : PySem.W.codeIn K fFrames_row_incdv "Frames.row_in" = true)
    (z78 : PySem.W.keepIn K (.ref fFrames_row_in) = true)
    (z79 : PySem.W.findIn K (.ref cF) "is_soiled" = some (some (.ref fFrames_is_soiled)))
    (z80 : PySem.W.isFn K (.ref fFrames_is_soiled) = true)
    (z81 : K.lookup fFrames_is_soiled = some ⟨fFrames_is_soiledoc, fFrames_is_soiledod, .func (PySem.W.fnOf "is_soiled" "Frames.is_soiled" (defArgs s_Frames_is_soiled) (defBody s_Frames_is_soiled) (defScope s_Frames_is_soiled) .none fFrames_is_soiledkV fFrames_is_soileddoc fFrames_is_soiledpm fFrames_is_soiledan fFrames_is_soiledcdv fFrames_is_soiledct), fFrames_is_soiledosl⟩)
    (z82 : PySem.W.codeIn K fFrames_is_soiledcdv "Frames.is_soiled" = true)
    (z83 : PySem.W.keepIn K (.ref fFrames_is_soiled) = true)
    (z84 : PySem.W.findIn K (.ref cF) "least_free" = some (some (.ref fFrames_least_free)))
    (z85 : PySem.W.isFn K (.ref fFrames_least_free) = true)
    (z86 : K.lookup fFrames_least_free = some ⟨fFrames_least_freeoc, fFrames_least_freeod, .func (PySem.W.fnOf "least_free" "Frames.least_free" (defArgs s_Frames_least_free) (defBody s_Frames_least_free) (defScope s_Frames_least_free) .none fFrames_least_freekV fFrames_least_freedoc fFrames_least_freepm fFrames_least_freean fFrames_least_freecdv fFrames_least_freect), fFrames_least_freeosl⟩)
    (z87 : PySem.W.codeIn K fFrames_least_freecdv "Frames.least_free" = true)
    (z88 : PySem.W.keepIn K (.ref fFrames_least_free) = true)
    (z89 : PySem.W.findIn K (.ref cF) "where" = some (some (.ref fFrames_where)))
    (z90 : PySem.W.isFn K (.ref fFrames_where) = true)
    (z91 : K.lookup fFrames_where = some ⟨fFrames_whereoc, fFrames_whereod, .func (PySem.W.fnOf "where" "Frames.where" (defArgs s_Frames_where) (defBody s_Frames_where) (defScope s_Frames_where) .none fFrames_wherekV fFrames_wheredoc fFrames_wherepm fFrames_wherean fFrames_wherecdv fFrames_wherect), fFrames_whereosl⟩)
    (z92 : PySem.W.codeIn K fFrames_wherecdv "Frames.where" = true)
    (z93 : PySem.W.keepIn K (.ref fFrames_where) = true)
    (z94 : PySem.W.findIn K (.ref cF) "things" = some (some (.ref fFrames_things)))
    (z95 : PySem.W.isFn K (.ref fFrames_things) = true)
    (z96 : K.lookup fFrames_things = some ⟨fFrames_thingsoc, fFrames_thingsod, .func (PySem.W.fnOf "things" "Frames.things" (defArgs s_Frames_things) (defBody s_Frames_things) (defScope s_Frames_things) .none fFrames_thingskV fFrames_thingsdoc fFrames_thingspm fFrames_thingsan fFrames_thingscdv fFrames_thingsct), fFrames_thingsosl⟩)
    (z97 : PySem.W.codeIn K fFrames_thingscdv "Frames.things" = true)
    (z98 : PySem.W.keepIn K (.ref fFrames_things) = true)
    (z99 : PySem.W.nsIn K mainGlobals "Dial" = some (some (.ref cD)))
    (z100 : PySem.W.plainGet K cD Str.empty = true)
    (z101 : PySem.W.hasDictIn K cD = true)
    (z102 : PySem.W.plainOver K cD = true)
    (z103 : PySem.W.findIn K (.ref cD) "__setattr__" = some (some (.builtin "object.__setattr__")))
    (z104 : PySem.W.findIn K (.ref cD) "stands_at" = some none)
    (z105 : PySem.W.findIn K (.ref cD) "marked" = some none)
    (z106 : PySem.W.makesIn K cD = true)
    (z107 : PySem.W.findIn K (.ref cD) "__init__" = some (some (.ref fDial_init)))
    (z108 : PySem.W.isFn K (.ref fDial_init) = true)
    (z109 : PySem.W.keepIn K (.ref cD) = true)
    (z110 : K.lookup fDial_init = some ⟨fDial_initoc, fDial_initod, .func (PySem.W.fnOf "__init__" "Dial.__init__" (defArgs s_Dial_init) (defBody s_Dial_init) (defScope s_Dial_init) .none fDial_initkV fDial_initdoc fDial_initpm fDial_initan fDial_initcdv fDial_initct), fDial_initosl⟩)
    (z111 : PySem.W.codeIn K fDial_initcdv "Dial.__init__" = true)
    (z112 : PySem.W.keepIn K (.ref fDial_init) = true)
    (z113 : PySem.W.findIn K (.ref cD) "pointer" = some (some (.ref fDial_pointer)))
    (z114 : PySem.W.isFn K (.ref fDial_pointer) = true)
    (z115 : K.lookup fDial_pointer = some ⟨fDial_pointeroc, fDial_pointerod, .func (PySem.W.fnOf "pointer" "Dial.pointer" (defArgs s_Dial_pointer) (defBody s_Dial_pointer) (defScope s_Dial_pointer) .none fDial_pointerkV fDial_pointerdoc fDial_pointerpm fDial_pointeran fDial_pointercdv fDial_pointerct), fDial_pointerosl⟩)
    (z116 : PySem.W.codeIn K fDial_pointercdv "Dial.pointer" = true)
    (z117 : PySem.W.keepIn K (.ref fDial_pointer) = true)
    (z118 : PySem.W.findIn K (.ref cD) "touch" = some (some (.ref fDial_touch)))
    (z119 : PySem.W.isFn K (.ref fDial_touch) = true)
    (z120 : K.lookup fDial_touch = some ⟨fDial_touchoc, fDial_touchod, .func (PySem.W.fnOf "touch" "Dial.touch" (defArgs s_Dial_touch) (defBody s_Dial_touch) (defScope s_Dial_touch) .none fDial_touchkV fDial_touchdoc fDial_touchpm fDial_touchan fDial_touchcdv fDial_touchct), fDial_touchosl⟩)
    (z121 : PySem.W.codeIn K fDial_touchcdv "Dial.touch" = true)
    (z122 : PySem.W.keepIn K (.ref fDial_touch) = true)
    (z123 : PySem.W.findIn K (.ref cD) "clear" = some (some (.ref fDial_clear)))
    (z124 : PySem.W.isFn K (.ref fDial_clear) = true)
    (z125 : K.lookup fDial_clear = some ⟨fDial_clearoc, fDial_clearod, .func (PySem.W.fnOf "clear" "Dial.clear" (defArgs s_Dial_clear) (defBody s_Dial_clear) (defScope s_Dial_clear) .none fDial_clearkV fDial_cleardoc fDial_clearpm fDial_clearan fDial_clearcdv fDial_clearct), fDial_clearosl⟩)
    (z126 : PySem.W.codeIn K fDial_clearcdv "Dial.clear" = true)
    (z127 : PySem.W.keepIn K (.ref fDial_clear) = true)
    (z128 : PySem.W.findIn K (.ref cD) "marks" = some (some (.ref fDial_marks)))
    (z129 : PySem.W.isFn K (.ref fDial_marks) = true)
    (z130 : K.lookup fDial_marks = some ⟨fDial_marksoc, fDial_marksod, .func (PySem.W.fnOf "marks" "Dial.marks" (defArgs s_Dial_marks) (defBody s_Dial_marks) (defScope s_Dial_marks) .none fDial_markskV fDial_marksdoc fDial_markspm fDial_marksan fDial_markscdv fDial_marksct), fDial_marksosl⟩)
    (z131 : PySem.W.codeIn K fDial_markscdv "Dial.marks" = true)
    (z132 : PySem.W.keepIn K (.ref fDial_marks) = true)
    (z133 : PySem.W.findIn K (.ref cD) "choose" = some (some (.ref fDial_choose)))
    (z134 : PySem.W.isFn K (.ref fDial_choose) = true)
    (z135 : K.lookup fDial_choose = some ⟨fDial_chooseoc, fDial_chooseod, .func (PySem.W.fnOf "choose" "Dial.choose" (defArgs s_Dial_choose) (defBody s_Dial_choose) (defScope s_Dial_choose) .none fDial_choosekV fDial_choosedoc fDial_choosepm fDial_choosean fDial_choosecdv fDial_choosect), fDial_chooseosl⟩)
    (z136 : PySem.W.codeIn K fDial_choosecdv "Dial.choose" = true)
    (z137 : PySem.W.keepIn K (.ref fDial_choose) = true)
    (z138 : PySem.W.nsIn K mainGlobals "Shelf" = some (some (.ref cS)))
    (z139 : PySem.W.plainGet K cS Str.empty = true)
    (z140 : PySem.W.hasDictIn K cS = true)
    (z141 : PySem.W.plainOver K cS = true)
    (z142 : PySem.W.findIn K (.ref cS) "__setattr__" = some (some (.builtin "object.__setattr__")))
    (z143 : PySem.W.findIn K (.ref cS) "placed" = some none)
    (z144 : PySem.W.findIn K (.ref cS) "row_by_sheet" = some none)
    (z145 : PySem.W.makesIn K cS = true)
    (z146 : PySem.W.findIn K (.ref cS) "__init__" = some (some (.ref fShelf_init)))
    (z147 : PySem.W.isFn K (.ref fShelf_init) = true)
    (z148 : PySem.W.keepIn K (.ref cS) = true)
    (z149 : K.lookup fShelf_init = some ⟨fShelf_initoc, fShelf_initod, .func (PySem.W.fnOf "__init__" "Shelf.__init__" (defArgs s_Shelf_init) (defBody s_Shelf_init) (defScope s_Shelf_init) .none fShelf_initkV fShelf_initdoc fShelf_initpm fShelf_initan fShelf_initcdv fShelf_initct), fShelf_initosl⟩)
    (z150 : PySem.W.codeIn K fShelf_initcdv "Shelf.__init__" = true)
    (z151 : PySem.W.keepIn K (.ref fShelf_init) = true)
    (z152 : PySem.W.findIn K (.ref cS) "put_on" = some (some (.ref fShelf_put_on)))
    (z153 : PySem.W.isFn K (.ref fShelf_put_on) = true)
    (z154 : K.lookup fShelf_put_on = some ⟨fShelf_put_onoc, fShelf_put_onod, .func (PySem.W.fnOf "put_on" "Shelf.put_on" (defArgs s_Shelf_put_on) (defBody s_Shelf_put_on) (defScope s_Shelf_put_on) .none fShelf_put_onkV fShelf_put_ondoc fShelf_put_onpm fShelf_put_onan fShelf_put_oncdv fShelf_put_onct), fShelf_put_onosl⟩)
    (z155 : PySem.W.codeIn K fShelf_put_oncdv "Shelf.put_on" = true)
    (z156 : PySem.W.keepIn K (.ref fShelf_put_on) = true)
    (z157 : PySem.W.findIn K (.ref cS) "take_off" = some (some (.ref fShelf_take_off)))
    (z158 : PySem.W.isFn K (.ref fShelf_take_off) = true)
    (z159 : K.lookup fShelf_take_off = some ⟨fShelf_take_offoc, fShelf_take_offod, .func (PySem.W.fnOf "take_off" "Shelf.take_off" (defArgs s_Shelf_take_off) (defBody s_Shelf_take_off) (defScope s_Shelf_take_off) .none fShelf_take_offkV fShelf_take_offdoc fShelf_take_offpm fShelf_take_offan fShelf_take_offcdv fShelf_take_offct), fShelf_take_offosl⟩)
    (z160 : PySem.W.codeIn K fShelf_take_offcdv "Shelf.take_off" = true)
    (z161 : PySem.W.keepIn K (.ref fShelf_take_off) = true)
    (z162 : PySem.W.findIn K (.ref cS) "has" = some (some (.ref fShelf_has)))
    (z163 : PySem.W.isFn K (.ref fShelf_has) = true)
    (z164 : K.lookup fShelf_has = some ⟨fShelf_hasoc, fShelf_hasod, .func (PySem.W.fnOf "has" "Shelf.has" (defArgs s_Shelf_has) (defBody s_Shelf_has) (defScope s_Shelf_has) .none fShelf_haskV fShelf_hasdoc fShelf_haspm fShelf_hasan fShelf_hascdv fShelf_hasct), fShelf_hasosl⟩)
    (z165 : PySem.W.codeIn K fShelf_hascdv "Shelf.has" = true)
    (z166 : PySem.W.keepIn K (.ref fShelf_has) = true)
    (z167 : PySem.W.findIn K (.ref cS) "is_full" = some (some (.ref fShelf_is_full)))
    (z168 : PySem.W.isFn K (.ref fShelf_is_full) = true)
    (z169 : K.lookup fShelf_is_full = some ⟨fShelf_is_fulloc, fShelf_is_fullod, .func (PySem.W.fnOf "is_full" "Shelf.is_full" (defArgs s_Shelf_is_full) (defBody s_Shelf_is_full) (defScope s_Shelf_is_full) .none fShelf_is_fullkV fShelf_is_fulldoc fShelf_is_fullpm fShelf_is_fullan fShelf_is_fullcdv fShelf_is_fullct), fShelf_is_fullosl⟩)
    (z170 : PySem.W.codeIn K fShelf_is_fullcdv "Shelf.is_full" = true)
    (z171 : PySem.W.keepIn K (.ref fShelf_is_full) = true)
    (z172 : PySem.W.findIn K (.ref cS) "sheets" = some (some (.ref fShelf_sheets)))
    (z173 : PySem.W.isFn K (.ref fShelf_sheets) = true)
    (z174 : K.lookup fShelf_sheets = some ⟨fShelf_sheetsoc, fShelf_sheetsod, .func (PySem.W.fnOf "sheets" "Shelf.sheets" (defArgs s_Shelf_sheets) (defBody s_Shelf_sheets) (defScope s_Shelf_sheets) .none fShelf_sheetskV fShelf_sheetsdoc fShelf_sheetspm fShelf_sheetsan fShelf_sheetscdv fShelf_sheetsct), fShelf_sheetsosl⟩)
    (z175 : PySem.W.codeIn K fShelf_sheetscdv "Shelf.sheets" = true)
    (z176 : PySem.W.keepIn K (.ref fShelf_sheets) = true)
    (z177 : PySem.W.nsIn K mainGlobals "Files" = some (some (.ref cI)))
    (z178 : PySem.W.plainGet K cI Str.empty = true)
    (z179 : PySem.W.hasDictIn K cI = true)
    (z180 : PySem.W.plainOver K cI = true)
    (z181 : PySem.W.findIn K (.ref cI) "__setattr__" = some (some (.builtin "object.__setattr__")))
    (z182 : PySem.W.findIn K (.ref cI) "rows_by_name" = some none)
    (z183 : PySem.W.makesIn K cI = true)
    (z184 : PySem.W.findIn K (.ref cI) "__init__" = some (some (.ref fFiles_init)))
    (z185 : PySem.W.isFn K (.ref fFiles_init) = true)
    (z186 : PySem.W.keepIn K (.ref cI) = true)
    (z187 : K.lookup fFiles_init = some ⟨fFiles_initoc, fFiles_initod, .func (PySem.W.fnOf "__init__" "Files.__init__" (defArgs s_Files_init) (defBody s_Files_init) (defScope s_Files_init) .none fFiles_initkV fFiles_initdoc fFiles_initpm fFiles_initan fFiles_initcdv fFiles_initct), fFiles_initosl⟩)
    (z188 : PySem.W.codeIn K fFiles_initcdv "Files.__init__" = true)
    (z189 : PySem.W.keepIn K (.ref fFiles_init) = true)
    (z190 : PySem.W.findIn K (.ref cI) "size_of" = some (some (.ref fFiles_size_of)))
    (z191 : PySem.W.isFn K (.ref fFiles_size_of) = true)
    (z192 : K.lookup fFiles_size_of = some ⟨fFiles_size_ofoc, fFiles_size_ofod, .func (PySem.W.fnOf "size_of" "Files.size_of" (defArgs s_Files_size_of) (defBody s_Files_size_of) (defScope s_Files_size_of) .none fFiles_size_ofkV fFiles_size_ofdoc fFiles_size_ofpm fFiles_size_ofan fFiles_size_ofcdv fFiles_size_ofct), fFiles_size_ofosl⟩)
    (z193 : PySem.W.codeIn K fFiles_size_ofcdv "Files.size_of" = true)
    (z194 : PySem.W.keepIn K (.ref fFiles_size_of) = true)
    (z195 : PySem.W.findIn K (.ref cI) "store_row" = some (some (.ref fFiles_store_row)))
    (z196 : PySem.W.isFn K (.ref fFiles_store_row) = true)
    (z197 : K.lookup fFiles_store_row = some ⟨fFiles_store_rowoc, fFiles_store_rowod, .func (PySem.W.fnOf "store_row" "Files.store_row" (defArgs s_Files_store_row) (defBody s_Files_store_row) (defScope s_Files_store_row) .none fFiles_store_rowkV fFiles_store_rowdoc fFiles_store_rowpm fFiles_store_rowan fFiles_store_rowcdv fFiles_store_rowct), fFiles_store_rowosl⟩)
    (z198 : PySem.W.codeIn K fFiles_store_rowcdv "Files.store_row" = true)
    (z199 : PySem.W.keepIn K (.ref fFiles_store_row) = true)
    (z200 : PySem.W.findIn K (.ref cI) "ask_name" = some (some (.ref fFiles_ask_name)))
    (z201 : PySem.W.isFn K (.ref fFiles_ask_name) = true)
    (z202 : K.lookup fFiles_ask_name = some ⟨fFiles_ask_nameoc, fFiles_ask_nameod, .func (PySem.W.fnOf "ask_name" "Files.ask_name" (defArgs s_Files_ask_name) (defBody s_Files_ask_name) (defScope s_Files_ask_name) .none fFiles_ask_namekV fFiles_ask_namedoc fFiles_ask_namepm fFiles_ask_namean fFiles_ask_namecdv fFiles_ask_namect), fFiles_ask_nameosl⟩)
    (z203 : PySem.W.codeIn K fFiles_ask_namecdv "Files.ask_name" = true)
    (z204 : PySem.W.keepIn K (.ref fFiles_ask_name) = true)
    (z205 : PySem.W.findIn K (.ref cI) "ask_page" = some (some (.ref fFiles_ask_page)))
    (z206 : PySem.W.isFn K (.ref fFiles_ask_page) = true)
    (z207 : K.lookup fFiles_ask_page = some ⟨fFiles_ask_pageoc, fFiles_ask_pageod, .func (PySem.W.fnOf "ask_page" "Files.ask_page" (defArgs s_Files_ask_page) (defBody s_Files_ask_page) (defScope s_Files_ask_page) .none fFiles_ask_pagekV fFiles_ask_pagedoc fFiles_ask_pagepm fFiles_ask_pagean fFiles_ask_pagecdv fFiles_ask_pagect), fFiles_ask_pageosl⟩)
    (z208 : PySem.W.codeIn K fFiles_ask_pagecdv "Files.ask_page" = true)
    (z209 : PySem.W.keepIn K (.ref fFiles_ask_page) = true)
    (z210 : PySem.W.nsIn K mainGlobals "is_sheet" = some (some (.ref fis_sheet)))
    (z211 : K.lookup fis_sheet = some ⟨fis_sheetoc, fis_sheetod, .func (PySem.W.fnOf "is_sheet" "is_sheet" (defArgs s_is_sheet) (defBody s_is_sheet) (defScope s_is_sheet) .none fis_sheetkV fis_sheetdoc fis_sheetpm fis_sheetan fis_sheetcdv fis_sheetct), fis_sheetosl⟩)
    (z212 : PySem.W.codeIn K fis_sheetcdv "is_sheet" = true)
    (z213 : PySem.W.keepIn K (.ref fis_sheet) = true)
    (z214 : PySem.W.nsIn K mainGlobals "free_frame" = some (some (.ref ffree_frame)))
    (z215 : K.lookup ffree_frame = some ⟨ffree_frameoc, ffree_frameod, .func (PySem.W.fnOf "free_frame" "free_frame" (defArgs s_free_frame) (defBody s_free_frame) (defScope s_free_frame) .none ffree_framekV ffree_framedoc ffree_framepm ffree_framean ffree_framecdv ffree_framect), ffree_frameosl⟩)
    (z216 : PySem.W.codeIn K ffree_framecdv "free_frame" = true)
    (z217 : PySem.W.keepIn K (.ref ffree_frame) = true)
    (z218 : PySem.W.nsIn K mainGlobals "put_out" = some (some (.ref fput_out)))
    (z219 : K.lookup fput_out = some ⟨fput_outoc, fput_outod, .func (PySem.W.fnOf "put_out" "put_out" (defArgs s_put_out) (defBody s_put_out) (defScope s_put_out) .none fput_outkV fput_outdoc fput_outpm fput_outan fput_outcdv fput_outct), fput_outosl⟩)
    (z220 : PySem.W.codeIn K fput_outcdv "put_out" = true)
    (z221 : PySem.W.keepIn K (.ref fput_out) = true)
    (z222 : PySem.W.nsIn K mainGlobals "have_frame" = some (some (.ref fhave_frame)))
    (z223 : K.lookup fhave_frame = some ⟨fhave_frameoc, fhave_frameod, .func (PySem.W.fnOf "have_frame" "have_frame" (defArgs s_have_frame) (defBody s_have_frame) (defScope s_have_frame) .none fhave_framekV fhave_framedoc fhave_framepm fhave_framean fhave_framecdv fhave_framect), fhave_frameosl⟩)
    (z224 : PySem.W.codeIn K fhave_framecdv "have_frame" = true)
    (z225 : PySem.W.keepIn K (.ref fhave_frame) = true)
    (z226 : PySem.W.nsIn K mainGlobals "room_of" = some (some (.ref froom_of)))
    (z227 : K.lookup froom_of = some ⟨froom_ofoc, froom_ofod, .func (PySem.W.fnOf "room_of" "room_of" (defArgs s_room_of) (defBody s_room_of) (defScope s_room_of) .none froom_ofkV froom_ofdoc froom_ofpm froom_ofan froom_ofcdv froom_ofct), froom_ofosl⟩)
    (z228 : PySem.W.codeIn K froom_ofcdv "room_of" = true)
    (z229 : PySem.W.keepIn K (.ref froom_of) = true)
    (z230 : PySem.W.nsIn K mainGlobals "new_sheet" = some (some (.ref fnew_sheet)))
    (z231 : K.lookup fnew_sheet = some ⟨fnew_sheetoc, fnew_sheetod, .func (PySem.W.fnOf "new_sheet" "new_sheet" (defArgs s_new_sheet) (defBody s_new_sheet) (defScope s_new_sheet) .none fnew_sheetkV fnew_sheetdoc fnew_sheetpm fnew_sheetan fnew_sheetcdv fnew_sheetct), fnew_sheetosl⟩)
    (z232 : PySem.W.codeIn K fnew_sheetcdv "new_sheet" = true)
    (z233 : PySem.W.keepIn K (.ref fnew_sheet) = true)
    (z234 : PySem.W.nsIn K mainGlobals "holders_of" = some (some (.ref fholders_of)))
    (z235 : K.lookup fholders_of = some ⟨fholders_ofoc, fholders_ofod, .func (PySem.W.fnOf "holders_of" "holders_of" (defArgs s_holders_of) (defBody s_holders_of) (defScope s_holders_of) .none fholders_ofkV fholders_ofdoc fholders_ofpm fholders_ofan fholders_ofcdv fholders_ofct), fholders_ofosl⟩)
    (z236 : PySem.W.codeIn K fholders_ofcdv "holders_of" = true)
    (z237 : PySem.W.keepIn K (.ref fholders_of) = true)
    (z238 : PySem.W.nsIn K mainGlobals "hold" = some (some (.ref fhold)))
    (z239 : K.lookup fhold = some ⟨fholdoc, fholdod, .func (PySem.W.fnOf "hold" "hold" (defArgs s_hold) (defBody s_hold) (defScope s_hold) .none fholdkV fholddoc fholdpm fholdan fholdcdv fholdct), fholdosl⟩)
    (z240 : PySem.W.codeIn K fholdcdv "hold" = true)
    (z241 : PySem.W.keepIn K (.ref fhold) = true)
    (z242 : PySem.W.nsIn K mainGlobals "let_go" = some (some (.ref flet_go)))
    (z243 : K.lookup flet_go = some ⟨flet_gooc, flet_good, .func (PySem.W.fnOf "let_go" "let_go" (defArgs s_let_go) (defBody s_let_go) (defScope s_let_go) .none flet_gokV flet_godoc flet_gopm flet_goan flet_gocdv flet_goct), flet_goosl⟩)
    (z244 : PySem.W.codeIn K flet_gocdv "let_go" = true)
    (z245 : PySem.W.keepIn K (.ref flet_go) = true)
    (z246 : PySem.W.nsIn K mainGlobals "end_sheet" = some (some (.ref fend_sheet)))
    (z247 : K.lookup fend_sheet = some ⟨fend_sheetoc, fend_sheetod, .func (PySem.W.fnOf "end_sheet" "end_sheet" (defArgs s_end_sheet) (defBody s_end_sheet) (defScope s_end_sheet) .none fend_sheetkV fend_sheetdoc fend_sheetpm fend_sheetan fend_sheetcdv fend_sheetct), fend_sheetosl⟩)
    (z248 : PySem.W.codeIn K fend_sheetcdv "end_sheet" = true)
    (z249 : PySem.W.keepIn K (.ref fend_sheet) = true)
    (z250 : PySem.W.nsIn K mainGlobals "_law_cell_at" = some (some (.ref fl_cell_at)))
    (z251 : K.lookup fl_cell_at = some ⟨fl_cell_atoc, fl_cell_atod, .func (PySem.W.fnOf "_law_cell_at" "_law_cell_at" (defArgs s_l_cell_at) (defBody s_l_cell_at) (defScope s_l_cell_at) .none fl_cell_atkV fl_cell_atdoc fl_cell_atpm fl_cell_atan fl_cell_atcdv fl_cell_atct), fl_cell_atosl⟩)
    (z252 : PySem.W.codeIn K fl_cell_atcdv "_law_cell_at" = true)
    (z253 : PySem.W.keepIn K (.ref fl_cell_at) = true)
    (z254 : PySem.W.nsIn K mainGlobals "_law_whole" = some (some (.ref fl_whole)))
    (z255 : K.lookup fl_whole = some ⟨fl_wholeoc, fl_wholeod, .func (PySem.W.fnOf "_law_whole" "_law_whole" (defArgs s_l_whole) (defBody s_l_whole) (defScope s_l_whole) .none fl_wholekV fl_wholedoc fl_wholepm fl_wholean fl_wholecdv fl_wholect), fl_wholeosl⟩)
    (z256 : PySem.W.codeIn K fl_wholecdv "_law_whole" = true)
    (z257 : PySem.W.keepIn K (.ref fl_whole) = true)
    (z258 : PySem.W.nsIn K mainGlobals "_law_alike" = some (some (.ref fl_alike)))
    (z259 : K.lookup fl_alike = some ⟨fl_alikeoc, fl_alikeod, .func (PySem.W.fnOf "_law_alike" "_law_alike" (defArgs s_l_alike) (defBody s_l_alike) (defScope s_l_alike) .none fl_alikekV fl_alikedoc fl_alikepm fl_alikean fl_alikecdv fl_alikect), fl_alikeosl⟩)
    (z260 : PySem.W.codeIn K fl_alikecdv "_law_alike" = true)
    (z261 : PySem.W.keepIn K (.ref fl_alike) = true)
    (z262 : PySem.W.nsIn K mainGlobals "_law_num" = some (some (.ref fl_num)))
    (z263 : K.lookup fl_num = some ⟨fl_numoc, fl_numod, .func (PySem.W.fnOf "_law_num" "_law_num" (defArgs s_l_num) (defBody s_l_num) (defScope s_l_num) .none fl_numkV fl_numdoc fl_numpm fl_numan fl_numcdv fl_numct), fl_numosl⟩)
    (z264 : PySem.W.codeIn K fl_numcdv "_law_num" = true)
    (z265 : PySem.W.keepIn K (.ref fl_num) = true)
    (z266 : PySem.W.nsIn K mainGlobals "_law_row" = some (some (.ref fl_row)))
    (z267 : K.lookup fl_row = some ⟨fl_rowoc, fl_rowod, .func (PySem.W.fnOf "_law_row" "_law_row" (defArgs s_l_row) (defBody s_l_row) (defScope s_l_row) .none fl_rowkV fl_rowdoc fl_rowpm fl_rowan fl_rowcdv fl_rowct), fl_rowosl⟩)
    (z268 : PySem.W.codeIn K fl_rowcdv "_law_row" = true)
    (z269 : PySem.W.keepIn K (.ref fl_row) = true)
    (z270 : PySem.W.nsIn K mainGlobals "_law_sizes" = some (some (.ref fl_sizes)))
    (z271 : K.lookup fl_sizes = some ⟨fl_sizesoc, fl_sizesod, .func (PySem.W.fnOf "_law_sizes" "_law_sizes" (defArgs s_l_sizes) (defBody s_l_sizes) (defScope s_l_sizes) .none fl_sizeskV fl_sizesdoc fl_sizespm fl_sizesan fl_sizescdv fl_sizesct), fl_sizesosl⟩)
    (z272 : PySem.W.codeIn K fl_sizescdv "_law_sizes" = true)
    (z273 : PySem.W.keepIn K (.ref fl_sizes) = true)
    (z274 : PySem.W.nsIn K mainGlobals "_law_goes" = some (some (.ref fl_goes)))
    (z275 : K.lookup fl_goes = some ⟨fl_goesoc, fl_goesod, .func (PySem.W.fnOf "_law_goes" "_law_goes" (defArgs s_l_goes) (defBody s_l_goes) (defScope s_l_goes) .none fl_goeskV fl_goesdoc fl_goespm fl_goesan fl_goescdv fl_goesct), fl_goesosl⟩)
    (z276 : PySem.W.codeIn K fl_goescdv "_law_goes" = true)
    (z277 : PySem.W.keepIn K (.ref fl_goes) = true)
    (z278 : PySem.W.nsIn K mainGlobals "_law_is_store" = some (some (.ref fl_is_store)))
    (z279 : K.lookup fl_is_store = some ⟨fl_is_storeoc, fl_is_storeod, .func (PySem.W.fnOf "_law_is_store" "_law_is_store" (defArgs s_l_is_store) (defBody s_l_is_store) (defScope s_l_is_store) .none fl_is_storekV fl_is_storedoc fl_is_storepm fl_is_storean fl_is_storecdv fl_is_storect), fl_is_storeosl⟩)
    (z280 : PySem.W.codeIn K fl_is_storecdv "_law_is_store" = true)
    (z281 : PySem.W.keepIn K (.ref fl_is_store) = true)
    (z282 : PySem.W.nsIn K mainGlobals "_law_let" = some (some (.ref fl_let)))
    (z283 : K.lookup fl_let = some ⟨fl_letoc, fl_letod, .func (PySem.W.fnOf "_law_let" "_law_let" (defArgs s_l_let) (defBody s_l_let) (defScope s_l_let) .none fl_letkV fl_letdoc fl_letpm fl_letan fl_letcdv fl_letct), fl_letosl⟩)
    (z284 : PySem.W.codeIn K fl_letcdv "_law_let" = true)
    (z285 : PySem.W.keepIn K (.ref fl_let) = true)
    (z286 : PySem.W.nsIn K mainGlobals "_law_held" = some (some (.ref fl_held)))
    (z287 : K.lookup fl_held = some ⟨fl_heldoc, fl_heldod, .func (PySem.W.fnOf "_law_held" "_law_held" (defArgs s_l_held) (defBody s_l_held) (defScope s_l_held) .none fl_heldkV fl_helddoc fl_heldpm fl_heldan fl_heldcdv fl_heldct), fl_heldosl⟩)
    (z288 : PySem.W.codeIn K fl_heldcdv "_law_held" = true)
    (z289 : PySem.W.keepIn K (.ref fl_held) = true)
    (z290 : PySem.W.nsIn K mainGlobals "_law_refused" = some (some (.ref fl_refused)))
    (z291 : K.lookup fl_refused = some ⟨fl_refusedoc, fl_refusedod, .func (PySem.W.fnOf "_law_refused" "_law_refused" (defArgs s_l_refused) (defBody s_l_refused) (defScope s_l_refused) .none fl_refusedkV fl_refuseddoc fl_refusedpm fl_refusedan fl_refusedcdv fl_refusedct), fl_refusedosl⟩)
    (z292 : PySem.W.codeIn K fl_refusedcdv "_law_refused" = true)
    (z293 : PySem.W.keepIn K (.ref fl_refused) = true)
    (z294 : PySem.W.nsIn K mainGlobals "_law_made" = some (some (.ref fl_made)))
    (z295 : K.lookup fl_made = some ⟨fl_madeoc, fl_madeod, .func (PySem.W.fnOf "_law_made" "_law_made" (defArgs s_l_made) (defBody s_l_made) (defScope s_l_made) .none fl_madekV fl_madedoc fl_madepm fl_madean fl_madecdv fl_madect), fl_madeosl⟩)
    (z296 : PySem.W.codeIn K fl_madecdv "_law_made" = true)
    (z297 : PySem.W.keepIn K (.ref fl_made) = true)
    (z298 : PySem.W.nsIn K mainGlobals "_law_counts" = some (some (.ref fl_counts)))
    (z299 : K.lookup fl_counts = some ⟨fl_countsoc, fl_countsod, .func (PySem.W.fnOf "_law_counts" "_law_counts" (defArgs s_l_counts) (defBody s_l_counts) (defScope s_l_counts) .none fl_countskV fl_countsdoc fl_countspm fl_countsan fl_countscdv fl_countsct), fl_countsosl⟩)
    (z300 : PySem.W.codeIn K fl_countscdv "_law_counts" = true)
    (z301 : PySem.W.keepIn K (.ref fl_counts) = true)
    (z302 : PySem.W.nsIn K mainGlobals "_law_less" = some (some (.ref fl_less)))
    (z303 : K.lookup fl_less = some ⟨fl_lessoc, fl_lessod, .func (PySem.W.fnOf "_law_less" "_law_less" (defArgs s_l_less) (defBody s_l_less) (defScope s_l_less) .none fl_lesskV fl_lessdoc fl_lesspm fl_lessan fl_lesscdv fl_lessct), fl_lessosl⟩)
    (z304 : PySem.W.codeIn K fl_lesscdv "_law_less" = true)
    (z305 : PySem.W.keepIn K (.ref fl_less) = true)
    (z306 : PySem.W.nsIn K mainGlobals "_law_touched" = some (some (.ref fl_touched)))
    (z307 : K.lookup fl_touched = some ⟨fl_touchedoc, fl_touchedod, .func (PySem.W.fnOf "_law_touched" "_law_touched" (defArgs s_l_touched) (defBody s_l_touched) (defScope s_l_touched) .none fl_touchedkV fl_toucheddoc fl_touchedpm fl_touchedan fl_touchedcdv fl_touchedct), fl_touchedosl⟩)
    (z308 : PySem.W.codeIn K fl_touchedcdv "_law_touched" = true)
    (z309 : PySem.W.keepIn K (.ref fl_touched) = true)
    (z310 : PySem.W.nsIn K mainGlobals "law" = some (some (.ref flaw)))
    (z311 : K.lookup flaw = some ⟨flawoc, flawod, .func (PySem.W.fnOf "law" "law" (defArgs s_law) (defBody s_law) (defScope s_law) .none flawkV flawdoc flawpm flawan flawcdv flawct), flawosl⟩)
    (z312 : PySem.W.codeIn K flawcdv "law" = true)
    (z313 : PySem.W.keepIn K (.ref flaw) = true) : ∃ cP cU cA cB c1 c2 c3 cC c4 c5 cT cF cD cS cI, Txt K mg cP cU cA cB c1 c2 c3 cC c4 c5 cT cF cD cS cI :=
  ⟨cP, cU, cA, cB, c1, c2, c3, cC, c4, c5, cT, cF, cD, cS, cI, glc_mk X G z1, exc_mk X G z2 z3, exc_mk X G z4 z5, exc_mk X G z6 z7, glc_mk X G z8, glc_mk X G z9, glc_mk X G z10, glc_mk X G z11, glc_mk X G z12, glc_mk X G z13, exci_mk z14 z15 z16 z17 z18 z19 z20 z21, z22, z23, z24, z25, cls_mk X G z26 z27 z28 z29 z30, z31, z32, z33, z34, z35, z36, idef_mk z37 z38 z39 z40 z41 z42 z43, cls_mk X G z44 z45 z46 z47 z48, z49, z50, z51, idef_mk z52 z53 z54 z55 z56 z57 z58, mdef_mk z59 z60 z61 z62 z63, mdef_mk z64 z65 z66 z67 z68, mdef_mk z69 z70 z71 z72 z73, mdef_mk z74 z75 z76 z77 z78, mdef_mk z79 z80 z81 z82 z83, mdef_mk z84 z85 z86 z87 z88, mdef_mk z89 z90 z91 z92 z93, mdef_mk z94 z95 z96 z97 z98, cls_mk X G z99 z100 z101 z102 z103, z104, z105, idef_mk z106 z107 z108 z109 z110 z111 z112, mdef_mk z113 z114 z115 z116 z117, mdef_mk z118 z119 z120 z121 z122, mdef_mk z123 z124 z125 z126 z127, mdef_mk z128 z129 z130 z131 z132, mdef_mk z133 z134 z135 z136 z137, cls_mk X G z138 z139 z140 z141 z142, z143, z144, idef_mk z145 z146 z147 z148 z149 z150 z151, mdef_mk z152 z153 z154 z155 z156, mdef_mk z157 z158 z159 z160 z161, mdef_mk z162 z163 z164 z165 z166, mdef_mk z167 z168 z169 z170 z171, mdef_mk z172 z173 z174 z175 z176, cls_mk X G z177 z178 z179 z180 z181, z182, idef_mk z183 z184 z185 z186 z187 z188 z189, mdef_mk z190 z191 z192 z193 z194, mdef_mk z195 z196 z197 z198 z199, mdef_mk z200 z201 z202 z203 z204, mdef_mk z205 z206 z207 z208 z209, def_mk X G z210 z211 z212 z213, def_mk X G z214 z215 z216 z217, def_mk X G z218 z219 z220 z221, def_mk X G z222 z223 z224 z225, def_mk X G z226 z227 z228 z229, def_mk X G z230 z231 z232 z233, def_mk X G z234 z235 z236 z237, def_mk X G z238 z239 z240 z241, def_mk X G z242 z243 z244 z245, def_mk X G z246 z247 z248 z249, def_mk X G z250 z251 z252 z253, def_mk X G z254 z255 z256 z257, def_mk X G z258 z259 z260 z261, def_mk X G z262 z263 z264 z265, def_mk X G z266 z267 z268 z269, def_mk X G z270 z271 z272 z273, def_mk X G z274 z275 z276 z277, def_mk X G z278 z279 z280 z281, def_mk X G z282 z283 z284 z285, def_mk X G z286 z287 z288 z289, def_mk X G z290 z291 z292 z293, def_mk X G z294 z295 z296 z297, def_mk X G z298 z299 z300 z301, def_mk X G z302 z303 z304 z305, def_mk X G z306 z307 z308 z309, def_mk X G z310 z311 z312 z313⟩
local macro_rules | `(tactic| walk_at "o3") => `(tactic| first | exact Or.inl rfl | exact Or.inr (Or.inl rfl) | exact Or.inr (Or.inr rfl))
local macro_rules | `(tactic| walk_at "o2") => `(tactic| first | exact Or.inl rfl | exact Or.inr rfl)
theorem mC {α : Type} {b a : α} {l : List α} (h : a ∈ l) : a ∈ b :: l := List.mem_cons_of_mem b h
theorem mA {α : Type} {a : α} {k l : List α} (h : a ∈ l) : a ∈ k ++ l := List.mem_append_right k h
theorem mB {α : Type} {a : α} {k l : List α} (h : a ∈ k) : a ∈ k ++ l := List.mem_append_left l h
theorem mS {α : Type} {a : α} {l : List α} : a ∈ a :: l := List.mem_cons_self
local macro_rules | `(tactic| walk_at "mem") => `(tactic| repeat (first | with_reducible exact List.mem_cons_self | with_reducible assumption | with_reducible refine List.mem_cons_of_mem _ ?_))
local macro_rules | `(tactic| walk_at "sub") => `(tactic| repeat (first | with_reducible exact List.Sublist.refl _ | with_reducible apply List.Sublist.cons₂ | with_reducible apply List.Sublist.cons))
local macro_rules | `(tactic| walk_at "led") => `(tactic| first | with_reducible assumption | exact L2.Led.sub (by assumption) (by walk_at "sub"))
local macro_rules | `(tactic| walk_at "cell") => `(tactic| first | with_reducible assumption | with_reducible exact L2.Led.get (by assumption) (by walk_at "mem"))
local macro_rules | `(tactic| walk_at "atc") => `(tactic| first | with_reducible assumption | with_reducible exact L2.atI_0 | with_reducible exact L2.atI_1 | with_reducible exact L2.atI_2 | with_reducible exact L2.atI_3 | with_reducible exact L2.atI_4 | with_reducible exact L2.atI_5 | with_reducible exact L2.atI_6 | with_reducible exact L2.atI_7)
local macro_rules | `(tactic| walk_at "szs") => `(tactic| first | decide | (simp only [List.length_cons, List.length_nil, List.length_append, List.length_map]; have hsz := PySem.sizeLine_eq; omega) | (have hsz := PySem.sizeLine_eq; omega))
local macro_rules | `(tactic| walk_at "tyc") => `(tactic| first | with_reducible exact L2.tyI | with_reducible exact L2.tyB | with_reducible exact L2.tyS | with_reducible exact L2.tyO | exact L2.tyL (by walk_at "cell") | exact L2.tyT (by walk_at "cell") | exact L2.tyD (by walk_at "cell") | with_reducible assumption)
local macro_rules | `(tactic| walk_at "cnd") => `(tactic| first | omega | (unfold L2.CDiv; omega) | (unfold L2.CMul; omega) | (unfold L2.CDivN; omega) | (dsimp only; omega) | exact PySem.IntMulOk.of_right (by decide +kernel) | exact PySem.IntMulOk.of_left (by decide +kernel))
local macro_rules | `(tactic| walk_at "seq") => `(tactic| first | assumption | exact L2.SqL.of (by walk_at "cell") | exact L2.Same.seq (by assumption) (by assumption) | exact L2.Scr.seq (by assumption) (by walk_at "led"))
local macro_rules | `(tactic| walk_at "isi") => `(tactic| first | with_reducible exact L2.isi_int_int | with_reducible exact L2.isi_int_bool | with_reducible exact L2.isi_bool_int | with_reducible exact L2.isi_bool_bool | with_reducible exact L2.isi_none_int | with_reducible exact L2.isi_none_bool | with_reducible exact L2.isi_str_int | with_reducible exact L2.isi_str_bool | with_reducible exact L2.isi_list_int | with_reducible exact L2.isi_list_bool | with_reducible exact L2.isi_tuple_int | with_reducible exact L2.isi_tuple_bool | with_reducible exact L2.isi_list_list | with_reducible exact L2.isi_tuple_tuple | with_reducible exact L2.isi_tuple_list | with_reducible exact L2.isi_list_tuple | with_reducible exact L2.isi_none_list | with_reducible exact L2.isi_none_tuple | with_reducible exact L2.isi_str_list | with_reducible exact L2.isi_int_list | with_reducible exact L2.isi_bool_list | with_reducible exact L2.isi_int_tuple | with_reducible exact L2.isi_bool_tuple | with_reducible exact L2.isi_str_str | with_reducible exact L2.isi_str_tuple | with_reducible exact L2.isi_int_str | with_reducible exact L2.isi_bool_str | with_reducible exact L2.isi_none_str | with_reducible exact L2.isi_list_str | with_reducible exact L2.isi_tuple_str | rfl)
local macro_rules | `(tactic| walk_at "cl") => `(tactic| ((repeat (with_reducible rename L2.Is _ _ => zz; clear zz)); (repeat (with_reducible rename L2.Same _ _ => zz; clear zz)); (repeat (with_reducible rename L2.VK => zz; clear zz))))
local macro_rules | `(tactic| walk_at "g1") => `(tactic| first
  | with_reducible refine L2.hidI fun _ _ => ?_
  | with_reducible refine L2.varH rfl ?_
  | with_reducible refine L2.conH ?_
  | with_reducible refine L2.nilH ?_
  | with_reducible refine L2.i0H ?_
  | with_reducible refine L2.consH fun _ _ => ?_
  | with_reducible refine L2.opH fun _ _ => ?_
  | with_reducible refine L2.nameH ?_
  | with_reducible refine L2.nextH ?_
  | with_reducible refine L2.seqI fun _ _ => ?_
  | with_reducible refine L2.asgH fun _ _ => ?_
  | with_reducible refine L2.retH fun _ _ => ?_
  | with_reducible refine L2.dropH fun _ _ => ?_
  | with_reducible refine L2.ifH fun _ _ => ?_
  | with_reducible refine L2.testH fun _ _ => ?_
  | with_reducible refine L2.tBH fun _ _ => ?_
  | with_reducible refine L2.notH fun _ _ => ?_
  | with_reducible refine L2.andH fun _ _ => ?_
  | with_reducible refine L2.orH fun _ _ => ?_
  | with_reducible refine L2.andVH fun _ _ => ?_
  | with_reducible refine L2.orVH fun _ _ => ?_
  | with_reducible refine L2.notVH fun _ _ => ?_
  | with_reducible refine L2.ifXH fun _ _ => ?_
  | with_reducible refine L2.unH fun _ _ => ?_
  | with_reducible refine L2.uH ?_
  | with_reducible refine L2.slH fun _ _ => ?_
  | with_reducible refine L2.partH fun _ _ => ?_
  | with_reducible refine L2.noPartH ?_
  | with_reducible refine L2.tupH fun _ _ => ?_
  | with_reducible refine L2.lstH fun _ _ => ?_
  | with_reducible refine L2.callH fun _ _ => ?_
  | with_reducible refine L2.cbH fun _ _ => ?_
  | with_reducible refine L2.methH fun _ _ => ?_
  | with_reducible refine L2.makeH fun _ _ => ?_
  | with_reducible refine L2.fldH fun _ _ => ?_
  | with_reducible refine L2.sfldH fun _ _ => ?_
  | with_reducible refine L2.bmH fun _ _ => ?_
  | with_reducible refine L2.bm0H fun _ _ => ?_
  | with_reducible refine L2.dputH fun _ _ => ?_
  | with_reducible refine L2.gsubH fun _ _ => ?_
  | with_reducible refine L2.dgetH fun _ _ => ?_
  | with_reducible refine L2.dinH fun _ _ => ?_
  | with_reducible refine L2.dninH fun _ _ => ?_
  | with_reducible refine L2.Is.use (by assumption) ?_
  | with_reducible refine L2.use2 (by assumption) ?_
  | with_reducible refine L2.blH ?_
  | with_reducible refine L2.intH ?_
  | with_reducible refine L2.eqIH ?_
  | with_reducible refine L2.neIH ?_
  | with_reducible refine L2.eqSH ?_
  | with_reducible refine L2.neSH ?_
  | with_reducible refine L2.eqBH ?_
  | with_reducible refine L2.neBH ?_
  | with_reducible refine L2.iteT ?_
  | with_reducible refine L2.iteF ?_
  | with_reducible refine L2.iteD (fun _ => ?_) (fun _ => ?_)
  | with_reducible refine L2.iteND (fun _ => ?_) (fun _ => ?_)
  | with_reducible refine L2.iteNT ?_
  | with_reducible refine L2.iteNF ?_
  | ((with_reducible show L2.Ends.rt _ _ _); with_reducible refine L2.rtH ?_)
  | ((with_reducible show L2.Ends.nx _ _ _); with_reducible refine L2.nxH ?_)
  | with_reducible refine L2.pow60H ?_
  | with_reducible refine L2.pow59H ?_
  | with_reducible refine L2.pow20H ?_
  | with_reducible refine L2.pow40H ?_
  | with_reducible refine L2.pow30H ?_
  | with_reducible refine L2.pow9H ?_
  | with_reducible refine L2.pow6H ?_
  | ((with_reducible show L2.rI _ _ _ _ _ _); with_reducible refine L2.iH (by walk_at "cnd") ?_)
  | ((with_reducible show (_ ≤ PySem.sizeLine) ∧ _); with_reducible refine And.intro (by walk_at "szs") (L2.Led.alloc (by assumption) fun _ _ _ _ _ => ?_))
  | ((with_reducible show L2.rIxA _ _ _ _); with_reducible refine L2.ixLH (by walk_at "cell") (by walk_at "atc") ?_)
  | ((with_reducible show L2.rIxA _ _ _ _); with_reducible refine L2.ixTH (by walk_at "cell") (by walk_at "atc") ?_)
  | ((with_reducible show L2.rLenA _ _ _); with_reducible refine L2.lenLH (by walk_at "cell") ?_)
  | ((with_reducible show L2.rLenA _ _ _); with_reducible refine L2.lenTH (by walk_at "cell") ?_)
  | ((with_reducible show L2.rLenA _ _ _); with_reducible refine L2.lenDH (by walk_at "cell") ?_)
  | ((with_reducible show L2.rIsiN _ _ _); with_reducible refine L2.isiH (by walk_at "tyc") (by walk_at "isi") ?_)
  | ((with_reducible show L2.rCat _ _ _ _); with_reducible refine L2.catH (by walk_at "cell") (by walk_at "cell") (by walk_at "szs") (L2.Led.alloc (by assumption) fun _ _ _ _ _ => ?_))
  | ((with_reducible show ∃ (p : Addr) (ys : List L2.V), _ = [L2.V.ref p] ∧ _); with_reducible refine L2.listH (by walk_at "seq") (L2.Led.alloc (by assumption) fun _ _ _ _ _ => ?_))
  | ((with_reducible show ∃ (p : Addr) (ys : List L2.V), _ = [L2.V.ref p] ∧ _); with_reducible refine L2.tupOfH (by walk_at "seq") (L2.Led.alloc (by assumption) fun _ _ _ _ _ => ?_))
  | ((with_reducible show L2.rSlL _ _ _ _ _ _); with_reducible refine L2.slLH (by first | assumption | exact L2.SqL.of (by walk_at "cell") | exact L2.Same.seq (by assumption) (by assumption) | exact L2.Scr.seq (by assumption) (by walk_at "led")) (L2.Led.alloc (by assumption) fun _ _ _ _ _ => ?_)))
local macro_rules | `(tactic| walk_at "g2") => `(tactic| first
  | walk_at "g1"
  | ((with_reducible show ∃ (b : Addr) (dx : Addr) (fs : List (Str × L2.V)) (v : L2.V), _ ∧ _); with_reducible refine L2.fldR (by walk_at "cell") (by first | assumption | with_unfolding_all rfl) ?_)
  | ((with_reducible show ∃ (b : Addr) (dx : Addr) (fs : List (Str × L2.V)), _ ∧ _); with_reducible refine L2.methR (by walk_at "cell") (by first | assumption | with_unfolding_all rfl) ?_)
  | ((with_reducible show ∃ (b : Addr) (dx : Addr) (fs : List (Str × L2.V)), _ ∧ _); with_reducible refine L2.sfldR (by walk_at "cell") (by first | decide | with_unfolding_all exact Nat.le_of_ble_eq_true rfl) ?_)
  | ((with_reducible show ∃ (b : Addr) (o : Option L2.V), _ ∧ _); with_reducible refine L2.dinR (by walk_at "cell") ?_)
  | ((with_reducible show L2.tDNewK _ _ _); with_reducible refine L2.newDH (by assumption) fun _ _ _ _ _ => ?_)
  | with_reducible refine L2.isH ?_
  | with_reducible refine L2.isnH ?_)
local macro_rules | `(tactic| walk_at "gd") => `(tactic| repeat' walk_at "g2")
local macro_rules | `(tactic| walk_at "pf") => `(tactic| repeat (first | with_reducible exact List.Perm.refl _ | with_reducible apply L2.pcC | with_reducible apply L2.pcA | with_reducible apply L2.paC | with_reducible apply L2.paA))
local macro_rules | `(tactic| walk_at "sp") => `(tactic| repeat (first | (with_reducible apply L2.spC; · walk_at "pf") | (with_reducible apply L2.spA; · walk_at "pf") | with_reducible exact L2.spR | with_reducible exact L2.spN | with_reducible apply L2.spD | with_reducible apply L2.spDA))
local macro_rules | `(tactic| walk_at "g3") => `(tactic| first
  | walk_at "g2"
  | with_reducible refine L2.dget1H fun _ _ => ?_
  | with_reducible refine L2.dpop2H (fun _ _ => ?_) L2.tcMono
  | ((with_reducible show (∃ (a : Addr), _ ∧ L2.IsD _ _) ∧ _); with_reducible refine And.intro (L2.isD_of (by walk_at "cell")) ?_)
  | ((with_reducible show ∃ (b : Addr) (o : Option L2.V), _ ∧ _); with_reducible refine L2.dget1R (by walk_at "cell") ?_)
  | ((with_reducible show L2.rSlT _ _ none (some 2) _ _); with_reducible refine L2.sl4a (by walk_at "cell") (L2.Led.alloc (by assumption) fun _ _ _ _ _ => ?_))
  | ((with_reducible show L2.rSlT _ _ (some 2) none _ _); with_reducible refine L2.sl4b (by walk_at "cell") (L2.Led.alloc (by assumption) fun _ _ _ _ _ => ?_)))
local macro_rules | `(tactic| walk_at "ge") => `(tactic| repeat' walk_at "g3")
section
variable {P : Program} {w : World} {K : PySem.W.Frag} {mg : Str → Option Value} {base : Heap} {cP cU cA cB c1 c2 c3 cC c4 c5 cT cF cD cS cI : Addr}
theorem unit1 {A : Around} {k : Nat} (hr : Room k A) : A.units + 1 < cLine := Nat.lt_of_le_of_lt (Nat.add_le_add_left (by decide) _) hr.units
def OkZ (z : Str) : Prop := PyData.strOk z = true
inductive Th
  | own (n : Int)
  | file (z : Str) (p : Int)
deriving DecidableEq
def thV : Th → List V
  | .own n => [.str (Str.ofString "own"), .int n]
  | .file z p => [.str (Str.ofString "file"), .str z, .int p]
def OkT : Th → Prop
  | .own _ => True
  | .file z _ => OkZ z
def datH : Th → PySem.W.Dat
  | .own n => .tuple [.str (Str.ofString "own"), .int n]
  | .file z p => .tuple [.str (Str.ofString "file"), .str z, .int p]
theorem datH_inj {a b : Th} : datH a = datH b ↔ a = b := by
  cases a <;> cases b <;> simp [datH]
theorem datH_ok {a : Th} (h : OkT a) (k : Nat) : PySem.W.kqdOk (k + 1) (datH a) = true := by
  have h1 : PyData.strOk (Str.ofString "own") = true := by decide +kernel
  have h2 : PyData.strOk (Str.ofString "file") = true := by decide +kernel
  cases a with
  | own n => unfold datH; rw [PySem.W.kqdOk]; cases k <;> simp [PySem.W.kqdOk, h1]
  | file z p =>
    have h3 : PyData.strOk z = true := h
    unfold datH; rw [PySem.W.kqdOk]; cases k <;> simp [PySem.W.kqdOk, h2, h3]
theorem datH_V {H : Hp} {p : Addr} {a : Th} (h : H p = some (.tup (thV a))) : DatV H (.ref p) (PySem.W.kqdP (datH a)) := by
  cases a with
  | own n =>
    unfold datH
    rw [PySem.W.kqdP, PySem.W.kqdPs, PySem.W.kqdPs, PySem.W.kqdPs, PySem.W.kqdP, PySem.W.kqdP]
    exact .tup h (.cons (.str _) (.cons (.int _) .nil))
  | file z q =>
    unfold datH
    rw [PySem.W.kqdP, PySem.W.kqdPs, PySem.W.kqdPs, PySem.W.kqdPs, PySem.W.kqdPs, PySem.W.kqdP, PySem.W.kqdP, PySem.W.kqdP]
    exact .tup h (.cons (.str _) (.cons (.str _) (.cons (.int _) .nil)))
abbrev Hd := Option (Addr × Th)
def heldV : Hd → V
  | none => .non
  | some x => .ref x.1
def thO (x : Hd) : Option Th := x.map (·.2)
def datO : Option Th → PySem.W.Dat
  | none => .none
  | some a => datH a
theorem datO_inj {a b : Option Th} : datO a = datO b ↔ a = b := by
  cases a with
  | none => cases b with
    | none => exact iff_of_true rfl rfl
    | some b => cases b <;> simp [datO, datH]
  | some a => cases b with
    | none => cases a <;> simp [datO, datH]
    | some b => show datH a = datH b ↔ _; rw [datH_inj, Option.some.injEq]
def rowV : Option (Addr × List Int) → V
  | none => .non
  | some x => .ref x.1
structure FS where
  b : Addr
  dx : Addr
  hl : Addr
  rl : Addr
  sl : Addr
  hs : List Hd
  rs : List (Option (Addr × List Int))
  bs : List Bool
def frF (hl rl sl : Addr) : List (Str × V) := [("held", .ref hl), ("rows", .ref rl), ("soiled", .ref sl)]
abbrev FrC (cF : Addr) (F : FS) (M : Cells) : Cells := (F.b, .ins cF F.dx (frF F.hl F.rl F.sl)) :: (F.hl, .lst (F.hs.map heldV)) :: (F.rl, .lst (F.rs.map rowV)) :: (F.sl, .lst (F.bs.map V.bl)) :: M
structure OkF (F : FS) (n : Nat) (M : Cells) : Prop where
  h : F.hs.length = n
  r : F.rs.length = n
  s : F.bs.length = n
  th : ∀ t a, some (t, a) ∈ F.hs → (t, HO.tup (thV a)) ∈ M ∧ OkT a
  rw : ∀ t row, some (t, row) ∈ F.rs → (t, HO.lst (row.map V.int)) ∈ M
theorem OkF.mono {F : FS} {n : Nat} {M M' : Cells} (g : OkF F n M) (h : ∀ c ∈ M, c ∈ M') : OkF F n M' := ⟨g.h, g.r, g.s, fun t a ha => ⟨h _ (g.th t a ha).1, (g.th t a ha).2⟩, fun t a ha => h _ (g.rw t a ha)⟩
def FS.fill (F : FS) (i : Nat) (x : Hd) (y : Option (Addr × List Int)) (b : Bool) : FS := { F with hs := F.hs.set i x, rs := F.rs.set i y, bs := F.bs.set i b }
theorem OkF.fill {F : FS} {n : Nat} {M : Cells} (g : OkF F n M) {i : Nat} {x : Hd} {y : Option (Addr × List Int)} {b : Bool} (hx : ∀ t a, x = some (t, a) → (t, HO.tup (thV a)) ∈ M ∧ OkT a) (hy : ∀ t row, y = some (t, row) → (t, HO.lst (row.map V.int)) ∈ M) : OkF (F.fill i x y b) n M := by
  refine ⟨by show (F.hs.set i x).length = n; rw [List.length_set]; exact g.h, by show (F.rs.set i y).length = n; rw [List.length_set]; exact g.r, by show (F.bs.set i b).length = n; rw [List.length_set]; exact g.s, fun t a ha => ?_, fun t a ha => ?_⟩
  · rcases List.mem_or_eq_of_mem_set ha with h | h
    · exact g.th t a h
    · exact hx t a h.symm
  · rcases List.mem_or_eq_of_mem_set ha with h | h
    · exact g.rw t a h
    · exact hy t a h.symm
theorem repV (v : V) (n : Nat) : (List.replicate n [v]).flatten = List.replicate n v := by
  induction n with
  | zero => rfl
  | succ n ih => rw [List.replicate_succ, List.flatten_cons, ih, List.replicate_succ]; rfl
def FS.new (b dx hl rl sl : Addr) (n : Nat) : FS := ⟨b, dx, hl, rl, sl, List.replicate n none, List.replicate n none, List.replicate n false⟩
 local macro_rules | `(tactic| walk_at "spf") => `(tactic| (simp only [FrC, FS.fill, FS.new, List.cons_append, List.nil_append]; walk_at "sp"))
theorem OkF.new {b dx hl rl sl : Addr} {n : Nat} {M : Cells} : OkF (FS.new b dx hl rl sl n) n M := by
  refine ⟨List.length_replicate, List.length_replicate, List.length_replicate, fun t a h => ?_, fun t a h => ?_⟩
  · exact nomatch (List.mem_replicate.mp h).2
  · exact nomatch (List.mem_replicate.mp h).2
def spFInit (cF : Addr) : Sp := fun vs H Q _ => ∃ (b dx : Addr) (n : Nat) (L : Cells), vs = [.ref b, .int (n : Nat)] ∧ Led H ((b, .ins cF dx []) :: L) ∧ n ≤ 600 ∧ ∀ hl rl sl H', Led H' (FrC cF (FS.new b dx hl rl sl n) L) → Q .non H'
theorem ok_finit (D : IDef K cF "Frames.__init__" s_Frames_init) (T : Txt K mg cP cU cA cB c1 c2 c3 cC c4 c5 cT cF cD cS cI) : InitD P w K mg base 1 cF ["self", "many"] (spFInit cF) := by
  have sc := sc_Frames_init
  refine D.ok sc_Frames_init (fun vs H Q E h => ?_) (fun _ _ _ _ _ _ us hl => match us, hl with | [_, _], _ => rfl) (fun f cdv A outer s H vs Q E hr h => ?_)
  · obtain ⟨_, _, _, _, rfl, _⟩ := h; rfl
  · obtain ⟨b, dx, n, L, rfl, hL, h600, k⟩ := h
    refine ⟨_, (@pss_cons _ _ _ _ _ (@ps_fldC _ _ _ _ _ _ _ _ _ _ T.Frames T.n_held (@pv _ 0 _ _ (by rfl) (by walk_at "o3") (by decide) (by decide)) (@pe_op _ _ _ _ _ _ _ _ op_rep (@pe_lst _ _ _ _ (@pa_cons _ _ _ _ _ (@pe_non _ _ _) (@pa_nil _) (by rfl))) (@pv _ 1 _ _ (by rfl) (by walk_at "o3") (by decide) (by decide))) (by rfl)) (@pss_cons _ _ _ _ _ (@ps_fldC _ _ _ _ _ _ _ _ _ _ T.Frames T.n_rows (@pv _ 0 _ _ (by rfl) (by walk_at "o3") (by decide) (by decide)) (@pe_op _ _ _ _ _ _ _ _ op_rep (@pe_lst _ _ _ _ (@pa_cons _ _ _ _ _ (@pe_non _ _ _) (@pa_nil _) (by rfl))) (@pv _ 1 _ _ (by rfl) (by walk_at "o3") (by decide) (by decide))) (by rfl)) (@pss_one _ _ _ (@ps_fldC _ _ _ _ _ _ _ _ _ _ T.Frames T.n_soiled (@pv _ 0 _ _ (by rfl) (by walk_at "o3") (by decide) (by decide)) (@pe_op _ _ _ _ _ _ _ _ op_rep (@pe_lst _ _ _ _ (@pa_cons _ _ _ _ _ (@pe_bl _ _ _ _) (@pa_nil _) (by rfl))) (@pv _ 1 _ _ (by rfl) (by walk_at "o3") (by decide) (by decide))) (by rfl))))), ?_⟩
    refine seqK fun M1 K1 => ?_
    walk_at "gd"
    rename Led _ _ => hl2
    refine repH (hl2.get mS) ⟨by omega, by omega⟩ (by have := sizeLine_eq; simp only [List.length_cons, List.length_nil]; omega) (Led.alloc hl2 fun l H3 _ hl3 _ => ?_)
    rw [repV, Int.toNat_natCast] at hl3
    walk_at "gd"
    refine K1.use ?_
    walk_at "cl"
    clear K1
    have hl4 : Led H3 ((b, .ins cF dx []) :: (l, .lst (List.replicate n .non)) :: L) := hl3.wk (by walk_at "sp")
    have hl5 : Led (upd H3 b (.ins cF dx (putF (Str.ofString "held") (V.ref l) []))) ((b, .ins cF dx [("held", .ref l)]) :: (l, .lst (List.replicate n .non)) :: L) := hl4.put rfl rfl
    generalize upd H3 b (.ins cF dx (putF (Str.ofString "held") (V.ref l) [])) = H4 at hl5 ⊢
    clear hl4 hl3 hl2 hL
    refine seqK fun M1 K1 => ?_
    walk_at "gd"
    rename Led _ _ => hl2
    refine repH (hl2.get mS) ⟨by omega, by omega⟩ (by have := sizeLine_eq; simp only [List.length_cons, List.length_nil]; omega) (Led.alloc hl2 fun r H5 _ hl6 _ => ?_)
    rw [repV, Int.toNat_natCast] at hl6
    walk_at "gd"
    refine K1.use ?_
    walk_at "cl"
    clear K1
    have hl7 : Led H5 ((b, .ins cF dx [("held", .ref l)]) :: (l, .lst (List.replicate n .non)) :: (r, .lst (List.replicate n .non)) :: L) := hl6.wk (by walk_at "sp")
    have hl8 : Led (upd H5 b (.ins cF dx (putF (Str.ofString "rows") (V.ref r) [("held", .ref l)]))) ((b, .ins cF dx [("held", .ref l), ("rows", .ref r)]) :: (l, .lst (List.replicate n .non)) :: (r, .lst (List.replicate n .non)) :: L) := hl7.put rfl rfl
    generalize upd H5 b (.ins cF dx (putF (Str.ofString "rows") (V.ref r) [("held", .ref l)])) = H6 at hl8 ⊢
    clear hl7 hl6 hl2 hl5
    walk_at "gd"
    rename Led _ _ => hl2
    refine repH (hl2.get mS) ⟨by omega, by omega⟩ (by have := sizeLine_eq; simp only [List.length_cons, List.length_nil]; omega) (Led.alloc hl2 fun q H7 _ hl9 _ => ?_)
    rw [repV, Int.toNat_natCast] at hl9
    walk_at "gd"
    have hl10 : Led H7 ((b, .ins cF dx [("held", .ref l), ("rows", .ref r)]) :: (l, .lst (List.replicate n .non)) :: (r, .lst (List.replicate n .non)) :: (q, .lst (List.replicate n (.bl false))) :: L) := hl9.wk (by walk_at "sp")
    have hl11 := hl10.put (o' := .ins cF dx (frF l r q)) rfl rfl
    refine k l r q _ ?_
    unfold FrC FS.new
    simp only [List.map_replicate]
    exact hl11
def spFill (cF : Addr) : Sp := fun vs H Q _ => ∃ (F : FS) (n i : Nat) (t r0 : Addr) (a : Th) (row : List Int) (M : Cells), vs = [.ref F.b, .int (i : Nat), .ref t, .ref r0] ∧ Led H (FrC cF F M) ∧ OkF F n M ∧ i < n ∧ (r0, HO.lst (row.map V.int)) ∈ M ∧ row.length ≤ 600 ∧
  ∀ r H', Led H' (FrC cF (F.fill i (some (t, a)) (some (r, row)) false) ((r, .lst (row.map V.int)) :: M)) → Q .non H'
theorem ok_fill (D : MDef K cF "fill" "Frames.fill" s_Frames_fill) (B : Blt mg) (T : Txt K mg cP cU cA cB c1 c2 c3 cC c4 c5 cT cF cD cS cI) : MethD P w K mg base 1 cF "fill" ["self", "frame", "thing", "row"] (spFill cF) := by
  have sc := sc_Frames_fill
  refine D.ok sc_Frames_fill (fun vs H Q E h => ?_) (fun _ _ _ _ _ _ us hl => match us, hl with | [_, _, _, _], _ => rfl) (fun f cdv A outer s H vs Q E hr h => ?_)
  · obtain ⟨_, _, _, _, _, _, _, _, rfl, _⟩ := h; rfl
  · obtain ⟨F, n, i, t, r0, a, row, M, rfl, hL, g, hi, i_r, hrl, k⟩ := h
    have hf1 : (frF F.hl F.rl F.sl).lookup (Str.ofString "held") = some (.ref F.hl) := rfl
    have hf2 : (frF F.hl F.rl F.sl).lookup (Str.ofString "rows") = some (.ref F.rl) := rfl
    have hf3 : (frF F.hl F.rl F.sl).lookup (Str.ofString "soiled") = some (.ref F.sl) := rfl
    have gh := g.h
    have gr := g.r
    have gs := g.s
    have m1 : (F.hs.map heldV).length = F.hs.length := List.length_map _
    have m2 : (F.rs.map rowV).length = F.rs.length := List.length_map _
    have m3 : (F.bs.map V.bl).length = F.bs.length := List.length_map _
    refine ⟨_, (@pss_cons _ _ _ _ _ (@ps_asg _ _ _ _ _ _ (@pv _ 2 _ _ (by rfl) (by walk_at "o3") (by decide) (by decide)) (@pg_sub _ _ _ _ _ _ _ (@pe_fldC _ _ _ _ _ _ _ T.Frames T.n_held (@pv _ 0 _ _ (by rfl) (by walk_at "o3") (by decide) (by decide)) (by rfl)) (@pv _ 1 _ _ (by rfl) (by walk_at "o3") (by decide) (by decide)) set_list (by intro _; rfl)) (by rfl) (by rfl) (by rfl)) (@pss_cons _ _ _ _ _ (@ps_asg _ _ _ _ _ _ (@pe_callTy _ _ _ _ _ _ _ _ _ (call_list_ofK (K := K) rfl) (by rfl) B.list bt_list (@pa_cons _ _ _ _ _ (@pv _ 3 _ _ (by rfl) (by walk_at "o3") (by decide) (by decide)) (@pa_nil _) (by rfl)) (by decide) (by decide) (by rfl) (by rfl)) (@pg_sub _ _ _ _ _ _ _ (@pe_fldC _ _ _ _ _ _ _ T.Frames T.n_rows (@pv _ 0 _ _ (by rfl) (by walk_at "o3") (by decide) (by decide)) (by rfl)) (@pv _ 1 _ _ (by rfl) (by walk_at "o3") (by decide) (by decide)) set_list (by intro _; rfl)) (by rfl) (by rfl) (by rfl)) (@pss_one _ _ _ (@ps_asg _ _ _ _ _ _ (@pe_bl _ _ _ _) (@pg_sub _ _ _ _ _ _ _ (@pe_fldC _ _ _ _ _ _ _ T.Frames T.n_soiled (@pv _ 0 _ _ (by rfl) (by walk_at "o3") (by decide) (by decide)) (by rfl)) (@pv _ 1 _ _ (by rfl) (by walk_at "o3") (by decide) (by decide)) set_list (by intro _; rfl)) (by rfl) (by rfl) (by rfl))))), ?_⟩
    refine seqK fun M1 K1 => ?_
    walk_at "ge"
    refine setLH (hL.get (mC mS)) (ixN_of (by omega) (by omega)) ?_
    rw [Int.toNat_natCast, show (F.hs.map heldV).set i (V.ref t) = (F.hs.set i (some (t, a))).map heldV by rw [List.map_set]; rfl]
    have hl2 : Led (upd H F.hl (.lst ((F.hs.set i (some (t, a))).map heldV))) ((F.b, .ins cF F.dx (frF F.hl F.rl F.sl)) :: (F.hl, .lst ((F.hs.set i (some (t, a))).map heldV)) :: (F.rl, .lst (F.rs.map rowV)) :: (F.sl, .lst (F.bs.map V.bl)) :: M) := hL.putI 1 rfl rfl rfl
    generalize upd H F.hl (.lst ((F.hs.set i (some (t, a))).map heldV)) = H2 at hl2 ⊢
    walk_at "ge"
    refine K1.use ?_
    walk_at "cl"
    clear K1 hL
    refine seqK fun M1 K1 => ?_
    walk_at "ge"
    rename_i r H3 _ hl3 _ _ _ _ _ _ _
    refine setLH (hl3.get (mC (mC (mC mS)))) (ixN_of (by omega) (by omega)) ?_
    rw [Int.toNat_natCast, show (F.rs.map rowV).set i (V.ref r) = (F.rs.set i (some (r, row))).map rowV by rw [List.map_set]; rfl]
    have hl4 : Led (upd H3 F.rl (.lst ((F.rs.set i (some (r, row))).map rowV))) ((r, .lst (row.map V.int)) :: (F.b, .ins cF F.dx (frF F.hl F.rl F.sl)) :: (F.hl, .lst ((F.hs.set i (some (t, a))).map heldV)) :: (F.rl, .lst ((F.rs.set i (some (r, row))).map rowV)) :: (F.sl, .lst (F.bs.map V.bl)) :: M) := hl3.putI 3 rfl rfl rfl
    generalize upd H3 F.rl (.lst ((F.rs.set i (some (r, row))).map rowV)) = H4 at hl4 ⊢
    walk_at "ge"
    refine K1.use ?_
    walk_at "cl"
    clear K1 hl2 hl3
    walk_at "ge"
    refine setLH (hl4.get (mC (mC (mC (mC mS))))) (ixN_of (by omega) (by omega)) ?_
    rw [Int.toNat_natCast, show (F.bs.map V.bl).set i (V.bl false) = (F.bs.set i false).map V.bl by rw [List.map_set]]
    have hl5 : Led (upd H4 F.sl (.lst ((F.bs.set i false).map V.bl))) ((r, .lst (row.map V.int)) :: (F.b, .ins cF F.dx (frF F.hl F.rl F.sl)) :: (F.hl, .lst ((F.hs.set i (some (t, a))).map heldV)) :: (F.rl, .lst ((F.rs.set i (some (r, row))).map rowV)) :: (F.sl, .lst ((F.bs.set i false).map V.bl)) :: M) := hl4.putI 4 rfl rfl rfl
    walk_at "ge"
    exact k r _ (hl5.wk (by walk_at "spf"))
def spEmpty (cF : Addr) : Sp := fun vs H Q _ => ∃ (F : FS) (n i : Nat) (M : Cells), vs = [.ref F.b, .int (i : Nat)] ∧ Led H (FrC cF F M) ∧ OkF F n M ∧ i < n ∧ ∀ H', Led H' (FrC cF (F.fill i none none false) M) → Q .non H'
theorem ok_empty (D : MDef K cF "empty" "Frames.empty" s_Frames_empty) (B : Blt mg) (T : Txt K mg cP cU cA cB c1 c2 c3 cC c4 c5 cT cF cD cS cI) : MethD P w K mg base 1 cF "empty" ["self", "frame"] (spEmpty cF) := by
  have sc := sc_Frames_empty
  refine D.ok sc_Frames_empty (fun vs H Q E h => ?_) (fun _ _ _ _ _ _ us hl => match us, hl with | [_, _], _ => rfl) (fun f cdv A outer s H vs Q E hr h => ?_)
  · obtain ⟨_, _, _, _, rfl, _⟩ := h; rfl
  · obtain ⟨F, n, i, M, rfl, hL, g, hi, k⟩ := h
    have hf1 : (frF F.hl F.rl F.sl).lookup (Str.ofString "held") = some (.ref F.hl) := rfl
    have hf2 : (frF F.hl F.rl F.sl).lookup (Str.ofString "rows") = some (.ref F.rl) := rfl
    have hf3 : (frF F.hl F.rl F.sl).lookup (Str.ofString "soiled") = some (.ref F.sl) := rfl
    have gh := g.h
    have gr := g.r
    have gs := g.s
    have m1 : (F.hs.map heldV).length = F.hs.length := List.length_map _
    have m2 : (F.rs.map rowV).length = F.rs.length := List.length_map _
    have m3 : (F.bs.map V.bl).length = F.bs.length := List.length_map _
    refine ⟨_, (@pss_cons _ _ _ _ _ (@ps_asg _ _ _ _ _ _ (@pe_non _ _ _) (@pg_sub _ _ _ _ _ _ _ (@pe_fldC _ _ _ _ _ _ _ T.Frames T.n_held (@pv _ 0 _ _ (by rfl) (by walk_at "o3") (by decide) (by decide)) (by rfl)) (@pv _ 1 _ _ (by rfl) (by walk_at "o3") (by decide) (by decide)) set_list (by intro _; rfl)) (by rfl) (by rfl) (by rfl)) (@pss_cons _ _ _ _ _ (@ps_asg _ _ _ _ _ _ (@pe_non _ _ _) (@pg_sub _ _ _ _ _ _ _ (@pe_fldC _ _ _ _ _ _ _ T.Frames T.n_rows (@pv _ 0 _ _ (by rfl) (by walk_at "o3") (by decide) (by decide)) (by rfl)) (@pv _ 1 _ _ (by rfl) (by walk_at "o3") (by decide) (by decide)) set_list (by intro _; rfl)) (by rfl) (by rfl) (by rfl)) (@pss_one _ _ _ (@ps_asg _ _ _ _ _ _ (@pe_bl _ _ _ _) (@pg_sub _ _ _ _ _ _ _ (@pe_fldC _ _ _ _ _ _ _ T.Frames T.n_soiled (@pv _ 0 _ _ (by rfl) (by walk_at "o3") (by decide) (by decide)) (by rfl)) (@pv _ 1 _ _ (by rfl) (by walk_at "o3") (by decide) (by decide)) set_list (by intro _; rfl)) (by rfl) (by rfl) (by rfl))))), ?_⟩
    refine seqK fun M1 K1 => ?_
    walk_at "ge"
    refine setLH (hL.get (mC mS)) (ixN_of (by omega) (by omega)) ?_
    rw [Int.toNat_natCast, show (F.hs.map heldV).set i V.non = (F.hs.set i none).map heldV by rw [List.map_set]; rfl]
    have hl2 : Led (upd H F.hl (.lst ((F.hs.set i none).map heldV))) ((F.b, .ins cF F.dx (frF F.hl F.rl F.sl)) :: (F.hl, .lst ((F.hs.set i none).map heldV)) :: (F.rl, .lst (F.rs.map rowV)) :: (F.sl, .lst (F.bs.map V.bl)) :: M) := hL.putI 1 rfl rfl rfl
    generalize upd H F.hl (.lst ((F.hs.set i none).map heldV)) = H2 at hl2 ⊢
    walk_at "ge"
    refine K1.use ?_
    walk_at "cl"
    clear K1 hL
    refine seqK fun M1 K1 => ?_
    walk_at "ge"
    refine setLH (hl2.get (mC (mC mS))) (ixN_of (by omega) (by omega)) ?_
    rw [Int.toNat_natCast, show (F.rs.map rowV).set i V.non = (F.rs.set i none).map rowV by rw [List.map_set]; rfl]
    have hl4 : Led (upd H2 F.rl (.lst ((F.rs.set i none).map rowV))) ((F.b, .ins cF F.dx (frF F.hl F.rl F.sl)) :: (F.hl, .lst ((F.hs.set i none).map heldV)) :: (F.rl, .lst ((F.rs.set i none).map rowV)) :: (F.sl, .lst (F.bs.map V.bl)) :: M) := hl2.putI 2 rfl rfl rfl
    generalize upd H2 F.rl (.lst ((F.rs.set i none).map rowV)) = H4 at hl4 ⊢
    walk_at "ge"
    refine K1.use ?_
    walk_at "cl"
    clear K1 hl2
    walk_at "ge"
    refine setLH (hl4.get (mC (mC (mC mS)))) (ixN_of (by omega) (by omega)) ?_
    rw [Int.toNat_natCast, show (F.bs.map V.bl).set i (V.bl false) = (F.bs.set i false).map V.bl by rw [List.map_set]]
    have hl5 : Led (upd H4 F.sl (.lst ((F.bs.set i false).map V.bl))) ((F.b, .ins cF F.dx (frF F.hl F.rl F.sl)) :: (F.hl, .lst ((F.hs.set i none).map heldV)) :: (F.rl, .lst ((F.rs.set i none).map rowV)) :: (F.sl, .lst ((F.bs.set i false).map V.bl)) :: M) := hl4.putI 3 rfl rfl rfl
    walk_at "ge"
    exact k _ hl5
def dialF (p : Int) (m : Addr) : List (Str × V) := [("stands_at", .int p), ("marked", .ref m)]
def DialC (cD d dx m : Addr) (p : Int) (bs : List Bool) : Cells := [(d, .ins cD dx (dialF p m)), (m, .lst (bs.map V.bl))]
theorem dk1 {cD d dx m : Addr} {p : Int} {bs : List Bool} {L : Cells} : (d, HO.ins cD dx (dialF p m)) ∈ DialC cD d dx m p bs ++ L := mS
theorem dk2 {cD d dx m : Addr} {p : Int} {bs : List Bool} {L : Cells} : (m, HO.lst (bs.map V.bl)) ∈ DialC cD d dx m p bs ++ L := mC mS
theorem blSet (bs : List Bool) (j : Nat) (b : Bool) : (bs.map V.bl).set j (.bl b) = (bs.set j b).map V.bl := by rw [List.map_set]
theorem Led.bset {H : Hp} {cD d dx m : Addr} {p : Int} {bs bs' : List Bool} {L : Cells} (h : Led H (DialC cD d dx m p bs ++ L)) : Led (upd H m (.lst (bs'.map V.bl))) (DialC cD d dx m p bs' ++ L) :=
  (Led.put (Led.swap (show Led H ((d, .ins cD dx (dialF p m)) :: (m, .lst (bs.map V.bl)) :: L) from h)) rfl rfl).swap
theorem repBls (n : Nat) : (List.replicate n [V.bl false]).flatten = (List.replicate n false).map V.bl := by
  induction n with
  | zero => rfl
  | succ n ih => rw [List.replicate_succ, List.flatten_cons, ih, List.replicate_succ]; rfl
def spDInit (cD : Addr) : Sp := fun vs H Q _ => ∃ (d dx : Addr) (n : Int) (L : Cells), vs = [.ref d, .int n] ∧ Led H ((d, .ins cD dx []) :: L) ∧ 0 ≤ n ∧ n ≤ 64 ∧ ∀ m H', Led H' (DialC cD d dx m 0 (List.replicate n.toNat false) ++ L) → Q .non H'
theorem ok_dinit (D : IDef K cD "Dial.__init__" s_Dial_init) (T : Txt K mg cP cU cA cB c1 c2 c3 cC c4 c5 cT cF cD cS cI) : InitD P w K mg base 1 cD ["self", "many"] (spDInit cD) := by
  have sc := sc_Dial_init
  refine D.ok sc_Dial_init (fun vs H Q E h => ?_) (fun _ _ _ _ _ _ us hl => match us, hl with | [_, _], _ => rfl) (fun f cdv A outer s H vs Q E hr h => ?_)
  · obtain ⟨_, _, _, _, rfl, _⟩ := h; rfl
  · obtain ⟨d, dx, n, L, rfl, hL, h0, h64, k⟩ := h
    refine ⟨_, (@pss_cons _ _ _ _ _ (@ps_fldC _ _ _ _ _ _ _ _ _ _ T.Dial T.n_stands_at (@pv _ 0 _ _ (by rfl) (by walk_at "o3") (by decide) (by decide)) (@pe_int _ _ _ _) (by rfl)) (@pss_one _ _ _ (@ps_fldC _ _ _ _ _ _ _ _ _ _ T.Dial T.n_marked (@pv _ 0 _ _ (by rfl) (by walk_at "o3") (by decide) (by decide)) (@pe_op _ _ _ _ _ _ _ _ op_rep (@pe_lst _ _ _ _ (@pa_cons _ _ _ _ _ (@pe_bl _ _ _ _) (@pa_nil _) (by rfl))) (@pv _ 1 _ _ (by rfl) (by walk_at "o3") (by decide) (by decide))) (by rfl)))), ?_⟩
    refine seqK fun M1 K1 => ?_
    walk_at "gd"
    refine K1.use ?_
    clear K1
    have hL1 : Led (upd H d (.ins cD dx (putF (Str.ofString "stands_at") (V.int 0) []))) ((d, .ins cD dx [("stands_at", .int 0)]) :: L) := hL.put rfl rfl
    generalize upd H d (.ins cD dx (putF (Str.ofString "stands_at") (V.int 0) [])) = H1 at hL1 ⊢
    walk_at "gd"
    rename_i l0 H2 _ hl2 _ _ _
    have hsz : 1 * n.toNat ≤ sizeLine := by have := sizeLine_eq; omega
    refine repH (hl2.get mS) ⟨by omega, by omega⟩ hsz (Led.alloc hl2 fun m H3 _ hl3 _ => ?_)
    rw [repBls] at hl3
    walk_at "gd"
    have hl4 : Led H3 ((d, .ins cD dx [("stands_at", .int 0)]) :: (m, .lst ((List.replicate n.toNat false).map V.bl)) :: L) := hl3.wk (by walk_at "sp")
    exact k m _ (hl4.put (o' := .ins cD dx (dialF 0 m)) rfl rfl)
def spPointer (cD : Addr) : Sp := fun vs H Q _ => ∃ (d dx m : Addr) (p : Int), vs = [.ref d] ∧ H d = some (.ins cD dx (dialF p m)) ∧ Q (.int p) H
theorem ok_pointer (D : MDef K cD "pointer" "Dial.pointer" s_Dial_pointer) (T : Txt K mg cP cU cA cB c1 c2 c3 cC c4 c5 cT cF cD cS cI) : MethD P w K mg base 1 cD "pointer" ["self"] (spPointer cD) := by
  have sc := sc_Dial_pointer
  refine D.ok sc_Dial_pointer (fun vs H Q E h => ?_) (fun _ _ _ _ _ _ us hl => match us, hl with | [_], _ => rfl) (fun f cdv A outer s H vs Q E hr h => ?_)
  · obtain ⟨_, _, _, _, rfl, _⟩ := h; rfl
  · obtain ⟨d, dx, m, p, rfl, hd, k⟩ := h
    have hf : (dialF p m).lookup (Str.ofString "stands_at") = some (.int p) := rfl
    refine ⟨_, (@pss_one _ _ _ (@ps_ret _ _ _ _ (@pe_fldC _ _ _ _ _ _ _ T.Dial T.n_stands_at (@pv _ 0 _ _ (by rfl) (by walk_at "o3") (by decide) (by decide)) (by rfl)))), ?_⟩
    walk_at "gd"
    exact k
def spMark (cD : Addr) (b : Bool) : Sp := fun vs H Q _ => ∃ (d dx m : Addr) (p f : Int) (bs : List Bool) (L : Cells), vs = [.ref d, .int f] ∧ Led H (DialC cD d dx m p bs ++ L) ∧ 0 ≤ f ∧ f < bs.length ∧ ∀ H', Led H' (DialC cD d dx m p (bs.set f.toNat b) ++ L) → Q .non H'
theorem ok_touch (D : MDef K cD "touch" "Dial.touch" s_Dial_touch) (T : Txt K mg cP cU cA cB c1 c2 c3 cC c4 c5 cT cF cD cS cI) : MethD P w K mg base 1 cD "touch" ["self", "frame"] (spMark cD true) := by
  have sc := sc_Dial_touch
  refine D.ok sc_Dial_touch (fun vs H Q E h => ?_) (fun _ _ _ _ _ _ us hl => match us, hl with | [_, _], _ => rfl) (fun f cdv A outer s H vs Q E hr h => ?_)
  · obtain ⟨_, _, _, _, _, _, _, rfl, _⟩ := h; rfl
  · obtain ⟨d, dx, m, p, fr, bs, L, rfl, hL, f0, f1, k⟩ := h
    have hf : (dialF p m).lookup (Str.ofString "marked") = some (.ref m) := rfl
    have c1 := hL.get (dk1 (cD := cD) (d := d) (dx := dx) (m := m) (p := p) (bs := bs) (L := L))
    have c2 := hL.get (dk2 (cD := cD) (d := d) (dx := dx) (m := m) (p := p) (bs := bs) (L := L))
    refine ⟨_, (@pss_one _ _ _ (@ps_asg _ _ _ _ _ _ (@pe_bl _ _ _ _) (@pg_sub _ _ _ _ _ _ _ (@pe_fldC _ _ _ _ _ _ _ T.Dial T.n_marked (@pv _ 0 _ _ (by rfl) (by walk_at "o3") (by decide) (by decide)) (by rfl)) (@pv _ 1 _ _ (by rfl) (by walk_at "o3") (by decide) (by decide)) set_list (by intro _; rfl)) (by rfl) (by rfl) (by rfl))), ?_⟩
    walk_at "gd"
    refine setLH c2 (ixN_of f0 (by rw [List.length_map]; exact f1)) ?_
    rw [blSet]
    walk_at "gd"
    exact k _ (Led.bset hL)
theorem ok_clear (D : MDef K cD "clear" "Dial.clear" s_Dial_clear) (T : Txt K mg cP cU cA cB c1 c2 c3 cC c4 c5 cT cF cD cS cI) : MethD P w K mg base 1 cD "clear" ["self", "frame"] (spMark cD false) := by
  have sc := sc_Dial_clear
  refine D.ok sc_Dial_clear (fun vs H Q E h => ?_) (fun _ _ _ _ _ _ us hl => match us, hl with | [_, _], _ => rfl) (fun f cdv A outer s H vs Q E hr h => ?_)
  · obtain ⟨_, _, _, _, _, _, _, rfl, _⟩ := h; rfl
  · obtain ⟨d, dx, m, p, fr, bs, L, rfl, hL, f0, f1, k⟩ := h
    have hf : (dialF p m).lookup (Str.ofString "marked") = some (.ref m) := rfl
    have c1 := hL.get (dk1 (cD := cD) (d := d) (dx := dx) (m := m) (p := p) (bs := bs) (L := L))
    have c2 := hL.get (dk2 (cD := cD) (d := d) (dx := dx) (m := m) (p := p) (bs := bs) (L := L))
    refine ⟨_, (@pss_one _ _ _ (@ps_asg _ _ _ _ _ _ (@pe_bl _ _ _ _) (@pg_sub _ _ _ _ _ _ _ (@pe_fldC _ _ _ _ _ _ _ T.Dial T.n_marked (@pv _ 0 _ _ (by rfl) (by walk_at "o3") (by decide) (by decide)) (by rfl)) (@pv _ 1 _ _ (by rfl) (by walk_at "o3") (by decide) (by decide)) set_list (by intro _; rfl)) (by rfl) (by rfl) (by rfl))), ?_⟩
    walk_at "gd"
    refine setLH c2 (ixN_of f0 (by rw [List.length_map]; exact f1)) ?_
    rw [blSet]
    walk_at "gd"
    exact k _ (Led.bset hL)
def spMarks (cD : Addr) : Sp := fun vs H Q _ => ∃ (d dx m : Addr) (p : Int) (bs : List Bool) (L : Cells), vs = [.ref d] ∧ Led H L ∧ H d = some (.ins cD dx (dialF p m)) ∧ H m = some (.lst (bs.map V.bl)) ∧ ∀ r H', Led H' ((r, .lst (bs.map V.bl)) :: L) → Q (.ref r) H'
theorem ok_marks (D : MDef K cD "marks" "Dial.marks" s_Dial_marks) (B : Blt mg) (T : Txt K mg cP cU cA cB c1 c2 c3 cC c4 c5 cT cF cD cS cI) : MethD P w K mg base 1 cD "marks" ["self"] (spMarks cD) := by
  have sc := sc_Dial_marks
  refine D.ok sc_Dial_marks (fun vs H Q E h => ?_) (fun _ _ _ _ _ _ us hl => match us, hl with | [_], _ => rfl) (fun f cdv A outer s H vs Q E hr h => ?_)
  · obtain ⟨_, _, _, _, _, _, rfl, _⟩ := h; rfl
  · obtain ⟨d, dx, m, p, bs, L, rfl, hL, c1, c2, k⟩ := h
    have hf : (dialF p m).lookup (Str.ofString "marked") = some (.ref m) := rfl
    refine ⟨_, (@pss_one _ _ _ (@ps_ret _ _ _ _ (@pe_callTy _ _ _ _ _ _ _ _ _ (call_list_ofK (K := K) rfl) (by rfl) B.list bt_list (@pa_cons _ _ _ _ _ (@pe_fldC _ _ _ _ _ _ _ T.Dial T.n_marked (@pv _ 0 _ _ (by rfl) (by walk_at "o3") (by decide) (by decide)) (by rfl)) (@pa_nil _) (by rfl)) (by decide) (by decide) (by rfl) (by rfl)))), ?_⟩
    walk_at "gd"
    rename_i r H1 _ hl1 _
    exact k r _ hl1
def goF (may : List Bool) : Nat → Nat → List Bool → Option (Nat × List Bool)
  | 0, _, _ => none
  | k + 1, p, bs => if may.getD (p % may.length) false = true ∧ bs.getD (p % may.length) false = false then some (p % may.length, bs) else goF may k (p + 1) (if may.getD (p % may.length) false = true then bs.set (p % may.length) false else bs)
theorem goF_succ (may : List Bool) (k p : Nat) (bs : List Bool) : goF may (k + 1) p bs = if may.getD (p % may.length) false = true ∧ bs.getD (p % may.length) false = false then some (p % may.length, bs) else goF may k (p + 1) (if may.getD (p % may.length) false = true then bs.set (p % may.length) false else bs) := rfl
theorem set_false {bs : List Bool} {f g : Nat} (h : bs.getD f false = false) : (bs.set g false).getD f false = false := by
  rw [List.getD_eq_getElem?_getD] at h ⊢
  rw [List.getElem?_set]
  split
  · split
    · rfl
    · rfl
  · exact h
theorem set_self {bs : List Bool} {f : Nat} : (bs.set f false).getD f false = false := by
  rw [List.getD_eq_getElem?_getD, List.getElem?_set]
  rw [if_pos rfl]
  split <;> rfl
theorem goF_A {may : List Bool} {f : Nat} (hf : may.getD f false = true) : ∀ (k p : Nat) (bs : List Bool), bs.getD f false = false → (∃ j, j < k ∧ (p + j) % may.length = f) → ∃ r, goF may k p bs = some r
  | 0, _, _, _, ⟨j, hj, _⟩ => absurd hj (Nat.not_lt_zero _)
  | k + 1, p, bs, hb, ⟨j, hj, hm⟩ => by
    unfold goF
    by_cases h : may.getD (p % may.length) false = true ∧ bs.getD (p % may.length) false = false
    · rw [if_pos h]; exact ⟨_, rfl⟩
    · rw [if_neg h]
      cases j with
      | zero => rw [Nat.add_zero] at hm; rw [hm] at h; exact absurd ⟨hf, hb⟩ h
      | succ j =>
        refine goF_A hf k (p + 1) _ ?_ ⟨j, by omega, by rw [← hm]; congr 1; omega⟩
        split
        · exact set_false hb
        · exact hb
theorem goF_B {may : List Bool} {f : Nat} (hf : may.getD f false = true) (hn : 0 < may.length) : ∀ (k p : Nat) (bs : List Bool), (∃ j, j + may.length < k ∧ (p + j) % may.length = f) → ∃ r, goF may k p bs = some r
  | 0, _, _, ⟨j, hj, _⟩ => absurd hj (Nat.not_lt_zero _)
  | k + 1, p, bs, ⟨j, hj, hm⟩ => by
    unfold goF
    by_cases h : may.getD (p % may.length) false = true ∧ bs.getD (p % may.length) false = false
    · rw [if_pos h]; exact ⟨_, rfl⟩
    · rw [if_neg h]
      cases j with
      | zero =>
        rw [Nat.add_zero] at hm
        rw [hm, if_pos hf]
        refine goF_A hf k (p + 1) _ set_self ⟨may.length - 1, by omega, ?_⟩
        rw [show p + 1 + (may.length - 1) = p + may.length by omega, Nat.add_mod_right, hm]
      | succ j => exact goF_B hf hn k (p + 1) _ ⟨j, by omega, by rw [← hm]; congr 1; omega⟩
theorem reach (p f n : Nat) (hf : f < n) : ∃ j, j < n ∧ (p + j) % n = f := by
  have hr : p % n < n := Nat.mod_lt _ (by omega)
  by_cases h : p % n ≤ f
  · refine ⟨f - p % n, by omega, ?_⟩
    rw [← Nat.mod_add_mod, show p % n + (f - p % n) = f by omega, Nat.mod_eq_of_lt hf]
  · refine ⟨f + n - p % n, by omega, ?_⟩
    rw [← Nat.mod_add_mod, show p % n + (f + n - p % n) = f + n by omega, Nat.add_mod_right, Nat.mod_eq_of_lt hf]
theorem goF_some {may : List Bool} (h : true ∈ may) (p : Nat) (bs : List Bool) : ∃ r, goF may (2 * may.length) p bs = some r := by
  obtain ⟨f, hf, e⟩ := List.getElem_of_mem h
  obtain ⟨j, hj, hm⟩ := reach p f may.length hf
  refine goF_B (f := f) ?_ (by omega) _ p bs ⟨j, by omega, hm⟩
  rw [List.getD_eq_getElem?_getD, List.getElem?_eq_getElem hf, e]
  rfl
theorem goF_len {may : List Bool} : ∀ (k p : Nat) (bs : List Bool) {f : Nat} {bs' : List Bool}, goF may k p bs = some (f, bs') → bs'.length = bs.length ∧ (0 < may.length → f < may.length) ∧ may.getD f false = true
  | 0, _, _, _, _, h => nomatch h
  | k + 1, p, bs, f, bs', h => by
    unfold goF at h
    split at h
    · rename_i hc
      cases h
      exact ⟨rfl, fun hp => Nat.mod_lt _ hp, hc.1⟩
    · obtain ⟨h1, h2, h3⟩ := goF_len k (p + 1) _ h
      refine ⟨?_, h2, h3⟩
      rw [h1]
      split
      · rw [List.length_set]
      · rfl
def spChoose (cD cU : Addr) : Sp := fun vs H Q E => ∃ (d dx m q : Addr) (p : Nat) (may bs : List Bool) (L : Cells), vs = [.ref d, .ref q] ∧ Led H (DialC cD d dx m p bs ++ L) ∧ (q, HO.lst (may.map V.bl)) ∈ L ∧ may.length = bs.length ∧ 0 < bs.length ∧ bs.length ≤ 64 ∧
  (∀ f bs' H', goF may (2 * may.length) p bs = some (f, bs') → Led H' (DialC cD d dx m ((f + 1) % may.length : Nat) bs' ++ L) → Q (.int f) H') ∧ (∀ H', true ∉ may → Led H' (DialC cD d dx m p bs ++ L) → E (.ref cU) none H')
theorem ok_choose (D : MDef K cD "choose" "Dial.choose" s_Dial_choose) (B : Blt mg) (T : Txt K mg cP cU cA cB c1 c2 c3 cC c4 c5 cT cF cD cS cI) : MethD P w K mg base 1 cD "choose" ["self", "may"] (spChoose cD cU) := by
  have sc := sc_Dial_choose
  refine D.okR sc_Dial_choose (fun vs H Q E h => ?_) (fun _ _ _ _ _ _ us hl => match us, hl with | [_, _], _ => rfl) (fun f cdv A outer s H vs Q E hr h => ?_)
  · obtain ⟨_, _, _, _, _, _, _, _, rfl, _⟩ := h; rfl
  · obtain ⟨d, dx, m, q, p, may, bs, L, rfl, hL, iq, hml, hn0, h64, k1, k2⟩ := h
    have hf1 : (dialF p m).lookup (Str.ofString "marked") = some (.ref m) := rfl
    have hf2 : (dialF p m).lookup (Str.ofString "stands_at") = some (.int p) := rfl
    have c1 := hL.get (dk1 (cD := cD) (d := d) (dx := dx) (m := m) (p := p) (bs := bs) (L := L))
    have c2 := hL.get (dk2 (cD := cD) (d := d) (dx := dx) (m := m) (p := p) (bs := bs) (L := L))
    have hlb : ((bs.map V.bl).length : Int) = bs.length := by rw [List.length_map]
    refine ⟨_, (@pss_cons _ _ _ _ _ (@ps_set _ _ 2 _ _ _ _ sc.nd rfl (by walk_at "o2") (@pe_callB _ _ _ _ _ _ _ _ _ call_lenA (by rfl) B.len bt_len (@pa_cons _ _ _ _ _ (@pe_fldC _ _ _ _ _ _ _ T.Dial T.n_marked (@pv _ 0 _ _ (by rfl) (by walk_at "o3") (by decide) (by decide)) (by rfl)) (@pa_nil _) (by rfl)) (by decide) (by decide) (by rfl) (by rfl)) (by rfl) (by first | exact .inl rfl | exact .inr rfl | assumption)) (@pss_cons _ _ _ _ _ (@ps_for _ _ _ _ _ _ _ _ PassesOwn.leaving rfl (@pi_range1 _ _ _ _ _ _ (by rfl) B.range (@pa_cons _ _ _ _ _ (@pe_op _ _ _ _ _ _ _ _ op_mul (@pe_int _ _ _ _) (@pv _ 2 _ _ (by rfl) (by walk_at "o3") (by decide) (by decide))) (@pa_nil _) (by rfl)) (by rfl)) (@pg_name _ _ 3 _ sc.nd rfl (by walk_at "o2") (by first | exact .inl rfl | exact .inr rfl | assumption)) (@pss_cons _ _ _ _ _ (@ps_set _ _ 4 _ _ _ _ sc.nd rfl (by walk_at "o2") (@pe_op _ _ _ _ _ _ _ _ op_mod (@pe_op _ _ _ _ _ _ _ _ op_add (@pe_fldC _ _ _ _ _ _ _ T.Dial T.n_stands_at (@pv _ 0 _ _ (by rfl) (by walk_at "o3") (by decide) (by decide)) (by rfl)) (@pv _ 3 _ _ (by rfl) (by walk_at "o3") (by decide) (by decide))) (@pv _ 2 _ _ (by rfl) (by walk_at "o3") (by decide) (by decide))) (by rfl) (by first | exact .inl rfl | exact .inr rfl | assumption)) (@pss_cons _ _ _ _ _ (@ps_if _ _ _ _ _ _ _ _ (@PW.pt _ _ _ (@pw_and _ _ _ _ _ _ _ (@pt_val _ _ _ (@pe_ix _ _ _ _ _ _ _ ix_any (@pv _ 1 _ _ (by rfl) (by walk_at "o3") (by decide) (by decide)) (@pv _ 4 _ _ (by rfl) (by walk_at "o3") (by decide) (by decide)) (fun _ _ => rfl)) (by intro _; rfl)) (@pw_and1 _ _ _ _ (@pt_not _ _ _ _ (@pt_val _ _ _ (@pe_ix _ _ _ _ _ _ _ ix_any (@pe_fldC _ _ _ _ _ _ _ T.Dial T.n_marked (@pv _ 0 _ _ (by rfl) (by walk_at "o3") (by decide) (by decide)) (by rfl)) (@pv _ 4 _ _ (by rfl) (by walk_at "o3") (by decide) (by decide)) (fun _ _ => rfl)) (by intro _; rfl)))))) (@pss_cons _ _ _ _ _ (@ps_fldC _ _ _ _ _ _ _ _ _ _ T.Dial T.n_stands_at (@pv _ 0 _ _ (by rfl) (by walk_at "o3") (by decide) (by decide)) (@pe_op _ _ _ _ _ _ _ _ op_mod (@pe_op _ _ _ _ _ _ _ _ op_add (@pv _ 4 _ _ (by rfl) (by walk_at "o3") (by decide) (by decide)) (@pe_int _ _ _ _)) (@pv _ 2 _ _ (by rfl) (by walk_at "o3") (by decide) (by decide))) (by rfl)) (@pss_one _ _ _ (@ps_ret _ _ _ _ (@pv _ 4 _ _ (by rfl) (by walk_at "o3") (by decide) (by decide))))) (@pss_nil _)) (@pss_one _ _ _ (@ps_if _ _ _ _ _ _ _ _ (@pt_val _ _ _ (@pe_ix _ _ _ _ _ _ _ ix_any (@pv _ 1 _ _ (by rfl) (by walk_at "o3") (by decide) (by decide)) (@pv _ 4 _ _ (by rfl) (by walk_at "o3") (by decide) (by decide)) (fun _ _ => rfl)) (by intro _; rfl)) (@pss_one _ _ _ (@ps_asg _ _ _ _ _ _ (@pe_bl _ _ _ _) (@pg_sub _ _ _ _ _ _ _ (@pe_fldC _ _ _ _ _ _ _ T.Dial T.n_marked (@pv _ 0 _ _ (by rfl) (by walk_at "o3") (by decide) (by decide)) (by rfl)) (@pv _ 4 _ _ (by rfl) (by walk_at "o3") (by decide) (by decide)) set_list (by intro _; rfl)) (by rfl) (by rfl) (by rfl))) (@pss_nil _))))) (by intro _; rfl)) (@pss_one _ _ _ (@ps_raise _ _ _ _ _ _ _ _ _ _ _ _ _ _ _ _ _ _ _ _ _ _ T.Full (by rfl) (@pa_cons _ _ _ _ _ (@pe_str _ _ _ _) (@pa_nil _) (by rfl)) (by decide) (by rfl))))), ?_⟩
    refine seqK fun M1 K1 => ?_
    walk_at "gd"
    rw [hlb]
    refine K1.use ?_
    walk_at "cl"
    clear K1
    refine seqK fun M1 K1 => ?_
    refine forR1 fun Lr hLr => ?_
    walk_at "gd"
    refine ⟨_, rfl, by omega, by omega, hLr.use ?_⟩
    clear hLr
    have hlr : (2 * (bs.length : Int)).toNat = 2 * bs.length := by omega
    rw [hlr]
    clear c1 c2
    refine loopR (fun i σ H' => ∃ cur : List Bool, Led H' (DialC cD d dx m p cur ++ L) ∧ cur.length = bs.length ∧ goF may (2 * may.length - i) (p + i) cur = goF may (2 * may.length) p bs ∧ (cur = bs ∨ true ∈ may) ∧ ∃ v1 v2, σ = [some (.ref d), some (.ref q), some (.int bs.length), v1, v2]) ⟨bs, hL, rfl, rfl, .inl rfl, _, _, rfl⟩ ?_ ?_
    · clear hL K1
      rintro i σ H' hi ⟨cur, hl', hcl, hgo, hcur, v1, v2, rfl⟩
      have c1 := hl'.get (dk1 (cD := cD) (d := d) (dx := dx) (m := m) (p := p) (bs := cur) (L := L))
      have c2 := hl'.get (dk2 (cD := cD) (d := d) (dx := dx) (m := m) (p := p) (bs := cur) (L := L))
      have c3 := hl'.get (mA iq)
      refine seqK fun M2 K2 => ?_
      walk_at "gd"
      have hfr : ((p : Int) + (0 + (i : Int))) % (bs.length : Int) = ((p + i) % may.length : Nat) := by rw [hml]; simp
      rw [hfr]
      refine K2.use ?_
      walk_at "cl"
      clear K2
      obtain ⟨f, hf⟩ : ∃ f : Nat, (p + i) % may.length = f := ⟨_, rfl⟩
      have hfl : f < may.length := by rw [← hf]; exact Nat.mod_lt _ (by omega)
      obtain ⟨r, hr2⟩ : ∃ r, 2 * may.length - i = r + 1 := ⟨2 * may.length - i - 1, by omega⟩
      rw [hr2] at hgo
      rw [goF_succ, hf] at hgo
      rw [hf]
      obtain ⟨my, hmy⟩ : ∃ b, may.getD f false = b := ⟨_, rfl⟩
      obtain ⟨mk, hmk⟩ : ∃ b, cur.getD f false = b := ⟨_, rfl⟩
      rw [hmy, hmk] at hgo
      have a1 : atI (may.map V.bl) ((f : Nat) : Int) = some (.bl my) := atI_of (by omega) (by rw [Int.toNat_natCast, List.getElem?_map, List.getElem?_eq_getElem hfl, ← hmy, List.getD_eq_getElem?_getD, List.getElem?_eq_getElem hfl]; rfl)
      have hfc : f < cur.length := by omega
      have a2 : atI (cur.map V.bl) ((f : Nat) : Int) = some (.bl mk) := atI_of (by omega) (by rw [Int.toNat_natCast, List.getElem?_map, List.getElem?_eq_getElem hfc, ← hmk, List.getD_eq_getElem?_getD, List.getElem?_eq_getElem hfc]; rfl)
      have hr3 : 2 * may.length - (i + 1) = r := by omega
      cases my with
      | false =>
        rw [if_neg (by simp), if_neg (by simp)] at hgo
        walk_at "gd"
        exact ⟨cur, hl', hcl, by rw [hr3]; exact hgo, hcur, _, _, rfl⟩
      | true =>
        have hin : true ∈ may := by
          rw [List.getD_eq_getElem?_getD, List.getElem?_eq_getElem hfl] at hmy
          exact hmy ▸ List.getElem_mem hfl
        cases mk with
        | false =>
          rw [if_pos ⟨rfl, rfl⟩] at hgo
          walk_at "gd"
          have hl2 := hl'.put (o' := .ins cD dx (dialF ((f + 1) % may.length : Nat) m)) rfl rfl
          have e1 : ((f : Int) + 1) % (bs.length : Int) = ((f + 1) % may.length : Nat) := by rw [hml]; simp
          rw [e1]
          exact k1 f cur _ hgo.symm hl2
        | true =>
          rw [if_neg (by simp), if_pos rfl] at hgo
          walk_at "gd"
          refine setLH c2 (ixN_of (by omega) (by rw [List.length_map]; omega)) ?_
          rw [blSet, Int.toNat_natCast]
          walk_at "gd"
          exact ⟨cur.set f false, Led.bset hl', by rw [List.length_set]; exact hcl, by rw [hr3]; exact hgo, .inr hin, _, _, rfl⟩
    · clear hL
      rintro σ H' ⟨cur, hl', hcl, hgo, hcur, v1, v2, rfl⟩
      walk_at "gd"
      refine K1.use ?_
      walk_at "cl"
      clear K1
      have hno : true ∉ may := fun hin => by
        obtain ⟨r, hr2⟩ := goF_some hin p bs
        rw [← hgo, show 2 * may.length - 2 * bs.length = 0 by omega] at hr2
        cases hr2
      have hc : cur = bs := hcur.resolve_right hno
      subst hc
      refine raiseI fun R hR => ?_
      walk_at "gd"
      exact ⟨by decide, k2 _ hno hl'⟩
end
section
variable {P : Program} {w : World} {K : PySem.W.Frag} {mg : Str → Option Value} {base : Heap} {cP cU cA cB c1 c2 c3 cC c4 c5 cT cF cD cS cI : Addr}
theorem at_map {α : Type} {f : α → V} {l : List α} {i : Nat} {x : α} (h : l[i]? = some x) : atI (l.map f) ((i : Nat) : Int) = some (f x) := atI_of (by omega) (by rw [Int.toNat_natCast, List.getElem?_map, h]; rfl)
def spThingIn (cF : Addr) : Sp := fun vs H Q _ => ∃ (F : FS) (i : Nat) (x : Hd) (M : Cells), vs = [.ref F.b, .int (i : Nat)] ∧ Led H (FrC cF F M) ∧ F.hs[i]? = some x ∧ Q (heldV x) H
theorem ok_thing_in (D : MDef K cF "thing_in" "Frames.thing_in" s_Frames_thing_in) (T : Txt K mg cP cU cA cB c1 c2 c3 cC c4 c5 cT cF cD cS cI) : MethD P w K mg base 1 cF "thing_in" ["self", "frame"] (spThingIn cF) := by
  have sc := sc_Frames_thing_in
  refine D.ok sc_Frames_thing_in (fun vs H Q E h => ?_) (fun _ _ _ _ _ _ us hl => match us, hl with | [_, _], _ => rfl) (fun f cdv A outer s H vs Q E hr h => ?_)
  · obtain ⟨_, _, _, _, rfl, _⟩ := h; rfl
  · obtain ⟨F, i, x, M, rfl, hL, hx, k⟩ := h
    have hf1 : (frF F.hl F.rl F.sl).lookup (Str.ofString "held") = some (.ref F.hl) := rfl
    have ha := at_map (f := heldV) hx
    refine ⟨_, (@pss_one _ _ _ (@ps_ret _ _ _ _ (@pe_ix _ _ _ _ _ _ _ ix_any (@pe_fldC _ _ _ _ _ _ _ T.Frames T.n_held (@pv _ 0 _ _ (by rfl) (by walk_at "o3") (by decide) (by decide)) (by rfl)) (@pv _ 1 _ _ (by rfl) (by walk_at "o3") (by decide) (by decide)) (fun _ _ => rfl)))), ?_⟩
    walk_at "ge"
    exact k
def spSoiled (cF : Addr) : Sp := fun vs H Q _ => ∃ (F : FS) (i : Nat) (x : Bool) (M : Cells), vs = [.ref F.b, .int (i : Nat)] ∧ Led H (FrC cF F M) ∧ F.bs[i]? = some x ∧ Q (.bl x) H
theorem ok_soiled (D : MDef K cF "is_soiled" "Frames.is_soiled" s_Frames_is_soiled) (T : Txt K mg cP cU cA cB c1 c2 c3 cC c4 c5 cT cF cD cS cI) : MethD P w K mg base 1 cF "is_soiled" ["self", "frame"] (spSoiled cF) := by
  have sc := sc_Frames_is_soiled
  refine D.ok sc_Frames_is_soiled (fun vs H Q E h => ?_) (fun _ _ _ _ _ _ us hl => match us, hl with | [_, _], _ => rfl) (fun f cdv A outer s H vs Q E hr h => ?_)
  · obtain ⟨_, _, _, _, rfl, _⟩ := h; rfl
  · obtain ⟨F, i, x, M, rfl, hL, hx, k⟩ := h
    have hf1 : (frF F.hl F.rl F.sl).lookup (Str.ofString "soiled") = some (.ref F.sl) := rfl
    have ha := at_map (f := V.bl) hx
    refine ⟨_, (@pss_one _ _ _ (@ps_ret _ _ _ _ (@pe_ix _ _ _ _ _ _ _ ix_any (@pe_fldC _ _ _ _ _ _ _ T.Frames T.n_soiled (@pv _ 0 _ _ (by rfl) (by walk_at "o3") (by decide) (by decide)) (by rfl)) (@pv _ 1 _ _ (by rfl) (by walk_at "o3") (by decide) (by decide)) (fun _ _ => rfl)))), ?_⟩
    walk_at "ge"
    exact k
def spRowIn (cF : Addr) : Sp := fun vs H Q _ => ∃ (F : FS) (i : Nat) (r : Addr) (row : List Int) (M : Cells), vs = [.ref F.b, .int (i : Nat)] ∧ Led H (FrC cF F M) ∧ F.rs[i]? = some (some (r, row)) ∧ (r, HO.lst (row.map V.int)) ∈ M ∧ row.length ≤ 600 ∧ ∀ q H', Led H' ((q, .lst (row.map V.int)) :: FrC cF F M) → Q (.ref q) H'
theorem ok_row_in (D : MDef K cF "row_in" "Frames.row_in" s_Frames_row_in) (B : Blt mg) (T : Txt K mg cP cU cA cB c1 c2 c3 cC c4 c5 cT cF cD cS cI) : MethD P w K mg base 1 cF "row_in" ["self", "frame"] (spRowIn cF) := by
  have sc := sc_Frames_row_in
  refine D.ok sc_Frames_row_in (fun vs H Q E h => ?_) (fun _ _ _ _ _ _ us hl => match us, hl with | [_, _], _ => rfl) (fun f cdv A outer s H vs Q E hr h => ?_)
  · obtain ⟨_, _, _, _, _, rfl, _⟩ := h; rfl
  · obtain ⟨F, i, r, row, M, rfl, hL, hx, i_r, hrl, k⟩ := h
    have hf1 : (frF F.hl F.rl F.sl).lookup (Str.ofString "rows") = some (.ref F.rl) := rfl
    have ha : atI (F.rs.map rowV) ((i : Nat) : Int) = some (.ref r) := at_map (f := rowV) hx
    have hrm : (row.map V.int).length = row.length := List.length_map _
    refine ⟨_, (@pss_one _ _ _ (@ps_ret _ _ _ _ (@pe_callTy _ _ _ _ _ _ _ _ _ (call_list_ofK (K := K) rfl) (by rfl) B.list bt_list (@pa_cons _ _ _ _ _ (@pe_ix _ _ _ _ _ _ _ ix_any (@pe_fldC _ _ _ _ _ _ _ T.Frames T.n_rows (@pv _ 0 _ _ (by rfl) (by walk_at "o3") (by decide) (by decide)) (by rfl)) (@pv _ 1 _ _ (by rfl) (by walk_at "o3") (by decide) (by decide)) (fun _ _ => rfl)) (@pa_nil _) (by rfl)) (by decide) (by decide) (by rfl) (by rfl)))), ?_⟩
    walk_at "ge"
    rename Led _ _ => hl1
    exact k _ _ hl1
theorem datHs {H : Hp} : ∀ {hs : List Hd}, (∀ t a, some (t, a) ∈ hs → H t = some (.tup (thV a))) → DatVs H (hs.map heldV) (PySem.W.kqdPs (hs.map fun x => datO (thO x)))
  | [], _ => .nil
  | x :: hs, h => by
    rw [List.map_cons, List.map_cons, PySem.W.kqdPs]
    refine .cons ?_ (datHs fun t a ha => h t a (mC ha))
    cases x with
    | none => show DatV H .non (PySem.W.kqdP .none); rw [PySem.W.kqdP]; exact .non
    | some x => exact datH_V (h x.1 x.2 mS)
theorem datO_ok {x : Option Th} (h : ∀ a, x = some a → OkT a) (k : Nat) : PySem.W.kqdOk (k + 1) (datO x) = true := by
  cases x with
  | none => rfl
  | some a => exact datH_ok (h a rfl) k
def spWhere (cF : Addr) : Sp := fun vs H Q _ => ∃ (F : FS) (n : Nat) (x : Hd) (M : Cells), vs = [.ref F.b, heldV x] ∧ Led H (FrC cF F M) ∧ OkF F n M ∧ (∀ t a, x = some (t, a) → (t, HO.tup (thV a)) ∈ M ∧ OkT a) ∧ n ≤ 600 ∧
  ((∀ y ∈ F.hs, thO y ≠ thO x) → Q .non H) ∧ ∀ (j : Nat) y, F.hs[j]? = some y → thO y = thO x → (∀ (m : Nat) z, m < j → F.hs[m]? = some z → thO z ≠ thO x) → Q (.int (j : Nat)) H
theorem ok_where (D : MDef K cF "where" "Frames.where" s_Frames_where) (B : Blt mg) (T : Txt K mg cP cU cA cB c1 c2 c3 cC c4 c5 cT cF cD cS cI) : MethD P w K mg base 1 cF "where" ["self", "thing"] (spWhere cF) := by
  have sc := sc_Frames_where
  refine D.ok sc_Frames_where (fun vs H Q E h => ?_) (fun _ _ _ _ _ _ us hl => match us, hl with | [_, _], _ => rfl) (fun f cdv A outer s H vs Q E hr h => ?_)
  · obtain ⟨_, _, _, _, rfl, _⟩ := h; rfl
  · obtain ⟨F, n, x, M, rfl, hL, g, hx, hn, k0, k1⟩ := h
    have hf1 : (frF F.hl F.rl F.sl).lookup (Str.ofString "held") = some (.ref F.hl) := rfl
    have up : ∀ {c : Addr × HO}, c ∈ M → c ∈ FrC cF F M := fun h => mC (mC (mC (mC h)))
    have c_h : H F.hl = some (.lst (F.hs.map heldV)) := hL.get (mC mS)
    have d1 : DatV H (heldV x) (PySem.W.kqdP (datO (thO x))) := by
      cases x with
      | none => show DatV H .non (PySem.W.kqdP .none); rw [PySem.W.kqdP]; exact .non
      | some x => exact datH_V (hL.get (up (hx x.1 x.2 rfl).1))
    have d2 := datHs (H := H) (hs := F.hs) fun t a ha => hL.get (up (g.th t a ha).1)
    have o1 : PySem.W.kqdOk 8 (datO (thO x)) = true := datO_ok (fun a ha => by
      cases x with
      | none => cases ha
      | some x => cases ha; exact (hx x.1 x.2 rfl).2) 7
    have o2 : ∀ e ∈ F.hs.map (fun x => datO (thO x)), PySem.W.kqdOk 7 e = true := fun e he => by
      obtain ⟨y, hy, rfl⟩ := List.mem_map.mp he
      refine datO_ok (fun a ha => ?_) 6
      cases y with
      | none => cases ha
      | some y => cases ha; exact (g.th y.1 y.2 hy).2
    refine ⟨_, (@pss_cons _ _ _ _ _ (@ps_if _ _ _ _ _ _ _ _ (@pt_cmpR _ _ _ _ _ _ _ _ (op_notInD hr.units) (@pv _ 1 _ _ (by rfl) (by walk_at "o3") (by decide) (by decide)) (@pe_fldC _ _ _ _ _ _ _ T.Frames T.n_held (@pv _ 0 _ _ (by rfl) (by walk_at "o3") (by decide) (by decide)) (by rfl)) (by with_unfolding_all rfl)) (@pss_one _ _ _ (@ps_ret _ _ _ _ (@pe_non _ _ _))) (@pss_nil _)) (@pss_one _ _ _ (@ps_ret _ _ _ _ (@pe_bm _ _ _ _ _ _ _ _ _ _ _ _ PySem.F.plainAttrs_list PySem.F.slot_list_index PySem.F.type_list_index (mt_indexD hr.units) (@pe_fldC _ _ _ _ _ _ _ T.Frames T.n_held (@pv _ 0 _ _ (by rfl) (by walk_at "o3") (by decide) (by decide)) (by rfl)) (@pa_cons _ _ _ _ _ (@pv _ 1 _ _ (by rfl) (by walk_at "o3") (by decide) (by decide)) (@pa_nil _) (by rfl)) (by rfl) (by rfl) (by rfl) (by rfl) (by rfl))))), ?_⟩
    refine seqK fun M1 K1 => ?_
    walk_at "ge"
    by_cases hin : datO (thO x) ∈ F.hs.map fun x => datO (thO x)
    · refine inDH (neg := true) (b := true) c_h d1 d2 o1 o2 (iff_of_true rfl hin) ?_
      walk_at "ge"
      refine K1.use ?_
      walk_at "cl"
      clear K1
      walk_at "ge"
      refine ⟨tyVL c_h, ?_⟩
      walk_at "ge"
      obtain ⟨y0, hy0, he0⟩ := List.mem_map.mp hin
      have hex : ∃ y ∈ F.hs, decide (thO y = thO x) = true := ⟨y0, hy0, decide_eq_true (datO_inj.mp he0)⟩
      have hlt : F.hs.findIdx (fun y => decide (thO y = thO x)) < F.hs.length := List.findIdx_lt_length_of_exists hex
      have hat := List.getElem?_eq_getElem hlt
      have hhit : thO (F.hs[F.hs.findIdx fun y => decide (thO y = thO x)]'hlt) = thO x := of_decide_eq_true (List.findIdx_getElem (w := hlt))
      have hno : ∀ (m : Nat) z, m < F.hs.findIdx (fun y => decide (thO y = thO x)) → F.hs[m]? = some z → thO z ≠ thO x := fun m z hm hz => by
        have h := List.not_of_lt_findIdx hm
        have hlm : m < F.hs.length := (List.getElem?_eq_some_iff.mp hz).1
        have e : F.hs[m] = z := (List.getElem?_eq_some_iff.mp hz).2
        rw [← e]
        simpa using h
      generalize F.hs.findIdx (fun y => decide (thO y = thO x)) = j at hlt hat hhit hno
      refine idxDH c_h d1 d2 o1 o2 (j := j) (by rw [List.getElem?_map, hat]; show some (datO _) = _; rw [hhit]) (fun m e hm he => ?_) ?_
      · rw [List.getElem?_map] at he
        obtain ⟨z, hz, rfl⟩ := Option.map_eq_some_iff.mp he
        exact fun q => hno m z hm hz (datO_inj.mp q)
      · walk_at "ge"
        exact k1 j _ hat hhit hno
    · refine inDH (neg := true) (b := false) c_h d1 d2 o1 o2 (iff_of_false Bool.false_ne_true hin) ?_
      walk_at "ge"
      exact k0 fun y hy e => hin (List.mem_map.mpr ⟨y, hy, by rw [e]⟩)
theorem ok_least_free (D : MDef K cF "least_free" "Frames.least_free" s_Frames_least_free) (T : Txt K mg cP cU cA cB c1 c2 c3 cC c4 c5 cT cF cD cS cI) (M_Frames_where : MethD P w K mg base 1 cF "where" ["self", "thing"] (spWhere cF)) : MethD P w K mg base 2 cF "least_free" ["self"] (fun vs H Q E => ∃ b, vs = [.ref b] ∧ spWhere cF [.ref b, .non] H Q E) := by
  have sc := sc_Frames_least_free
  refine D.ok sc_Frames_least_free (fun vs H Q E h => ?_) (fun _ _ _ _ _ _ us hl => match us, hl with | [_], _ => rfl) (fun f cdv A outer s H vs Q E hr h => ?_)
  · obtain ⟨_, rfl, _⟩ := h; rfl
  · obtain ⟨b, rfl, F, n, x, M, e, hL, g, hx, hn, k0, k1⟩ := h
    obtain ⟨rfl, ex⟩ : b = F.b ∧ heldV x = .non := by
      injection e with e1 e2
      injection e1 with e1
      injection e2 with e2
      exact ⟨e1, e2.symm⟩
    refine ⟨_, (@pss_one _ _ _ (@ps_ret _ _ _ _ (@pe_methD _ _ _ _ _ _ _ _ _ _ _ _ _ _ _ _ T.Frames M_Frames_where (hr.mono (by omega)) passR0 (@pv _ 0 _ _ (by rfl) (by walk_at "o3") (by decide) (by decide)) (@pa_cons _ _ _ _ _ (@pe_non _ _ _) (@pa_nil _) (by rfl)) (by rfl) (by rfl) (by rfl)))), ?_⟩
    walk_at "ge"
    refine ⟨F, n, x, M, by rw [ex]; rfl, hL, g, hx, hn, fun h => ?_, fun j y h1 h2 h3 => ?_⟩
    · walk_at "ge"
      exact k0 h
    · walk_at "ge"
      exact k1 j y h1 h2 h3
def spThings (cF : Addr) : Sp := fun vs H Q _ => ∃ (F : FS) (M : Cells), vs = [.ref F.b] ∧ Led H (FrC cF F M) ∧ F.hs.length ≤ 600 ∧ ∀ q H', Led H' ((q, .lst (F.hs.map heldV)) :: FrC cF F M) → Q (.ref q) H'
theorem ok_things (D : MDef K cF "things" "Frames.things" s_Frames_things) (B : Blt mg) (T : Txt K mg cP cU cA cB c1 c2 c3 cC c4 c5 cT cF cD cS cI) : MethD P w K mg base 1 cF "things" ["self"] (spThings cF) := by
  have sc := sc_Frames_things
  refine D.ok sc_Frames_things (fun vs H Q E h => ?_) (fun _ _ _ _ _ _ us hl => match us, hl with | [_], _ => rfl) (fun f cdv A outer s H vs Q E hr h => ?_)
  · obtain ⟨_, _, rfl, _⟩ := h; rfl
  · obtain ⟨F, M, rfl, hL, hn, k⟩ := h
    have hf1 : (frF F.hl F.rl F.sl).lookup (Str.ofString "held") = some (.ref F.hl) := rfl
    have m1 : (F.hs.map heldV).length = F.hs.length := List.length_map _
    refine ⟨_, (@pss_one _ _ _ (@ps_ret _ _ _ _ (@pe_callTy _ _ _ _ _ _ _ _ _ (call_list_ofK (K := K) rfl) (by rfl) B.list bt_list (@pa_cons _ _ _ _ _ (@pe_fldC _ _ _ _ _ _ _ T.Frames T.n_held (@pv _ 0 _ _ (by rfl) (by walk_at "o3") (by decide) (by decide)) (by rfl)) (@pa_nil _) (by rfl)) (by decide) (by decide) (by rfl) (by rfl)))), ?_⟩
    walk_at "ge"
    rename Led _ _ => hl1
    exact k _ _ hl1
def shF (l d : Addr) : List (Str × V) := [("placed", .ref l), ("row_by_sheet", .ref d)]
def ShC (cS b dx l d : Addr) (ps : List V) (es : Ents) : Cells := (b, .ins cS dx (shF l d)) :: (l, .lst ps) :: (d, .dK (kvE es)) :: rowC es
section
variable {b dx l d : Addr} {ps : List V} {es : Ents} {L : Cells}
theorem sk1 : (b, HO.ins cS dx (shF l d)) ∈ ShC cS b dx l d ps es ++ L := mS
theorem sk2 : (l, HO.lst ps) ∈ ShC cS b dx l d ps es ++ L := mC mS
theorem sk3 : (d, HO.dK (kvE es)) ∈ ShC cS b dx l d ps es ++ L := mC (mC mS)
end
def idx (ps : List V) (y : V) : Nat := ps.findIdx fun v => eqV v y
theorem idx_at {ps : List V} {y : V} (h : inV y ps = true) : ∃ v, ps[idx ps y]? = some v ∧ eqV v y = true := by
  unfold inV at h
  rw [List.any_eq_true] at h
  obtain ⟨v, hv, he⟩ := h
  have hlt : ps.findIdx (fun v => eqV v y) < ps.length := List.findIdx_lt_length_of_exists ⟨v, hv, he⟩
  exact ⟨ps[ps.findIdx fun v => eqV v y], List.getElem?_eq_getElem hlt, List.findIdx_getElem (w := hlt)⟩
theorem idx_no {ps : List V} {y : V} {m : Nat} {v : V} (hm : m < idx ps y) (hv : ps[m]? = some v) : eqV v y = false := by
  unfold idx at hm
  have h := List.not_of_lt_findIdx hm
  have hlt : m < ps.length := (List.getElem?_eq_some_iff.mp hv).1
  have e : ps[m] = v := (List.getElem?_eq_some_iff.mp hv).2
  rw [← e]
  simpa using h
theorem idx_lt {ps : List V} {y : V} (h : inV y ps = true) : idx ps y < ps.length := by
  obtain ⟨v, hv, _⟩ := idx_at h
  exact (List.getElem?_eq_some_iff.mp hv).1
theorem idxH {H : Hp} {Q : VK} {l : Addr} {ps : List V} {y : V} (h1 : H l = some (.lst ps)) (fy : flatV y = true) (fs : ps.all flatV = true) (hin : inV y ps = true) (h : Q (.int (idx ps y : Nat)) H) : rIndex (.ref l) [y] H Q := by
  obtain ⟨v, hv, he⟩ := idx_at hin
  exact indexH h1 fy fs hv he (fun m w hm hw => idx_no hm hw) h
theorem repN (n : Nat) : (List.replicate n [V.non]).flatten = List.replicate n V.non := by
  induction n with
  | zero => rfl
  | succ n ih => rw [List.replicate_succ, List.flatten_cons, ih, List.replicate_succ]; rfl
def spSInit (cS : Addr) : Sp := fun vs H Q _ => ∃ (b dx : Addr) (n : Int) (L : Cells), vs = [.ref b, .int n] ∧ Led H ((b, .ins cS dx []) :: L) ∧ 0 ≤ n ∧ n ≤ 600 ∧ ∀ l d H', Led H' (ShC cS b dx l d (List.replicate n.toNat .non) [] ++ L) → Q .non H'
theorem ok_shinit (D : IDef K cS "Shelf.__init__" s_Shelf_init) (T : Txt K mg cP cU cA cB c1 c2 c3 cC c4 c5 cT cF cD cS cI) : InitD P w K mg base 1 cS ["self", "many"] (spSInit cS) := by
  have sc := sc_Shelf_init
  refine D.ok sc_Shelf_init (fun vs H Q E h => ?_) (fun _ _ _ _ _ _ us hl => match us, hl with | [_, _], _ => rfl) (fun f cdv A outer s H vs Q E hr h => ?_)
  · obtain ⟨_, _, _, _, rfl, _⟩ := h; rfl
  · obtain ⟨b, dx, n, L, rfl, hL, h0, h600, k⟩ := h
    refine ⟨_, (@pss_cons _ _ _ _ _ (@ps_fldC _ _ _ _ _ _ _ _ _ _ T.Shelf T.n_placed (@pv _ 0 _ _ (by rfl) (by walk_at "o3") (by decide) (by decide)) (@pe_op _ _ _ _ _ _ _ _ op_rep (@pe_lst _ _ _ _ (@pa_cons _ _ _ _ _ (@pe_non _ _ _) (@pa_nil _) (by rfl))) (@pv _ 1 _ _ (by rfl) (by walk_at "o3") (by decide) (by decide))) (by rfl)) (@pss_one _ _ _ (@ps_fldC _ _ _ _ _ _ _ _ _ _ T.Shelf T.n_row_by_sheet (@pv _ 0 _ _ (by rfl) (by walk_at "o3") (by decide) (by decide)) (@pe_dnewK _ _) (by rfl)))), ?_⟩
    refine seqK fun M1 K1 => ?_
    walk_at "gd"
    rename_i l0 H2 _ hl2 _ _ _
    refine repH (hl2.get mS) ⟨by omega, by omega⟩ (by have := sizeLine_eq; simp only [List.length_cons, List.length_nil]; omega) (Led.alloc hl2 fun l H3 _ hl3 _ => ?_)
    rw [repN] at hl3
    walk_at "gd"
    refine K1.use ?_
    walk_at "cl"
    clear K1
    have hl4 : Led H3 ((b, .ins cS dx []) :: (l, .lst (List.replicate n.toNat .non)) :: L) := hl3.wk (by walk_at "sp")
    have hl5 : Led (upd H3 b (.ins cS dx (putF (Str.ofString "placed") (V.ref l) []))) ((b, .ins cS dx [("placed", .ref l)]) :: (l, .lst (List.replicate n.toNat .non)) :: L) := hl4.put rfl rfl
    generalize upd H3 b (.ins cS dx (putF (Str.ofString "placed") (V.ref l) [])) = H4 at hl5 ⊢
    clear hl4 hl3 hl2 hL
    walk_at "gd"
    rename_i d H5 _ hl6 _
    have hl7 := (hl6.swap).put (o' := .ins cS dx (shF l d)) rfl rfl
    exact k l d _ (hl7.wk (by unfold ShC rowC; simp only [kvE, List.map_nil, List.cons_append, List.nil_append]; walk_at "sp"))
def spFull (cS : Addr) : Sp := fun vs H Q _ => ∃ (b dx l d : Addr) (ps : List V), vs = [.ref b] ∧ H b = some (.ins cS dx (shF l d)) ∧ H l = some (.lst ps) ∧ ps.all flatV = true ∧ Q (.bl (!inV .non ps)) H
theorem ok_full (D : MDef K cS "is_full" "Shelf.is_full" s_Shelf_is_full) (T : Txt K mg cP cU cA cB c1 c2 c3 cC c4 c5 cT cF cD cS cI) : MethD P w K mg base 1 cS "is_full" ["self"] (spFull cS) := by
  have sc := sc_Shelf_is_full
  refine D.ok sc_Shelf_is_full (fun vs H Q E h => ?_) (fun _ _ _ _ _ _ us hl => match us, hl with | [_], _ => rfl) (fun f cdv A outer s H vs Q E hr h => ?_)
  · obtain ⟨_, _, _, _, _, rfl, _⟩ := h; rfl
  · obtain ⟨b, dx, l, d, ps, rfl, c1, c2, fs, k⟩ := h
    have hf : (shF l d).lookup (Str.ofString "placed") = some (.ref l) := rfl
    refine ⟨_, (@pss_one _ _ _ (@ps_ret _ _ _ _ (@pe_cmpR _ _ _ _ _ _ _ _ op_notIn_seq (@pe_non _ _ _) (@pe_fldC _ _ _ _ _ _ _ T.Shelf T.n_placed (@pv _ 0 _ _ (by rfl) (by walk_at "o3") (by decide) (by decide)) (by rfl)) (by with_unfolding_all rfl)))), ?_⟩
    walk_at "gd"
    refine ⟨l, ps, rfl, .inl (SqL.of c2), rfl, fs, ?_⟩
    walk_at "gd"
    exact k
def spSheets (cS : Addr) : Sp := fun vs H Q _ => ∃ (b dx l d : Addr) (ps : List V) (L : Cells), vs = [.ref b] ∧ Led H L ∧ H b = some (.ins cS dx (shF l d)) ∧ H l = some (.lst ps) ∧ ∀ r H', Led H' ((r, .lst ps) :: L) → Q (.ref r) H'
theorem ok_sheets (D : MDef K cS "sheets" "Shelf.sheets" s_Shelf_sheets) (B : Blt mg) (T : Txt K mg cP cU cA cB c1 c2 c3 cC c4 c5 cT cF cD cS cI) : MethD P w K mg base 1 cS "sheets" ["self"] (spSheets cS) := by
  have sc := sc_Shelf_sheets
  refine D.ok sc_Shelf_sheets (fun vs H Q E h => ?_) (fun _ _ _ _ _ _ us hl => match us, hl with | [_], _ => rfl) (fun f cdv A outer s H vs Q E hr h => ?_)
  · obtain ⟨_, _, _, _, _, _, rfl, _⟩ := h; rfl
  · obtain ⟨b, dx, l, d, ps, L, rfl, hL, c1, c2, k⟩ := h
    have hf : (shF l d).lookup (Str.ofString "placed") = some (.ref l) := rfl
    refine ⟨_, (@pss_one _ _ _ (@ps_ret _ _ _ _ (@pe_callTy _ _ _ _ _ _ _ _ _ (call_list_ofK (K := K) rfl) (by rfl) B.list bt_list (@pa_cons _ _ _ _ _ (@pe_fldC _ _ _ _ _ _ _ T.Shelf T.n_placed (@pv _ 0 _ _ (by rfl) (by walk_at "o3") (by decide) (by decide)) (by rfl)) (@pa_nil _) (by rfl)) (by decide) (by decide) (by rfl) (by rfl)))), ?_⟩
    walk_at "gd"
    rename_i r H1 _ hl1 _
    exact k r _ hl1
def spHas (cS : Addr) : Sp := fun vs H Q _ => ∃ (b dx l d : Addr) (n : Int) (es : Ents), vs = [.ref b, .int n] ∧ H b = some (.ins cS dx (shF l d)) ∧ H d = some (.dK (kvE es)) ∧ Q (.bl (valV (kvE es) (.inl n)).isSome) H
theorem ok_has (D : MDef K cS "has" "Shelf.has" s_Shelf_has) (T : Txt K mg cP cU cA cB c1 c2 c3 cC c4 c5 cT cF cD cS cI) : MethD P w K mg base 1 cS "has" ["self", "sheet"] (spHas cS) := by
  have sc := sc_Shelf_has
  refine D.ok sc_Shelf_has (fun vs H Q E h => ?_) (fun _ _ _ _ _ _ us hl => match us, hl with | [_, _], _ => rfl) (fun f cdv A outer s H vs Q E hr h => ?_)
  · obtain ⟨_, _, _, _, _, _, rfl, _⟩ := h; rfl
  · obtain ⟨b, dx, l, d, n, es, rfl, c1, c2, k⟩ := h
    have hu := unit1 hr
    have hf : (shF l d).lookup (Str.ofString "row_by_sheet") = some (.ref d) := rfl
    refine ⟨_, (@pss_one _ _ _ (@ps_ret _ _ _ _ (@pe_cmp _ _ _ _ _ _ (@pc_din _ _ _ _ _ hu (@pv _ 1 _ _ (by rfl) (by walk_at "o3") (by decide) (by decide)) (@pe_fldC _ _ _ _ _ _ _ T.Shelf T.n_row_by_sheet (@pv _ 0 _ _ (by rfl) (by walk_at "o3") (by decide) (by decide)) (by rfl))) (by first | exact nobehind _ (by decide) (by decide) | rfl)))), ?_⟩
    walk_at "ge"
    exact k
def spPut (cS cU : Addr) : Sp := fun vs H Q E => ∃ (b dx l d r : Addr) (n : Int) (row : List Int) (ps : List V) (es : Ents) (L : Cells), vs = [.ref b, .int n, .ref r] ∧ Led H (ShC cS b dx l d ps es ++ L) ∧ (r, HO.lst (row.map V.int)) ∈ L ∧ ps.all flatV = true ∧ n ∉ es.map (·.1) ∧ es.length ≤ 600 ∧
  (inV .non ps = true → ∀ a H', Led H' (ShC cS b dx l d (ps.set (idx ps .non) (.int n)) (es ++ [(n, a, row)]) ++ L) → Q (.int (idx ps .non : Nat)) H') ∧ (inV .non ps = false → E (.ref cU) none H)
theorem rowC_snoc (es : Ents) (n : Int) (a : Addr) (row : List Int) : rowC (es ++ [(n, a, row)]) = rowC es ++ [(a, HO.lst (row.map V.int))] := by unfold rowC; rw [List.map_append]; rfl
theorem ok_put (D : MDef K cS "put_on" "Shelf.put_on" s_Shelf_put_on) (B : Blt mg) (T : Txt K mg cP cU cA cB c1 c2 c3 cC c4 c5 cT cF cD cS cI) (M_Shelf_is_full : MethD P w K mg base 1 cS "is_full" ["self"] (spFull cS)) : MethD P w K mg base 2 cS "put_on" ["self", "sheet", "row"] (spPut cS cU) := by
  have sc := sc_Shelf_put_on
  refine D.okR sc_Shelf_put_on (fun vs H Q E h => ?_) (fun _ _ _ _ _ _ us hl => match us, hl with | [_, _, _], _ => rfl) (fun f cdv A outer s H vs Q E hr h => ?_)
  · obtain ⟨_, _, _, _, _, _, _, _, _, _, rfl, _⟩ := h; rfl
  · obtain ⟨b, dx, l, d, r, n, row, ps, es, L, rfl, hL, i_r, fs, hn, h600, k1, k2⟩ := h
    have hu := unit1 hr
    have hf1 : (shF l d).lookup (Str.ofString "placed") = some (.ref l) := rfl
    have hf2 : (shF l d).lookup (Str.ofString "row_by_sheet") = some (.ref d) := rfl
    have c1 := hL.get (sk1 (cS := cS) (b := b) (dx := dx) (l := l) (d := d) (ps := ps) (es := es) (L := L))
    have c2 := hL.get (sk2 (cS := cS) (b := b) (dx := dx) (l := l) (d := d) (ps := ps) (es := es) (L := L))
    refine ⟨_, (@pss_cons _ _ _ _ _ (@ps_if _ _ _ _ _ _ _ _ (@pt_val _ _ _ (@pe_methD0 _ _ _ _ _ _ _ _ _ _ _ _ _ T.Shelf M_Shelf_is_full (hr.mono (by omega)) passR0 (@pv _ 0 _ _ (by rfl) (by walk_at "o3") (by decide) (by decide)) (by rfl)) (by intro _; rfl)) (@pss_one _ _ _ (@ps_raise _ _ _ _ _ _ _ _ _ _ _ _ _ _ _ _ _ _ _ _ _ _ T.Full (by rfl) (@pa_cons _ _ _ _ _ (@pe_str _ _ _ _) (@pa_nil _) (by rfl)) (by decide) (by rfl))) (@pss_nil _)) (@pss_cons _ _ _ _ _ (@ps_set _ _ 3 _ _ _ _ sc.nd rfl (by walk_at "o2") (@pe_bm _ _ _ _ _ _ _ _ _ _ _ _ PySem.F.plainAttrs_list PySem.F.slot_list_index PySem.F.type_list_index mt_index (@pe_fldC _ _ _ _ _ _ _ T.Shelf T.n_placed (@pv _ 0 _ _ (by rfl) (by walk_at "o3") (by decide) (by decide)) (by rfl)) (@pa_cons _ _ _ _ _ (@pe_non _ _ _) (@pa_nil _) (by rfl)) (by rfl) (by rfl) (by rfl) (by rfl) (by rfl)) (by rfl) (by first | exact .inl rfl | exact .inr rfl | assumption)) (@pss_cons _ _ _ _ _ (@ps_asg _ _ _ _ _ _ (@pv _ 1 _ _ (by rfl) (by walk_at "o3") (by decide) (by decide)) (@pg_sub _ _ _ _ _ _ _ (@pe_fldC _ _ _ _ _ _ _ T.Shelf T.n_placed (@pv _ 0 _ _ (by rfl) (by walk_at "o3") (by decide) (by decide)) (by rfl)) (@pv _ 3 _ _ (by rfl) (by walk_at "o3") (by decide) (by decide)) set_list (by intro _; rfl)) (by rfl) (by rfl) (by rfl)) (@pss_cons _ _ _ _ _ (@ps_dput _ _ _ _ _ _ _ _ _ hu (@pe_fldC _ _ _ _ _ _ _ T.Shelf T.n_row_by_sheet (@pv _ 0 _ _ (by rfl) (by walk_at "o3") (by decide) (by decide)) (by rfl)) (@pv _ 1 _ _ (by rfl) (by walk_at "o3") (by decide) (by decide)) (@pe_callTy _ _ _ _ _ _ _ _ _ (call_list_ofK (K := K) rfl) (by rfl) B.list bt_list (@pa_cons _ _ _ _ _ (@pv _ 2 _ _ (by rfl) (by walk_at "o3") (by decide) (by decide)) (@pa_nil _) (by rfl)) (by decide) (by decide) (by rfl) (by rfl)) rfl) (@pss_one _ _ _ (@ps_ret _ _ _ _ (@pv _ 3 _ _ (by rfl) (by walk_at "o3") (by decide) (by decide)))))))), ?_⟩
    refine seqK fun M1 K1 => ?_
    walk_at "ge"
    refine ⟨b, dx, l, d, ps, rfl, c1, c2, fs, ?_⟩
    cases hin : inV .non ps with
    | false =>
      walk_at "ge"
      refine raiseI fun R hR => ?_
      walk_at "ge"
      exact ⟨by decide, k2 hin⟩
    | true =>
      walk_at "ge"
      refine K1.use ?_
      walk_at "cl"
      clear K1
      refine seqK fun M1 K1 => ?_
      walk_at "ge"
      refine ⟨tyVL c2, ?_⟩
      walk_at "ge"
      refine idxH c2 rfl fs hin ?_
      walk_at "ge"
      refine K1.use ?_
      walk_at "cl"
      clear K1
      have hlt := idx_lt hin
      refine seqK fun M1 K1 => ?_
      walk_at "ge"
      refine setLH c2 (ixN_of (by omega) (by omega)) ?_
      rw [Int.toNat_natCast]
      have hl2 : Led (upd H l (.lst (ps.set (idx ps .non) (.int n)))) (ShC cS b dx l d (ps.set (idx ps .non) (.int n)) es ++ L) := (Led.put (Led.swap (show Led H ((b, .ins cS dx (shF l d)) :: (l, .lst ps) :: ((d, .dK (kvE es)) :: rowC es ++ L)) from hL)) rfl rfl).swap
      generalize upd H l (.lst (ps.set (idx ps .non) (.int n))) = H2 at hl2 ⊢
      generalize ps.set (idx ps .non) (.int n) = ps2 at hl2 k1
      walk_at "ge"
      refine K1.use ?_
      walk_at "cl"
      clear K1 c1 c2 hL
      have c1 := hl2.get (sk1 (cS := cS) (b := b) (dx := dx) (l := l) (d := d) (ps := ps2) (es := es) (L := L))
      have c_r := hl2.get (mA i_r)
      have hl2c : Led H2 ((b, .ins cS dx (shF l d)) :: (l, .lst ps2) :: (d, .dK (kvE es)) :: (rowC es ++ L)) := hl2
      clear hl2
      refine seqK fun M1 K1 => ?_
      walk_at "ge"
      rename_i a H3 _ hl3 _ _ _ _ _ _ _
      have hl4 : Led H3 ((d, .dK (kvE es)) :: (b, .ins cS dx (shF l d)) :: (l, .lst ps2) :: (rowC es ++ ((a, .lst (row.map V.int)) :: L))) := hl3.wk (by walk_at "sp")
      refine dputR (hl4.get mS) (by unfold kvE; rw [List.length_map]; have := sizeLine_eq; omega) ?_
      rw [kvE_put hn a row]
      have hl5 := hl4.put (o' := .dK (kvE (es ++ [(n, a, row)]))) rfl rfl
      walk_at "ge"
      refine K1.use ?_
      walk_at "ge"
      refine k1 hin a _ (hl5.wk ?_)
      unfold ShC
      rw [rowC_snoc]
      simp only [List.cons_append, List.append_assoc, List.nil_append]
      walk_at "sp"
def spTake (cS : Addr) : Sp := fun vs H Q _ => ∃ (b dx l d : Addr) (ps : List V) (es : Ents) (e : Int × Addr × List Int) (L : Cells), vs = [.ref b, .int e.1] ∧ Led H (ShC cS b dx l d ps es ++ L) ∧ ps.all flatV = true ∧ inV (.int e.1) ps = true ∧ (es.map (·.1)).Nodup ∧ e ∈ es ∧
  ∀ H', Led H' ((e.2.1, .lst (e.2.2.map V.int)) :: (ShC cS b dx l d (ps.set (idx ps (.int e.1)) .non) (es.filter fun x => decide (x.1 ≠ e.1)) ++ L)) → Q (.ref e.2.1) H'
theorem ok_take (D : MDef K cS "take_off" "Shelf.take_off" s_Shelf_take_off) (B : Blt mg) (T : Txt K mg cP cU cA cB c1 c2 c3 cC c4 c5 cT cF cD cS cI) : MethD P w K mg base 1 cS "take_off" ["self", "sheet"] (spTake cS) := by
  have sc := sc_Shelf_take_off
  refine D.ok sc_Shelf_take_off (fun vs H Q E h => ?_) (fun _ _ _ _ _ _ us hl => match us, hl with | [_, _], _ => rfl) (fun f cdv A outer s H vs Q E hr h => ?_)
  · obtain ⟨_, _, _, _, _, _, _, _, rfl, _⟩ := h; rfl
  · obtain ⟨b, dx, l, d, ps, es, e, L, rfl, hL, fs, hin, nd, he, k⟩ := h
    have hu := unit1 hr
    have hf1 : (shF l d).lookup (Str.ofString "placed") = some (.ref l) := rfl
    have hf2 : (shF l d).lookup (Str.ofString "row_by_sheet") = some (.ref d) := rfl
    have hLc : Led H ((b, .ins cS dx (shF l d)) :: (l, .lst ps) :: (d, .dK (kvE es)) :: (rowC es ++ L)) := hL
    have c2 : H l = some (.lst ps) := hLc.get (mC mS)
    have hlt := idx_lt hin
    have hv : valV (kvE es) (.inl e.1) = some (.ref e.2.1) := by rw [kvE_val, find_mem nd he]; rfl
    refine ⟨_, (@pss_cons _ _ _ _ _ (@ps_asg _ _ _ _ _ _ (@pe_non _ _ _) (@pg_sub _ _ _ _ _ _ _ (@pe_fldC _ _ _ _ _ _ _ T.Shelf T.n_placed (@pv _ 0 _ _ (by rfl) (by walk_at "o3") (by decide) (by decide)) (by rfl)) (@pe_bm _ _ _ _ _ _ _ _ _ _ _ _ PySem.F.plainAttrs_list PySem.F.slot_list_index PySem.F.type_list_index mt_index (@pe_fldC _ _ _ _ _ _ _ T.Shelf T.n_placed (@pv _ 0 _ _ (by rfl) (by walk_at "o3") (by decide) (by decide)) (by rfl)) (@pa_cons _ _ _ _ _ (@pv _ 1 _ _ (by rfl) (by walk_at "o3") (by decide) (by decide)) (@pa_nil _) (by rfl)) (by rfl) (by rfl) (by rfl) (by rfl) (by rfl)) set_list (by intro _; rfl)) (by rfl) (by rfl) (by rfl)) (@pss_one _ _ _ (@ps_ret _ _ _ _ (@pe_dpop1 _ _ _ _ _ _ _ (@pe_fldC _ _ _ _ _ _ _ T.Shelf T.n_row_by_sheet (@pv _ 0 _ _ (by rfl) (by walk_at "o3") (by decide) (by decide)) (by rfl)) (@pv _ 1 _ _ (by rfl) (by walk_at "o3") (by decide) (by decide)) ⟨rfl, rfl, rfl, rfl⟩)))), ?_⟩
    refine seqK fun M1 K1 => ?_
    walk_at "ge"
    refine ⟨tyVL c2, ?_⟩
    walk_at "ge"
    refine idxH c2 rfl fs hin ?_
    walk_at "ge"
    refine setLH c2 (ixN_of (by omega) (by omega)) ?_
    rw [Int.toNat_natCast]
    have hl2 : Led (upd H l (.lst (ps.set (idx ps (.int e.1)) .non))) ((b, .ins cS dx (shF l d)) :: (l, .lst (ps.set (idx ps (.int e.1)) .non)) :: (d, .dK (kvE es)) :: (rowC es ++ L)) := (Led.put (Led.swap hLc) rfl rfl).swap
    generalize upd H l (.lst (ps.set (idx ps (.int e.1)) .non)) = H2 at hl2 ⊢
    generalize ps.set (idx ps (.int e.1)) .non = ps2 at hl2 k
    walk_at "ge"
    refine K1.use ?_
    walk_at "cl"
    clear K1 c2 hL hLc
    have c3 : H2 d = some (.dK (kvE es)) := hl2.get (mC (mC mS))
    walk_at "ge"
    refine dpop1H fun R5 hR5 => ?_
    walk_at "ge"
    refine dpopR c3 hv ?_
    rw [kvE_drop]
    obtain ⟨as, bs, hab, hfil⟩ := ent_split nd he
    have hl3 : Led H2 ((d, .dK (kvE es)) :: (e.2.1, .lst (e.2.2.map V.int)) :: (b, .ins cS dx (shF l d)) :: (l, .lst ps2) :: (rowC as ++ (rowC bs ++ L))) := by
      have hl2' := hl2
      rw [hab, rowC_mid, ← hab] at hl2'
      exact hl2'.wk (by simp only [List.append_assoc, List.cons_append]; walk_at "sp")
    have hl4 := hl3.put (o' := .dK (kvE (es.filter fun x => decide (x.1 ≠ e.1)))) rfl rfl
    walk_at "ge"
    refine k _ (hl4.wk ?_)
    unfold ShC
    rw [hfil, rowC_app]
    simp only [List.cons_append, List.append_assoc]
    walk_at "sp"
end
section
variable {P : Program} {w : World} {K : PySem.W.Frag} {mg : Str → Option Value} {base : Heap} {cP cU cA cB c1 c2 c3 cC c4 c5 cT cF cD cS cI : Addr}
def fiFld (d : Addr) : List (Str × V) := [("rows_by_name", .ref d)]
abbrev FiC (cI b dx d : Addr) (es : FEnts) (R : Cells) : Cells := (b, .ins cI dx (fiFld d)) :: (d, .dK (kvF es)) :: (filC es ++ R)
structure FH (cI : Addr) (H : Hp) (b dx d : Addr) (es : FEnts) : Prop where
  cb : H b = some (.ins cI dx (fiFld d))
  cd : H d = some (.dK (kvF es))
  cf : ∀ e ∈ es, H e.2.1 = some (.lst (rfs e.2.2))
  nd : (es.map (·.1)).Nodup
theorem FH.of {cI : Addr} {H : Hp} {b dx d : Addr} {es : FEnts} {R : Cells} (hL : Led H (FiC cI b dx d es R)) (nd : (es.map (·.1)).Nodup) : FH cI H b dx d es :=
  ⟨hL.get mS, hL.get (mC mS), fun e he => hL.get (mC (mC (mB (filC_mem he)))), nd⟩
theorem val_in (es : FEnts) (z : Str) : (valV (kvF es) (.inr z)).isSome = decide (z ∈ es.map (·.1)) := by
  by_cases h : z ∈ es.map (·.1)
  · rw [decide_eq_true h, kvF_val, Option.isSome_map]
    obtain ⟨e, he, rfl⟩ := List.mem_map.mp h
    rw [List.find?_isSome]
    exact ⟨e, he, decide_eq_true rfl⟩
  · rw [decide_eq_false h, kvF_none h]; rfl
def spIInit (cI : Addr) : Sp := fun vs H Q _ => ∃ (b dx : Addr) (L : Cells), vs = [.ref b] ∧ Led H ((b, .ins cI dx []) :: L) ∧ ∀ d H', Led H' (FiC cI b dx d [] L) → Q .non H'
theorem ok_iinit (D : IDef K cI "Files.__init__" s_Files_init) (T : Txt K mg cP cU cA cB c1 c2 c3 cC c4 c5 cT cF cD cS cI) : InitD P w K mg base 1 cI ["self"] (spIInit cI) := by
  have sc := sc_Files_init
  refine D.ok sc_Files_init (fun vs H Q E h => ?_) (fun _ _ _ _ _ _ us hl => match us, hl with | [_], _ => rfl) (fun f cdv A outer s H vs Q E hr h => ?_)
  · obtain ⟨_, _, _, rfl, _⟩ := h; rfl
  · obtain ⟨b, dx, L, rfl, hL, k⟩ := h
    refine ⟨_, (@pss_one _ _ _ (@ps_fldC _ _ _ _ _ _ _ _ _ _ T.Files T.n_rows_by_name (@pv _ 0 _ _ (by rfl) (by walk_at "o3") (by decide) (by decide)) (@pe_dnewK _ _) (by rfl))), ?_⟩
    walk_at "gd"
    rename_i d H5 _ hl6 _
    have hl7 := (hl6.swap).put (o' := .ins cI dx (fiFld d)) rfl rfl
    exact k d _ hl7
def spAskN (cI cA : Addr) : Sp := fun vs H Q E => ∃ (b dx d : Addr) (es : FEnts) (z : Str), vs = [.ref b, .str z] ∧ FH cI H b dx d es ∧ (z ∈ es.map (·.1) → Q .non H) ∧ (z ∉ es.map (·.1) → E (.ref cA) none H)
theorem ok_ask_name (D : MDef K cI "ask_name" "Files.ask_name" s_Files_ask_name) (B : Blt mg) (T : Txt K mg cP cU cA cB c1 c2 c3 cC c4 c5 cT cF cD cS cI) : MethD P w K mg base 1 cI "ask_name" ["self", "name"] (spAskN cI cA) := by
  have sc := sc_Files_ask_name
  refine D.okR sc_Files_ask_name (fun vs H Q E h => ?_) (fun _ _ _ _ _ _ us hl => match us, hl with | [_, _], _ => rfl) (fun f cdv A outer s H vs Q E hr h => ?_)
  · obtain ⟨_, _, _, _, _, rfl, _⟩ := h; rfl
  · obtain ⟨b, dx, d, es, z, rfl, fh, k1, k2⟩ := h
    have hu := unit1 hr
    have hf : (fiFld d).lookup (Str.ofString "rows_by_name") = some (.ref d) := rfl
    have c1 := fh.cb
    have c2 := fh.cd
    refine ⟨_, (@pss_one _ _ _ (@ps_if _ _ _ _ _ _ _ _ (@pt_cmp _ _ _ _ _ _ (@pc_dnotin _ _ _ _ _ hu (@pv _ 1 _ _ (by rfl) (by walk_at "o3") (by decide) (by decide)) (@pe_fldC _ _ _ _ _ _ _ T.Files T.n_rows_by_name (@pv _ 0 _ _ (by rfl) (by walk_at "o3") (by decide) (by decide)) (by rfl))) (by first | exact nobehind _ (by decide) (by decide) | rfl)) (@pss_one _ _ _ (@ps_raise _ _ _ _ _ _ _ _ _ _ _ _ _ _ _ _ _ _ _ _ _ _ T.NoFile (by rfl) (@pa_cons _ _ _ _ _ (@pe_str _ _ _ _) (@pa_nil _) (by rfl)) (by decide) (by rfl))) (@pss_nil _))), ?_⟩
    walk_at "ge"
    refine dinS c2 ?_
    rw [val_in]
    by_cases hz : z ∈ es.map (·.1)
    · rw [decide_eq_true hz]
      walk_at "ge"
      exact k1 hz
    · rw [decide_eq_false hz]
      walk_at "ge"
      refine raiseI fun R hR => ?_
      walk_at "ge"
      exact ⟨by decide, k2 hz⟩
def spSize (cI cA : Addr) : Sp := fun vs H Q E => ∃ (b dx d : Addr) (es : FEnts) (z : Str), vs = [.ref b, .str z] ∧ FH cI H b dx d es ∧ (∀ e ∈ es, e.1 = z → Q (.int (e.2.2.length : Nat)) H) ∧ (z ∉ es.map (·.1) → E (.ref cA) none H)
theorem ok_size (D : MDef K cI "size_of" "Files.size_of" s_Files_size_of) (B : Blt mg) (T : Txt K mg cP cU cA cB c1 c2 c3 cC c4 c5 cT cF cD cS cI) (M_Files_ask_name : MethD P w K mg base 1 cI "ask_name" ["self", "name"] (spAskN cI cA)) : MethD P w K mg base 2 cI "size_of" ["self", "name"] (spSize cI cA) := by
  have sc := sc_Files_size_of
  refine D.okR sc_Files_size_of (fun vs H Q E h => ?_) (fun _ _ _ _ _ _ us hl => match us, hl with | [_, _], _ => rfl) (fun f cdv A outer s H vs Q E hr h => ?_)
  · obtain ⟨_, _, _, _, _, rfl, _⟩ := h; rfl
  · obtain ⟨b, dx, d, es, z, rfl, fh, k1, k2⟩ := h
    have hu := unit1 hr
    have hf : (fiFld d).lookup (Str.ofString "rows_by_name") = some (.ref d) := rfl
    have c1 := fh.cb
    have c2 := fh.cd
    refine ⟨_, (@pss_cons _ _ _ _ _ (@ps_expr _ _ _ _ (@pe_methD _ _ _ _ _ _ _ _ _ _ _ _ _ _ _ _ T.Files M_Files_ask_name (hr.mono (by omega)) passR (@pv _ 0 _ _ (by rfl) (by walk_at "o3") (by decide) (by decide)) (@pa_cons _ _ _ _ _ (@pv _ 1 _ _ (by rfl) (by walk_at "o3") (by decide) (by decide)) (@pa_nil _) (by rfl)) (by rfl) (by rfl) (by rfl)) (by rfl)) (@pss_one _ _ _ (@ps_ret _ _ _ _ (@pe_callB _ _ _ _ _ _ _ _ _ call_lenA (by rfl) B.len bt_len (@pa_cons _ _ _ _ _ (@pe_dget _ _ _ _ _ _ hu (@pe_fldC _ _ _ _ _ _ _ T.Files T.n_rows_by_name (@pv _ 0 _ _ (by rfl) (by walk_at "o3") (by decide) (by decide)) (by rfl)) (@pv _ 1 _ _ (by rfl) (by walk_at "o3") (by decide) (by decide)) (fun _ _ => rfl)) (@pa_nil _) (by rfl)) (by decide) (by decide) (by rfl) (by rfl))))), ?_⟩
    refine seqK fun M1 K1 => ?_
    walk_at "ge"
    refine ⟨b, dx, d, es, z, rfl, fh, fun hz => ?_, fun hz => ?_⟩
    · obtain ⟨e, he, rfl⟩ := List.mem_map.mp hz
      have c3 := fh.cf e he
      walk_at "ge"
      refine K1.use ?_
      walk_at "cl"
      clear K1
      walk_at "ge"
      refine dgetS c2 (kvF_some fh.nd he) ?_
      walk_at "ge"
      rw [rfs_len]
      exact k1 e he rfl
    · exact k2 hz
def spAskP (cI cA cB : Addr) : Sp := fun vs H Q E => ∃ (b dx d : Addr) (es : FEnts) (z : Str) (p : Int), vs = [.ref b, .str z, .int p] ∧ FH cI H b dx d es ∧ (∀ e ∈ es, e.1 = z → 0 ≤ p → p < e.2.2.length → Q .non H) ∧ (∀ e ∈ es, e.1 = z → ¬ (0 ≤ p ∧ p < e.2.2.length) → E (.ref cB) none H) ∧ (z ∉ es.map (·.1) → E (.ref cA) none H)
theorem ok_ask_page (D : MDef K cI "ask_page" "Files.ask_page" s_Files_ask_page) (B : Blt mg) (T : Txt K mg cP cU cA cB c1 c2 c3 cC c4 c5 cT cF cD cS cI) (M_Files_size_of : MethD P w K mg base 2 cI "size_of" ["self", "name"] (spSize cI cA)) : MethD P w K mg base 3 cI "ask_page" ["self", "name", "page"] (spAskP cI cA cB) := by
  have sc := sc_Files_ask_page
  refine D.okR sc_Files_ask_page (fun vs H Q E h => ?_) (fun _ _ _ _ _ _ us hl => match us, hl with | [_, _, _], _ => rfl) (fun f cdv A outer s H vs Q E hr h => ?_)
  · obtain ⟨_, _, _, _, _, _, rfl, _⟩ := h; rfl
  · obtain ⟨b, dx, d, es, z, p, rfl, fh, k1, k2, k3⟩ := h
    have c1 := fh.cb
    refine ⟨_, (@pss_cons _ _ _ _ _ (@ps_set _ _ 3 _ _ _ _ sc.nd rfl (by walk_at "o2") (@pe_methD _ _ _ _ _ _ _ _ _ _ _ _ _ _ _ _ T.Files M_Files_size_of (hr.mono (by omega)) passR (@pv _ 0 _ _ (by rfl) (by walk_at "o3") (by decide) (by decide)) (@pa_cons _ _ _ _ _ (@pv _ 1 _ _ (by rfl) (by walk_at "o3") (by decide) (by decide)) (@pa_nil _) (by rfl)) (by rfl) (by rfl) (by rfl)) (by rfl) (by first | exact .inl rfl | exact .inr rfl | assumption)) (@pss_one _ _ _ (@ps_if _ _ _ _ _ _ _ _ (@PW.pt _ _ _ (@pw_or _ _ _ _ _ _ _ (@pt_cmpR _ _ _ _ _ _ _ _ op_lt (@pv _ 2 _ _ (by rfl) (by walk_at "o3") (by decide) (by decide)) (@pe_int _ _ _ _) (nomark _)) (@pw_or1 _ _ _ _ (@pt_cmpR _ _ _ _ _ _ _ _ op_ge (@pv _ 2 _ _ (by rfl) (by walk_at "o3") (by decide) (by decide)) (@pv _ 3 _ _ (by rfl) (by walk_at "o3") (by decide) (by decide)) (nomark _))))) (@pss_one _ _ _ (@ps_raise _ _ _ _ _ _ _ _ _ _ _ _ _ _ _ _ _ _ _ _ _ _ T.NoPage (by rfl) (@pa_cons _ _ _ _ _ (@pe_str _ _ _ _) (@pa_nil _) (by rfl)) (by decide) (by rfl))) (@pss_nil _)))), ?_⟩
    refine seqK fun M1 K1 => ?_
    walk_at "ge"
    refine ⟨b, dx, d, es, z, rfl, fh, fun e he hz => ?_, fun hz => ?_⟩
    · walk_at "ge"
      refine K1.use ?_
      walk_at "cl"
      clear K1
      walk_at "ge"
      · refine raiseI fun R hR => ?_
        walk_at "ge"
        exact ⟨by decide, k2 e he hz (by omega)⟩
      · refine raiseI fun R hR => ?_
        walk_at "ge"
        exact ⟨by decide, k2 e he hz (by omega)⟩
      · exact k1 e he hz (by omega) (by omega)
    · exact k3 hz
def spStore (cI cA cB : Addr) : Sp := fun vs H Q E => ∃ (b dx d r0 : Addr) (es : FEnts) (z : Str) (p : Int) (row : List Int) (R : Cells), vs = [.ref b, .str z, .int p, .ref r0] ∧ Led H (FiC cI b dx d es R) ∧ (es.map (·.1)).Nodup ∧ (r0, HO.lst (row.map V.int)) ∈ R ∧ row.length ≤ 600 ∧ (∀ (as bs : FEnts) (e : FEnt), es = as ++ e :: bs → e.1 = z → ∀ j : Nat, p = ((j : Nat) : Int) → j < e.2.2.length → ∀ (nr : Addr) (H' : Hp), Led H' (FiC cI b dx d (as ++ (e.1, e.2.1, e.2.2.set j (nr, row)) :: bs) ((nr, .lst (row.map V.int)) :: R)) → Q .non H') ∧ (∀ e ∈ es, e.1 = z → ¬ (0 ≤ p ∧ p < e.2.2.length) → E (.ref cB) none H) ∧ (z ∉ es.map (·.1) → E (.ref cA) none H)
theorem ok_store (D : MDef K cI "store_row" "Files.store_row" s_Files_store_row) (B : Blt mg) (T : Txt K mg cP cU cA cB c1 c2 c3 cC c4 c5 cT cF cD cS cI) (M_Files_ask_page : MethD P w K mg base 3 cI "ask_page" ["self", "name", "page"] (spAskP cI cA cB)) : MethD P w K mg base 4 cI "store_row" ["self", "name", "page", "row"] (spStore cI cA cB) := by
  have sc := sc_Files_store_row
  refine D.okR sc_Files_store_row (fun vs H Q E h => ?_) (fun _ _ _ _ _ _ us hl => match us, hl with | [_, _, _, _], _ => rfl) (fun f cdv A outer s H vs Q E hr h => ?_)
  · obtain ⟨_, _, _, _, _, _, _, _, _, rfl, _⟩ := h; rfl
  · obtain ⟨b, dx, d, r0, es, z, p, row, R, rfl, hL, nd, i_r, hrl, k1, k2, k3⟩ := h
    have hu := unit1 hr
    have hf : (fiFld d).lookup (Str.ofString "rows_by_name") = some (.ref d) := rfl
    have fh := FH.of hL nd
    have c1 := fh.cb
    have c2 := fh.cd
    have mr : (row.map V.int).length = row.length := List.length_map _
    refine ⟨_, (@pss_cons _ _ _ _ _ (@ps_expr _ _ _ _ (@pe_methD _ _ _ _ _ _ _ _ _ _ _ _ _ _ _ _ T.Files M_Files_ask_page (hr.mono (by omega)) passR (@pv _ 0 _ _ (by rfl) (by walk_at "o3") (by decide) (by decide)) (@pa_cons _ _ _ _ _ (@pv _ 1 _ _ (by rfl) (by walk_at "o3") (by decide) (by decide)) (@pa_cons _ _ _ _ _ (@pv _ 2 _ _ (by rfl) (by walk_at "o3") (by decide) (by decide)) (@pa_nil _) (by rfl)) (by rfl)) (by rfl) (by rfl) (by rfl)) (by rfl)) (@pss_one _ _ _ (@ps_asg _ _ _ _ _ _ (@pe_callTy _ _ _ _ _ _ _ _ _ (call_list_ofK (K := K) rfl) (by rfl) B.list bt_list (@pa_cons _ _ _ _ _ (@pv _ 3 _ _ (by rfl) (by walk_at "o3") (by decide) (by decide)) (@pa_nil _) (by rfl)) (by decide) (by decide) (by rfl) (by rfl)) (@pg_sub _ _ _ _ _ _ _ (@pe_dget _ _ _ _ _ _ hu (@pe_fldC _ _ _ _ _ _ _ T.Files T.n_rows_by_name (@pv _ 0 _ _ (by rfl) (by walk_at "o3") (by decide) (by decide)) (by rfl)) (@pv _ 1 _ _ (by rfl) (by walk_at "o3") (by decide) (by decide)) (fun _ _ => rfl)) (@pv _ 2 _ _ (by rfl) (by walk_at "o3") (by decide) (by decide)) set_list (by intro _; rfl)) (by rfl) (by rfl) (by rfl)))), ?_⟩
    refine seqK fun M1 K1 => ?_
    walk_at "ge"
    refine ⟨b, dx, d, es, z, p, rfl, fh, fun e he hz p0 p1 => ?_, fun e he hz hp => ?_, fun hz => ?_⟩
    · subst hz
      obtain ⟨j, rfl⟩ := Int.eq_ofNat_of_zero_le p0
      have hj : j < e.2.2.length := by omega
      have hjl : j < (rfs e.2.2).length := by rw [rfs_len]; exact hj
      have hkv := kvF_some nd he
      obtain ⟨as, bs, rfl, _⟩ := splitF nd he
      have c_r := hL.get (mC (mC (mA i_r)))
      walk_at "ge"
      refine K1.use ?_
      walk_at "cl"
      clear K1
      walk_at "ge"
      rename_i nr H2 _ hl2 _ _ _ _ _ _ _
      have c3 : H2 d = some (.dK (kvF (as ++ e :: bs))) := hl2.get (mC (mC mS))
      refine dgetS c3 hkv ?_
      walk_at "ge"
      have hl3 : Led H2 ((e.2.1, .lst (rfs e.2.2)) :: (b, .ins cI dx (fiFld d)) :: (d, .dK (kvF (as ++ e :: bs))) :: (filC as ++ (filC bs ++ ((nr, .lst (row.map V.int)) :: R)))) := hl2.wk (by unfold FiC; rw [filC_mid]; simp only [List.append_assoc, List.cons_append]; walk_at "sp")
      refine setLH (hl3.get mS) (ixN_of (by omega) (by omega)) ?_
      rw [Int.toNat_natCast, show (rfs e.2.2).set j (V.ref nr) = rfs (e.2.2.set j (nr, row)) by unfold rfs; rw [List.map_set]]
      have hl4 := hl3.put (o' := .lst (rfs (e.2.2.set j (nr, row)))) rfl rfl
      walk_at "ge"
      refine k1 as bs e rfl rfl j rfl hj nr _ (hl4.wk ?_)
      unfold FiC
      rw [filC_mid, ← kvF_mid as bs e (e.1, e.2.1, e.2.2.set j (nr, row)) rfl rfl]
      simp only [List.append_assoc, List.cons_append]
      walk_at "sp"
    · exact k2 e he hz hp
    · exact k3 hz
def spCellAt (K : PySem.W.Frag) : Sp := fun vs H Q _ => ∃ (a : Addr) (ns : List Int) (j : Int), vs = [.ref a, .int j] ∧ 0 ≤ j ∧ SqL K H a (ns.map V.int) ∧ Q (.int (ns.getD j.toNat 0)) H
theorem ok_cell_at (D : Def K mg "_law_cell_at" s_l_cell_at) (B : Blt mg) : FnD P w K mg base 1 "_law_cell_at" ["_law_script", "_law_k"] (spCellAt K) := by
  refine D.ok sc_l_cell_at (fun vs H Q E h => ?_) (fun _ _ _ _ _ _ us hl => match us, hl with | [_, _], _ => rfl) (fun f cdv A outer s H vs Q E hr h => ?_)
  · obtain ⟨_, _, _, rfl, _⟩ := h; rfl
  · obtain ⟨a, ns, j, rfl, hj0, hS, k⟩ := h
    obtain ⟨j, rfl⟩ := Int.eq_ofNat_of_zero_le hj0
    refine ⟨_, (@pss_cons _ _ _ _ _ (@ps_if _ _ _ _ _ _ _ _ (@pt_cmpR _ _ _ _ _ _ _ _ op_lt (@pv _ 1 _ _ (by rfl) (by walk_at "o3") (by decide) (by decide)) (@pe_callB _ _ _ _ _ _ _ _ _ (call_len_seqK (K := K) rfl) (by rfl) B.len bt_len (@pa_cons _ _ _ _ _ (@pv _ 0 _ _ (by rfl) (by walk_at "o3") (by decide) (by decide)) (@pa_nil _) (by rfl)) (by decide) (by decide) (by rfl) (by rfl)) (nomark _)) (@pss_one _ _ _ (@ps_ret _ _ _ _ (@pe_ix _ _ _ _ _ _ _ (ix_listK (K := K) rfl) (@pv _ 0 _ _ (by rfl) (by walk_at "o3") (by decide) (by decide)) (@pv _ 1 _ _ (by rfl) (by walk_at "o3") (by decide) (by decide)) (fun _ _ => rfl)))) (@pss_nil _)) (@pss_one _ _ _ (@ps_ret _ _ _ _ (@pe_int _ _ _ _)))), ?_⟩
    simp only [tSeq, tIfS, tTest, tOp, tVar, L2.start, List.map_cons, List.map_nil, List.length_cons, List.length_nil, Nat.zero_add, Nat.reduceAdd, Nat.reduceSub, List.replicate, List.append_nil, List.getElem?_cons_succ, List.getElem?_cons_zero, Option.some.injEq, tCB, tCons, tNil, List.cons.injEq, and_true, rI0, V.int.injEq, V.bl.injEq, tRet, rIxL, exists_and_left, exists_eq_left', V.ref.injEq, tNext, tC, decide_eq_true_eq]
    refine ⟨_, .inl hS, ?_⟩
    rw [List.length_map]
    rw [Int.toNat_natCast] at k
    refine ite2 (fun hlt => ?_) (fun hge => ?_)
    · refine ⟨_, hS, _, atI_nat (j := j) (v := V.int (ns.getD j 0)) ?_, k⟩
      have hj : j < ns.length := by omega
      simp [hj]
    · rw [List.getD_eq_getElem?_getD, List.getElem?_eq_none (by omega)] at k
      exact k
def spWhole : Sp := fun vs H Q _ => ∃ n : Int, vs = [.int n] ∧ Q (.bl true) H
theorem ok_whole (D : Def K mg "_law_whole" s_l_whole) (B : Blt mg) (T : Txt K mg cP cU cA cB c1 c2 c3 cC c4 c5 cT cF cD cS cI) : FnD P w K mg base 1 "_law_whole" ["_law_found"] spWhole := by
  refine D.ok sc_l_whole (fun vs H Q E h => ?_) (fun _ _ _ _ _ _ us hl => match us, hl with | [_], _ => rfl) (fun f cdv A outer s H vs Q E hr h => ?_)
  · obtain ⟨_, rfl, _⟩ := h; rfl
  · obtain ⟨n, rfl, k⟩ := h
    have sc := sc_l_whole
    refine ⟨_, (@pss_one _ _ _ (@ps_ret _ _ _ _ (@pe_and _ _ _ _ _ _ _ (@pe_callB _ _ _ _ _ _ _ _ _ call_isiN (by rfl) B.isinstance bt_isinstance (@pa_cons _ _ _ _ _ (@pv _ 0 _ _ (by rfl) (by walk_at "o3") (by decide) (by decide)) (@pa_cons _ _ _ _ _ (@pe_bltn _ _ (.ty "int") _ _ (by rfl) B.int bt_int rfl (by decide) (by decide)) (@pa_nil _) (by rfl)) (by rfl)) (by decide) (by decide) (by rfl) (by rfl)) (@pe_one _ _ _ _ _ (@pe_not _ _ _ _ (@pe_callB _ _ _ _ _ _ _ _ _ call_isiN (by rfl) B.isinstance bt_isinstance (@pa_cons _ _ _ _ _ (@pv _ 0 _ _ (by rfl) (by walk_at "o3") (by decide) (by decide)) (@pa_cons _ _ _ _ _ (@pe_bltn _ _ (.ty "bool") _ _ (by rfl) B.bool bt_bool rfl (by decide) (by decide)) (@pa_nil _) (by rfl)) (by rfl)) (by decide) (by decide) (by rfl) (by rfl))))))), ?_⟩
    walk_at "ge"
    exact k
def Flat2 (x y : V) : Prop := (x = .non ∧ y = .non) ∨ (∃ b, x = .bl b ∧ y = .bl b) ∨ (∃ n, x = .int n ∧ y = .int n) ∨ (∃ z, x = .str z ∧ y = .str z)
def Alike (H : Hp) : Nat → V → V → Prop
  | 0, x, y => Flat2 x y
  | k + 1, x, y => Flat2 x y ∨ ∃ a b xs ys, x = .ref a ∧ y = .ref b ∧ ((H a = some (.lst xs) ∧ H b = some (.lst ys)) ∨ (H a = some (.tup xs) ∧ H b = some (.tup ys))) ∧ xs.length = ys.length ∧ ys.length ≤ 100000 ∧ ∀ (i : Nat) x' y', xs[i]? = some x' → ys[i]? = some y' → Alike H k x' y'
def spAlike (k : Nat) : Sp := fun vs H Q _ => ∃ x y, vs = [x, y] ∧ Alike H k x y ∧ Q (.bl true) H
theorem alike_step (D : Def K mg "_law_alike" s_l_alike) (B : Blt mg) (T : Txt K mg cP cU cA cB c1 c2 c3 cC c4 c5 cT cF cD cS cI) {n : Nat} {sp0 : Sp} (G__law_whole : FnD P w K mg base 1 "_law_whole" ["_law_found"] spWhole) (G__law_alike : FnD P w K mg base (n + 1) "_law_alike" ["_law_found", "_law_due"] sp0) (k : Nat) (hrec : ∀ (H : Hp) (x y : V) (Q : VK) (j : Nat), k = j + 1 → Alike H j x y → Q (.bl true) H → sp0 [x, y] H Q E0) : FnD P w K mg base (n + 2) "_law_alike" ["_law_found", "_law_due"] (spAlike k) := by
  refine D.ok sc_l_alike (fun vs H Q E h => ?_) (fun _ _ _ _ _ _ us hl => match us, hl with | [_, _], _ => rfl) (fun f cdv A outer s H vs Q E hr h => ?_)
  · obtain ⟨_, _, rfl, _⟩ := h; rfl
  · obtain ⟨x, y, rfl, ha, kq⟩ := h
    have sc := sc_l_alike
    refine ⟨_, (@pss_cons _ _ _ _ _ (@ps_if _ _ _ _ _ _ _ _ (@pt_cmpR _ _ _ _ _ _ _ _ op_isN (@pv _ 1 _ _ (by rfl) (by walk_at "o3") (by decide) (by decide)) (@pe_non _ _ _) (nomark _)) (@pss_one _ _ _ (@ps_ret _ _ _ _ (@pe_cmpR _ _ _ _ _ _ _ _ op_isN (@pv _ 0 _ _ (by rfl) (by walk_at "o3") (by decide) (by decide)) (@pe_non _ _ _) (nomark _)))) (@pss_nil _)) (@pss_cons _ _ _ _ _ (@ps_if _ _ _ _ _ _ _ _ (@pt_val _ _ _ (@pe_callB _ _ _ _ _ _ _ _ _ call_isiN (by rfl) B.isinstance bt_isinstance (@pa_cons _ _ _ _ _ (@pv _ 1 _ _ (by rfl) (by walk_at "o3") (by decide) (by decide)) (@pa_cons _ _ _ _ _ (@pe_bltn _ _ (.ty "bool") _ _ (by rfl) B.bool bt_bool rfl (by decide) (by decide)) (@pa_nil _) (by rfl)) (by rfl)) (by decide) (by decide) (by rfl) (by rfl)) (by intro _; rfl)) (@pss_one _ _ _ (@ps_ret _ _ _ _ (@pe_and _ _ _ _ _ _ _ (@pe_callB _ _ _ _ _ _ _ _ _ call_isiN (by rfl) B.isinstance bt_isinstance (@pa_cons _ _ _ _ _ (@pv _ 0 _ _ (by rfl) (by walk_at "o3") (by decide) (by decide)) (@pa_cons _ _ _ _ _ (@pe_bltn _ _ (.ty "bool") _ _ (by rfl) B.bool bt_bool rfl (by decide) (by decide)) (@pa_nil _) (by rfl)) (by rfl)) (by decide) (by decide) (by rfl) (by rfl)) (@pe_one _ _ _ _ _ (@pe_cmpR _ _ _ _ _ _ _ _ op_eq (@pv _ 0 _ _ (by rfl) (by walk_at "o3") (by decide) (by decide)) (@pv _ 1 _ _ (by rfl) (by walk_at "o3") (by decide) (by decide)) (nomark _)))))) (@pss_nil _)) (@pss_cons _ _ _ _ _ (@ps_if _ _ _ _ _ _ _ _ (@pt_val _ _ _ (@pe_callB _ _ _ _ _ _ _ _ _ call_isiN (by rfl) B.isinstance bt_isinstance (@pa_cons _ _ _ _ _ (@pv _ 1 _ _ (by rfl) (by walk_at "o3") (by decide) (by decide)) (@pa_cons _ _ _ _ _ (@pe_bltn _ _ (.ty "int") _ _ (by rfl) B.int bt_int rfl (by decide) (by decide)) (@pa_nil _) (by rfl)) (by rfl)) (by decide) (by decide) (by rfl) (by rfl)) (by intro _; rfl)) (@pss_one _ _ _ (@ps_ret _ _ _ _ (@pe_and _ _ _ _ _ _ _ (@pe_callD _ _ _ _ _ _ _ _ _ _ _ G__law_whole (hr.mono (by omega)) (by rfl) passR0 (@pa_cons _ _ _ _ _ (@pv _ 0 _ _ (by rfl) (by walk_at "o3") (by decide) (by decide)) (@pa_nil _) (by rfl)) (by decide) (by rfl) (by rfl)) (@pe_one _ _ _ _ _ (@pe_cmpR _ _ _ _ _ _ _ _ op_eq (@pv _ 0 _ _ (by rfl) (by walk_at "o3") (by decide) (by decide)) (@pv _ 1 _ _ (by rfl) (by walk_at "o3") (by decide) (by decide)) (nomark _)))))) (@pss_nil _)) (@pss_cons _ _ _ _ _ (@ps_if _ _ _ _ _ _ _ _ (@pt_val _ _ _ (@pe_callB _ _ _ _ _ _ _ _ _ call_isiN (by rfl) B.isinstance bt_isinstance (@pa_cons _ _ _ _ _ (@pv _ 1 _ _ (by rfl) (by walk_at "o3") (by decide) (by decide)) (@pa_cons _ _ _ _ _ (@pe_bltn _ _ (.ty "str") _ _ (by rfl) B.str bt_str rfl (by decide) (by decide)) (@pa_nil _) (by rfl)) (by rfl)) (by decide) (by decide) (by rfl) (by rfl)) (by intro _; rfl)) (@pss_one _ _ _ (@ps_ret _ _ _ _ (@pe_and _ _ _ _ _ _ _ (@pe_callB _ _ _ _ _ _ _ _ _ call_isiN (by rfl) B.isinstance bt_isinstance (@pa_cons _ _ _ _ _ (@pv _ 0 _ _ (by rfl) (by walk_at "o3") (by decide) (by decide)) (@pa_cons _ _ _ _ _ (@pe_bltn _ _ (.ty "str") _ _ (by rfl) B.str bt_str rfl (by decide) (by decide)) (@pa_nil _) (by rfl)) (by rfl)) (by decide) (by decide) (by rfl) (by rfl)) (@pe_one _ _ _ _ _ (@pe_cmpR _ _ _ _ _ _ _ _ op_eq (@pv _ 0 _ _ (by rfl) (by walk_at "o3") (by decide) (by decide)) (@pv _ 1 _ _ (by rfl) (by walk_at "o3") (by decide) (by decide)) (nomark _)))))) (@pss_nil _)) (@pss_cons _ _ _ _ _ (@ps_if _ _ _ _ _ _ _ _ (@pt_val _ _ _ (@pe_callB _ _ _ _ _ _ _ _ _ call_isiN (by rfl) B.isinstance bt_isinstance (@pa_cons _ _ _ _ _ (@pv _ 1 _ _ (by rfl) (by walk_at "o3") (by decide) (by decide)) (@pa_cons _ _ _ _ _ (@pe_bltn _ _ (.ty "tuple") _ _ (by rfl) B.tuple bt_tuple rfl (by decide) (by decide)) (@pa_nil _) (by rfl)) (by rfl)) (by decide) (by decide) (by rfl) (by rfl)) (by intro _; rfl)) (@pss_one _ _ _ (@ps_if _ _ _ _ _ _ _ _ (@pt_not _ _ _ _ (@pt_val _ _ _ (@pe_callB _ _ _ _ _ _ _ _ _ call_isiN (by rfl) B.isinstance bt_isinstance (@pa_cons _ _ _ _ _ (@pv _ 0 _ _ (by rfl) (by walk_at "o3") (by decide) (by decide)) (@pa_cons _ _ _ _ _ (@pe_bltn _ _ (.ty "tuple") _ _ (by rfl) B.tuple bt_tuple rfl (by decide) (by decide)) (@pa_nil _) (by rfl)) (by rfl)) (by decide) (by decide) (by rfl) (by rfl)) (by intro _; rfl))) (@pss_one _ _ _ (@ps_ret _ _ _ _ (@pe_bl _ _ _ _))) (@pss_nil _))) (@pss_one _ _ _ (@ps_if _ _ _ _ _ _ _ _ (@pt_not _ _ _ _ (@pt_val _ _ _ (@pe_callB _ _ _ _ _ _ _ _ _ call_isiN (by rfl) B.isinstance bt_isinstance (@pa_cons _ _ _ _ _ (@pv _ 0 _ _ (by rfl) (by walk_at "o3") (by decide) (by decide)) (@pa_cons _ _ _ _ _ (@pe_bltn _ _ (.ty "list") _ _ (by rfl) B.list bt_list rfl (by decide) (by decide)) (@pa_nil _) (by rfl)) (by rfl)) (by decide) (by decide) (by rfl) (by rfl)) (by intro _; rfl))) (@pss_one _ _ _ (@ps_ret _ _ _ _ (@pe_bl _ _ _ _))) (@pss_nil _)))) (@pss_cons _ _ _ _ _ (@ps_if _ _ _ _ _ _ _ _ (@pt_cmpR _ _ _ _ _ _ _ _ op_ne (@pe_callB _ _ _ _ _ _ _ _ _ call_lenA (by rfl) B.len bt_len (@pa_cons _ _ _ _ _ (@pv _ 0 _ _ (by rfl) (by walk_at "o3") (by decide) (by decide)) (@pa_nil _) (by rfl)) (by decide) (by decide) (by rfl) (by rfl)) (@pe_callB _ _ _ _ _ _ _ _ _ call_lenA (by rfl) B.len bt_len (@pa_cons _ _ _ _ _ (@pv _ 1 _ _ (by rfl) (by walk_at "o3") (by decide) (by decide)) (@pa_nil _) (by rfl)) (by decide) (by decide) (by rfl) (by rfl)) (nomark _)) (@pss_one _ _ _ (@ps_ret _ _ _ _ (@pe_bl _ _ _ _))) (@pss_nil _)) (@pss_cons _ _ _ _ _ (@ps_for _ _ _ _ _ _ _ _ PassesOwn.never rfl (@pi_range1 _ _ _ _ _ _ (by rfl) B.range (@pa_cons _ _ _ _ _ (@pe_callB _ _ _ _ _ _ _ _ _ call_lenA (by rfl) B.len bt_len (@pa_cons _ _ _ _ _ (@pv _ 1 _ _ (by rfl) (by walk_at "o3") (by decide) (by decide)) (@pa_nil _) (by rfl)) (by decide) (by decide) (by rfl) (by rfl)) (@pa_nil _) (by rfl)) (by rfl)) (@pg_name _ _ 2 _ sc.nd rfl (by walk_at "o2") (by first | exact .inl rfl | exact .inr rfl | assumption)) (@pss_one _ _ _ (@ps_if _ _ _ _ _ _ _ _ (@pt_not _ _ _ _ (@pt_val _ _ _ (@pe_callD _ _ _ _ _ _ _ _ _ _ _ G__law_alike (hr.mono (by omega)) (by rfl) passR0 (@pa_cons _ _ _ _ _ (@pe_ix _ _ _ _ _ _ _ ix_any (@pv _ 0 _ _ (by rfl) (by walk_at "o3") (by decide) (by decide)) (@pv _ 2 _ _ (by rfl) (by walk_at "o3") (by decide) (by decide)) (fun _ _ => rfl)) (@pa_cons _ _ _ _ _ (@pe_ix _ _ _ _ _ _ _ ix_any (@pv _ 1 _ _ (by rfl) (by walk_at "o3") (by decide) (by decide)) (@pv _ 2 _ _ (by rfl) (by walk_at "o3") (by decide) (by decide)) (fun _ _ => rfl)) (@pa_nil _) (by rfl)) (by rfl)) (by decide) (by rfl) (by rfl)) (by intro _; rfl))) (@pss_one _ _ _ (@ps_ret _ _ _ _ (@pe_bl _ _ _ _))) (@pss_nil _))) (by intro _; rfl)) (@pss_one _ _ _ (@ps_ret _ _ _ _ (@pe_bl _ _ _ _)))))))))), ?_⟩
    have ha2 : Flat2 x y ∨ ∃ a b xs ys j, k = j + 1 ∧ x = .ref a ∧ y = .ref b ∧ ((H a = some (.lst xs) ∧ H b = some (.lst ys)) ∨ (H a = some (.tup xs) ∧ H b = some (.tup ys))) ∧ xs.length = ys.length ∧ ys.length ≤ 100000 ∧ ∀ (i : Nat) x' y', xs[i]? = some x' → ys[i]? = some y' → Alike H j x' y' := by
      cases k with
      | zero => exact .inl ha
      | succ j =>
        rcases ha with h | ⟨a, b, xs, ys, h1, h2, h3, h4, h5, h6⟩
        · exact .inl h
        · exact .inr ⟨a, b, xs, ys, j, rfl, h1, h2, h3, h4, h5, h6⟩
    clear ha
    rcases ha2 with (⟨rfl, rfl⟩ | ⟨c, rfl, rfl⟩ | ⟨m, rfl, rfl⟩ | ⟨z, rfl, rfl⟩) | ⟨a, b, xs, ys, j, hk, rfl, rfl, hh, hxy, hyl, hin⟩
    · walk_at "ge"
      all_goals first | exact kq | (exfalso; simp_all; done)
    · walk_at "ge"
      all_goals first | (exfalso; simp_all; done) | skip
      rw [decide_eq_true rfl]
      exact kq
    · walk_at "ge"
      all_goals first | (exfalso; simp_all; done) | skip
      refine ⟨m, rfl, ?_⟩
      walk_at "ge"
      rw [decide_eq_true rfl]
      exact kq
    · walk_at "ge"
      all_goals first | (exfalso; simp_all; done) | skip
      rw [decide_eq_true rfl]
      exact kq
    · have fin : ∀ (Lx : Hp → Prop), True := fun _ => True.intro
      rcases hh with ⟨c1, c2⟩ | ⟨c1, c2⟩
      · refine seqK fun M1 K1 => ?_
        walk_at "ge"
        all_goals first | (exfalso; simp_all; done) | skip
        refine K1.use ?_
        walk_at "cl"
        clear K1
        refine seqK fun M1 K1 => ?_
        walk_at "ge"
        refine K1.use ?_
        walk_at "cl"
        clear K1
        refine seqK fun M1 K1 => ?_
        walk_at "ge"
        refine K1.use ?_
        walk_at "cl"
        clear K1
        refine seqK fun M1 K1 => ?_
        walk_at "ge"
        refine K1.use ?_
        walk_at "cl"
        clear K1
        refine seqK fun M1 K1 => ?_
        walk_at "ge"
        refine K1.use ?_
        walk_at "cl"
        clear K1
        refine seqK fun M1 K1 => ?_
        walk_at "ge"
        all_goals first | (exfalso; omega) | skip
        refine K1.use ?_
        walk_at "cl"
        clear K1
        refine seqK fun M1 K1 => ?_
        refine forR1 fun Lr hLr => ?_
        walk_at "ge"
        refine ⟨_, rfl, by omega, by omega, hLr.use ?_⟩
        clear hLr
        rw [show ((ys.length : Int)).toNat = ys.length by omega]
        refine loopR (fun i σ H' => H' = H ∧ ∃ v1, σ = [some (.ref a), some (.ref b), v1]) ⟨rfl, _, rfl⟩ ?_ ?_
        · rintro i σ H' hi ⟨rfl, v1, rfl⟩
          have a1 : atI xs (0 + (i : Int)) = some xs[i] := atI_of (by omega) (by rw [show (0 + (i : Int)).toNat = i by omega]; exact List.getElem?_eq_getElem (by omega))
          have a2 : atI ys (0 + (i : Int)) = some ys[i] := atI_of (by omega) (by rw [show (0 + (i : Int)).toNat = i by omega]; exact List.getElem?_eq_getElem (by omega))
          walk_at "ge"
          refine hrec _ _ _ _ j hk (hin i _ _ (List.getElem?_eq_getElem (by omega)) (List.getElem?_eq_getElem (by omega))) ?_
          walk_at "ge"
          exact ⟨rfl, _, rfl⟩
        · rintro σ H' ⟨rfl, v1, rfl⟩
          walk_at "ge"
          refine K1.use ?_
          walk_at "ge"
          exact kq
      · refine seqK fun M1 K1 => ?_
        walk_at "ge"
        all_goals first | (exfalso; simp_all; done) | skip
        refine K1.use ?_
        walk_at "cl"
        clear K1
        refine seqK fun M1 K1 => ?_
        walk_at "ge"
        refine K1.use ?_
        walk_at "cl"
        clear K1
        refine seqK fun M1 K1 => ?_
        walk_at "ge"
        refine K1.use ?_
        walk_at "cl"
        clear K1
        refine seqK fun M1 K1 => ?_
        walk_at "ge"
        refine K1.use ?_
        walk_at "cl"
        clear K1
        refine seqK fun M1 K1 => ?_
        walk_at "ge"
        refine K1.use ?_
        walk_at "cl"
        clear K1
        refine seqK fun M1 K1 => ?_
        walk_at "ge"
        all_goals first | (exfalso; omega) | skip
        refine K1.use ?_
        walk_at "cl"
        clear K1
        refine seqK fun M1 K1 => ?_
        refine forR1 fun Lr hLr => ?_
        walk_at "ge"
        refine ⟨_, rfl, by omega, by omega, hLr.use ?_⟩
        clear hLr
        rw [show ((ys.length : Int)).toNat = ys.length by omega]
        refine loopR (fun i σ H' => H' = H ∧ ∃ v1, σ = [some (.ref a), some (.ref b), v1]) ⟨rfl, _, rfl⟩ ?_ ?_
        · rintro i σ H' hi ⟨rfl, v1, rfl⟩
          have a1 : atI xs (0 + (i : Int)) = some xs[i] := atI_of (by omega) (by rw [show (0 + (i : Int)).toNat = i by omega]; exact List.getElem?_eq_getElem (by omega))
          have a2 : atI ys (0 + (i : Int)) = some ys[i] := atI_of (by omega) (by rw [show (0 + (i : Int)).toNat = i by omega]; exact List.getElem?_eq_getElem (by omega))
          walk_at "ge"
          refine hrec _ _ _ _ j hk (hin i _ _ (List.getElem?_eq_getElem (by omega)) (List.getElem?_eq_getElem (by omega))) ?_
          walk_at "ge"
          exact ⟨rfl, _, rfl⟩
        · rintro σ H' ⟨rfl, v1, rfl⟩
          walk_at "ge"
          refine K1.use ?_
          walk_at "ge"
          exact kq
theorem alike_never (D : Def K mg "_law_alike" s_l_alike) : FnD P w K mg base 1 "_law_alike" ["_law_found", "_law_due"] (fun _ _ _ _ => False) :=
  D.ok sc_l_alike (fun vs H Q E h => h.elim) (fun _ _ _ _ _ _ us hl => match us, hl with | [_, _], _ => rfl) (fun f cdv A outer s H vs Q E hr h => h.elim)
theorem ok_alike (D : Def K mg "_law_alike" s_l_alike) (B : Blt mg) (T : Txt K mg cP cU cA cB c1 c2 c3 cC c4 c5 cT cF cD cS cI) (G__law_whole : FnD P w K mg base 1 "_law_whole" ["_law_found"] spWhole) : ∀ k : Nat, FnD P w K mg base (k + 2) "_law_alike" ["_law_found", "_law_due"] (spAlike k)
  | 0 => alike_step D B T G__law_whole (alike_never D) 0 fun _ _ _ _ j h => nomatch h
  | k + 1 => alike_step D B T G__law_whole (ok_alike D B T G__law_whole k) (k + 1) fun H x y Q j h ha hq => by
      cases h
      exact ⟨x, y, rfl, ha, hq⟩
def mulK (j : Int) : Int := if j % 4 = 0 then 48271 else if j % 4 = 1 then 10 ^ 20 + 39 else if j % 4 = 2 then 10 ^ 40 + 121 else 10 ^ 59 + 7
def bigOf (c j : Int) : Int := c * mulK j + 7919 * j * j
def wayOf (c j : Int) : Int := (c + 5 * j) * 69621 % 15101 % 6
def numAt (big wy : Int) : Int := match atI [V.int (big % 9), .int (big % (999999999999999999999999999999999999999999999999999999999999 + 1)), .int (-(big % (999999999999999999999999999999999999999999999999999999999999 + 1))), .int (999999999999999999999999999999999999999999999999999999999999 - big % 2), .int (big % 2 - 999999999999999999999999999999999999999999999999999999999999), .int (-1 - big % 7)] wy with | some (.int z) => z | _ => 0
def numOf (c j : Int) : Int := numAt (bigOf c j) (wayOf c j)
def rowOf (c : Int) : List Int := (List.range 4).map fun k : Nat => numOf (c + 31 * (k : Int)) (k : Int)
theorem rowOf_len (c : Int) : (rowOf c).length = 4 := by unfold rowOf; rw [List.length_map, List.length_range]
def spNum : Sp := fun vs H Q _ => ∃ (c k : Int) (L : Cells), vs = [.int c, .int k] ∧ Builtin.Int.intBits c ≤ 1500000 ∧ 0 ≤ k ∧ k ≤ 1000 ∧ Led H L ∧ ∀ (H' : Hp), Led H' L → Q (.int (numOf c k)) H'
theorem ok_num (D : Def K mg "_law_num" s_l_num) (T : Txt K mg cP cU cA cB c1 c2 c3 cC c4 c5 cT cF cD cS cI) : FnD P w K mg base 1 "_law_num" ["_law_cell", "_law_k"] spNum := by
  have sc := sc_l_num
  refine D.ok sc_l_num (fun vs H Q E h => ?_) (fun _ _ _ _ _ _ us hl => match us, hl with | [_, _], _ => rfl) (fun f cdv A outer s H vs Q E hr h => ?_)
  · obtain ⟨_, _, _, rfl, _⟩ := h; rfl
  · obtain ⟨c, j, L, rfl, hb, j0, j1, hL, k⟩ := h
    refine ⟨_, (@pss_cons _ _ _ _ _ (@ps_set _ _ 2 _ _ _ _ sc.nd rfl (by walk_at "o2") (@pe_op _ _ _ _ _ _ _ _ op_sub (@pe_op _ _ _ _ _ _ _ _ op_pow (@pe_int _ _ _ _) (@pe_int _ _ _ _)) (@pe_int _ _ _ _)) (by rfl) (by first | exact .inl rfl | exact .inr rfl | assumption)) (@pss_cons _ _ _ _ _ (@ps_set _ _ 3 _ _ _ _ sc.nd rfl (by walk_at "o2") (@pe_op _ _ _ _ _ _ _ _ op_add (@pe_op _ _ _ _ _ _ _ _ op_mulB (@pv _ 0 _ _ (by rfl) (by walk_at "o3") (by decide) (by decide)) (@pe_ix _ _ _ _ _ _ _ ix_any (@pe_lst _ _ _ _ (@pa_cons _ _ _ _ _ (@pe_int _ _ _ _) (@pa_cons _ _ _ _ _ (@pe_op _ _ _ _ _ _ _ _ op_add (@pe_op _ _ _ _ _ _ _ _ op_pow (@pe_int _ _ _ _) (@pe_int _ _ _ _)) (@pe_int _ _ _ _)) (@pa_cons _ _ _ _ _ (@pe_op _ _ _ _ _ _ _ _ op_add (@pe_op _ _ _ _ _ _ _ _ op_pow (@pe_int _ _ _ _) (@pe_int _ _ _ _)) (@pe_int _ _ _ _)) (@pa_cons _ _ _ _ _ (@pe_op _ _ _ _ _ _ _ _ op_add (@pe_op _ _ _ _ _ _ _ _ op_pow (@pe_int _ _ _ _) (@pe_int _ _ _ _)) (@pe_int _ _ _ _)) (@pa_nil _) (by rfl)) (by rfl)) (by rfl)) (by rfl))) (@pe_op _ _ _ _ _ _ _ _ op_mod (@pv _ 1 _ _ (by rfl) (by walk_at "o3") (by decide) (by decide)) (@pe_int _ _ _ _)) (fun _ _ => rfl))) (@pe_op _ _ _ _ _ _ _ _ op_mul (@pe_op _ _ _ _ _ _ _ _ op_mul (@pe_int _ _ _ _) (@pv _ 1 _ _ (by rfl) (by walk_at "o3") (by decide) (by decide))) (@pv _ 1 _ _ (by rfl) (by walk_at "o3") (by decide) (by decide)))) (by rfl) (by first | exact .inl rfl | exact .inr rfl | assumption)) (@pss_cons _ _ _ _ _ (@ps_set _ _ 4 _ _ _ _ sc.nd rfl (by walk_at "o2") (@pe_op _ _ _ _ _ _ _ _ op_mod (@pe_op _ _ _ _ _ _ _ _ op_mod (@pe_op _ _ _ _ _ _ _ _ op_mulB (@pe_op _ _ _ _ _ _ _ _ op_add (@pv _ 0 _ _ (by rfl) (by walk_at "o3") (by decide) (by decide)) (@pe_op _ _ _ _ _ _ _ _ op_mul (@pe_int _ _ _ _) (@pv _ 1 _ _ (by rfl) (by walk_at "o3") (by decide) (by decide)))) (@pe_int _ _ _ _)) (@pe_int _ _ _ _)) (@pe_int _ _ _ _)) (by rfl) (by first | exact .inl rfl | exact .inr rfl | assumption)) (@pss_one _ _ _ (@ps_ret _ _ _ _ (@pe_ix _ _ _ _ _ _ _ ix_any (@pe_lst _ _ _ _ (@pa_cons _ _ _ _ _ (@pe_op _ _ _ _ _ _ _ _ op_mod (@pv _ 3 _ _ (by rfl) (by walk_at "o3") (by decide) (by decide)) (@pe_int _ _ _ _)) (@pa_cons _ _ _ _ _ (@pe_op _ _ _ _ _ _ _ _ op_mod (@pv _ 3 _ _ (by rfl) (by walk_at "o3") (by decide) (by decide)) (@pe_op _ _ _ _ _ _ _ _ op_add (@pv _ 2 _ _ (by rfl) (by walk_at "o3") (by decide) (by decide)) (@pe_int _ _ _ _))) (@pa_cons _ _ _ _ _ (@pe_un _ _ _ _ _ _ un_neg (@pe_op _ _ _ _ _ _ _ _ op_mod (@pv _ 3 _ _ (by rfl) (by walk_at "o3") (by decide) (by decide)) (@pe_op _ _ _ _ _ _ _ _ op_add (@pv _ 2 _ _ (by rfl) (by walk_at "o3") (by decide) (by decide)) (@pe_int _ _ _ _)))) (@pa_cons _ _ _ _ _ (@pe_op _ _ _ _ _ _ _ _ op_sub (@pv _ 2 _ _ (by rfl) (by walk_at "o3") (by decide) (by decide)) (@pe_op _ _ _ _ _ _ _ _ op_mod (@pv _ 3 _ _ (by rfl) (by walk_at "o3") (by decide) (by decide)) (@pe_int _ _ _ _))) (@pa_cons _ _ _ _ _ (@pe_op _ _ _ _ _ _ _ _ op_sub (@pe_op _ _ _ _ _ _ _ _ op_mod (@pv _ 3 _ _ (by rfl) (by walk_at "o3") (by decide) (by decide)) (@pe_int _ _ _ _)) (@pv _ 2 _ _ (by rfl) (by walk_at "o3") (by decide) (by decide))) (@pa_cons _ _ _ _ _ (@pe_op _ _ _ _ _ _ _ _ op_sub (@pe_un _ _ _ _ _ _ un_neg (@pe_int _ _ _ _)) (@pe_op _ _ _ _ _ _ _ _ op_mod (@pv _ 3 _ _ (by rfl) (by walk_at "o3") (by decide) (by decide)) (@pe_int _ _ _ _))) (@pa_nil _) (by rfl)) (by rfl)) (by rfl)) (by rfl)) (by rfl)) (by rfl))) (@pv _ 4 _ _ (by rfl) (by walk_at "o3") (by decide) (by decide)) (fun _ _ => rfl))))))), ?_⟩
    refine seqK fun M1 K1 => ?_
    walk_at "ge"
    refine K1.use ?_
    walk_at "cl"
    clear K1
    refine seqK fun M1 K1 => ?_
    have rest : ∀ (big : Int) (H' : Hp), big = bigOf c j → Led H' L → M1 [some (.int c), some (.int j), some (.int 999999999999999999999999999999999999999999999999999999999999), some (.int big), none] H' := by
      intro big H' ebig hl'
      refine K1.use ?_
      clear K1 hL
      refine seqK fun M1 K1 => ?_
      walk_at "ge"
      obtain ⟨wy, hwy⟩ : ∃ z : Int, (c + 5 * j) * 69621 % 15101 % 6 = z := ⟨_, rfl⟩
      have w0 : 0 ≤ wy := by rw [← hwy]; exact Int.emod_nonneg _ (by decide)
      have w5 : wy ≤ 5 := by have := Int.emod_lt_of_pos ((c + 5 * j) * 69621 % 15101) (show (0 : Int) < 6 by decide); omega
      rw [hwy]
      refine K1.use ?_
      walk_at "cl"
      clear K1
      walk_at "ge"
      obtain ⟨z, hz⟩ := at6i (a0 := big % 9) (a1 := big % (999999999999999999999999999999999999999999999999999999999999 + 1)) (a2 := -(big % (999999999999999999999999999999999999999999999999999999999999 + 1))) (a3 := 999999999999999999999999999999999999999999999999999999999999 - big % 2) (a4 := big % 2 - 999999999999999999999999999999999999999999999999999999999999) (a5 := -1 - big % 7) w0 w5
      have ez : numOf c j = z := by unfold numOf wayOf; rw [← ebig, hwy]; unfold numAt; rw [hz]
      refine ixLH (by walk_at "cell") hz ?_
      walk_at "ge"
      rw [← ez]
      exact k _ (Led.tail (by assumption))
    clear K1
    have h4 : j % 4 = 0 ∨ j % 4 = 1 ∨ j % 4 = 2 ∨ j % 4 = 3 := by omega
    walk_at "ge"
    rcases h4 with h4 | h4 | h4 | h4 <;> rw [h4] <;> walk_at "ge" <;> first | exact rest _ _ (by unfold bigOf mulK; rw [h4]; rfl) (Led.tail (by assumption)) | (refine iH (mul_ok (Nat.le_trans hb (by decide)) (by decide)) ?_; walk_at "ge"; exact rest _ _ (by unfold bigOf mulK; rw [h4]; rfl) (Led.tail (by assumption)))
def spRow : Sp := fun vs H Q _ => ∃ (c : Int) (L : Cells), vs = [.int c] ∧ Builtin.Int.intBits c ≤ 1400000 ∧ Led H L ∧ ∀ (r : Addr) (H' : Hp), Led H' ((r, .lst ((rowOf c).map V.int)) :: L) → Q (.ref r) H'
theorem ok_row (D : Def K mg "_law_row" s_l_row) (B : Blt mg) (T : Txt K mg cP cU cA cB c1 c2 c3 cC c4 c5 cT cF cD cS cI) (G__law_num : FnD P w K mg base 1 "_law_num" ["_law_cell", "_law_k"] spNum) : FnD P w K mg base 2 "_law_row" ["_law_cell"] spRow := by
  have sc := sc_l_row
  refine D.ok sc_l_row (fun vs H Q E h => ?_) (fun _ _ _ _ _ _ us hl => match us, hl with | [_], _ => rfl) (fun f cdv A outer s H vs Q E hr h => ?_)
  · obtain ⟨_, _, rfl, _⟩ := h; rfl
  · obtain ⟨c, L, rfl, hb, hL, k⟩ := h
    refine ⟨_, (@pss_one _ _ _ (@ps_ret _ _ _ _ (@pe_comp _ _ "_law_k" _ _ _ _ _ _ _ _ _ rfl rfl rfl rfl noH (compSc_of (by kernel_rfl)) (@pi_range1 _ _ _ _ _ _ (by rfl) B.range (@pa_cons _ _ _ _ _ (@pe_int _ _ _ _) (@pa_nil _) (by rfl)) (by rfl)) (fun _ _ _ _ => (@pts_nil _)) (fun _ _ _ _ => (@pe_callD _ _ _ _ _ _ _ _ _ _ _ G__law_num (hr.mono (by omega)) (by rfl) passR0 (@pa_cons _ _ _ _ _ (@pe_op _ _ _ _ _ _ _ _ op_add (@pk _ 1 _ _ (by kernel_rfl) (by kernel_rfl) (by decide) (by decide)) (@pe_op _ _ _ _ _ _ _ _ op_mul (@pe_int _ _ _ _) (@pk _ 0 _ _ (by kernel_rfl) (by kernel_rfl) (by decide) (by decide)))) (@pa_cons _ _ _ _ _ (@pk _ 0 _ _ (by kernel_rfl) (by kernel_rfl) (by decide) (by decide)) (@pa_nil _) (by rfl)) (by rfl)) (by decide) (by rfl) (by rfl))) (by intro _; rfl)))), ?_⟩
    walk_at "ge"
    refine compR1 fun Lc hLc => ?_
    walk_at "ge"
    refine ⟨_, rfl, by omega, by omega, hLc.use ?_⟩
    clear hLc
    refine compRangeL (fun i v => v = V.int (numOf (c + 31 * (i : Int)) (i : Int))) hL (by decide) (fun i H2 R q hi hl2 hR => ?_) (fun p acc H2 hlen hacc hl2 => ?_)
    · have hi4 : i < 4 := hi
      walk_at "ge"
      refine ⟨_, _, _, rfl, Nat.le_trans (bits_add hb (by omega) (by omega) (by decide)) (by decide), by omega, by omega, hl2, fun H3 hl3 => ?_⟩
      walk_at "ge"
      exact hR _ _ (by rw [show (0 : Int) + (i : Int) = (i : Int) by omega]) hl3
    · have e : acc = (rowOf c).map V.int := by
        refine List.ext_getElem? fun i => ?_
        by_cases hi : i < 4
        · have hl : i < acc.length := by rw [hlen]; exact hi
          rw [List.getElem?_eq_getElem hl, hacc i _ (List.getElem?_eq_getElem hl)]
          rw [List.getElem?_map, rowOf, List.getElem?_map, List.getElem?_range hi]
          rfl
        · rw [List.getElem?_eq_none (by rw [hlen]; exact Nat.le_of_not_lt hi), List.getElem?_eq_none (by rw [List.length_map, rowOf_len]; exact Nat.le_of_not_lt hi)]
      subst e
      walk_at "ge"
      exact k p _ hl2
end
section
variable {P : Program} {w : World} {K : PySem.W.Frag} {mg : Str → Option Value} {base : Heap} {cP cU cA cB c1 c2 c3 cC c4 c5 cT cF cD cS cI : Addr}
theorem Led.perm {H : Hp} {L L' : Cells} (h : Led H L) (p : L.Perm L') : Led H L' := ⟨fun c hc => h.at_ c (p.mem_iff.mpr hc), ((p.filter _).map _).nodup_iff.mp h.nd⟩
structure SS where
  b : Addr
  dx : Addr
  F : FS
  d : Addr
  ddx : Addr
  dm : Addr
  p : Nat
  bs : List Bool
  sb : Addr
  sdx : Addr
  sl : Addr
  sd : Addr
  ps : List V
  es : Ents
  ib : Addr
  ix : Addr
  im : Addr
  fs : FEnts
  ho : Addr
  hs : List (Int × Int)
  made : Int
def stF (S : SS) : List (Str × V) := [("frames", .ref S.F.b), ("dial", .ref S.d), ("shelf", .ref S.sb), ("files", .ref S.ib), ("holders", .ref S.ho), ("sheets_made", .int S.made)]
def kvH (hs : List (Int × Int)) : List (Key × V) := hs.map fun e => (Sum.inl e.1, V.int e.2)
def stO (cT : Addr) (S : SS) : Cells := [(S.b, .ins cT S.dx (stF S)), (S.ho, .dK (kvH S.hs))]
def frB (cF : Addr) (F : FS) : Cells := [(F.b, .ins cF F.dx (frF F.hl F.rl F.sl)), (F.hl, .lst (F.hs.map heldV)), (F.rl, .lst (F.rs.map rowV)), (F.sl, .lst (F.bs.map V.bl))]
abbrev diB (cD : Addr) (S : SS) : Cells := DialC cD S.d S.ddx S.dm S.p S.bs
abbrev shB (cS : Addr) (S : SS) : Cells := ShC cS S.sb S.sdx S.sl S.sd S.ps S.es
def fiB (cI : Addr) (S : SS) : Cells := (S.ib, .ins cI S.ix (fiFld S.im)) :: (S.im, .dK (kvF S.fs)) :: filC S.fs
def StC (cT cF cD cS cI : Addr) (S : SS) (M : Cells) : Cells := stO cT S ++ (frB cF S.F ++ (diB cD S ++ (shB cS S ++ (fiB cI S ++ M))))
section
variable {H : Hp} {S : SS} {M N : Cells}
def rF (cT cD cS cI : Addr) (S : SS) (M : Cells) : Cells := stO cT S ++ (diB cD S ++ (shB cS S ++ (fiB cI S ++ M)))
def rD (cT cF cS cI : Addr) (S : SS) (M : Cells) : Cells := stO cT S ++ (frB cF S.F ++ (shB cS S ++ (fiB cI S ++ M)))
def rS (cT cF cD cI : Addr) (S : SS) (M : Cells) : Cells := stO cT S ++ (frB cF S.F ++ (diB cD S ++ (fiB cI S ++ M)))
def rI (cT cF cD cS : Addr) (S : SS) (M : Cells) : Cells := stO cT S ++ (frB cF S.F ++ (diB cD S ++ (shB cS S ++ M)))
theorem swap2 {α : Type} (a b m : List α) : (a ++ (b ++ m)).Perm (b ++ (a ++ m)) := by
  rw [← List.append_assoc, ← List.append_assoc]
  exact List.Perm.append_right _ List.perm_append_comm
theorem St.toF (h : Led H (StC cT cF cD cS cI S M)) : Led H (FrC cF S.F (rF cT cD cS cI S M)) := Led.perm h (swap2 _ _ _)
theorem St.toD (h : Led H (StC cT cF cD cS cI S M)) : Led H (DialC cD S.d S.ddx S.dm S.p S.bs ++ rD cT cF cS cI S M) := Led.perm h ((List.Perm.append_left _ (swap2 _ _ _)).trans (swap2 _ _ _))
theorem St.toS (h : Led H (StC cT cF cD cS cI S M)) : Led H (ShC cS S.sb S.sdx S.sl S.sd S.ps S.es ++ rS cT cF cD cI S M) := Led.perm h ((List.Perm.append_left _ ((List.Perm.append_left _ (swap2 _ _ _)).trans (swap2 _ _ _))).trans (swap2 _ _ _))
theorem St.toI (h : Led H (StC cT cF cD cS cI S M)) : Led H (FiC cI S.ib S.ix S.im S.fs (rI cT cF cD cS S M)) := by
  have h1 : Led H (fiB cI S ++ rI cT cF cD cS S M) := Led.perm h ((List.Perm.append_left _ ((List.Perm.append_left _ ((List.Perm.append_left _ (swap2 _ _ _)).trans (swap2 _ _ _))).trans (swap2 _ _ _))).trans (swap2 _ _ _))
  exact h1
theorem St.ofF {F' : FS} (e : F'.b = S.F.b) (h : Led H (FrC cF F' (N ++ rF cT cD cS cI S M))) : Led H (StC cT cF cD cS cI { S with F := F' } (N ++ M)) := by
  have h1 : Led H (frB cF F' ++ (N ++ (stO cT S ++ (diB cD S ++ (shB cS S ++ (fiB cI S ++ M)))))) := h
  have e2 : stO cT S = stO cT { S with F := F' } := by unfold stO stF; rw [← e]
  rw [e2] at h1
  exact Led.perm h1 ((List.Perm.append_left _ ((swap2 _ _ _).trans (List.Perm.append_left _ ((swap2 _ _ _).trans (List.Perm.append_left _ ((swap2 _ _ _).trans (List.Perm.append_left _ (swap2 _ _ _)))))))).trans (swap2 _ _ _))
theorem St.ofD {p' : Nat} {bs' : List Bool} (h : Led H (DialC cD S.d S.ddx S.dm p' bs' ++ (N ++ rD cT cF cS cI S M))) : Led H (StC cT cF cD cS cI { S with p := p', bs := bs' } (N ++ M)) := by
  have h1 : Led H (DialC cD S.d S.ddx S.dm p' bs' ++ (N ++ (stO cT S ++ (frB cF S.F ++ (shB cS S ++ (fiB cI S ++ M)))))) := h
  exact Led.perm h1 ((List.Perm.append_left _ ((swap2 _ _ _).trans (List.Perm.append_left _ ((swap2 _ _ _).trans (List.Perm.append_left _ ((swap2 _ _ _).trans (List.Perm.append_left _ (swap2 _ _ _)))))))).trans ((swap2 _ _ _).trans (List.Perm.append_left _ (swap2 _ _ _))))
theorem St.ofS {ps' : List V} {es' : Ents} (h : Led H (ShC cS S.sb S.sdx S.sl S.sd ps' es' ++ (N ++ rS cT cF cD cI S M))) : Led H (StC cT cF cD cS cI { S with ps := ps', es := es' } (N ++ M)) := by
  have h1 : Led H (ShC cS S.sb S.sdx S.sl S.sd ps' es' ++ (N ++ (stO cT S ++ (frB cF S.F ++ (diB cD S ++ (fiB cI S ++ M)))))) := h
  exact Led.perm h1 ((List.Perm.append_left _ ((swap2 _ _ _).trans (List.Perm.append_left _ ((swap2 _ _ _).trans (List.Perm.append_left _ ((swap2 _ _ _).trans (List.Perm.append_left _ (swap2 _ _ _)))))))).trans ((swap2 _ _ _).trans (List.Perm.append_left _ ((swap2 _ _ _).trans (List.Perm.append_left _ (swap2 _ _ _))))))
theorem St.ofI {fs' : FEnts} (h : Led H (FiC cI S.ib S.ix S.im fs' (N ++ rI cT cF cD cS S M))) : Led H (StC cT cF cD cS cI { S with fs := fs' } (N ++ M)) := by
  have h1 : Led H (fiB cI { S with fs := fs' } ++ (N ++ (stO cT S ++ (frB cF S.F ++ (diB cD S ++ (shB cS S ++ M)))))) := h
  exact Led.perm h1 ((List.Perm.append_left _ ((swap2 _ _ _).trans (List.Perm.append_left _ ((swap2 _ _ _).trans (List.Perm.append_left _ ((swap2 _ _ _).trans (List.Perm.append_left _ (swap2 _ _ _)))))))).trans ((swap2 _ _ _).trans (List.Perm.append_left _ ((swap2 _ _ _).trans (List.Perm.append_left _ ((swap2 _ _ _).trans (List.Perm.append_left _ (swap2 _ _ _))))))))
theorem St.b : (S.b, HO.ins cT S.dx (stF S)) ∈ StC cT cF cD cS cI S M := mS
theorem St.ho : (S.ho, HO.dK (kvH S.hs)) ∈ StC cT cF cD cS cI S M := mC mS
theorem St.up {c : Addr × HO} (h : c ∈ M) : c ∈ StC cT cF cD cS cI S M := mA (mA (mA (mA (mA h))))
theorem rF_up {c : Addr × HO} (h : c ∈ M) : c ∈ rF cT cD cS cI S M := mA (mA (mA (mA h)))
theorem rD_up {c : Addr × HO} (h : c ∈ M) : c ∈ rD cT cF cS cI S M := mA (mA (mA (mA h)))
theorem rS_up {c : Addr × HO} (h : c ∈ M) : c ∈ rS cT cF cD cI S M := mA (mA (mA (mA h)))
theorem rI_up {c : Addr × HO} (h : c ∈ M) : c ∈ rI cT cF cD cS S M := mA (mA (mA (mA h)))
end
end
section
variable {P : Program} {w : World} {K : PySem.W.Frag} {mg : Str → Option Value} {base : Heap} {cP cU cA cB c1 c2 c3 cC c4 c5 cT cF cD cS cI : Addr}
def freed (S : SS) (i : Nat) : SS := { S with F := S.F.fill i none none false, bs := S.bs.set i false }
theorem stF_fr (S : SS) : (stF S).lookup (Str.ofString "frames") = some (.ref S.F.b) := rfl
theorem stF_di (S : SS) : (stF S).lookup (Str.ofString "dial") = some (.ref S.d) := rfl
theorem stF_sh (S : SS) : (stF S).lookup (Str.ofString "shelf") = some (.ref S.sb) := rfl
theorem stF_fi (S : SS) : (stF S).lookup (Str.ofString "files") = some (.ref S.ib) := rfl
theorem stF_ho (S : SS) : (stF S).lookup (Str.ofString "holders") = some (.ref S.ho) := rfl
theorem stF_ma (S : SS) : (stF S).lookup (Str.ofString "sheets_made") = some (.int S.made) := rfl
def spIsSheet : Sp := fun vs H Q _ => ∃ (t : Addr) (a : Th), vs = [.ref t] ∧ H t = some (.tup (thV a)) ∧ (∀ m, a = .own m → Q (.bl true) H) ∧ (∀ z p, a = .file z p → Q (.bl false) H)
theorem ok_is_sheet (D : Def K mg "is_sheet" s_is_sheet) (T : Txt K mg cP cU cA cB c1 c2 c3 cC c4 c5 cT cF cD cS cI) : FnD P w K mg base 1 "is_sheet" ["thing"] spIsSheet := by
  have sc := sc_is_sheet
  refine D.ok sc_is_sheet (fun vs H Q E h => ?_) (fun _ _ _ _ _ _ us hl => match us, hl with | [_], _ => rfl) (fun f cdv A outer s H vs Q E hr h => ?_)
  · obtain ⟨_, _, rfl, _⟩ := h; rfl
  · obtain ⟨t, a, rfl, ht, k1, k2⟩ := h
    refine ⟨_, (@pss_one _ _ _ (@ps_ret _ _ _ _ (@pe_cmpR _ _ _ _ _ _ _ _ op_eq (@pe_ix _ _ _ _ _ _ _ ix_any (@pv _ 0 _ _ (by rfl) (by walk_at "o3") (by decide) (by decide)) (@pe_int _ _ _ _) (fun _ _ => rfl)) (@pe_str _ _ _ _) (nomark _)))), ?_⟩
    cases a with
    | own m =>
      have ht' : H t = some (.tup [.str (Str.ofString "own"), .int m]) := ht
      walk_at "ge"
      have := k1 m rfl
      simpa using this
    | file z p =>
      have ht' : H t = some (.tup [.str (Str.ofString "file"), .str z, .int p]) := ht
      walk_at "ge"
      have hne : ¬ Str.ofString "file" = Str.ofString "own" := by decide +kernel
      have := k2 z p rfl
      simpa [hne] using this
def spFree (cT cF cD cS cI : Addr) : Sp := fun vs H Q _ => ∃ (S : SS) (n i : Nat) (M : Cells), vs = [.ref S.b, .int (i : Nat)] ∧ Led H (StC cT cF cD cS cI S M) ∧ OkF S.F n M ∧ S.bs.length = n ∧ i < n ∧ ∀ H', Led H' (StC cT cF cD cS cI (freed S i) M) → Q .non H'
theorem ok_free (D : Def K mg "free_frame" s_free_frame) (T : Txt K mg cP cU cA cB c1 c2 c3 cC c4 c5 cT cF cD cS cI) (M_Frames_empty : MethD P w K mg base 1 cF "empty" ["self", "frame"] (spEmpty cF)) (M_Dial_clear : MethD P w K mg base 1 cD "clear" ["self", "frame"] (spMark cD false)) : FnD P w K mg base 2 "free_frame" ["store", "frame"] (spFree cT cF cD cS cI) := by
  have sc := sc_free_frame
  refine D.ok sc_free_frame (fun vs H Q E h => ?_) (fun _ _ _ _ _ _ us hl => match us, hl with | [_, _], _ => rfl) (fun f cdv A outer s H vs Q E hr h => ?_)
  · obtain ⟨_, _, _, _, rfl, _⟩ := h; rfl
  · obtain ⟨S, n, i, M, rfl, hL, g, hb, hi, k⟩ := h
    have f1 := stF_fr S
    have f2 := stF_di S
    have c_b := hL.get St.b
    have hF := St.toF hL
    have c_f := hF.get mS
    refine ⟨_, (@pss_cons _ _ _ _ _ (@ps_expr _ _ _ _ (@pe_methD _ _ _ _ _ _ _ _ _ _ _ _ _ _ _ _ T.Frames M_Frames_empty (hr.mono (by omega)) passR0 (@pe_fldC _ _ _ _ _ _ _ T.Store T.n_frames (@pv _ 0 _ _ (by rfl) (by walk_at "o3") (by decide) (by decide)) (by rfl)) (@pa_cons _ _ _ _ _ (@pv _ 1 _ _ (by rfl) (by walk_at "o3") (by decide) (by decide)) (@pa_nil _) (by rfl)) (by rfl) (by rfl) (by rfl)) (by rfl)) (@pss_one _ _ _ (@ps_expr _ _ _ _ (@pe_methD _ _ _ _ _ _ _ _ _ _ _ _ _ _ _ _ T.Dial M_Dial_clear (hr.mono (by omega)) passR0 (@pe_fldC _ _ _ _ _ _ _ T.Store T.n_dial (@pv _ 0 _ _ (by rfl) (by walk_at "o3") (by decide) (by decide)) (by rfl)) (@pa_cons _ _ _ _ _ (@pv _ 1 _ _ (by rfl) (by walk_at "o3") (by decide) (by decide)) (@pa_nil _) (by rfl)) (by rfl) (by rfl) (by rfl)) (by rfl)))), ?_⟩
    refine seqK fun M1 K1 => ?_
    walk_at "ge"
    refine ⟨S.F, n, i, _, rfl, hF, g.mono (fun c hc => rF_up hc), hi, fun H1 hl1 => ?_⟩
    have hl2 := St.ofF (S := S) (N := []) (F' := S.F.fill i none none false) rfl hl1
    clear hL hF hl1 c_f c_b
    have c_b := hl2.get St.b
    have hD := St.toD hl2
    have c_d := hD.get dk1
    walk_at "ge"
    refine K1.use ?_
    walk_at "cl"
    clear K1
    walk_at "ge"
    have hb2 : ((i : Nat) : Int) < (S.bs.length : Int) := by omega
    refine ⟨S.d, S.ddx, S.dm, (S.p : Int), ((i : Nat) : Int), S.bs, _, rfl, hD, by omega, hb2, fun H2 hl3 => ?_⟩
    rw [Int.toNat_natCast] at hl3
    have hl4 := St.ofD (S := { S with F := S.F.fill i none none false }) (N := []) (p' := S.p) (bs' := S.bs.set i false) hl3
    walk_at "ge"
    exact k _ hl4
structure OkSt (S : SS) (n q : Nat) (M : Cells) : Prop where
  f : OkF S.F n M
  n1 : 1 ≤ n
  n64 : n ≤ 64
  bl : S.bs.length = n
  pn : S.p < n
  rr : ∀ (i : Nat) (t : Addr) (a : Th), S.F.hs[i]? = some (some (t, a)) → ∃ (r : Addr) (row : List Int), S.F.rs[i]? = some (some (r, row)) ∧ row.length = 4
  inj : ∀ (i j : Nat) (t u : Addr) (a : Th), S.F.hs[i]? = some (some (t, a)) → S.F.hs[j]? = some (some (u, a)) → i = j
  pl : S.ps.length = q
  q6 : q ≤ 550
  pe : ∀ v ∈ S.ps, v = .non ∨ ∃ m : Int, v = .int m
  nd : (S.es.map (·.1)).Nodup
  pk : ∀ m : Int, V.int m ∈ S.ps ↔ m ∈ S.es.map (·.1)
  pi : ∀ (i j : Nat) (m : Int), S.ps[i]? = some (.int m) → S.ps[j]? = some (.int m) → i = j
  ap : ∀ (i : Nat) (t : Addr) (m : Int), S.F.hs[i]? = some (some (t, Th.own m)) → m ∉ S.es.map (·.1)
  er : ∀ e ∈ S.es, e.2.2.length = 4
  fn : (S.fs.map (·.1)).Nodup
  fr : ∀ e ∈ S.fs, ∀ r ∈ e.2.2, (r.1, HO.lst (r.2.map V.int)) ∈ M ∧ r.2.length = 4
  ff : ∀ (i : Nat) (t : Addr) (z : Str) (p : Int), S.F.hs[i]? = some (some (t, Th.file z p)) → ∃ e ∈ S.fs, ∃ j : Nat, e.1 = z ∧ p = j ∧ j < e.2.2.length
theorem OkSt.mono {S : SS} {n q : Nat} {M M' : Cells} (g : OkSt S n q M) (s : ∀ c ∈ M, c ∈ M') : OkSt S n q M' := { g with f := g.f.mono s, fr := fun e he r hr => ⟨s _ (g.fr e he r hr).1, (g.fr e he r hr).2⟩ }
theorem OkSt.freed {S : SS} {n q : Nat} {M : Cells} (g : OkSt S n q M) (i : Nat) : OkSt (freed S i) n q M := by
  have old : ∀ (j : Nat) (x : Addr × Th), (S.F.hs.set i none)[j]? = some (some x) → S.F.hs[j]? = some (some x) ∧ i ≠ j := fun j x h => by
    rw [List.getElem?_set] at h
    split at h
    · split at h
      · cases h
      · cases h
    · exact ⟨h, by assumption⟩
  refine { g with f := g.f.fill (fun t a e => nomatch e) (fun t a e => nomatch e), bl := (List.length_set ..).trans g.bl, rr := fun j t a h => ?_, inj := fun j l t u a h1 h2 => g.inj j l t u a (old j _ h1).1 (old l _ h2).1, ap := fun j t m h => g.ap j t m (old j _ h).1, ff := fun j t z p h => g.ff j t z p (old j _ h).1 }
  obtain ⟨h1, h2⟩ := old j _ h
  obtain ⟨r, row, e, h4⟩ := g.rr j t a h1
  exact ⟨r, row, by show (S.F.rs.set i none)[j]? = _; rw [List.getElem?_set, if_neg h2]; exact e, h4⟩
end
section
variable {P : Program} {w : World} {K : PySem.W.Frag} {mg : Str → Option Value} {base : Heap} {cP cU cA cB c1 c2 c3 cC c4 c5 cT cF cD cS cI : Addr}
def PO (N : Cells) (S : SS) (i : Nat) (S' : SS) : Th → Prop
  | .own m => ∃ (r : Addr) (row : List Int) (b : Addr), S.F.rs[i]? = some (some (r, row)) ∧ S' = freed { S with ps := S.ps.set (idx S.ps .non) (.int m), es := S.es ++ [(m, b, row)] } i
  | .file z p => ∃ (r : Addr) (row : List Int), S.F.rs[i]? = some (some (r, row)) ∧ ((S.F.bs[i]? = some false ∧ S' = freed S i) ∨ (S.F.bs[i]? = some true ∧ ∃ (as bs : FEnts) (e : FEnt) (j : Nat) (nr : Addr), S.fs = as ++ e :: bs ∧ e.1 = z ∧ p = (j : Int) ∧ j < e.2.2.length ∧ (nr, HO.lst (row.map V.int)) ∈ N ∧ S' = freed { S with fs := as ++ (e.1, e.2.1, e.2.2.set j (nr, row)) :: bs } i))
theorem OkSt.flat {S : SS} {n q : Nat} {M : Cells} (g : OkSt S n q M) : S.ps.all flatV = true := by
  rw [List.all_eq_true]
  intro v hv
  rcases g.pe v hv with rfl | ⟨m, rfl⟩ <;> rfl
theorem OkSt.non_at {S : SS} {n q : Nat} {M : Cells} (g : OkSt S n q M) (h : inV .non S.ps = true) : S.ps[idx S.ps .non]? = some .non := by
  obtain ⟨v, hv, he⟩ := idx_at h
  rcases g.pe v (List.mem_of_getElem? hv) with rfl | ⟨m, rfl⟩
  · exact hv
  · cases he
theorem OkSt.keys_le {S : SS} {n q : Nat} {M : Cells} (g : OkSt S n q M) : S.es.length ≤ q := by
  have h1 : (S.es.map (·.1)).length ≤ (S.ps.map fun v => match v with | .int m => m | _ => 0).length := by
    refine g.nd.length_le_of_subset fun m hm => ?_
    exact List.mem_map.mpr ⟨.int m, (g.pk m).mpr hm, rfl⟩
  rw [List.length_map, List.length_map, g.pl] at h1
  exact h1
theorem OkSt.shelve {S : SS} {n q i : Nat} {M : Cells} {t b : Addr} {m : Int} {row : List Int} (g : OkSt S n q M) (hi : S.F.hs[i]? = some (some (t, .own m))) (hn : inV .non S.ps = true) (h4 : row.length = 4) :
    OkSt (My.freed { S with ps := S.ps.set (idx S.ps .non) (.int m), es := S.es ++ [(m, b, row)] } i) n q M := by
  have hat := g.non_at hn
  have hlt : idx S.ps .non < S.ps.length := (List.getElem?_eq_some_iff.mp hat).1
  have hmk := g.ap i t m hi
  have hmp : V.int m ∉ S.ps := fun h => hmk ((g.pk m).mp h)
  have gf := g.freed i
  have atS : ∀ (j : Nat) (v : V), (S.ps.set (idx S.ps .non) (.int m))[j]? = some v → (j = idx S.ps .non ∧ v = .int m) ∨ (j ≠ idx S.ps .non ∧ S.ps[j]? = some v) := fun j v h => by
    rw [List.getElem?_set] at h
    by_cases e : idx S.ps .non = j
    · rw [if_pos e, if_pos hlt] at h
      exact .inl ⟨e.symm, (Option.some.inj h).symm⟩
    · rw [if_neg e] at h
      exact .inr ⟨fun q => e q.symm, h⟩
  have old : ∀ (j : Nat) (x : Addr × Th), (S.F.hs.set i none)[j]? = some (some x) → S.F.hs[j]? = some (some x) ∧ i ≠ j := fun j x h => by
    rw [List.getElem?_set] at h
    split at h
    · split at h
      · cases h
      · cases h
    · exact ⟨h, by assumption⟩
  refine ⟨gf.f, gf.n1, gf.n64, gf.bl, gf.pn, gf.rr, gf.inj, (List.length_set ..).trans g.pl, g.q6, fun v hv => ?_, ?_, fun k => ?_, fun j l k h1 h2 => ?_, fun j u k h => ?_, fun e he => ?_, g.fn, gf.fr, gf.ff⟩
  · rcases List.mem_or_eq_of_mem_set hv with h | h
    · exact g.pe v h
    · exact .inr ⟨m, h⟩
  · show ((S.es ++ [(m, b, row)]).map (·.1)).Nodup
    rw [List.map_append]
    refine List.nodup_append.mpr ⟨g.nd, by simp, fun x hx y hy e => ?_⟩
    rw [List.map_singleton, List.mem_singleton] at hy
    have hy' : y = m := hy
    exact hmk (hy' ▸ e ▸ hx)
  · show V.int k ∈ S.ps.set (idx S.ps .non) (.int m) ↔ k ∈ (S.es ++ [(m, b, row)]).map (·.1)
    rw [List.map_append, List.mem_append, List.map_singleton, List.mem_singleton, ← g.pk k]
    constructor
    · intro h
      rcases List.mem_or_eq_of_mem_set h with h | h
      · exact .inl h
      · injection h with h; exact .inr h
    · rintro (h | rfl)
      · obtain ⟨j, hj⟩ := List.getElem?_of_mem h
        have hne : idx S.ps .non ≠ j := fun e => by rw [← e, hat] at hj; cases hj
        exact List.mem_of_getElem? (i := j) (by rw [List.getElem?_set, if_neg hne]; exact hj)
      · exact List.mem_of_getElem? (i := idx S.ps .non) (by rw [List.getElem?_set, if_pos rfl, if_pos hlt])
  · rcases atS j _ h1 with ⟨e1, e2⟩ | ⟨e1, e2⟩
    · rcases atS l _ h2 with ⟨e3, e4⟩ | ⟨e3, e4⟩
      · rw [e1, e3]
      · injection e2 with e2; subst e2
        exact absurd (List.mem_of_getElem? e4) hmp
    · rcases atS l _ h2 with ⟨e3, e4⟩ | ⟨e3, e4⟩
      · injection e4 with e4; subst e4
        exact absurd (List.mem_of_getElem? e2) hmp
      · exact g.pi j l k e2 e4
  · obtain ⟨h1, h2⟩ := old j _ h
    show k ∉ (S.es ++ [(m, b, row)]).map (·.1)
    rw [List.map_append, List.mem_append, List.map_singleton, List.mem_singleton]
    rintro (h3 | rfl)
    · exact g.ap j u k h1 h3
    · exact h2 (g.inj i j t u _ hi h1)
  · rcases List.mem_append.mp he with he | he
    · exact g.er e he
    · rw [List.mem_singleton.mp he]; exact h4
theorem OkSt.stored {S : SS} {n q i : Nat} {M : Cells} {as bs : FEnts} {e : FEnt} {j : Nat} {nr : Addr} {row : List Int} (g : OkSt S n q M) (hf : S.fs = as ++ e :: bs) (h4 : row.length = 4) (hn : (nr, HO.lst (row.map V.int)) ∈ M) :
    OkSt (My.freed { S with fs := as ++ (e.1, e.2.1, e.2.2.set j (nr, row)) :: bs } i) n q M := by
  have gf := g.freed i
  have keys : (as ++ (e.1, e.2.1, e.2.2.set j (nr, row)) :: bs).map (·.1) = S.fs.map (·.1) := by rw [hf]; simp
  refine ⟨gf.f, gf.n1, gf.n64, gf.bl, gf.pn, gf.rr, gf.inj, g.pl, g.q6, g.pe, g.nd, g.pk, g.pi, gf.ap, g.er, ?_, fun x hx r hr => ?_, fun l t z p h => ?_⟩
  · show ((as ++ (e.1, e.2.1, e.2.2.set j (nr, row)) :: bs).map (·.1)).Nodup
    rw [keys]; exact g.fn
  · rcases List.mem_append.mp hx with hx | hx
    · exact g.fr x (by rw [hf]; exact mB hx) r hr
    · rcases List.mem_cons.mp hx with rfl | hx
      · rcases List.mem_or_eq_of_mem_set hr with h | rfl
        · exact g.fr e (by rw [hf]; exact mA mS) r h
        · exact ⟨hn, h4⟩
      · exact g.fr x (by rw [hf]; exact mA (mC hx)) r hr
  · obtain ⟨x, hx, k, h1, h2, h3⟩ := gf.ff l t z p h
    have hx' : x ∈ as ++ e :: bs := by rw [← hf]; exact hx
    rcases List.mem_append.mp hx' with hx' | hx'
    · exact ⟨x, mB hx', k, h1, h2, h3⟩
    · rcases List.mem_cons.mp hx' with rfl | hx'
      · exact ⟨_, mA mS, k, h1, h2, by show k < (x.2.2.set j (nr, row)).length; rw [List.length_set]; exact h3⟩
      · exact ⟨x, mA (mC hx'), k, h1, h2, h3⟩
theorem PO.mono {N N' : Cells} {S S' : SS} {i : Nat} {a : Th} (h : PO N S i S' a) (up : ∀ c ∈ N, c ∈ N') : PO N' S i S' a := by
  cases a with
  | own m => exact h
  | file z p =>
    obtain ⟨r, row, h1, h2⟩ := h
    refine ⟨r, row, h1, ?_⟩
    rcases h2 with h2 | ⟨h2, as, bs, e, j, nr, h3, h4, h5, h6, h7, h8⟩
    · exact .inl h2
    · exact .inr ⟨h2, as, bs, e, j, nr, h3, h4, h5, h6, up _ h7, h8⟩
theorem OkSt.po {N : Cells} {S S' : SS} {n q i : Nat} {M : Cells} {t : Addr} {a : Th} (g : OkSt S n q M) (hi : S.F.hs[i]? = some (some (t, a))) (hn : ∀ m, a = .own m → inV .non S.ps = true) (h : PO N S i S' a) : OkSt S' n q (N ++ M) := by
  have up : ∀ c ∈ M, c ∈ N ++ M := fun c hc => mA hc
  obtain ⟨r0, row0, hr0, h40⟩ := g.rr i t a hi
  cases a with
  | own m =>
    obtain ⟨r, row, b, h1, rfl⟩ := h
    rw [hr0] at h1
    cases h1
    exact (g.shelve hi (hn m rfl) h40).mono up
  | file z p =>
    obtain ⟨r, row, h1, h2⟩ := h
    rw [hr0] at h1
    cases h1
    rcases h2 with ⟨_, rfl⟩ | ⟨_, as, bs, e, j, nr, h3, h4, h5, h6, h7, rfl⟩
    · exact (g.freed i).mono up
    · exact (g.mono up).stored h3 h40 (mB h7)
def spPutOut (cT cF cD cS cI : Addr) : Sp := fun vs H Q _ => ∃ (S : SS) (n q i : Nat) (t : Addr) (a : Th) (M : Cells), vs = [.ref S.b, .int (i : Nat)] ∧ Led H (StC cT cF cD cS cI S M) ∧ OkSt S n q M ∧ S.F.hs[i]? = some (some (t, a)) ∧ (∀ m, a = .own m → inV .non S.ps = true) ∧ ∀ (S' : SS) (N : Cells) (H' : Hp), PO N S i S' a → OkSt S' n q (N ++ M) → Led H' (StC cT cF cD cS cI S' (N ++ M)) → Q .non H'
theorem ok_put_out (D : Def K mg "put_out" s_put_out) (T : Txt K mg cP cU cA cB c1 c2 c3 cC c4 c5 cT cF cD cS cI) (M_Frames_thing_in : MethD P w K mg base 1 cF "thing_in" ["self", "frame"] (spThingIn cF)) (M_Frames_row_in : MethD P w K mg base 1 cF "row_in" ["self", "frame"] (spRowIn cF)) (M_Frames_is_soiled : MethD P w K mg base 1 cF "is_soiled" ["self", "frame"] (spSoiled cF)) (M_Shelf_put_on : MethD P w K mg base 2 cS "put_on" ["self", "sheet", "row"] (spPut cS cU)) (M_Files_store_row : MethD P w K mg base 4 cI "store_row" ["self", "name", "page", "row"] (spStore cI cA cB)) (G_is_sheet : FnD P w K mg base 1 "is_sheet" ["thing"] spIsSheet) (G_free_frame : FnD P w K mg base 2 "free_frame" ["store", "frame"] (spFree cT cF cD cS cI)) : FnD P w K mg base 5 "put_out" ["store", "frame"] (spPutOut cT cF cD cS cI) := by
  have sc := sc_put_out
  refine D.okR sc_put_out (fun vs H Q E h => ?_) (fun _ _ _ _ _ _ us hl => match us, hl with | [_, _], _ => rfl) (fun f cdv A outer s H vs Q E hr h => ?_)
  · obtain ⟨_, _, _, _, _, _, _, rfl, _⟩ := h; rfl
  · obtain ⟨S, n, q, i, t, a, M, rfl, hL, g, hi, hfull, k⟩ := h
    obtain ⟨r, row, hrow, h4⟩ := g.rr i t a hi
    have hin : i < n := by rw [← g.f.h]; exact (List.getElem?_eq_some_iff.mp hi).1
    obtain ⟨i_t, okt⟩ := g.f.th t a (List.mem_of_getElem? hi)
    have i_r := g.f.rw r row (List.mem_of_getElem? hrow)
    have f1 := stF_fr S
    have f2 := stF_di S
    have f3 := stF_sh S
    have f4 := stF_fi S
    have c_b := hL.get St.b
    have hF := St.toF hL
    have c_f := hF.get mS
    refine ⟨_, (@pss_cons _ _ _ _ _ (@ps_set _ _ 2 _ _ _ _ sc.nd rfl (by walk_at "o2") (@pe_methD _ _ _ _ _ _ _ _ _ _ _ _ _ _ _ _ T.Frames M_Frames_thing_in (hr.mono (by omega)) passR0 (@pe_fldC _ _ _ _ _ _ _ T.Store T.n_frames (@pv _ 0 _ _ (by rfl) (by walk_at "o3") (by decide) (by decide)) (by rfl)) (@pa_cons _ _ _ _ _ (@pv _ 1 _ _ (by rfl) (by walk_at "o3") (by decide) (by decide)) (@pa_nil _) (by rfl)) (by rfl) (by rfl) (by rfl)) (by rfl) (by first | exact .inl rfl | exact .inr rfl | assumption)) (@pss_cons _ _ _ _ _ (@ps_set _ _ 3 _ _ _ _ sc.nd rfl (by walk_at "o2") (@pe_methD _ _ _ _ _ _ _ _ _ _ _ _ _ _ _ _ T.Frames M_Frames_row_in (hr.mono (by omega)) passR0 (@pe_fldC _ _ _ _ _ _ _ T.Store T.n_frames (@pv _ 0 _ _ (by rfl) (by walk_at "o3") (by decide) (by decide)) (by rfl)) (@pa_cons _ _ _ _ _ (@pv _ 1 _ _ (by rfl) (by walk_at "o3") (by decide) (by decide)) (@pa_nil _) (by rfl)) (by rfl) (by rfl) (by rfl)) (by rfl) (by first | exact .inl rfl | exact .inr rfl | assumption)) (@pss_cons _ _ _ _ _ (@ps_if _ _ _ _ _ _ _ _ (@pt_val _ _ _ (@pe_callD _ _ _ _ _ _ _ _ _ _ _ G_is_sheet (hr.mono (by omega)) (by rfl) passR0 (@pa_cons _ _ _ _ _ (@pv _ 2 _ _ (by rfl) (by walk_at "o3") (by decide) (by decide)) (@pa_nil _) (by rfl)) (by decide) (by rfl) (by rfl)) (by intro _; rfl)) (@pss_one _ _ _ (@ps_expr _ _ _ _ (@pe_methD _ _ _ _ _ _ _ _ _ _ _ _ _ _ _ _ T.Shelf M_Shelf_put_on (hr.mono (by omega)) passR (@pe_fldC _ _ _ _ _ _ _ T.Store T.n_shelf (@pv _ 0 _ _ (by rfl) (by walk_at "o3") (by decide) (by decide)) (by rfl)) (@pa_cons _ _ _ _ _ (@pe_ix _ _ _ _ _ _ _ ix_any (@pv _ 2 _ _ (by rfl) (by walk_at "o3") (by decide) (by decide)) (@pe_int _ _ _ _) (fun _ _ => rfl)) (@pa_cons _ _ _ _ _ (@pv _ 3 _ _ (by rfl) (by walk_at "o3") (by decide) (by decide)) (@pa_nil _) (by rfl)) (by rfl)) (by rfl) (by rfl) (by rfl)) (by rfl))) (@pss_one _ _ _ (@ps_if _ _ _ _ _ _ _ _ (@pt_val _ _ _ (@pe_methD _ _ _ _ _ _ _ _ _ _ _ _ _ _ _ _ T.Frames M_Frames_is_soiled (hr.mono (by omega)) passR0 (@pe_fldC _ _ _ _ _ _ _ T.Store T.n_frames (@pv _ 0 _ _ (by rfl) (by walk_at "o3") (by decide) (by decide)) (by rfl)) (@pa_cons _ _ _ _ _ (@pv _ 1 _ _ (by rfl) (by walk_at "o3") (by decide) (by decide)) (@pa_nil _) (by rfl)) (by rfl) (by rfl) (by rfl)) (by intro _; rfl)) (@pss_one _ _ _ (@ps_expr _ _ _ _ (@pe_methD _ _ _ _ _ _ _ _ _ _ _ _ _ _ _ _ T.Files M_Files_store_row (hr.mono (by omega)) passR (@pe_fldC _ _ _ _ _ _ _ T.Store T.n_files (@pv _ 0 _ _ (by rfl) (by walk_at "o3") (by decide) (by decide)) (by rfl)) (@pa_cons _ _ _ _ _ (@pe_ix _ _ _ _ _ _ _ ix_any (@pv _ 2 _ _ (by rfl) (by walk_at "o3") (by decide) (by decide)) (@pe_int _ _ _ _) (fun _ _ => rfl)) (@pa_cons _ _ _ _ _ (@pe_ix _ _ _ _ _ _ _ ix_any (@pv _ 2 _ _ (by rfl) (by walk_at "o3") (by decide) (by decide)) (@pe_int _ _ _ _) (fun _ _ => rfl)) (@pa_cons _ _ _ _ _ (@pv _ 3 _ _ (by rfl) (by walk_at "o3") (by decide) (by decide)) (@pa_nil _) (by rfl)) (by rfl)) (by rfl)) (by rfl) (by rfl) (by rfl)) (by rfl))) (@pss_nil _)))) (@pss_one _ _ _ (@ps_expr _ _ _ _ (@pe_callD _ _ _ _ _ _ _ _ _ _ _ G_free_frame (hr.mono (by omega)) (by rfl) passR0 (@pa_cons _ _ _ _ _ (@pv _ 0 _ _ (by rfl) (by walk_at "o3") (by decide) (by decide)) (@pa_cons _ _ _ _ _ (@pv _ 1 _ _ (by rfl) (by walk_at "o3") (by decide) (by decide)) (@pa_nil _) (by rfl)) (by rfl)) (by decide) (by rfl) (by rfl)) (by rfl)))))), ?_⟩
    refine seqK fun M1 K1 => ?_
    walk_at "ge"
    refine ⟨S.F, i, some (t, a), _, rfl, hF, hi, ?_⟩
    rw [show heldV (some (t, a)) = V.ref t from rfl]
    walk_at "ge"
    refine K1.use ?_
    walk_at "cl"
    clear K1
    refine seqK fun M1 K1 => ?_
    walk_at "ge"
    refine ⟨S.F, i, r, row, _, rfl, hF, hrow, rF_up i_r, by omega, fun qr H1 hl1 => ?_⟩
    have hl2 : Led H1 (FrC cF S.F ([(qr, HO.lst (row.map V.int))] ++ rF cT cD cS cI S M)) := Led.perm hl1 (swap2 [(qr, HO.lst (row.map V.int))] (frB cF S.F) _)
    have hl3 := St.ofF (S := S) (F' := S.F) rfl hl2
    have hl4 : Led H1 (StC cT cF cD cS cI S ([(qr, HO.lst (row.map V.int))] ++ M)) := hl3
    clear hl1 hl2 hl3 hL hF c_b c_f
    walk_at "ge"
    refine K1.use ?_
    walk_at "cl"
    clear K1
    have up4 : ∀ c ∈ M, c ∈ [(qr, HO.lst (row.map V.int))] ++ M := fun c hc => mC hc
    have g4 := g.mono up4
    have c_t := hl4.get (St.up (up4 _ i_t))
    have c_b := hl4.get St.b
    refine seqK fun M1 K1 => ?_
    have rest : ∀ (S1 : SS) (N : Cells) (H' : Hp), S1.b = S.b → S1.bs.length = n → OkF S1.F n (N ++ M) → PO N S i (freed S1 i) a → OkSt (freed S1 i) n q (N ++ M) → Led H' (StC cT cF cD cS cI S1 (N ++ M)) → M1 [some (.ref S.b), some (.int (i : Nat)), some (.ref t), some (.ref qr)] H' := by
      intro S1 N H' e1 e2 e3 e4 e5 hl'
      refine K1.use ?_
      clear K1 hl4
      walk_at "ge"
      refine ⟨S1, n, i, _, by rw [e1]; rfl, hl', e3, e2, hin, fun H2 hl2 => ?_⟩
      walk_at "ge"
      exact k _ _ _ e4 e5 hl2
    clear K1
    walk_at "ge"
    refine ⟨t, a, rfl, c_t, fun m hm => ?_, fun z p hz => ?_⟩
    · subst hm
      have c_t2 : H1 t = some (.tup [.str (Str.ofString "own"), .int m]) := c_t
      have hS := St.toS hl4
      have c_s := hS.get sk1
      walk_at "ge"
      refine ⟨S.sb, S.sdx, S.sl, S.sd, qr, m, row, S.ps, S.es, _, rfl, hS, rS_up mS, g.flat, g.ap i t m hi, by have := g.keys_le; have := g.q6; omega, fun hn b H2 hl5 => ?_, fun hn => absurd hn (by rw [hfull m rfl]; decide)⟩
      have hl6 := St.ofS (S := S) (N := []) (M := [(qr, HO.lst (row.map V.int))] ++ M) hl5
      walk_at "ge"
      exact rest { S with ps := S.ps.set (idx S.ps .non) (.int m), es := S.es ++ [(m, b, row)] } _ _ rfl g.bl g4.f ⟨r, row, b, hrow, rfl⟩ (g4.shelve hi hn h4) hl6
    · subst hz
      have c_t2 : H1 t = some (.tup [.str (Str.ofString "file"), .str z, .int p]) := c_t
      have hF := St.toF hl4
      have c_f := hF.get mS
      obtain ⟨so, hso⟩ : ∃ b, S.F.bs[i]? = some b := ⟨_, List.getElem?_eq_getElem (by rw [g.f.s]; exact hin)⟩
      walk_at "ge"
      refine ⟨S.F, i, so, _, rfl, hF, hso, ?_⟩
      cases so with
      | false =>
        walk_at "ge"
        exact rest S _ _ rfl g.bl g4.f ⟨r, row, hrow, .inl ⟨hso, rfl⟩⟩ (g4.freed i) hl4
      | true =>
        obtain ⟨e, he, j, e1, e2, e3⟩ := g.ff i t z p hi
        have hI := St.toI hl4
        have c_i := hI.get mS
        walk_at "ge"
        refine ⟨S.ib, S.ix, S.im, qr, S.fs, z, p, row, _, rfl, hI, g.fn, rI_up mS, by omega, fun as bs e' hf he1 j' hj1 hj2 nr H2 hl5 => ?_, fun e' he' h1 h2 => ?_, fun hz => absurd (List.mem_map.mpr ⟨e, he, e1⟩) hz⟩
        · have hl6 := St.ofI (S := S) (N := [(nr, HO.lst (row.map V.int))]) (M := [(qr, HO.lst (row.map V.int))] ++ M) hl5
          have g6 := g4.mono (M' := [(nr, HO.lst (row.map V.int))] ++ ([(qr, HO.lst (row.map V.int))] ++ M)) fun c hc => mC hc
          walk_at "ge"
          exact rest { S with fs := as ++ (e'.1, e'.2.1, e'.2.2.set j' (nr, row)) :: bs } ([(nr, HO.lst (row.map V.int))] ++ [(qr, HO.lst (row.map V.int))]) _ rfl g.bl g6.f ⟨r, row, hrow, .inr ⟨hso, as, bs, e', j', nr, hf, he1, hj1, hj2, mS, rfl⟩⟩ (g6.stored hf h4 mS) hl6
        · exfalso
          have : e' = e := by
            have h3 := findF g.fn he
            have h5 := findF g.fn he'
            rw [h1, ← e1] at h5
            exact Option.some.inj (h5.symm.trans h3)
          subst this
          exact h2 ⟨by omega, by rw [e2]; exact_mod_cast e3⟩
end
section
variable {P : Program} {w : World} {K : PySem.W.Frag} {mg : Str → Option Value} {base : Heap} {cP cU cA cB c1 c2 c3 cC c4 c5 cT cF cD cS cI : Addr}
def isFile : Th → Bool
  | .own _ => false
  | .file _ _ => true
def mayS (S : SS) : List Bool := S.F.hs.map fun x => match x with | some y => isFile y.2 || inV .non S.ps | none => false
theorem mayS_at {S : SS} {i : Nat} {t : Addr} {a : Th} (h : S.F.hs[i]? = some (some (t, a))) : (mayS S)[i]? = some (isFile a || inV .non S.ps) := by unfold mayS; rw [List.getElem?_map, h]; rfl
theorem bls_of {vs : List V} {bs : List Bool} (hl : vs.length = bs.length) (h : ∀ (i : Nat) v, vs[i]? = some v → ∃ b, bs[i]? = some b ∧ v = .bl b) : vs = bs.map V.bl := by
  refine List.ext_getElem? fun i => ?_
  rw [List.getElem?_map]
  by_cases hi : i < vs.length
  · obtain ⟨b, hb, e⟩ := h i _ (List.getElem?_eq_getElem hi)
    rw [List.getElem?_eq_getElem hi, e, hb]
    rfl
  · rw [List.getElem?_eq_none (by omega), List.getElem?_eq_none (by omega)]
    rfl
theorem OkSt.turned {S : SS} {n q : Nat} {M : Cells} (g : OkSt S n q M) {p : Nat} {bs : List Bool} (hp : p < n) (hb : bs.length = n) : OkSt { S with p := p, bs := bs } n q M := { g with bl := hb, pn := hp }
def spHave (cT cF cD cS cI cU : Addr) : Sp := fun vs H Q E => ∃ (S : SS) (n q : Nat) (M : Cells), vs = [.ref S.b] ∧ Led H (StC cT cF cD cS cI S M) ∧ OkSt S n q M ∧
  (∀ (i : Nat) (H' : Hp), S.F.hs[i]? = some none → (∀ (j : Nat) z, j < i → S.F.hs[j]? = some z → z ≠ none) → Led H' (StC cT cF cD cS cI S M) → Q (.int (i : Nat)) H') ∧
  ((∀ z ∈ S.F.hs, z ≠ none) → ∀ (f : Nat) (bs' : List Bool) (t : Addr) (a : Th), goF (mayS S) (2 * n) S.p S.bs = some (f, bs') → S.F.hs[f]? = some (some (t, a)) → ∀ (S' : SS) (N : Cells) (H' : Hp), PO N { S with p := (f + 1) % n, bs := bs' } f S' a → OkSt S' n q (N ++ M) → Led H' (StC cT cF cD cS cI S' (N ++ M)) → Q (.int (f : Nat)) H') ∧
  ((∀ z ∈ S.F.hs, z ≠ none) → true ∉ mayS S → ∀ (N : Cells) (H' : Hp), Led H' (StC cT cF cD cS cI S (N ++ M)) → E (.ref cU) none H')
theorem ok_have (D : Def K mg "have_frame" s_have_frame) (B : Blt mg) (T : Txt K mg cP cU cA cB c1 c2 c3 cC c4 c5 cT cF cD cS cI) (M_Frames_least_free : MethD P w K mg base 2 cF "least_free" ["self"] (fun vs H Q E => ∃ b, vs = [.ref b] ∧ spWhere cF [.ref b, .non] H Q E)) (M_Frames_things : MethD P w K mg base 1 cF "things" ["self"] (spThings cF)) (M_Shelf_is_full : MethD P w K mg base 1 cS "is_full" ["self"] (spFull cS)) (M_Dial_choose : MethD P w K mg base 1 cD "choose" ["self", "may"] (spChoose cD cU)) (G_is_sheet : FnD P w K mg base 1 "is_sheet" ["thing"] spIsSheet) (G_put_out : FnD P w K mg base 5 "put_out" ["store", "frame"] (spPutOut cT cF cD cS cI)) : FnD P w K mg base 6 "have_frame" ["store"] (spHave cT cF cD cS cI cU) := by
  have sc := sc_have_frame
  refine D.okR sc_have_frame (fun vs H Q E h => ?_) (fun _ _ _ _ _ _ us hl => match us, hl with | [_], _ => rfl) (fun f cdv A outer s H vs Q E hr h => ?_)
  · obtain ⟨_, _, _, _, rfl, _⟩ := h; rfl
  · obtain ⟨S, n, q, M, rfl, hL, g, kf, kg, ke⟩ := h
    have hsz := sizeLine_eq
    have f1 := stF_fr S
    have f2 := stF_di S
    have f3 := stF_sh S
    have c_b := hL.get St.b
    have hF := St.toF hL
    have c_f := hF.get mS
    have gn := g.n64
    refine ⟨_, (@pss_cons _ _ _ _ _ (@ps_set _ _ 1 _ _ _ _ sc.nd rfl (by walk_at "o2") (@pe_methD0 _ _ _ _ _ _ _ _ _ _ _ _ _ T.Frames M_Frames_least_free (hr.mono (by omega)) passR0 (@pe_fldC _ _ _ _ _ _ _ T.Store T.n_frames (@pv _ 0 _ _ (by rfl) (by walk_at "o3") (by decide) (by decide)) (by rfl)) (by rfl)) (by rfl) (by first | exact .inl rfl | exact .inr rfl | assumption)) (@pss_cons _ _ _ _ _ (@ps_if _ _ _ _ _ _ _ _ (@pt_cmpR _ _ _ _ _ _ _ _ op_notN (@pv _ 1 _ _ (by rfl) (by walk_at "o3") (by decide) (by decide)) (@pe_non _ _ _) (nomark _)) (@pss_one _ _ _ (@ps_ret _ _ _ _ (@pv _ 1 _ _ (by rfl) (by walk_at "o3") (by decide) (by decide)))) (@pss_nil _)) (@pss_cons _ _ _ _ _ (@ps_set _ _ 2 _ _ _ _ sc.nd rfl (by walk_at "o2") (@pe_methD0 _ _ _ _ _ _ _ _ _ _ _ _ _ T.Shelf M_Shelf_is_full (hr.mono (by omega)) passR0 (@pe_fldC _ _ _ _ _ _ _ T.Store T.n_shelf (@pv _ 0 _ _ (by rfl) (by walk_at "o3") (by decide) (by decide)) (by rfl)) (by rfl)) (by rfl) (by first | exact .inl rfl | exact .inr rfl | assumption)) (@pss_cons _ _ _ _ _ (@ps_set _ _ 3 _ _ _ _ sc.nd rfl (by walk_at "o2") (@pe_methD _ _ _ _ _ _ _ _ _ _ _ _ _ _ _ _ T.Dial M_Dial_choose (hr.mono (by omega)) passR (@pe_fldC _ _ _ _ _ _ _ T.Store T.n_dial (@pv _ 0 _ _ (by rfl) (by walk_at "o3") (by decide) (by decide)) (by rfl)) (@pa_cons _ _ _ _ _ (@pe_comp _ _ "thing" _ _ _ _ _ _ _ _ _ rfl rfl rfl rfl passH (compSc_of (by kernel_rfl)) (@pi_list _ _ _ _ (@pe_methD0 _ _ _ _ _ _ _ _ _ _ _ _ _ T.Frames M_Frames_things (hr.mono (by omega)) passR0 (@pe_fldC _ _ _ _ _ _ _ T.Store T.n_frames (@pv _ 0 _ _ (by rfl) (by walk_at "o3") (by decide) (by decide)) (by rfl)) (by rfl))) (fun _ _ _ _ => (@pts_nil _)) (fun _ _ _ _ => (@pe_or _ _ _ _ _ _ _ (@pe_not _ _ _ _ (@pe_callD _ _ _ _ _ _ _ _ _ _ _ G_is_sheet (hr.mono (by omega)) (by rfl) passR0 (@pa_cons _ _ _ _ _ (@pk _ 0 _ _ (by kernel_rfl) (by kernel_rfl) (by decide) (by decide)) (@pa_nil _) (by rfl)) (by decide) (by rfl) (by rfl))) (@pe_one _ _ _ _ _ (@pe_not _ _ _ _ (@pk _ 3 _ _ (by kernel_rfl) (by kernel_rfl) (by decide) (by decide)))))) (by intro _; rfl)) (@pa_nil _) (by rfl)) (by rfl) (by rfl) (by rfl)) (by rfl) (by first | exact .inl rfl | exact .inr rfl | assumption)) (@pss_cons _ _ _ _ _ (@ps_expr _ _ _ _ (@pe_callD _ _ _ _ _ _ _ _ _ _ _ G_put_out (hr.mono (by omega)) (by rfl) passR (@pa_cons _ _ _ _ _ (@pv _ 0 _ _ (by rfl) (by walk_at "o3") (by decide) (by decide)) (@pa_cons _ _ _ _ _ (@pv _ 3 _ _ (by rfl) (by walk_at "o3") (by decide) (by decide)) (@pa_nil _) (by rfl)) (by rfl)) (by decide) (by rfl) (by rfl)) (by rfl)) (@pss_one _ _ _ (@ps_ret _ _ _ _ (@pv _ 3 _ _ (by rfl) (by walk_at "o3") (by decide) (by decide))))))))), ?_⟩
    refine seqK fun M1 K1 => ?_
    walk_at "ge"
    have rest : (∀ z ∈ S.F.hs, z ≠ none) → M1 [some (.ref S.b), some .non, none, none] H := by
      intro hall
      refine K1.use ?_
      clear K1
      refine seqK fun M1 K1 => ?_
      walk_at "ge"
      · exact absurd (rfl : V.non = V.non) (by assumption)
      refine K1.use ?_
      walk_at "cl"
      clear K1
      have hS := St.toS hL
      have c_s := hS.get sk1
      have c_p := hS.get sk2
      refine seqK fun M1 K1 => ?_
      walk_at "ge"
      refine ⟨S.sb, S.sdx, S.sl, S.sd, S.ps, rfl, c_s, c_p, g.flat, ?_⟩
      walk_at "ge"
      refine K1.use ?_
      walk_at "cl"
      clear K1 hS c_s c_p
      have hD := St.toD hL
      have c_d := hD.get dk1
      refine seqK fun M1 K1 => ?_
      walk_at "ge"
      refine compL fun Lc hLc => ?_
      walk_at "ge"
      refine ⟨S.F, _, rfl, hF, by rw [g.f.h]; omega, fun qt H1 hl1 => ?_⟩
      refine ⟨qt, rfl, ⟨_, SqL.of (hl1.get mS)⟩, hLc.use ?_⟩
      clear hLc c_d c_b c_f hD hF
      have ml : (mayS S).length = n := by unfold mayS; rw [List.length_map]; exact g.f.h
      refine compListL (S.F.hs.map heldV) (fun i v C => C = [] ∧ ∃ b, (mayS S)[i]? = some b ∧ v = .bl b) hl1 List.mem_cons_self (by rw [List.length_map, g.f.h]; omega) (fun i y H2 R N hy hl2 hR => ?_) (fun pm vs Cs H2 hv hc hG hl2 => ?_)
      · rw [List.getElem?_map] at hy
        obtain ⟨x, hx, rfl⟩ := Option.map_eq_some_iff.mp hy
        cases x with
        | none => exact absurd rfl (hall none (List.mem_of_getElem? hx))
        | some x =>
          have c_x := hl2.get (mA (mC (mC (mC (mC (mC (rF_up (g.f.th x.1 x.2 (List.mem_of_getElem? hx)).1)))))))
          have hm := mayS_at (t := x.1) (a := x.2) hx
          rw [show heldV (some x) = V.ref x.1 from rfl]
          walk_at "ge"
          refine ⟨x.1, x.2, rfl, c_x, fun m e => ?_, fun z p e => ?_⟩
          · rw [e] at hm
            walk_at "ge"
            rw [Bool.not_not]
            exact hR _ _ [] ⟨rfl, _, hm, rfl⟩ hl2
          · rw [e] at hm
            walk_at "ge"
            exact hR _ _ [] ⟨rfl, _, hm, rfl⟩ hl2
      · rw [List.length_map, g.f.h] at hv hc
        have hvs := bls_of (by rw [hv, ml]) fun i v hi => by
          have hlt : i < Cs.length := by have := (List.getElem?_eq_some_iff.mp hi).1; omega
          exact (hG i v _ hi (List.getElem?_eq_getElem hlt)).2
        have hcs : Cs.flatten = [] := by
          rw [List.flatten_eq_nil_iff]
          intro C hC
          obtain ⟨i, hi⟩ := List.getElem?_of_mem hC
          have hlt : i < vs.length := by have := (List.getElem?_eq_some_iff.mp hi).1; omega
          exact (hG i _ C (List.getElem?_eq_getElem hlt) hi).1
        rw [hvs, hcs] at hl2
        have hl3 : Led H2 (FrC cF S.F ([(pm, HO.lst ((mayS S).map V.bl)), (qt, HO.lst (S.F.hs.map heldV))] ++ rF cT cD cS cI S M)) := Led.perm hl2 (swap2 [(pm, HO.lst ((mayS S).map V.bl)), (qt, HO.lst (S.F.hs.map heldV))] (frB cF S.F) _)
        have hl4 : Led H2 (StC cT cF cD cS cI S ([(pm, HO.lst ((mayS S).map V.bl)), (qt, HO.lst (S.F.hs.map heldV))] ++ M)) := St.ofF (S := S) (F' := S.F) rfl hl3
        clear hl2 hl3 hl1 hG hvs hcs hL
        have hD := St.toD hl4
        have g1 := g.n1
        walk_at "ge"
        refine ⟨S.d, S.ddx, S.dm, pm, S.p, mayS S, S.bs, _, rfl, hD, rD_up mS, by rw [ml, g.bl], by rw [g.bl]; omega, by rw [g.bl]; omega, fun fr bs' H3 hgo hl5 => ?_, fun H3 hno hl5 => ?_⟩
        · rw [ml] at hgo hl5
          have hl6 := St.ofD (S := S) (N := []) (M := [(pm, HO.lst ((mayS S).map V.bl)), (qt, HO.lst (S.F.hs.map heldV))] ++ M) hl5
          obtain ⟨l1, l2, l3⟩ := goF_len _ _ _ hgo
          rw [ml] at l2
          have hfn := l2 (by omega)
          obtain ⟨x, hx⟩ : ∃ x, S.F.hs[fr]? = some x := ⟨_, List.getElem?_eq_getElem (by rw [g.f.h]; exact hfn)⟩
          cases x with
          | none => exact absurd rfl (hall none (List.mem_of_getElem? hx))
          | some x =>
            have hmx := mayS_at (t := x.1) (a := x.2) hx
            rw [List.getD_eq_getElem?_getD, hmx] at l3
            walk_at "ge"
            refine K1.use ?_
            walk_at "cl"
            clear K1 hl5 hD hl4
            refine seqK fun M1 K1 => ?_
            walk_at "ge"
            refine ⟨{ S with p := (fr + 1) % n, bs := bs' }, n, q, fr, x.1, x.2, _, rfl, hl6, (g.turned (Nat.mod_lt _ (by omega)) (l1.trans g.bl)).mono (fun c hc => List.mem_append_right [] (mA hc)), hx, fun m e => ?_, fun S' N H4 hpo gk hl7 => ?_⟩
            · rw [e] at l3
              exact l3
            · walk_at "ge"
              refine K1.use ?_
              walk_at "cl"
              clear K1
              walk_at "ge"
              have e2 : N ++ ([(pm, HO.lst ((mayS S).map V.bl)), (qt, HO.lst (S.F.hs.map heldV))] ++ M) = (N ++ [(pm, HO.lst ((mayS S).map V.bl)), (qt, HO.lst (S.F.hs.map heldV))]) ++ M := (List.append_assoc _ _ _).symm
              have gk' : OkSt S' n q (N ++ ([(pm, HO.lst ((mayS S).map V.bl)), (qt, HO.lst (S.F.hs.map heldV))] ++ M)) := gk
              have hl7' : Led H4 (StC cT cF cD cS cI S' (N ++ ([(pm, HO.lst ((mayS S).map V.bl)), (qt, HO.lst (S.F.hs.map heldV))] ++ M))) := hl7
              rw [e2] at gk' hl7'
              exact kg hall fr bs' x.1 x.2 hgo hx S' _ _ (hpo.mono fun c hc => mB hc) gk' hl7'
        · have hl6 := St.ofD (S := S) (N := []) (M := [(pm, HO.lst ((mayS S).map V.bl)), (qt, HO.lst (S.F.hs.map heldV))] ++ M) hl5
          exact ke hall hno _ _ hl6
    refine ⟨S.F.b, rfl, S.F, n, none, _, rfl, hF, g.f.mono (fun c hc => rF_up hc), (fun t a e => nomatch e), by omega, fun hno => ?_, fun j y h1 h2 h3 => ?_⟩
    · walk_at "ge"
      exact rest fun z hz e => hno z hz (by rw [e])
    · walk_at "ge"
      refine K1.use ?_
      walk_at "cl"
      clear K1
      walk_at "ge"
      · exact kf j _ (by rw [h1]; cases y with | none => rfl | some y => cases h2) (fun m z hm hz e => h3 m z hm hz (by rw [e])) hL
      · exact nomatch (show V.int (j : Nat) = V.non by assumption)
end
section
variable {P : Program} {w : World} {K : PySem.W.Frag} {mg : Str → Option Value} {base : Heap} {cP cU cA cB c1 c2 c3 cC c4 c5 cT cF cD cS cI : Addr}
def putH (hs : List (Int × Int)) (m c : Int) : List (Int × Int) := hs.map fun e => if e.1 = m then (e.1, c) else e
theorem putH_keys (hs : List (Int × Int)) (m c : Int) : (putH hs m c).map (·.1) = hs.map (·.1) := by
  unfold putH
  rw [List.map_map]
  refine List.map_congr_left fun e _ => ?_
  show (if e.1 = m then (e.1, c) else e).1 = e.1
  split <;> rfl
theorem kvH_none {hs : List (Int × Int)} {m : Int} (h : m ∉ hs.map (·.1)) : valV (kvH hs) (.inl m) = none := by
  induction hs with
  | nil => rfl
  | cons e hs ih =>
    rw [List.map_cons, List.mem_cons, not_or] at h
    have hne : ¬ (Sum.inl e.1 : Key) = .inl m := fun z => h.1 (Sum.inl.inj z).symm
    show valV ((Sum.inl e.1, V.int e.2) :: kvH hs) (.inl m) = none
    rw [valV_neg (p := (Sum.inl e.1, V.int e.2)) hne]
    exact ih h.2
theorem kvH_at {hs : List (Int × Int)} {m c : Int} (nd : (hs.map (·.1)).Nodup) (h : (m, c) ∈ hs) : valV (kvH hs) (.inl m) = some (.int c) := by
  induction hs with
  | nil => cases h
  | cons e hs ih =>
    rw [List.map_cons, List.nodup_cons] at nd
    show valV ((Sum.inl e.1, V.int e.2) :: kvH hs) (.inl m) = _
    rcases List.mem_cons.mp h with rfl | h
    · exact valV_pos (p := ((Sum.inl m : Key), V.int c)) rfl
    · have hne : ¬ (Sum.inl e.1 : Key) = .inl m := fun z => nd.1 (Sum.inl.inj z ▸ List.mem_map.mpr ⟨(m, c), h, rfl⟩)
      rw [valV_neg (p := (Sum.inl e.1, V.int e.2)) hne]
      exact ih nd.2 h
theorem putH_at {hs : List (Int × Int)} {m : Int} (c : Int) (h : m ∈ hs.map (·.1)) : (m, c) ∈ putH hs m c := by
  obtain ⟨e, he, rfl⟩ := List.mem_map.mp h
  exact List.mem_map.mpr ⟨e, he, if_pos rfl⟩
theorem kvH_put {hs : List (Int × Int)} {m : Int} (c : Int) (h : m ∈ hs.map (·.1)) : putK (kvH hs) (.inl m) (.int c) = kvH (putH hs m c) := by
  unfold putK
  rw [if_pos]
  · unfold kvH putH
    rw [List.map_map, List.map_map]
    refine List.map_congr_left fun e _ => ?_
    show (if (Sum.inl e.1 : Key) = .inl m then ((Sum.inl e.1 : Key), V.int c) else (Sum.inl e.1, V.int e.2)) = (Sum.inl (if e.1 = m then (e.1, c) else e).1, V.int (if e.1 = m then (e.1, c) else e).2)
    by_cases q : e.1 = m
    · rw [if_pos q, if_pos (by rw [q])]
    · rw [if_neg q, if_neg (fun z => q (Sum.inl.inj z))]
  · obtain ⟨e, he, rfl⟩ := List.mem_map.mp h
    exact List.any_eq_true.mpr ⟨(Sum.inl e.1, V.int e.2), List.mem_map.mpr ⟨e, he, rfl⟩, decide_eq_true rfl⟩
theorem kvH_new {hs : List (Int × Int)} {m : Int} (c : Int) (h : m ∉ hs.map (·.1)) : putK (kvH hs) (.inl m) (.int c) = kvH (hs ++ [(m, c)]) := by
  unfold putK
  rw [if_neg]
  · unfold kvH; rw [List.map_append]; rfl
  · rw [valV_any, kvH_none h]; exact Bool.false_ne_true
theorem kvH_drop (hs : List (Int × Int)) (m : Int) : dropK (kvH hs) (.inl m) = kvH (hs.filter fun e => decide (e.1 ≠ m)) := by
  unfold dropK kvH
  rw [List.filter_map]
  congr 1
  refine List.filter_congr fun e _ => ?_
  show decide ((Sum.inl e.1 : Key) ≠ Sum.inl m) = decide (e.1 ≠ m)
  exact decide_eq_decide.mpr ⟨fun q z => q (by rw [z]), fun q z => q (Sum.inl.inj z)⟩
theorem St.push {H : Hp} {S : SS} {M : Cells} {c : Addr × HO} (h : Led H (c :: StC cT cF cD cS cI S M)) : Led H (StC cT cF cD cS cI S (c :: M)) := by
  have e : ∀ X : Cells, StC cT cF cD cS cI S X = (stO cT S ++ (frB cF S.F ++ (diB cD S ++ (shB cS S ++ fiB cI S)))) ++ X := fun X => by unfold StC; simp only [List.append_assoc]
  rw [e] at h ⊢
  exact Led.perm h List.perm_middle.symm
theorem St.putH {H : Hp} {S : SS} {M : Cells} (h : Led H (StC cT cF cD cS cI S M)) (hs' : List (Int × Int)) : Led (upd H S.ho (.dK (kvH hs'))) (StC cT cF cD cS cI { S with hs := hs' } M) := by
  have h1 : Led H ((S.b, .ins cT S.dx (stF S)) :: (S.ho, .dK (kvH S.hs)) :: (frB cF S.F ++ (diB cD S ++ (shB cS S ++ (fiB cI S ++ M))))) := h
  exact (Led.put (o' := .dK (kvH hs')) h1.swap rfl rfl).swap
theorem St.putM {H : Hp} {S : SS} {M : Cells} (h : Led H (StC cT cF cD cS cI S M)) (k : Int) : Led (upd H S.b (.ins cT S.dx (putF (Str.ofString "sheets_made") (.int k) (stF S)))) (StC cT cF cD cS cI { S with made := k } M) := by
  have h1 : Led H ((S.b, .ins cT S.dx (stF S)) :: (S.ho, .dK (kvH S.hs)) :: (frB cF S.F ++ (diB cD S ++ (shB cS S ++ (fiB cI S ++ M))))) := h
  exact Led.put (o' := .ins cT S.dx (stF { S with made := k })) h1 rfl rfl
def spRoom (cT cF cD cS cI : Addr) : Sp := fun vs H Q _ => ∃ (S : SS) (n q : Nat) (M : Cells), vs = [.ref S.b] ∧ Led H (StC cT cF cD cS cI S M) ∧ S.F.hs.length = n ∧ n ≤ 64 ∧ S.ps.length = q ∧ q ≤ 550 ∧ S.hs.length ≤ 600 ∧ ∀ (N : Cells) (H' : Hp), Led H' (StC cT cF cD cS cI S (N ++ M)) → Q (.int ((n : Int) - 1 + (q : Int) - (S.hs.length : Int))) H'
theorem ok_room (D : Def K mg "room_of" s_room_of) (B : Blt mg) (T : Txt K mg cP cU cA cB c1 c2 c3 cC c4 c5 cT cF cD cS cI) (M_Frames_things : MethD P w K mg base 1 cF "things" ["self"] (spThings cF)) (M_Shelf_sheets : MethD P w K mg base 1 cS "sheets" ["self"] (spSheets cS)) : FnD P w K mg base 2 "room_of" ["store"] (spRoom cT cF cD cS cI) := by
  have sc := sc_room_of
  refine D.ok sc_room_of (fun vs H Q E h => ?_) (fun _ _ _ _ _ _ us hl => match us, hl with | [_], _ => rfl) (fun f cdv A outer s H vs Q E hr h => ?_)
  · obtain ⟨_, _, _, _, rfl, _⟩ := h; rfl
  · obtain ⟨S, n, q, M, rfl, hL, hn, h64, hq, h550, hh, k⟩ := h
    have hsz := sizeLine_eq
    have f1 := stF_fr S
    have f3 := stF_sh S
    have f5 := stF_ho S
    have c_b := hL.get St.b
    have hF := St.toF hL
    have c_f := hF.get mS
    refine ⟨_, (@pss_cons _ _ _ _ _ (@ps_set _ _ 1 _ _ _ _ sc.nd rfl (by walk_at "o2") (@pe_op _ _ _ _ _ _ _ _ op_add (@pe_op _ _ _ _ _ _ _ _ op_sub (@pe_callB _ _ _ _ _ _ _ _ _ call_lenA (by rfl) B.len bt_len (@pa_cons _ _ _ _ _ (@pe_methD0 _ _ _ _ _ _ _ _ _ _ _ _ _ T.Frames M_Frames_things (hr.mono (by omega)) passR0 (@pe_fldC _ _ _ _ _ _ _ T.Store T.n_frames (@pv _ 0 _ _ (by rfl) (by walk_at "o3") (by decide) (by decide)) (by rfl)) (by rfl)) (@pa_nil _) (by rfl)) (by decide) (by decide) (by rfl) (by rfl)) (@pe_int _ _ _ _)) (@pe_callB _ _ _ _ _ _ _ _ _ call_lenA (by rfl) B.len bt_len (@pa_cons _ _ _ _ _ (@pe_methD0 _ _ _ _ _ _ _ _ _ _ _ _ _ T.Shelf M_Shelf_sheets (hr.mono (by omega)) passR0 (@pe_fldC _ _ _ _ _ _ _ T.Store T.n_shelf (@pv _ 0 _ _ (by rfl) (by walk_at "o3") (by decide) (by decide)) (by rfl)) (by rfl)) (@pa_nil _) (by rfl)) (by decide) (by decide) (by rfl) (by rfl))) (by rfl) (by first | exact .inl rfl | exact .inr rfl | assumption)) (@pss_one _ _ _ (@ps_ret _ _ _ _ (@pe_op _ _ _ _ _ _ _ _ op_sub (@pv _ 1 _ _ (by rfl) (by walk_at "o3") (by decide) (by decide)) (@pe_callB _ _ _ _ _ _ _ _ _ call_lenA (by rfl) B.len bt_len (@pa_cons _ _ _ _ _ (@pe_fldC _ _ _ _ _ _ _ T.Store T.n_holders (@pv _ 0 _ _ (by rfl) (by walk_at "o3") (by decide) (by decide)) (by rfl)) (@pa_nil _) (by rfl)) (by decide) (by decide) (by rfl) (by rfl)))))), ?_⟩
    refine seqK fun M1 K1 => ?_
    walk_at "ge"
    refine ⟨S.F, _, rfl, hF, by omega, fun qt H1 hl1 => ?_⟩
    have hl2 : Led H1 (FrC cF S.F ([(qt, HO.lst (S.F.hs.map heldV))] ++ rF cT cD cS cI S M)) := Led.perm hl1 (swap2 [(qt, HO.lst (S.F.hs.map heldV))] (frB cF S.F) _)
    have c_q := hl1.get mS
    have hl3 : Led H1 (StC cT cF cD cS cI S ([(qt, HO.lst (S.F.hs.map heldV))] ++ M)) := St.ofF (S := S) (F' := S.F) rfl hl2
    clear hl1 hl2 hF c_f c_b hL
    have c_b := hl3.get St.b
    have hS := St.toS hl3
    have c_s := hS.get sk1
    have c_p := hS.get sk2
    walk_at "ge"
    refine ⟨S.sb, S.sdx, S.sl, S.sd, S.ps, _, rfl, hl3, c_s, c_p, fun r H2 hl4 => ?_⟩
    walk_at "ge"
    have hl5 := St.push hl4
    clear hl3 hl4 hS c_s c_p c_b c_q
    have c_b := hl5.get St.b
    have c_h := hl5.get St.ho
    refine K1.use ?_
    walk_at "cl"
    clear K1
    walk_at "ge"
    have e1 : (kvH S.hs).length = S.hs.length := by unfold kvH; exact List.length_map ..
    have e2 : (S.F.hs.map heldV).length = n := by rw [List.length_map]; exact hn
    have := k [(r, HO.lst S.ps), (qt, HO.lst (S.F.hs.map heldV))] _ hl5
    rw [e1, e2, hq]
    exact this
def spHolders (cT cF cD cS cI : Addr) : Sp := fun vs H Q _ => ∃ (S : SS) (m : Int) (M : Cells), vs = [.ref S.b, .int m] ∧ Led H (StC cT cF cD cS cI S M) ∧ Q ((valV (kvH S.hs) (.inl m)).getD (.int 0)) H
theorem ok_holders (D : Def K mg "holders_of" s_holders_of) (B : Blt mg) (T : Txt K mg cP cU cA cB c1 c2 c3 cC c4 c5 cT cF cD cS cI) : FnD P w K mg base 1 "holders_of" ["store", "sheet"] (spHolders cT cF cD cS cI) := by
  have sc := sc_holders_of
  refine D.ok sc_holders_of (fun vs H Q E h => ?_) (fun _ _ _ _ _ _ us hl => match us, hl with | [_, _], _ => rfl) (fun f cdv A outer s H vs Q E hr h => ?_)
  · obtain ⟨_, _, _, rfl, _⟩ := h; rfl
  · obtain ⟨S, m, M, rfl, hL, k⟩ := h
    have hu := unit1 hr
    have f5 := stF_ho S
    have c_b := hL.get St.b
    have c_h := hL.get St.ho
    refine ⟨_, (@pss_one _ _ _ (@ps_ret _ _ _ _ (@pe_dget2 _ _ _ _ _ _ _ _ _ hu (@pe_fldC _ _ _ _ _ _ _ T.Store T.n_holders (@pv _ 0 _ _ (by rfl) (by walk_at "o3") (by decide) (by decide)) (by rfl)) (@pv _ 1 _ _ (by rfl) (by walk_at "o3") (by decide) (by decide)) (@pe_int _ _ _ _) ⟨rfl, rfl, rfl, rfl⟩))), ?_⟩
    walk_at "ge"
    unfold tDGet2
    walk_at "ge"
    refine ⟨S.ho, rfl, .inl ⟨_, .inl c_h⟩, ?_⟩
    walk_at "ge"
    refine ⟨_, DGet.k (k := .inl m) c_h, ?_⟩
    walk_at "ge"
    exact k
def spHold (cT cF cD cS cI : Addr) : Sp := fun vs H Q _ => ∃ (S : SS) (m c : Int) (M : Cells), vs = [.ref S.b, .int m] ∧ Led H (StC cT cF cD cS cI S M) ∧ S.hs.length ≤ 600 ∧ (S.hs.map (·.1)).Nodup ∧ (m, c) ∈ S.hs ∧ ∀ H', Led H' (StC cT cF cD cS cI { S with hs := putH S.hs m (c + 1) } M) → Q (.int (c + 1)) H'
theorem ok_hold (D : Def K mg "hold" s_hold) (B : Blt mg) (T : Txt K mg cP cU cA cB c1 c2 c3 cC c4 c5 cT cF cD cS cI) : FnD P w K mg base 1 "hold" ["store", "sheet"] (spHold cT cF cD cS cI) := by
  have sc := sc_hold
  refine D.ok sc_hold (fun vs H Q E h => ?_) (fun _ _ _ _ _ _ us hl => match us, hl with | [_, _], _ => rfl) (fun f cdv A outer s H vs Q E hr h => ?_)
  · obtain ⟨_, _, _, _, rfl, _⟩ := h; rfl
  · obtain ⟨S, m, c, M, rfl, hL, hh, nd, hm, k⟩ := h
    have hu := unit1 hr
    have hsz := sizeLine_eq
    have hv := kvH_at nd hm
    have hmk : m ∈ S.hs.map (·.1) := List.mem_map.mpr ⟨_, hm, rfl⟩
    have f5 := stF_ho S
    have c_b := hL.get St.b
    have c_h := hL.get St.ho
    refine ⟨_, (@pss_cons _ _ _ _ _ (@ps_dput _ _ _ _ _ _ _ _ _ hu (@pe_fldC _ _ _ _ _ _ _ T.Store T.n_holders (@pv _ 0 _ _ (by rfl) (by walk_at "o3") (by decide) (by decide)) (by rfl)) (@pv _ 1 _ _ (by rfl) (by walk_at "o3") (by decide) (by decide)) (@pe_op _ _ _ _ _ _ _ _ op_add (@pe_dget _ _ _ _ _ _ hu (@pe_fldC _ _ _ _ _ _ _ T.Store T.n_holders (@pv _ 0 _ _ (by rfl) (by walk_at "o3") (by decide) (by decide)) (by rfl)) (@pv _ 1 _ _ (by rfl) (by walk_at "o3") (by decide) (by decide)) (fun _ _ => rfl)) (@pe_int _ _ _ _)) rfl) (@pss_one _ _ _ (@ps_ret _ _ _ _ (@pe_dget _ _ _ _ _ _ hu (@pe_fldC _ _ _ _ _ _ _ T.Store T.n_holders (@pv _ 0 _ _ (by rfl) (by walk_at "o3") (by decide) (by decide)) (by rfl)) (@pv _ 1 _ _ (by rfl) (by walk_at "o3") (by decide) (by decide)) (fun _ _ => rfl))))), ?_⟩
    refine seqK fun M1 K1 => ?_
    walk_at "ge"
    refine dgetR c_h hv ?_
    walk_at "ge"
    refine dputR c_h (by unfold kvH; rw [List.length_map]; omega) ?_
    rw [kvH_put _ hmk]
    have hl2 := St.putH hL (putH S.hs m (c + 1))
    generalize upd H S.ho (.dK (kvH (putH S.hs m (c + 1)))) = H2 at hl2 ⊢
    walk_at "ge"
    refine K1.use ?_
    walk_at "cl"
    clear K1 c_b c_h hL
    have c_b := hl2.get St.b
    have c_h := hl2.get St.ho
    walk_at "ge"
    refine dgetR c_h (kvH_at (by rw [putH_keys]; exact nd) (putH_at _ hmk)) ?_
    walk_at "ge"
    exact k _ hl2
end
section
variable {P : Program} {w : World} {K : PySem.W.Frag} {mg : Str → Option Value} {base : Heap} {cP cU cA cB c1 c2 c3 cC c4 c5 cT cF cD cS cI : Addr}
theorem eqV_int {v : V} {m : Int} (hv : v = .non ∨ ∃ k : Int, v = .int k) (h : eqV v (.int m) = true) : v = .int m := by
  rcases hv with rfl | ⟨k, rfl⟩
  · cases h
  · have : decide (k = m) = true := h
    rw [of_decide_eq_true this]
theorem OkSt.int_at {S : SS} {n q : Nat} {M : Cells} (g : OkSt S n q M) {m : Int} (h : inV (.int m) S.ps = true) : S.ps[idx S.ps (.int m)]? = some (.int m) := by
  obtain ⟨v, hv, he⟩ := idx_at h
  rw [hv, eqV_int (g.pe v (List.mem_of_getElem? hv)) he]
theorem OkSt.unshelve {S : SS} {n q : Nat} {M : Cells} {m : Int} (g : OkSt S n q M) (hin : inV (.int m) S.ps = true) :
    OkSt { S with ps := S.ps.set (idx S.ps (.int m)) .non, es := S.es.filter fun x => decide (x.1 ≠ m) } n q M := by
  have hat := g.int_at hin
  have hlt : idx S.ps (.int m) < S.ps.length := (List.getElem?_eq_some_iff.mp hat).1
  have atS : ∀ (j : Nat) (k : Int), (S.ps.set (idx S.ps (.int m)) .non)[j]? = some (.int k) → j ≠ idx S.ps (.int m) ∧ S.ps[j]? = some (.int k) := fun j k h => by
    rw [List.getElem?_set] at h
    by_cases e : idx S.ps (.int m) = j
    · rw [if_pos e, if_pos hlt] at h
      cases h
    · rw [if_neg e] at h
      exact ⟨fun z => e z.symm, h⟩
  refine { g with pl := (List.length_set ..).trans g.pl, pe := fun v hv => ?_, nd := ?_, pk := fun k => ?_, pi := fun i j k h1 h2 => g.pi i j k (atS i k h1).2 (atS j k h2).2, ap := fun i t k h hk => ?_, er := fun e he => g.er e (List.mem_filter.mp he).1 }
  · rcases List.mem_or_eq_of_mem_set hv with h | h
    · exact g.pe v h
    · exact .inl h
  · exact g.nd.sublist (List.Sublist.map _ List.filter_sublist)
  · show V.int k ∈ S.ps.set (idx S.ps (.int m)) .non ↔ k ∈ (S.es.filter fun x => decide (x.1 ≠ m)).map (·.1)
    constructor
    · intro h
      obtain ⟨j, hj⟩ := List.getElem?_of_mem h
      obtain ⟨h1, h2⟩ := atS j k hj
      obtain ⟨e, he, rfl⟩ := List.mem_map.mp ((g.pk k).mp (List.mem_of_getElem? h2))
      refine List.mem_map.mpr ⟨e, List.mem_filter.mpr ⟨he, decide_eq_true fun z => h1 ?_⟩, rfl⟩
      rw [z] at h2
      exact g.pi j _ m h2 hat
    · intro h
      obtain ⟨e, he, rfl⟩ := List.mem_map.mp h
      obtain ⟨he, hne⟩ := List.mem_filter.mp he
      obtain ⟨j, hj⟩ := List.getElem?_of_mem ((g.pk e.1).mpr (List.mem_map.mpr ⟨e, he, rfl⟩))
      have hjn : idx S.ps (.int m) ≠ j := fun z => by
        rw [← z, hat] at hj
        injection hj with hj
        injection hj with hj
        exact of_decide_eq_true hne hj.symm
      refine List.mem_of_getElem? (i := j) ?_
      rw [List.getElem?_set, if_neg hjn]
      exact hj
  · obtain ⟨e, he, e2⟩ := List.mem_map.mp hk
    exact g.ap i t k h (List.mem_map.mpr ⟨e, (List.mem_filter.mp he).1, e2⟩)
def Ended (S S' : SS) (m : Int) : Prop :=
  (∃ (i : Nat) (t : Addr), S.F.hs[i]? = some (some (t, Th.own m)) ∧ S' = My.freed { S with hs := S.hs.filter fun e => decide (e.1 ≠ m) } i) ∨
  ((∀ (i : Nat) (t : Addr), S.F.hs[i]? ≠ some (some (t, Th.own m))) ∧ inV (.int m) S.ps = true ∧ S' = { S with hs := S.hs.filter fun e => decide (e.1 ≠ m), ps := S.ps.set (idx S.ps (.int m)) .non, es := S.es.filter fun x => decide (x.1 ≠ m) })
def spEnd (cT cF cD cS cI : Addr) : Sp := fun vs H Q _ => ∃ (S : SS) (n q : Nat) (m c : Int) (M : Cells), vs = [.ref S.b, .int m] ∧ Led H (StC cT cF cD cS cI S M) ∧ OkSt S n q M ∧ valV (kvH S.hs) (.inl m) = some (.int c) ∧ ((∃ (i : Nat) (t : Addr), S.F.hs[i]? = some (some (t, Th.own m))) ∨ m ∈ S.es.map (·.1)) ∧
  ∀ (S' : SS) (N : Cells) (H' : Hp), Ended S S' m → OkSt S' n q (N ++ M) → Led H' (StC cT cF cD cS cI S' (N ++ M)) → Q .non H'
theorem ok_end (D : Def K mg "end_sheet" s_end_sheet) (B : Blt mg) (T : Txt K mg cP cU cA cB c1 c2 c3 cC c4 c5 cT cF cD cS cI) (M_Frames_where : MethD P w K mg base 1 cF "where" ["self", "thing"] (spWhere cF)) (M_Shelf_take_off : MethD P w K mg base 1 cS "take_off" ["self", "sheet"] (spTake cS)) (G_free_frame : FnD P w K mg base 2 "free_frame" ["store", "frame"] (spFree cT cF cD cS cI)) : FnD P w K mg base 3 "end_sheet" ["store", "sheet"] (spEnd cT cF cD cS cI) := by
  have sc := sc_end_sheet
  refine D.ok sc_end_sheet (fun vs H Q E h => ?_) (fun _ _ _ _ _ _ us hl => match us, hl with | [_, _], _ => rfl) (fun f cdv A outer s H vs Q E hr h => ?_)
  · obtain ⟨_, _, _, _, _, _, rfl, _⟩ := h; rfl
  · obtain ⟨S, n, q, m, c, M, rfl, hL, g, hv, hw, k⟩ := h
    have hu := unit1 hr
    have f5 := stF_ho S
    have c_b := hL.get St.b
    have c_h := hL.get St.ho
    refine ⟨_, (@pss_cons _ _ _ _ _ (@ps_expr _ _ _ _ (@pe_dpop1 _ _ _ _ _ _ _ (@pe_fldC _ _ _ _ _ _ _ T.Store T.n_holders (@pv _ 0 _ _ (by rfl) (by walk_at "o3") (by decide) (by decide)) (by rfl)) (@pv _ 1 _ _ (by rfl) (by walk_at "o3") (by decide) (by decide)) ⟨rfl, rfl, rfl, rfl⟩) (by rfl)) (@pss_cons _ _ _ _ _ (@ps_set _ _ 2 _ _ _ _ sc.nd rfl (by walk_at "o2") (@pe_methD _ _ _ _ _ _ _ _ _ _ _ _ _ _ _ _ T.Frames M_Frames_where (hr.mono (by omega)) passR0 (@pe_fldC _ _ _ _ _ _ _ T.Store T.n_frames (@pv _ 0 _ _ (by rfl) (by walk_at "o3") (by decide) (by decide)) (by rfl)) (@pa_cons _ _ _ _ _ (@pe_tup _ _ _ _ _ (@pa_cons _ _ _ _ _ (@pe_str _ _ _ _) (@pa_cons _ _ _ _ _ (@pv _ 1 _ _ (by rfl) (by walk_at "o3") (by decide) (by decide)) (@pa_nil _) (by rfl)) (by rfl))) (@pa_nil _) (by rfl)) (by rfl) (by rfl) (by rfl)) (by rfl) (by first | exact .inl rfl | exact .inr rfl | assumption)) (@pss_one _ _ _ (@ps_if _ _ _ _ _ _ _ _ (@pt_cmpR _ _ _ _ _ _ _ _ op_isN (@pv _ 2 _ _ (by rfl) (by walk_at "o3") (by decide) (by decide)) (@pe_non _ _ _) (nomark _)) (@pss_one _ _ _ (@ps_expr _ _ _ _ (@pe_methD _ _ _ _ _ _ _ _ _ _ _ _ _ _ _ _ T.Shelf M_Shelf_take_off (hr.mono (by omega)) passR0 (@pe_fldC _ _ _ _ _ _ _ T.Store T.n_shelf (@pv _ 0 _ _ (by rfl) (by walk_at "o3") (by decide) (by decide)) (by rfl)) (@pa_cons _ _ _ _ _ (@pv _ 1 _ _ (by rfl) (by walk_at "o3") (by decide) (by decide)) (@pa_nil _) (by rfl)) (by rfl) (by rfl) (by rfl)) (by rfl))) (@pss_one _ _ _ (@ps_expr _ _ _ _ (@pe_callD _ _ _ _ _ _ _ _ _ _ _ G_free_frame (hr.mono (by omega)) (by rfl) passR0 (@pa_cons _ _ _ _ _ (@pv _ 0 _ _ (by rfl) (by walk_at "o3") (by decide) (by decide)) (@pa_cons _ _ _ _ _ (@pv _ 2 _ _ (by rfl) (by walk_at "o3") (by decide) (by decide)) (@pa_nil _) (by rfl)) (by rfl)) (by decide) (by rfl) (by rfl)) (by rfl))))))), ?_⟩
    refine seqK fun M1 K1 => ?_
    walk_at "ge"
    refine dpop1H fun R5 hR5 => ?_
    walk_at "ge"
    refine dpopR c_h hv ?_
    rw [kvH_drop]
    have hl2 := St.putH hL (S.hs.filter fun e => decide (e.1 ≠ m))
    generalize upd H S.ho (.dK (kvH (S.hs.filter fun e => decide (e.1 ≠ m)))) = H2 at hl2 ⊢
    obtain ⟨S2, eS2⟩ : ∃ S2 : SS, S2 = { S with hs := S.hs.filter fun e => decide (e.1 ≠ m) } := ⟨_, rfl⟩
    rw [← eS2] at hl2
    walk_at "ge"
    refine K1.use ?_
    walk_at "cl"
    clear K1 hL c_h c_b f5
    have g2 : OkSt S2 n q M := by rw [eS2]; exact { g with }
    have eb : S.b = S2.b := by rw [eS2]
    have f1 := stF_fr S2
    have f3 := stF_sh S2
    rw [eb]
    have c_b := hl2.get St.b
    have hF0 := St.toF hl2
    have c_f := hF0.get mS
    refine seqK fun M1 K1 => ?_
    walk_at "ge"
    rename_i t H3 _ hl3 _
    have hl4 : Led H3 (FrC cF S2.F ([(t, HO.tup (thV (.own m)))] ++ rF cT cD cS cI S2 M)) := Led.perm hl3 (swap2 [(t, HO.tup (thV (.own m)))] (frB cF S2.F) _)
    have hl5 : Led H3 (StC cT cF cD cS cI S2 ([(t, HO.tup (thV (.own m)))] ++ M)) := St.ofF (S := S2) (F' := S2.F) rfl hl4
    clear hl3 hl2 hF0 c_f c_b
    have g3 : OkSt S2 n q ([(t, HO.tup (thV (.own m)))] ++ M) := g2.mono fun c hc => mA hc
    have c_b := hl5.get St.b
    have hS := St.toS hl5
    have c_s := hS.get sk1
    refine ⟨S2.F, n, some (t, .own m), _, rfl, hl4, g2.f.mono (fun c hc => mA (rF_up hc)), fun t' a e => ?_, by have := g.n64; omega, fun hno => ?_, fun j y h1 h2 _ => ?_⟩
    · cases e
      exact ⟨mS, True.intro⟩
    · have hk : m ∈ S2.es.map (·.1) := by
        rcases hw with ⟨i, t', hi⟩ | h
        · refine absurd rfl (hno (some (t', .own m)) ?_)
          rw [eS2]
          exact List.mem_of_getElem? hi
        · rw [eS2]; exact h
      obtain ⟨e, he, em⟩ := List.mem_map.mp hk
      have hin : inV (.int m) S2.ps = true := List.any_eq_true.mpr ⟨.int m, (g2.pk m).mpr hk, show decide (m = m) = true from decide_eq_true rfl⟩
      walk_at "ge"
      refine K1.use ?_
      walk_at "cl"
      clear K1
      walk_at "ge"
      · refine ⟨S2.sb, S2.sdx, S2.sl, S2.sd, S2.ps, S2.es, e, _, by rw [em]; rfl, hS, g2.flat, by rw [em]; exact hin, g2.nd, he, fun H4 hl6 => ?_⟩
        rw [em] at hl6
        have hl7 : Led H4 (ShC cS S2.sb S2.sdx S2.sl S2.sd (S2.ps.set (idx S2.ps (.int m)) .non) (S2.es.filter fun x => decide (x.1 ≠ m)) ++ ([(e.2.1, .lst (e.2.2.map V.int))] ++ rS cT cF cD cI S2 ([(t, HO.tup (thV (.own m)))] ++ M))) := Led.perm hl6 List.perm_middle.symm
        have hl8 := St.ofS hl7
        have g4 := (g3.unshelve hin).mono (M' := [(e.2.1, .lst (e.2.2.map V.int))] ++ ([(t, HO.tup (thV (.own m)))] ++ M)) fun c hc => mA hc
        walk_at "ge"
        subst eS2
        exact k _ [(e.2.1, .lst (e.2.2.map V.int)), (t, HO.tup (thV (.own m)))] _ (.inr ⟨fun i t' hi => hno (some (t', Th.own m)) (List.mem_of_getElem? hi) rfl, hin, rfl⟩) g4 hl8
      · exact absurd (rfl : V.non = V.non) (by assumption)
    · walk_at "ge"
      refine K1.use ?_
      walk_at "cl"
      clear K1
      walk_at "ge"
      · exact nomatch (show V.int (j : Nat) = V.non by assumption)
      · have hj : j < n := by have := (List.getElem?_eq_some_iff.mp h1).1; rw [g2.f.h] at this; exact this
        refine ⟨S2, n, j, _, rfl, hl5, g3.f, g3.bl, hj, fun H4 hl6 => ?_⟩
        have g4 := g3.freed j
        walk_at "ge"
        have hy : ∃ t', y = some (t', Th.own m) := by
          cases y with
          | none => cases h2
          | some y => exact ⟨y.1, congrArg some (Prod.ext rfl (Option.some.inj h2))⟩
        obtain ⟨t', rfl⟩ := hy
        subst eS2
        exact k _ [(t, HO.tup (thV (.own m)))] _ (.inl ⟨j, t', h1, rfl⟩) g4 hl6
theorem putH_drop (hs : List (Int × Int)) (m c : Int) : ((putH hs m c).filter fun e => decide (e.1 ≠ m)) = hs.filter fun e => decide (e.1 ≠ m) := by
  induction hs with
  | nil => rfl
  | cons e hs ih =>
    show ((if e.1 = m then (e.1, c) else e) :: putH hs m c).filter _ = _
    by_cases q : e.1 = m
    · rw [if_pos q, List.filter_cons_of_neg (by simp [q]), List.filter_cons_of_neg (by simp [q])]
      exact ih
    · rw [if_neg q, List.filter_cons_of_pos (by simp [q]), List.filter_cons_of_pos (by simp [q]), ih]
def spLet (cT cF cD cS cI : Addr) : Sp := fun vs H Q _ => ∃ (S : SS) (n q : Nat) (m c : Int) (M : Cells), vs = [.ref S.b, .int m] ∧ Led H (StC cT cF cD cS cI S M) ∧ OkSt S n q M ∧ S.hs.length ≤ 600 ∧ (S.hs.map (·.1)).Nodup ∧ (m, c) ∈ S.hs ∧ ((∃ (i : Nat) (t : Addr), S.F.hs[i]? = some (some (t, Th.own m))) ∨ m ∈ S.es.map (·.1)) ∧
  (c ≠ 1 → ∀ H', Led H' (StC cT cF cD cS cI { S with hs := putH S.hs m (c - 1) } M) → Q (.int (c - 1)) H') ∧
  (c = 1 → ∀ (S' : SS) (N : Cells) (H' : Hp), Ended S S' m → OkSt S' n q (N ++ M) → Led H' (StC cT cF cD cS cI S' (N ++ M)) → Q (.int 0) H')
theorem Ended.of {S S' : SS} {m c : Int} (h : Ended { S with hs := putH S.hs m c } S' m) : Ended S S' m := by
  unfold Ended at h ⊢
  have e := putH_drop S.hs m c
  rcases h with ⟨i, t, h1, h2⟩ | ⟨h1, h2, h3⟩
  · refine .inl ⟨i, t, h1, ?_⟩
    rw [h2]
    show My.freed { S with hs := (putH S.hs m c).filter fun e => decide (e.1 ≠ m) } i = _
    rw [e]
  · refine .inr ⟨h1, h2, ?_⟩
    rw [h3]
    show ({ S with hs := (putH S.hs m c).filter fun e => decide (e.1 ≠ m), ps := _, es := _ } : SS) = _
    rw [e]
theorem ok_let (D : Def K mg "let_go" s_let_go) (B : Blt mg) (T : Txt K mg cP cU cA cB c1 c2 c3 cC c4 c5 cT cF cD cS cI) (G_end_sheet : FnD P w K mg base 3 "end_sheet" ["store", "sheet"] (spEnd cT cF cD cS cI)) : FnD P w K mg base 4 "let_go" ["store", "sheet"] (spLet cT cF cD cS cI) := by
  have sc := sc_let_go
  refine D.ok sc_let_go (fun vs H Q E h => ?_) (fun _ _ _ _ _ _ us hl => match us, hl with | [_, _], _ => rfl) (fun f cdv A outer s H vs Q E hr h => ?_)
  · obtain ⟨_, _, _, _, _, _, rfl, _⟩ := h; rfl
  · obtain ⟨S, n, q, m, c, M, rfl, hL, g, hh, nd, hm, hw, k1, k2⟩ := h
    have hu := unit1 hr
    have hsz := sizeLine_eq
    have hv := kvH_at nd hm
    have hmk : m ∈ S.hs.map (·.1) := List.mem_map.mpr ⟨_, hm, rfl⟩
    have f5 := stF_ho S
    have c_b := hL.get St.b
    have c_h := hL.get St.ho
    refine ⟨_, (@pss_cons _ _ _ _ _ (@ps_set _ _ 2 _ _ _ _ sc.nd rfl (by walk_at "o2") (@pe_op _ _ _ _ _ _ _ _ op_sub (@pe_dget _ _ _ _ _ _ hu (@pe_fldC _ _ _ _ _ _ _ T.Store T.n_holders (@pv _ 0 _ _ (by rfl) (by walk_at "o3") (by decide) (by decide)) (by rfl)) (@pv _ 1 _ _ (by rfl) (by walk_at "o3") (by decide) (by decide)) (fun _ _ => rfl)) (@pe_int _ _ _ _)) (by rfl) (by first | exact .inl rfl | exact .inr rfl | assumption)) (@pss_cons _ _ _ _ _ (@ps_dput _ _ _ _ _ _ _ _ _ hu (@pe_fldC _ _ _ _ _ _ _ T.Store T.n_holders (@pv _ 0 _ _ (by rfl) (by walk_at "o3") (by decide) (by decide)) (by rfl)) (@pv _ 1 _ _ (by rfl) (by walk_at "o3") (by decide) (by decide)) (@pv _ 2 _ _ (by rfl) (by walk_at "o3") (by decide) (by decide)) rfl) (@pss_cons _ _ _ _ _ (@ps_if _ _ _ _ _ _ _ _ (@pt_cmpR _ _ _ _ _ _ _ _ op_eq (@pv _ 2 _ _ (by rfl) (by walk_at "o3") (by decide) (by decide)) (@pe_int _ _ _ _) (nomark _)) (@pss_one _ _ _ (@ps_expr _ _ _ _ (@pe_callD _ _ _ _ _ _ _ _ _ _ _ G_end_sheet (hr.mono (by omega)) (by rfl) passR0 (@pa_cons _ _ _ _ _ (@pv _ 0 _ _ (by rfl) (by walk_at "o3") (by decide) (by decide)) (@pa_cons _ _ _ _ _ (@pv _ 1 _ _ (by rfl) (by walk_at "o3") (by decide) (by decide)) (@pa_nil _) (by rfl)) (by rfl)) (by decide) (by rfl) (by rfl)) (by rfl))) (@pss_nil _)) (@pss_one _ _ _ (@ps_ret _ _ _ _ (@pv _ 2 _ _ (by rfl) (by walk_at "o3") (by decide) (by decide))))))), ?_⟩
    refine seqK fun M1 K1 => ?_
    walk_at "ge"
    refine dgetR c_h hv ?_
    walk_at "ge"
    refine K1.use ?_
    walk_at "cl"
    clear K1
    refine seqK fun M1 K1 => ?_
    walk_at "ge"
    refine dputR c_h (by unfold kvH; rw [List.length_map]; omega) ?_
    rw [kvH_put _ hmk]
    have hl2 := St.putH hL (putH S.hs m (c - 1))
    generalize upd H S.ho (.dK (kvH (putH S.hs m (c - 1)))) = H2 at hl2 ⊢
    walk_at "ge"
    refine K1.use ?_
    walk_at "cl"
    clear K1 c_b c_h hL
    refine seqK fun M1 K1 => ?_
    walk_at "ge"
    · have hc : c = 1 := by omega
      refine ⟨{ S with hs := putH S.hs m (c - 1) }, n, q, m, c - 1, M, rfl, hl2, { g with }, kvH_at (by show ((putH S.hs m (c - 1)).map (·.1)).Nodup; rw [putH_keys]; exact nd) (putH_at _ hmk), hw, fun S' N H3 hE g3 hl3 => ?_⟩
      walk_at "ge"
      refine K1.use ?_
      walk_at "cl"
      clear K1
      walk_at "ge"
      rw [show c - 1 = 0 by omega]
      exact k2 hc S' N _ (Ended.of hE) g3 hl3
    · have hc : c ≠ 1 := by omega
      refine K1.use ?_
      walk_at "cl"
      clear K1
      walk_at "ge"
      exact k1 hc _ hl2
end
section
variable {P : Program} {w : World} {K : PySem.W.Frag} {mg : Str → Option Value} {base : Heap} {cP cU cA cB c1 c2 c3 cC c4 c5 cT cF cD cS cI : Addr}
def Lies (S : SS) (m : Int) : Prop := (∃ (i : Nat) (t : Addr), S.F.hs[i]? = some (some (t, Th.own m))) ∨ m ∈ S.es.map (·.1)
theorem PO.hs {N : Cells} {S S' : SS} {i : Nat} {a : Th} (h : PO N S i S' a) : S'.F.hs = S.F.hs.set i none ∧ S'.hs = S.hs ∧ S'.made = S.made ∧ S'.b = S.b ∧ S'.ho = S.ho := by
  cases a with
  | own m => obtain ⟨r, row, b, _, rfl⟩ := h; exact ⟨rfl, rfl, rfl, rfl, rfl⟩
  | file z p =>
    obtain ⟨r, row, _, h⟩ := h
    rcases h with ⟨_, rfl⟩ | ⟨_, as, bs, e, j, nr, _, _, _, _, _, rfl⟩
    · exact ⟨rfl, rfl, rfl, rfl, rfl⟩
    · exact ⟨rfl, rfl, rfl, rfl, rfl⟩
theorem PO.es {N : Cells} {S S' : SS} {i : Nat} {a : Th} (h : PO N S i S' a) : S'.es.map (·.1) = S.es.map (·.1) ++ (match a with | .own m => [m] | .file _ _ => []) := by
  cases a with
  | own m => obtain ⟨r, row, b, _, rfl⟩ := h; show (S.es ++ [(m, b, row)]).map (·.1) = _; rw [List.map_append]; rfl
  | file z p =>
    obtain ⟨r, row, _, h⟩ := h
    rcases h with ⟨_, rfl⟩ | ⟨_, as, bs, e, j, nr, _, _, _, _, _, rfl⟩
    · exact (List.append_nil _).symm
    · exact (List.append_nil _).symm
theorem PO.lies {N : Cells} {S S' : SS} {i : Nat} {a : Th} {t : Addr} (hi : S.F.hs[i]? = some (some (t, a))) (h : PO N S i S' a) (k : Int) : Lies S' k ↔ Lies S k := by
  have hlt : i < S.F.hs.length := (List.getElem?_eq_some_iff.mp hi).1
  unfold Lies
  rw [h.es, h.hs.1, List.mem_append]
  constructor
  · rintro (⟨j, u, hj⟩ | hk | hk)
    · rw [List.getElem?_set] at hj
      by_cases e : i = j
      · subst e
        rw [if_pos rfl, if_pos hlt] at hj
        cases hj
      · rw [if_neg e] at hj
        exact .inl ⟨j, u, hj⟩
    · exact .inr hk
    · cases a with
      | own m => rw [List.mem_singleton.mp hk]; exact .inl ⟨i, t, hi⟩
      | file z p => cases hk
  · rintro (⟨j, u, hj⟩ | hk)
    · by_cases e : i = j
      · subst e
        rw [hi] at hj
        cases hj
        exact .inr (.inr mS)
      · exact .inl ⟨j, u, by rw [List.getElem?_set, if_neg e]; exact hj⟩
    · exact .inr (.inl hk)
def HadF (N : Cells) (S : SS) (n i : Nat) (S1 : SS) : Prop :=
  (S.F.hs[i]? = some none ∧ (∀ (j : Nat) z, j < i → S.F.hs[j]? = some z → z ≠ none) ∧ S1 = S) ∨
  ((∀ z ∈ S.F.hs, z ≠ none) ∧ ∃ (bs' : List Bool) (t : Addr) (a : Th), goF (mayS S) (2 * n) S.p S.bs = some (i, bs') ∧ S.F.hs[i]? = some (some (t, a)) ∧ PO N { S with p := (i + 1) % n, bs := bs' } i S1 a)
theorem HadF.lies {N : Cells} {S S1 : SS} {n i : Nat} (h : HadF N S n i S1) (k : Int) : Lies S1 k ↔ Lies S k := by
  rcases h with ⟨_, _, rfl⟩ | ⟨_, bs', t, a, _, hi, h⟩
  · exact Iff.rfl
  · exact PO.lies (S := { S with p := (i + 1) % n, bs := bs' }) hi h k
theorem HadF.at {N : Cells} {S S1 : SS} {n i : Nat} (h : HadF N S n i S1) : S1.F.hs[i]? = some none ∧ S1.hs = S.hs ∧ S1.made = S.made ∧ S1.b = S.b ∧ S1.ho = S.ho := by
  rcases h with ⟨h, _, rfl⟩ | ⟨_, bs', t, a, _, hi, h⟩
  · exact ⟨h, rfl, rfl, rfl, rfl⟩
  · refine ⟨?_, h.hs.2⟩
    have hlt : i < S.F.hs.length := (List.getElem?_eq_some_iff.mp hi).1
    rw [h.hs.1]
    show (S.F.hs.set i none)[i]? = _
    rw [List.getElem?_set, if_pos rfl, if_pos hlt]
theorem HadF.mono {N N' : Cells} {S S1 : SS} {n i : Nat} (h : HadF N S n i S1) (up : ∀ c ∈ N, c ∈ N') : HadF N' S n i S1 := by
  rcases h with h | ⟨h, bs', t, a, h1, h2, h3⟩
  · exact .inl h
  · exact .inr ⟨h, bs', t, a, h1, h2, h3.mono up⟩
theorem OkSt.had {N : Cells} {S S1 : SS} {n q i : Nat} {M : Cells} (g : OkSt S n q M) (h : HadF N S n i S1) : OkSt S1 n q (N ++ M) := by
  rcases h with ⟨_, _, rfl⟩ | ⟨_, bs', t, a, hgo, hi, h⟩
  · exact g.mono fun c hc => mA hc
  · obtain ⟨l1, l2, l3⟩ := goF_len _ _ _ hgo
    have n1 := g.n1
    refine OkSt.po (S := { S with p := (i + 1) % n, bs := bs' }) (g.turned (Nat.mod_lt _ (by omega)) (l1.trans g.bl)) hi (fun m e => ?_) h
    rw [List.getD_eq_getElem?_getD, mayS_at hi, e] at l3
    exact l3
theorem OkSt.filled {S : SS} {n q i : Nat} {M : Cells} (g : OkSt S n q M) {t r : Addr} {m k : Int} {row : List Int} {hs' : List (Int × Int)} (ht : (t, HO.tup (thV (.own m))) ∈ M) (hr : (r, HO.lst (row.map V.int)) ∈ M) (h4 : row.length = 4) (hn : ¬ Lies S m) :
    OkSt { S with made := k, hs := hs', F := S.F.fill i (some (t, .own m)) (some (r, row)) false } n q M := by
  have old : ∀ (j : Nat) (x : Addr × Th), (S.F.hs.set i (some (t, .own m)))[j]? = some (some x) → (j = i ∧ x = (t, .own m)) ∨ (i ≠ j ∧ S.F.hs[j]? = some (some x)) := fun j x h => by
    rw [List.getElem?_set] at h
    split at h
    · split at h
      · cases h
        exact .inl ⟨by omega, rfl⟩
      · cases h
    · exact .inr ⟨by assumption, h⟩
  refine { g with f := g.f.fill (fun t' a e => by cases e; exact ⟨ht, True.intro⟩) (fun t' a e => by cases e; exact hr), rr := fun j u a h => ?_, inj := fun j l u v a h1 h2 => ?_, ap := fun j u k h => ?_, ff := fun j u z p h => ?_ }
  · rcases old j _ h with ⟨rfl, _⟩ | ⟨h1, h2⟩
    · have hlt : j < S.F.rs.length := by
        have h5 := (List.getElem?_eq_some_iff.mp h).1
        have h6 : (S.F.hs.set j (some (t, .own m))).length = n := (List.length_set ..).trans g.f.h
        rw [g.f.r, ← h6]
        exact h5
      exact ⟨r, row, by show (S.F.rs.set j _)[j]? = _; rw [List.getElem?_set, if_pos rfl, if_pos hlt], h4⟩
    · obtain ⟨r', row', e, h5⟩ := g.rr j u a h2
      exact ⟨r', row', by show (S.F.rs.set i _)[j]? = _; rw [List.getElem?_set, if_neg h1]; exact e, h5⟩
  · rcases old j _ h1 with ⟨e1, x1⟩ | ⟨n1, o1⟩
    · rcases old l _ h2 with ⟨e2, _⟩ | ⟨n2, o2⟩
      · rw [e1, e2]
      · cases x1
        exact absurd (.inl ⟨l, v, o2⟩) hn
    · rcases old l _ h2 with ⟨e2, x2⟩ | ⟨n2, o2⟩
      · cases x2
        exact absurd (.inl ⟨j, u, o1⟩) hn
      · exact g.inj j l u v a o1 o2
  · rcases old j _ h with ⟨_, x⟩ | ⟨_, o⟩
    · cases x
      exact fun z => hn (.inr z)
    · exact g.ap j u k o
  · rcases old j _ h with ⟨_, x⟩ | ⟨_, o⟩
    · cases x
    · exact g.ff j u z p o
def spNew (cT cF cD cS cI cU : Addr) : Sp := fun vs H Q E => ∃ (S : SS) (n q : Nat) (r0 : Addr) (row : List Int) (M : Cells), vs = [.ref S.b, .ref r0] ∧ Led H (StC cT cF cD cS cI S M) ∧ OkSt S n q M ∧ (r0, HO.lst (row.map V.int)) ∈ M ∧ row.length = 4 ∧ S.hs.length ≤ 600 ∧ ¬ Lies S (S.made + 1) ∧ S.made + 1 ∉ S.hs.map (·.1) ∧
  ((n : Int) - 1 + (q : Int) - (S.hs.length : Int) = 0 → ∀ (N : Cells) (H' : Hp), Led H' (StC cT cF cD cS cI S (N ++ M)) → E (.ref cU) none H') ∧
  ((n : Int) - 1 + (q : Int) - (S.hs.length : Int) ≠ 0 → (∀ z ∈ S.F.hs, z ≠ none) → true ∉ mayS S → False) ∧
  ((n : Int) - 1 + (q : Int) - (S.hs.length : Int) ≠ 0 → ∀ (i : Nat) (S1 : SS) (t r p : Addr) (N : Cells) (H' : Hp), HadF N S n i S1 → (t, HO.tup (thV (.own (S.made + 1)))) ∈ N → (r, HO.lst (row.map V.int)) ∈ N → OkSt { S1 with made := S.made + 1, hs := S.hs ++ [(S.made + 1, 1)], F := S1.F.fill i (some (t, .own (S.made + 1))) (some (r, row)) false } n q (N ++ M) → (p, HO.tup [.int (S.made + 1), .int (i : Nat)]) ∈ N → Led H' (StC cT cF cD cS cI { S1 with made := S.made + 1, hs := S.hs ++ [(S.made + 1, 1)], F := S1.F.fill i (some (t, .own (S.made + 1))) (some (r, row)) false } (N ++ M)) → Q (.ref p) H')
theorem ok_new (D : Def K mg "new_sheet" s_new_sheet) (B : Blt mg) (T : Txt K mg cP cU cA cB c1 c2 c3 cC c4 c5 cT cF cD cS cI) (M_Frames_fill : MethD P w K mg base 1 cF "fill" ["self", "frame", "thing", "row"] (spFill cF)) (G_room_of : FnD P w K mg base 2 "room_of" ["store"] (spRoom cT cF cD cS cI)) (G_have_frame : FnD P w K mg base 6 "have_frame" ["store"] (spHave cT cF cD cS cI cU)) : FnD P w K mg base 7 "new_sheet" ["store", "row"] (spNew cT cF cD cS cI cU) := by
  have sc := sc_new_sheet
  refine D.okR sc_new_sheet (fun vs H Q E h => ?_) (fun _ _ _ _ _ _ us hl => match us, hl with | [_, _], _ => rfl) (fun f cdv A outer s H vs Q E hr h => ?_)
  · obtain ⟨_, _, _, _, _, _, rfl, _⟩ := h; rfl
  · obtain ⟨S, n, q, r0, row, M, rfl, hL, g, i_r, h4, hh, hlies, hmk, ke, kn, k⟩ := h
    have hu := unit1 hr
    have hsz := sizeLine_eq
    refine ⟨_, (@pss_cons _ _ _ _ _ (@ps_if _ _ _ _ _ _ _ _ (@pt_cmpR _ _ _ _ _ _ _ _ op_eq (@pe_callD _ _ _ _ _ _ _ _ _ _ _ G_room_of (hr.mono (by omega)) (by rfl) passR0 (@pa_cons _ _ _ _ _ (@pv _ 0 _ _ (by rfl) (by walk_at "o3") (by decide) (by decide)) (@pa_nil _) (by rfl)) (by decide) (by rfl) (by rfl)) (@pe_int _ _ _ _) (nomark _)) (@pss_one _ _ _ (@ps_raise _ _ _ _ _ _ _ _ _ _ _ _ _ _ _ _ _ _ _ _ _ _ T.Full (by rfl) (@pa_cons _ _ _ _ _ (@pe_str _ _ _ _) (@pa_nil _) (by rfl)) (by decide) (by rfl))) (@pss_nil _)) (@pss_cons _ _ _ _ _ (@ps_set _ _ 2 _ _ _ _ sc.nd rfl (by walk_at "o2") (@pe_callD _ _ _ _ _ _ _ _ _ _ _ G_have_frame (hr.mono (by omega)) (by rfl) passR (@pa_cons _ _ _ _ _ (@pv _ 0 _ _ (by rfl) (by walk_at "o3") (by decide) (by decide)) (@pa_nil _) (by rfl)) (by decide) (by rfl) (by rfl)) (by rfl) (by first | exact .inl rfl | exact .inr rfl | assumption)) (@pss_cons _ _ _ _ _ (@ps_set _ _ 3 _ _ _ _ sc.nd rfl (by walk_at "o2") (@pe_op _ _ _ _ _ _ _ _ op_add (@pe_fldC _ _ _ _ _ _ _ T.Store T.n_sheets_made (@pv _ 0 _ _ (by rfl) (by walk_at "o3") (by decide) (by decide)) (by rfl)) (@pe_int _ _ _ _)) (by rfl) (by first | exact .inl rfl | exact .inr rfl | assumption)) (@pss_cons _ _ _ _ _ (@ps_fldC _ _ _ _ _ _ _ _ _ _ T.Store T.n_sheets_made (@pv _ 0 _ _ (by rfl) (by walk_at "o3") (by decide) (by decide)) (@pv _ 3 _ _ (by rfl) (by walk_at "o3") (by decide) (by decide)) (by rfl)) (@pss_cons _ _ _ _ _ (@ps_dput _ _ _ _ _ _ _ _ _ hu (@pe_fldC _ _ _ _ _ _ _ T.Store T.n_holders (@pv _ 0 _ _ (by rfl) (by walk_at "o3") (by decide) (by decide)) (by rfl)) (@pv _ 3 _ _ (by rfl) (by walk_at "o3") (by decide) (by decide)) (@pe_int _ _ _ _) rfl) (@pss_cons _ _ _ _ _ (@ps_expr _ _ _ _ (@pe_methD _ _ _ _ _ _ _ _ _ _ _ _ _ _ _ _ T.Frames M_Frames_fill (hr.mono (by omega)) passR0 (@pe_fldC _ _ _ _ _ _ _ T.Store T.n_frames (@pv _ 0 _ _ (by rfl) (by walk_at "o3") (by decide) (by decide)) (by rfl)) (@pa_cons _ _ _ _ _ (@pv _ 2 _ _ (by rfl) (by walk_at "o3") (by decide) (by decide)) (@pa_cons _ _ _ _ _ (@pe_tup _ _ _ _ _ (@pa_cons _ _ _ _ _ (@pe_str _ _ _ _) (@pa_cons _ _ _ _ _ (@pv _ 3 _ _ (by rfl) (by walk_at "o3") (by decide) (by decide)) (@pa_nil _) (by rfl)) (by rfl))) (@pa_cons _ _ _ _ _ (@pv _ 1 _ _ (by rfl) (by walk_at "o3") (by decide) (by decide)) (@pa_nil _) (by rfl)) (by rfl)) (by rfl)) (by rfl) (by rfl) (by rfl)) (by rfl)) (@pss_one _ _ _ (@ps_ret _ _ _ _ (@pe_tup _ _ _ _ _ (@pa_cons _ _ _ _ _ (@pv _ 3 _ _ (by rfl) (by walk_at "o3") (by decide) (by decide)) (@pa_cons _ _ _ _ _ (@pv _ 2 _ _ (by rfl) (by walk_at "o3") (by decide) (by decide)) (@pa_nil _) (by rfl)) (by rfl))))))))))), ?_⟩
    refine seqK fun M1 K1 => ?_
    walk_at "ge"
    refine ⟨S, n, q, M, rfl, hL, g.f.h, g.n64, g.pl, g.q6, hh, fun N1 H1 hl1 => ?_⟩
    have g1 : OkSt S n q (N1 ++ M) := g.mono fun c hc => mA hc
    walk_at "ge"
    · refine raiseI fun R hR => ?_
      walk_at "ge"
      exact ⟨by decide, ke (by assumption) N1 _ hl1⟩
    · have hroom : (n : Int) - 1 + (q : Int) - (S.hs.length : Int) ≠ 0 := by assumption
      refine K1.use ?_
      walk_at "cl"
      clear K1
      refine seqK fun M1 K1 => ?_
      have rest : ∀ (i : Nat) (S1 : SS) (N : Cells) (H2 : Hp), HadF N S n i S1 → OkSt S1 n q (N ++ (N1 ++ M)) → Led H2 (StC cT cF cD cS cI S1 (N ++ (N1 ++ M))) → M1 [some (.ref S.b), some (.ref r0), some (.int (i : Nat)), none] H2 := by
        intro i S1 N H2 hHad gk hl2
        rw [show N ++ (N1 ++ M) = (N ++ N1) ++ M from (List.append_assoc _ _ _).symm] at gk hl2
        obtain ⟨h0, ehs, ema, eb, eho⟩ := hHad.at
        have hi : i < n := by have := (List.getElem?_eq_some_iff.mp h0).1; rw [gk.f.h] at this; exact this
        have nl : ¬ Lies S1 (S.made + 1) := fun z => hlies ((hHad.lies _).mp z)
        refine K1.use ?_
        clear K1
        have f6 := stF_ma S1
        have f5 := stF_ho S1
        have c_b := hl2.get St.b
        rw [← eb]
        refine seqK fun M1 K1 => ?_
        walk_at "ge"
        refine K1.use ?_
        walk_at "cl"
        clear K1
        rw [ema]
        refine seqK fun M1 K1 => ?_
        walk_at "ge"
        have hl3 := St.putM hl2 (S.made + 1)
        generalize upd H2 S1.b (HO.ins cT S1.dx (putF (Str.ofString "sheets_made") (V.int (S.made + 1)) (stF S1))) = H3 at hl3 ⊢
        refine K1.use ?_
        walk_at "cl"
        clear K1 c_b hl2 f5 f6
        have f5 := stF_ho { S1 with made := S.made + 1 }
        have c_b := hl3.get St.b
        have c_h := hl3.get St.ho
        refine seqK fun M1 K1 => ?_
        walk_at "ge"
        have hmk1 : S.made + 1 ∉ S1.hs.map (·.1) := by rw [ehs]; exact hmk
        refine dputR c_h (by unfold kvH; rw [List.length_map]; show S1.hs.length < _; rw [ehs]; omega) ?_
        rw [kvH_new _ hmk1]
        have hl4 := St.putH hl3 (S1.hs ++ [(S.made + 1, 1)])
        obtain ⟨S3, eS3⟩ : ∃ S3 : SS, S3 = { S1 with made := S.made + 1, hs := S1.hs ++ [(S.made + 1, 1)] } := ⟨_, rfl⟩
        have hl5 : Led (upd H3 S1.ho (HO.dK (kvH (S1.hs ++ [(S.made + 1, 1)])))) (StC cT cF cD cS cI S3 ((N ++ N1) ++ M)) := by rw [eS3]; exact hl4
        have g3 : OkSt S3 n q ((N ++ N1) ++ M) := by rw [eS3]; exact { gk with }
        have eb3 : S1.b = S3.b := by rw [eS3]
        clear hl4 hl3 c_b c_h f5
        walk_at "ge"
        refine K1.use ?_
        walk_at "cl"
        clear K1
        generalize upd H3 S1.ho (HO.dK (kvH (S1.hs ++ [(S.made + 1, 1)]))) = H4 at hl5 ⊢
        rw [eb3]
        have f1 := stF_fr S3
        have c_b := hl5.get St.b
        have hF := St.toF hl5
        have c_f := hF.get mS
        refine seqK fun M1 K1 => ?_
        walk_at "ge"
        rename_i t H5 _ hl6 _ _ _
        have hl7 : Led H5 (FrC cF S3.F ([(t, HO.tup (thV (.own (S.made + 1))))] ++ rF cT cD cS cI S3 ((N ++ N1) ++ M))) := Led.perm hl6 (swap2 [(t, HO.tup (thV (.own (S.made + 1))))] (frB cF S3.F) _)
        clear hl6 hF c_b c_f hl5
        refine ⟨S3.F, n, i, t, r0, .own (S.made + 1), row, _, rfl, hl7, g3.f.mono (fun c hc => mA (rF_up hc)), hi, mA (rF_up (mA i_r)), by omega, fun r H6 hl8 => ?_⟩
        have hl9 : Led H6 (StC cT cF cD cS cI { S3 with F := S3.F.fill i (some (t, .own (S.made + 1))) (some (r, row)) false } ([(r, HO.lst (row.map V.int)), (t, HO.tup (thV (.own (S.made + 1))))] ++ ((N ++ N1) ++ M))) := St.ofF (S := S3) rfl hl8
        have nl3 : ¬ Lies S3 (S.made + 1) := by rw [eS3]; exact nl
        have g4 := (g3.mono (M' := [(r, HO.lst (row.map V.int)), (t, HO.tup (thV (.own (S.made + 1))))] ++ ((N ++ N1) ++ M)) fun c hc => mA hc).filled (i := i) (t := t) (r := r) (m := S.made + 1) (k := S.made + 1) (row := row) (hs' := S3.hs) (mC mS) mS h4 nl3
        clear hl7 hl8
        walk_at "ge"
        refine K1.use ?_
        walk_at "cl"
        clear K1
        walk_at "ge"
        rename_i p H7 _ hl10 _
        have hl11 := St.push hl10
        have g5 := g4.mono (M' := (p, HO.tup [V.int (S.made + 1), V.int (i : Nat)]) :: ([(r, HO.lst (row.map V.int)), (t, HO.tup (thV (.own (S.made + 1))))] ++ ((N ++ N1) ++ M))) fun c hc => mC hc
        subst eS3
        rw [ehs] at g5 hl11
        exact k hroom i S1 t r p ((p, HO.tup [V.int (S.made + 1), V.int (i : Nat)]) :: (r, HO.lst (row.map V.int)) :: (t, HO.tup (thV (.own (S.made + 1)))) :: (N ++ N1)) H7 (hHad.mono fun c hc => mC (mC (mC (mB hc)))) (mC (mC mS)) (mC mS) g5 mS hl11
      walk_at "ge"
      refine ⟨S, n, q, _, rfl, hl1, g1, fun i H2 h1 h2 hl2 => ?_, fun hall i bs' t a hgo hi S1 N H2 hpo gk hl2 => ?_, fun hall hno N H2 hl2 => (kn hroom hall hno).elim⟩
      · walk_at "ge"
        exact rest i S [] H2 (.inl ⟨h1, h2, rfl⟩) g1 hl2
      · walk_at "ge"
        exact rest i S1 N H2 (.inr ⟨hall, bs', t, a, hgo, hi, hpo⟩) gk hl2
end
section
variable {P : Program} {w : World} {K : PySem.W.Frag} {mg : Str → Option Value} {base : Heap} {cP cU cA cB c1 c2 c3 cC c4 c5 cT cF cD cS cI : Addr}
def S0 (b dx fr dfr l r s di ddi mk sh dsh pl rd fi dfi fd ho : Addr) (n q : Nat) : SS := { b := b, dx := dx, F := FS.new fr dfr l r s n, d := di, ddx := ddi, dm := mk, p := 0, bs := List.replicate n false, sb := sh, sdx := dsh, sl := pl, sd := rd, ps := List.replicate q .non, es := [], ib := fi, ix := dfi, im := fd, fs := [], ho := ho, hs := [], made := 0 }
def spTInit (cT cF cD cS cI : Addr) : Sp := fun vs H Q _ => ∃ (b dx : Addr) (n q : Nat) (L : Cells), vs = [.ref b, .int (n : Nat), .int (q : Nat)] ∧ Led H ((b, .ins cT dx []) :: L) ∧ n ≤ 64 ∧ q ≤ 550 ∧ ∀ fr dfr l r s di ddi mk sh dsh pl rd fi dfi fd ho H', Led H' (StC cT cF cD cS cI (S0 b dx fr dfr l r s di ddi mk sh dsh pl rd fi dfi fd ho n q) L) → Q .non H'
theorem order5 {α : Type} (fi sh di fr L : List α) : (fi ++ (sh ++ (di ++ (fr ++ L)))).Perm (fr ++ (di ++ (sh ++ (fi ++ L)))) :=
  (((List.Perm.append_left fi (List.Perm.append_left sh (swap2 di fr L))).trans (List.Perm.append_left fi (swap2 sh fr _))).trans (swap2 fi fr _)).trans (List.Perm.append_left fr (((List.Perm.append_left fi (swap2 sh di L)).trans (swap2 fi di _)).trans (List.Perm.append_left di (swap2 fi sh L))))
theorem ok_tinit (D : IDef K cT "Store.__init__" s_Store_init) (T : Txt K mg cP cU cA cB c1 c2 c3 cC c4 c5 cT cF cD cS cI) (I_Frames : InitD P w K mg base 1 cF ["self", "many"] (spFInit cF)) (I_Dial : InitD P w K mg base 1 cD ["self", "many"] (spDInit cD)) (I_Shelf : InitD P w K mg base 1 cS ["self", "many"] (spSInit cS)) (I_Files : InitD P w K mg base 1 cI ["self"] (spIInit cI)) : InitD P w K mg base 3 cT ["self", "many", "places"] (spTInit cT cF cD cS cI) := by
  have sc := sc_Store_init
  refine D.ok sc_Store_init (fun vs H Q E h => ?_) (fun _ _ _ _ _ _ us hl => match us, hl with | [_, _, _], _ => rfl) (fun f cdv A outer s H vs Q E hr h => ?_)
  · obtain ⟨_, _, _, _, _, rfl, _⟩ := h; rfl
  · obtain ⟨b, dx, n, q, L, rfl, hL, n64, q6, k⟩ := h
    refine ⟨_, (@pss_cons _ _ _ _ _ (@ps_fldC _ _ _ _ _ _ _ _ _ _ T.Store T.n_frames (@pv _ 0 _ _ (by rfl) (by walk_at "o3") (by decide) (by decide)) (@pe_makeD _ _ _ _ _ _ _ _ _ _ _ _ T.Frames I_Frames (hr.mono (by omega)) (by rfl) passR0 (@pa_cons _ _ _ _ _ (@pv _ 1 _ _ (by rfl) (by walk_at "o3") (by decide) (by decide)) (@pa_nil _) (by rfl)) (by decide) (by rfl) (by rfl)) (by rfl)) (@pss_cons _ _ _ _ _ (@ps_fldC _ _ _ _ _ _ _ _ _ _ T.Store T.n_dial (@pv _ 0 _ _ (by rfl) (by walk_at "o3") (by decide) (by decide)) (@pe_makeD _ _ _ _ _ _ _ _ _ _ _ _ T.Dial I_Dial (hr.mono (by omega)) (by rfl) passR0 (@pa_cons _ _ _ _ _ (@pv _ 1 _ _ (by rfl) (by walk_at "o3") (by decide) (by decide)) (@pa_nil _) (by rfl)) (by decide) (by rfl) (by rfl)) (by rfl)) (@pss_cons _ _ _ _ _ (@ps_fldC _ _ _ _ _ _ _ _ _ _ T.Store T.n_shelf (@pv _ 0 _ _ (by rfl) (by walk_at "o3") (by decide) (by decide)) (@pe_makeD _ _ _ _ _ _ _ _ _ _ _ _ T.Shelf I_Shelf (hr.mono (by omega)) (by rfl) passR0 (@pa_cons _ _ _ _ _ (@pv _ 2 _ _ (by rfl) (by walk_at "o3") (by decide) (by decide)) (@pa_nil _) (by rfl)) (by decide) (by rfl) (by rfl)) (by rfl)) (@pss_cons _ _ _ _ _ (@ps_fldC _ _ _ _ _ _ _ _ _ _ T.Store T.n_files (@pv _ 0 _ _ (by rfl) (by walk_at "o3") (by decide) (by decide)) (@pe_makeD0 _ _ _ _ _ _ _ _ _ T.Files I_Files (hr.mono (by omega)) (by rfl) passR0 (by decide)) (by rfl)) (@pss_cons _ _ _ _ _ (@ps_fldC _ _ _ _ _ _ _ _ _ _ T.Store T.n_holders (@pv _ 0 _ _ (by rfl) (by walk_at "o3") (by decide) (by decide)) (@pe_dnewK _ _) (by rfl)) (@pss_one _ _ _ (@ps_fldC _ _ _ _ _ _ _ _ _ _ T.Store T.n_sheets_made (@pv _ 0 _ _ (by rfl) (by walk_at "o3") (by decide) (by decide)) (@pe_int _ _ _ _) (by rfl)))))))), ?_⟩
    refine seqK fun M1 K1 => ?_
    walk_at "ge"
    intro fr dfr z1 z2 z3
    refine ⟨fr, dfr, n, _, rfl, hL.make z1 z2 z3, by omega, fun l r s' H1 hl1 => ⟨rfl, ?_⟩⟩
    clear z1 z2 z3 hL
    have hl2 : Led H1 ((b, .ins cT dx []) :: (frB cF (FS.new fr dfr l r s' n) ++ L)) := Led.perm hl1 (List.perm_middle (l₁ := frB cF (FS.new fr dfr l r s' n)))
    have hl3 : Led (upd H1 b (.ins cT dx (putF (Str.ofString "frames") (V.ref fr) []))) ((b, .ins cT dx [("frames", .ref fr)]) :: _) := hl2.put rfl rfl
    clear hl1
    walk_at "ge"
    refine K1.use ?_
    walk_at "cl"
    clear K1 hl2
    generalize upd H1 b (.ins cT dx (putF (Str.ofString "frames") (V.ref fr) [])) = H2 at hl3 ⊢
    refine seqK fun M1 K1 => ?_
    walk_at "ge"
    intro di ddi z1 z2 z3
    refine ⟨di, ddi, (n : Int), _, rfl, hl3.make z1 z2 z3, by omega, by omega, fun mk H3 hl4 => ⟨rfl, ?_⟩⟩
    clear z1 z2 z3 hl3
    rw [Int.toNat_natCast] at hl4
    have hl5 : Led H3 ((b, .ins cT dx [("frames", .ref fr)]) :: (DialC cD di ddi mk 0 (List.replicate n false) ++ (frB cF (FS.new fr dfr l r s' n) ++ L))) := Led.perm hl4 List.perm_middle
    have hl6 : Led (upd H3 b (.ins cT dx (putF (Str.ofString "dial") (V.ref di) [("frames", .ref fr)]))) ((b, .ins cT dx [("frames", .ref fr), ("dial", .ref di)]) :: _) := hl5.put rfl rfl
    clear hl4
    walk_at "ge"
    refine K1.use ?_
    walk_at "cl"
    clear K1 hl5
    generalize upd H3 b (.ins cT dx (putF (Str.ofString "dial") (V.ref di) [("frames", .ref fr)])) = H4 at hl6 ⊢
    refine seqK fun M1 K1 => ?_
    walk_at "ge"
    intro sh dsh z1 z2 z3
    refine ⟨sh, dsh, (q : Int), _, rfl, hl6.make z1 z2 z3, by omega, by omega, fun pl rd H5 hl7 => ⟨rfl, ?_⟩⟩
    clear z1 z2 z3 hl6
    rw [Int.toNat_natCast] at hl7
    have hl8 : Led H5 ((b, .ins cT dx [("frames", .ref fr), ("dial", .ref di)]) :: (ShC cS sh dsh pl rd (List.replicate q .non) [] ++ (DialC cD di ddi mk 0 (List.replicate n false) ++ (frB cF (FS.new fr dfr l r s' n) ++ L)))) := Led.perm hl7 List.perm_middle
    have hl9 : Led (upd H5 b (.ins cT dx (putF (Str.ofString "shelf") (V.ref sh) [("frames", .ref fr), ("dial", .ref di)]))) ((b, .ins cT dx [("frames", .ref fr), ("dial", .ref di), ("shelf", .ref sh)]) :: _) := hl8.put rfl rfl
    clear hl7
    walk_at "ge"
    refine K1.use ?_
    walk_at "cl"
    clear K1 hl8
    generalize upd H5 b (.ins cT dx (putF (Str.ofString "shelf") (V.ref sh) [("frames", .ref fr), ("dial", .ref di)])) = H6 at hl9 ⊢
    refine seqK fun M1 K1 => ?_
    walk_at "ge"
    intro fi dfi z1 z2 z3
    refine ⟨fi, dfi, _, rfl, hl9.make z1 z2 z3, fun fd H7 hl10 => ⟨rfl, ?_⟩⟩
    clear z1 z2 z3 hl9
    have hl11 : Led H7 ((b, .ins cT dx [("frames", .ref fr), ("dial", .ref di), ("shelf", .ref sh)]) :: (((fi, .ins cI dfi (fiFld fd)) :: (fd, .dK (kvF [])) :: filC []) ++ (ShC cS sh dsh pl rd (List.replicate q .non) [] ++ (DialC cD di ddi mk 0 (List.replicate n false) ++ (frB cF (FS.new fr dfr l r s' n) ++ L))))) := Led.perm hl10 (List.perm_middle (l₁ := (fi, HO.ins cI dfi (fiFld fd)) :: (fd, .dK (kvF [])) :: filC []))
    have hl12 : Led (upd H7 b (.ins cT dx (putF (Str.ofString "files") (V.ref fi) [("frames", .ref fr), ("dial", .ref di), ("shelf", .ref sh)]))) ((b, .ins cT dx [("frames", .ref fr), ("dial", .ref di), ("shelf", .ref sh), ("files", .ref fi)]) :: _) := hl11.put rfl rfl
    clear hl10
    walk_at "ge"
    refine K1.use ?_
    walk_at "cl"
    clear K1 hl11
    generalize upd H7 b (.ins cT dx (putF (Str.ofString "files") (V.ref fi) [("frames", .ref fr), ("dial", .ref di), ("shelf", .ref sh)])) = H8 at hl12 ⊢
    refine seqK fun M1 K1 => ?_
    walk_at "ge"
    rename_i ho H9 _ hl13 _
    have hl14 : Led (upd H9 b (.ins cT dx (putF (Str.ofString "holders") (V.ref ho) [("frames", .ref fr), ("dial", .ref di), ("shelf", .ref sh), ("files", .ref fi)]))) ((b, .ins cT dx [("frames", .ref fr), ("dial", .ref di), ("shelf", .ref sh), ("files", .ref fi), ("holders", .ref ho)]) :: _) := (hl13.swap).put rfl rfl
    refine K1.use ?_
    walk_at "cl"
    clear K1 hl13 hl12
    generalize upd H9 b (.ins cT dx (putF (Str.ofString "holders") (V.ref ho) [("frames", .ref fr), ("dial", .ref di), ("shelf", .ref sh), ("files", .ref fi)])) = H10 at hl14 ⊢
    walk_at "ge"
    have hl15 := hl14.put (o' := .ins cT dx (stF (S0 b dx fr dfr l r s' di ddi mk sh dsh pl rd fi dfi fd ho n q))) rfl rfl
    exact k fr dfr l r s' di ddi mk sh dsh pl rd fi dfi fd ho _ (Led.perm hl15 (List.Perm.cons _ (List.Perm.cons _ (order5 _ _ _ _ _))))
end
section
variable {P : Program} {w : World} {K : PySem.W.Frag} {mg : Str → Option Value} {base : Heap} {cP cU cA cB c1 c2 c3 cC c4 c5 cT cF cD cS cI : Addr}
structure OkH (S : SS) (n q : Nat) : Prop where
  nd : (S.hs.map (·.1)).Nodup
  le : ∀ e ∈ S.hs, 1 ≤ e.1 ∧ e.1 ≤ S.made
  c1 : ∀ e ∈ S.hs, 1 ≤ e.2
  lie : ∀ m, m ∈ S.hs.map (·.1) ↔ Lies S m
  most : S.hs.length ≤ n - 1 + q
  m0 : 0 ≤ S.made
theorem OkH.key {S : SS} {n q : Nat} (g : OkH S n q) : S.made + 1 ∉ S.hs.map (·.1) := fun h => by
  obtain ⟨e, he, e1⟩ := List.mem_map.mp h
  have := (g.le e he).2
  have e2 : e.1 = S.made + 1 := e1
  omega
theorem OkH.fresh {S : SS} {n q : Nat} (g : OkH S n q) : ¬ Lies S (S.made + 1) := fun h => g.key ((g.lie _).mpr h)
def ownOf : Hd → Int
  | some (_, .own m) => m
  | _ => 0
def intOf : V → Int
  | .int m => m
  | _ => 0
theorem OkH.some_goes {S : SS} {n q : Nat} {M : Cells} (g : OkSt S n q M) (h : OkH S n q) (hall : ∀ z ∈ S.F.hs, z ≠ none) (hno : true ∉ mayS S) : False := by
  have own : ∀ (i : Nat) (z : Hd), S.F.hs[i]? = some z → ∃ t m, z = some (t, Th.own m) ∧ inV .non S.ps = false := fun i z hz => by
    cases z with
    | none => exact absurd rfl (hall none (List.mem_of_getElem? hz))
    | some x =>
      have hm := mayS_at (t := x.1) (a := x.2) hz
      have hf : (isFile x.2 || inV .non S.ps) = false := by
        cases hb : (isFile x.2 || inV .non S.ps) with
        | false => rfl
        | true => rw [hb] at hm; exact absurd (List.mem_of_getElem? hm) hno
      obtain ⟨t, a⟩ := x
      cases a with
      | own m => exact ⟨t, m, rfl, (Bool.or_eq_false_iff.mp hf).2⟩
      | file z p => cases (Bool.or_eq_false_iff.mp hf).1
  have n1 := g.n1
  obtain ⟨_, _, _, hfull⟩ := own 0 _ (List.getElem?_eq_getElem (by rw [g.f.h]; omega))
  have nums : ∀ (i : Nat) (v : V), S.ps[i]? = some v → ∃ m, v = .int m := fun i v hv => by
    rcases g.pe v (List.mem_of_getElem? hv) with rfl | h
    · have : inV .non S.ps = true := List.any_eq_true.mpr ⟨.non, List.mem_of_getElem? hv, rfl⟩
      rw [this] at hfull
      cases hfull
    · exact h
  have sub : ∀ m ∈ S.F.hs.map ownOf ++ S.ps.map intOf, m ∈ S.hs.map (·.1) := fun m hm => by
    refine (h.lie m).mpr ?_
    rcases List.mem_append.mp hm with hm | hm
    · obtain ⟨z, hz, rfl⟩ := List.mem_map.mp hm
      obtain ⟨i, hi⟩ := List.getElem?_of_mem hz
      obtain ⟨t, m, rfl, _⟩ := own i z hi
      exact .inl ⟨i, t, hi⟩
    · obtain ⟨v, hv, rfl⟩ := List.mem_map.mp hm
      obtain ⟨i, hi⟩ := List.getElem?_of_mem hv
      obtain ⟨m, rfl⟩ := nums i v hi
      exact .inr ((g.pk m).mp hv)
  have nd : (S.F.hs.map ownOf ++ S.ps.map intOf).Nodup := by
    refine List.nodup_append.mpr ⟨?_, ?_, ?_⟩
    · refine List.pairwise_iff_getElem.mpr fun i j hi hj hij e => ?_
      rw [List.length_map] at hi hj
      rw [List.getElem_map, List.getElem_map] at e
      obtain ⟨t, m, e1, _⟩ := own i _ (List.getElem?_eq_getElem hi)
      obtain ⟨u, k, e2, _⟩ := own j _ (List.getElem?_eq_getElem hj)
      rw [e1, e2] at e
      have e' : m = k := e
      have := g.inj i j t u (.own m) (by rw [List.getElem?_eq_getElem hi, e1]) (by rw [List.getElem?_eq_getElem hj, e2, e'])
      omega
    · refine List.pairwise_iff_getElem.mpr fun i j hi hj hij e => ?_
      rw [List.length_map] at hi hj
      rw [List.getElem_map, List.getElem_map] at e
      obtain ⟨m, e1⟩ := nums i _ (List.getElem?_eq_getElem hi)
      obtain ⟨k, e2⟩ := nums j _ (List.getElem?_eq_getElem hj)
      rw [e1, e2] at e
      have e' : m = k := e
      have := g.pi i j m (by rw [List.getElem?_eq_getElem hi, e1]) (by rw [List.getElem?_eq_getElem hj, e2, e'])
      omega
    · intro a ha b hb e
      obtain ⟨z, hz, rfl⟩ := List.mem_map.mp ha
      obtain ⟨v, hv, rfl⟩ := List.mem_map.mp hb
      obtain ⟨i, hi⟩ := List.getElem?_of_mem hz
      obtain ⟨j, hj⟩ := List.getElem?_of_mem hv
      obtain ⟨t, m, rfl, _⟩ := own i z hi
      obtain ⟨k, rfl⟩ := nums j v hj
      have e' : m = k := e
      rw [← e'] at hv
      exact g.ap i t m hi ((g.pk m).mp hv)
  have := nd.length_le_of_subset sub
  rw [List.length_append, List.length_map, List.length_map, List.length_map, g.f.h, g.pl] at this
  have := h.most
  omega
theorem OkH.count {S : SS} {n q : Nat} (g : OkH S n q) {m c : Int} (hc : 1 ≤ c) : OkH { S with hs := putH S.hs m c } n q := by
  have in_ : ∀ e ∈ putH S.hs m c, ∃ d ∈ S.hs, e.1 = d.1 ∧ (e.2 = c ∨ e = d) := fun e he => by
    obtain ⟨d, hd, rfl⟩ := List.mem_map.mp he
    refine ⟨d, hd, ?_⟩
    by_cases z : d.1 = m
    · rw [if_pos z]; exact ⟨rfl, .inl rfl⟩
    · rw [if_neg z]; exact ⟨rfl, .inr rfl⟩
  refine ⟨by show ((putH S.hs m c).map (·.1)).Nodup; rw [putH_keys]; exact g.nd, fun e he => ?_, fun e he => ?_, fun k => ?_, ?_, g.m0⟩
  · obtain ⟨d, hd, e1, _⟩ := in_ e he
    rw [e1]
    exact g.le d hd
  · obtain ⟨d, hd, _, e2 | e2⟩ := in_ e he
    · rw [e2]; exact hc
    · rw [e2]; exact g.c1 d hd
  · show k ∈ (putH S.hs m c).map (·.1) ↔ _
    rw [putH_keys]
    exact g.lie k
  · show (putH S.hs m c).length ≤ _
    unfold putH
    rw [List.length_map]
    exact g.most
theorem OkH.made_ {N : Cells} {S S1 : SS} {n q i : Nat} {M : Cells} {t r : Addr} {row : List Int} (g : OkH S n q) (h : HadF N S n i S1) (gs : OkSt S n q M) (hr : (n : Int) - 1 + (q : Int) - (S.hs.length : Int) ≠ 0) : OkH { S1 with made := S.made + 1, hs := S.hs ++ [(S.made + 1, 1)], F := S1.F.fill i (some (t, .own (S.made + 1))) (some (r, row)) false } n q := by
  have n1 := gs.n1
  have m0 := g.m0
  have hm := g.most
  have h0 := h.at.1
  have hlt := (List.getElem?_eq_some_iff.mp h0).1
  refine ⟨?_, fun e he => ?_, fun e he => ?_, fun k => ?_, ?_, ?_⟩
  · show ((S.hs ++ [((S.made + 1, 1) : Int × Int)]).map (fun e : Int × Int => e.1)).Nodup
    rw [List.map_append]
    refine List.nodup_append.mpr ⟨g.nd, by simp, fun x hx y hy e => ?_⟩
    have hy' : y = S.made + 1 := by simpa using hy
    exact g.key (hy' ▸ e ▸ hx)
  · show 1 ≤ e.1 ∧ e.1 ≤ S.made + 1
    rcases List.mem_append.mp he with he | he
    · have := g.le e he; omega
    · rw [List.mem_singleton.mp he]; show 1 ≤ S.made + 1 ∧ S.made + 1 ≤ S.made + 1; omega
  · rcases List.mem_append.mp he with he | he
    · exact g.c1 e he
    · rw [List.mem_singleton.mp he]; exact Int.le_refl 1
  · show k ∈ (S.hs ++ [((S.made + 1, 1) : Int × Int)]).map (fun e : Int × Int => e.1) ↔ _
    rw [List.map_append, List.mem_append, g.lie k, ← h.lies k]
    unfold Lies
    show _ ↔ (∃ (j : Nat) (u : Addr), (S1.F.hs.set i (some (t, .own (S.made + 1))))[j]? = some (some (u, Th.own k))) ∨ k ∈ S1.es.map (·.1)
    constructor
    · rintro ((⟨j, u, hj⟩ | hk) | hk)
      · refine .inl ⟨j, u, ?_⟩
        have : i ≠ j := fun z => by rw [← z, h0] at hj; cases hj
        rw [List.getElem?_set, if_neg this]
        exact hj
      · exact .inr hk
      · have hk' : k = S.made + 1 := by simpa using hk
        refine .inl ⟨i, t, ?_⟩
        rw [List.getElem?_set, if_pos rfl, if_pos hlt, hk']
    · rintro (⟨j, u, hj⟩ | hk)
      · by_cases z : i = j
        · rw [List.getElem?_set, if_pos z, if_pos hlt] at hj
          cases hj
          exact .inr mS
        · rw [List.getElem?_set, if_neg z] at hj
          exact .inl (.inl ⟨j, u, hj⟩)
      · exact .inl (.inr hk)
  · show (S.hs ++ [(S.made + 1, 1)]).length ≤ _
    rw [List.length_append]
    show S.hs.length + 1 ≤ _
    omega
  · show 0 ≤ S.made + 1
    omega
end
section
variable {P : Program} {w : World} {K : PySem.W.Frag} {mg : Str → Option Value} {base : Heap} {cP cU cA cB c1 c2 c3 cC c4 c5 cT cF cD cS cI : Addr}
theorem Ended.lies {S S' : SS} {n q : Nat} {M : Cells} {m : Int} (gs : OkSt S n q M) (h : Ended S S' m) (k : Int) : Lies S' k ↔ Lies S k ∧ k ≠ m := by
  rcases h with ⟨i, t, hi, rfl⟩ | ⟨hn, _, rfl⟩
  · have hlt := (List.getElem?_eq_some_iff.mp hi).1
    show ((∃ (j : Nat) (u : Addr), (S.F.hs.set i none)[j]? = some (some (u, Th.own k))) ∨ k ∈ S.es.map (·.1)) ↔ _
    constructor
    · rintro (⟨j, u, hj⟩ | hk)
      · by_cases z : i = j
        · rw [List.getElem?_set, if_pos z, if_pos hlt] at hj
          cases hj
        · rw [List.getElem?_set, if_neg z] at hj
          refine ⟨.inl ⟨j, u, hj⟩, fun e => z ?_⟩
          rw [e] at hj
          exact gs.inj i j t u _ hi hj
      · exact ⟨.inr hk, fun e => gs.ap i t m hi (e ▸ hk)⟩
    · rintro ⟨⟨j, u, hj⟩ | hk, hne⟩
      · refine .inl ⟨j, u, ?_⟩
        have z : i ≠ j := fun z => by
          rw [← z, hi] at hj
          cases hj
          exact hne rfl
        rw [List.getElem?_set, if_neg z]
        exact hj
      · exact .inr hk
  · show ((∃ (j : Nat) (u : Addr), S.F.hs[j]? = some (some (u, Th.own k))) ∨ k ∈ (S.es.filter fun x => decide (x.1 ≠ m)).map (·.1)) ↔ _
    constructor
    · rintro (⟨j, u, hj⟩ | hk)
      · exact ⟨.inl ⟨j, u, hj⟩, fun e => hn j u (e ▸ hj)⟩
      · obtain ⟨e, he, rfl⟩ := List.mem_map.mp hk
        obtain ⟨h1, h2⟩ := List.mem_filter.mp he
        exact ⟨.inr (List.mem_map.mpr ⟨e, h1, rfl⟩), of_decide_eq_true h2⟩
    · rintro ⟨⟨j, u, hj⟩ | hk, hne⟩
      · exact .inl ⟨j, u, hj⟩
      · obtain ⟨e, he, rfl⟩ := List.mem_map.mp hk
        exact .inr (List.mem_map.mpr ⟨e, List.mem_filter.mpr ⟨he, decide_eq_true hne⟩, rfl⟩)
theorem Ended.hs {S S' : SS} {m : Int} (h : Ended S S' m) : S'.hs = (S.hs.filter fun e => decide (e.1 ≠ m)) ∧ S'.made = S.made ∧ S'.b = S.b ∧ S'.p = S.p := by
  rcases h with ⟨i, t, hi, rfl⟩ | ⟨hn, _, rfl⟩
  · exact ⟨rfl, rfl, rfl, rfl⟩
  · exact ⟨rfl, rfl, rfl, rfl⟩
theorem OkH.ended {S S' : SS} {n q : Nat} {M : Cells} {m : Int} (g : OkH S n q) (gs : OkSt S n q M) (h : Ended S S' m) : OkH S' n q := by
  obtain ⟨e1, e2, _⟩ := h.hs
  refine ⟨?_, fun e he => ?_, fun e he => ?_, fun k => ?_, ?_, by rw [e2]; exact g.m0⟩
  · rw [e1]
    exact g.nd.sublist (List.Sublist.map _ List.filter_sublist)
  · rw [e1] at he
    rw [e2]
    exact g.le e (List.mem_filter.mp he).1
  · rw [e1] at he
    exact g.c1 e (List.mem_filter.mp he).1
  · rw [h.lies gs k, ← g.lie k, e1]
    constructor
    · intro hk
      obtain ⟨e, he, rfl⟩ := List.mem_map.mp hk
      obtain ⟨h1, h2⟩ := List.mem_filter.mp he
      exact ⟨List.mem_map.mpr ⟨e, h1, rfl⟩, of_decide_eq_true h2⟩
    · rintro ⟨hk, hne⟩
      obtain ⟨e, he, rfl⟩ := List.mem_map.mp hk
      exact List.mem_map.mpr ⟨e, List.mem_filter.mpr ⟨he, decide_eq_true hne⟩, rfl⟩
  · rw [e1]
    exact Nat.le_trans (List.length_filter_le ..) g.most
theorem rep_at {α : Type} {n i : Nat} {x y : α} (h : (List.replicate n x)[i]? = some y) : y = x := List.eq_of_mem_replicate (List.mem_of_getElem? h)
section
variable {b dx fr dfr l r s di ddi mk sh dsh pl rd fi dfi fd ho : Addr} {n q : Nat} {M : Cells}
theorem OkSt.laid (n1 : 1 ≤ n) (n64 : n ≤ 64) (q6 : q ≤ 550) : OkSt (S0 b dx fr dfr l r s di ddi mk sh dsh pl rd fi dfi fd ho n q) n q M := by
  have no : ∀ (i : Nat) (x : Addr × Th), (S0 b dx fr dfr l r s di ddi mk sh dsh pl rd fi dfi fd ho n q).F.hs[i]? = some (some x) → False := fun i x h => nomatch (rep_at (α := Hd) (x := none) h)
  exact { f := OkF.new, n1 := n1, n64 := n64, bl := List.length_replicate, pn := n1, rr := fun i t a h => (no i _ h).elim, inj := fun i _ t _ a h _ => (no i _ h).elim, pl := List.length_replicate, q6 := q6, pe := fun v hv => .inl (List.eq_of_mem_replicate hv), nd := List.nodup_nil, pk := fun m => ⟨fun h => (nomatch (List.eq_of_mem_replicate h)), fun h => (nomatch h)⟩, pi := fun i j m h _ => (nomatch (rep_at (α := V) (x := .non) h)), ap := fun i t m h => (no i _ h).elim, er := fun e he => (nomatch he), fn := List.nodup_nil, fr := fun e he => (nomatch he), ff := fun i t z p h => (no i _ h).elim }
theorem OkH.laid : OkH (S0 b dx fr dfr l r s di ddi mk sh dsh pl rd fi dfi fd ho n q) n q := by
  refine ⟨List.nodup_nil, fun e he => (nomatch he), fun e he => (nomatch he), fun m => ⟨fun h => (nomatch h), fun h => ?_⟩, Nat.zero_le _, Int.le_refl 0⟩
  rcases h with ⟨i, t, h⟩ | h
  · exact nomatch (rep_at (α := Hd) (x := none) h)
  · exact (nomatch h)
end
end
section
variable {P : Program} {w : World} {K : PySem.W.Frag} {mg : Str → Option Value} {base : Heap} {cP cU cA cB c1 c2 c3 cC c4 c5 cT cF cD cS cI : Addr}
def sizesOf (c : Int) : Int × Int :=
  if c % 16 = 7 then (1 + c / 16 % 64, c / 1024 % 20) else if c % 32 = 6 then (1 + c / 32 % 4, c / 128 % 129) else if c % 8 = 6 then (1 + c / 8 % 9, c / 72 % 30) else (1 + c / 8 % 5, c / 40 % 6)
theorem sizesOf_ok (c : Int) : 1 ≤ (sizesOf c).1 ∧ (sizesOf c).1 ≤ 64 ∧ 0 ≤ (sizesOf c).2 ∧ (sizesOf c).2 ≤ 128 := by
  unfold sizesOf
  split
  · dsimp only; omega
  · split
    · dsimp only; omega
    · split
      · dsimp only; omega
      · dsimp only; omega
def spSizes : Sp := fun vs H Q _ => ∃ (c : Int) (L : Cells), vs = [.int c] ∧ Led H L ∧ ∀ p H', Led H' ((p, .tup [.int (sizesOf c).1, .int (sizesOf c).2]) :: L) → Q (.ref p) H'
theorem ok_sizes (D : Def K mg "_law_sizes" s_l_sizes) (T : Txt K mg cP cU cA cB c1 c2 c3 cC c4 c5 cT cF cD cS cI) : FnD P w K mg base 1 "_law_sizes" ["_law_cell"] spSizes := by
  have sc := sc_l_sizes
  refine D.ok sc_l_sizes (fun vs H Q E h => ?_) (fun _ _ _ _ _ _ us hl => match us, hl with | [_], _ => rfl) (fun f cdv A outer s H vs Q E hr h => ?_)
  · obtain ⟨_, _, rfl, _⟩ := h; rfl
  · obtain ⟨c, L, rfl, hL, k⟩ := h
    refine ⟨_, (@pss_cons _ _ _ _ _ (@ps_if _ _ _ _ _ _ _ _ (@pt_cmpR _ _ _ _ _ _ _ _ op_eq (@pe_op _ _ _ _ _ _ _ _ op_mod (@pv _ 0 _ _ (by rfl) (by walk_at "o3") (by decide) (by decide)) (@pe_int _ _ _ _)) (@pe_int _ _ _ _) (nomark _)) (@pss_one _ _ _ (@ps_ret _ _ _ _ (@pe_tup _ _ _ _ _ (@pa_cons _ _ _ _ _ (@pe_op _ _ _ _ _ _ _ _ op_add (@pe_int _ _ _ _) (@pe_op _ _ _ _ _ _ _ _ op_mod (@pe_op _ _ _ _ _ _ _ _ op_fdiv (@pv _ 0 _ _ (by rfl) (by walk_at "o3") (by decide) (by decide)) (@pe_int _ _ _ _)) (@pe_int _ _ _ _))) (@pa_cons _ _ _ _ _ (@pe_op _ _ _ _ _ _ _ _ op_mod (@pe_op _ _ _ _ _ _ _ _ op_fdiv (@pv _ 0 _ _ (by rfl) (by walk_at "o3") (by decide) (by decide)) (@pe_int _ _ _ _)) (@pe_int _ _ _ _)) (@pa_nil _) (by rfl)) (by rfl))))) (@pss_nil _)) (@pss_cons _ _ _ _ _ (@ps_if _ _ _ _ _ _ _ _ (@pt_cmpR _ _ _ _ _ _ _ _ op_eq (@pe_op _ _ _ _ _ _ _ _ op_mod (@pv _ 0 _ _ (by rfl) (by walk_at "o3") (by decide) (by decide)) (@pe_int _ _ _ _)) (@pe_int _ _ _ _) (nomark _)) (@pss_one _ _ _ (@ps_ret _ _ _ _ (@pe_tup _ _ _ _ _ (@pa_cons _ _ _ _ _ (@pe_op _ _ _ _ _ _ _ _ op_add (@pe_int _ _ _ _) (@pe_op _ _ _ _ _ _ _ _ op_mod (@pe_op _ _ _ _ _ _ _ _ op_fdiv (@pv _ 0 _ _ (by rfl) (by walk_at "o3") (by decide) (by decide)) (@pe_int _ _ _ _)) (@pe_int _ _ _ _))) (@pa_cons _ _ _ _ _ (@pe_op _ _ _ _ _ _ _ _ op_mod (@pe_op _ _ _ _ _ _ _ _ op_fdiv (@pv _ 0 _ _ (by rfl) (by walk_at "o3") (by decide) (by decide)) (@pe_int _ _ _ _)) (@pe_int _ _ _ _)) (@pa_nil _) (by rfl)) (by rfl))))) (@pss_nil _)) (@pss_cons _ _ _ _ _ (@ps_if _ _ _ _ _ _ _ _ (@pt_cmpR _ _ _ _ _ _ _ _ op_eq (@pe_op _ _ _ _ _ _ _ _ op_mod (@pv _ 0 _ _ (by rfl) (by walk_at "o3") (by decide) (by decide)) (@pe_int _ _ _ _)) (@pe_int _ _ _ _) (nomark _)) (@pss_one _ _ _ (@ps_ret _ _ _ _ (@pe_tup _ _ _ _ _ (@pa_cons _ _ _ _ _ (@pe_op _ _ _ _ _ _ _ _ op_add (@pe_int _ _ _ _) (@pe_op _ _ _ _ _ _ _ _ op_mod (@pe_op _ _ _ _ _ _ _ _ op_fdiv (@pv _ 0 _ _ (by rfl) (by walk_at "o3") (by decide) (by decide)) (@pe_int _ _ _ _)) (@pe_int _ _ _ _))) (@pa_cons _ _ _ _ _ (@pe_op _ _ _ _ _ _ _ _ op_mod (@pe_op _ _ _ _ _ _ _ _ op_fdiv (@pv _ 0 _ _ (by rfl) (by walk_at "o3") (by decide) (by decide)) (@pe_int _ _ _ _)) (@pe_int _ _ _ _)) (@pa_nil _) (by rfl)) (by rfl))))) (@pss_nil _)) (@pss_one _ _ _ (@ps_ret _ _ _ _ (@pe_tup _ _ _ _ _ (@pa_cons _ _ _ _ _ (@pe_op _ _ _ _ _ _ _ _ op_add (@pe_int _ _ _ _) (@pe_op _ _ _ _ _ _ _ _ op_mod (@pe_op _ _ _ _ _ _ _ _ op_fdiv (@pv _ 0 _ _ (by rfl) (by walk_at "o3") (by decide) (by decide)) (@pe_int _ _ _ _)) (@pe_int _ _ _ _))) (@pa_cons _ _ _ _ _ (@pe_op _ _ _ _ _ _ _ _ op_mod (@pe_op _ _ _ _ _ _ _ _ op_fdiv (@pv _ 0 _ _ (by rfl) (by walk_at "o3") (by decide) (by decide)) (@pe_int _ _ _ _)) (@pe_int _ _ _ _)) (@pa_nil _) (by rfl)) (by rfl)))))))), ?_⟩
    refine seqK fun M1 K1 => ?_
    walk_at "ge"
    · have e : sizesOf c = (1 + c / 16 % 64, c / 1024 % 20) := by unfold sizesOf; rw [if_pos (by assumption)]
      rw [e] at k
      rename Led _ _ => hl
      exact k _ _ hl
    have n1 : ¬ c % 16 = 7 := by assumption
    refine K1.use ?_
    walk_at "cl"
    clear K1
    refine seqK fun M1 K1 => ?_
    walk_at "ge"
    · have e : sizesOf c = (1 + c / 32 % 4, c / 128 % 129) := by unfold sizesOf; rw [if_neg n1, if_pos (by assumption)]
      rw [e] at k
      rename Led _ _ => hl
      exact k _ _ hl
    have n2 : ¬ c % 32 = 6 := by assumption
    refine K1.use ?_
    walk_at "cl"
    clear K1
    refine seqK fun M1 K1 => ?_
    walk_at "ge"
    · have e : sizesOf c = (1 + c / 8 % 9, c / 72 % 30) := by unfold sizesOf; rw [if_neg n1, if_neg n2, if_pos (by assumption)]
      rw [e] at k
      rename Led _ _ => hl
      exact k _ _ hl
    have n3 : ¬ c % 8 = 6 := by assumption
    refine K1.use ?_
    walk_at "cl"
    clear K1
    walk_at "ge"
    have e : sizesOf c = (1 + c / 8 % 5, c / 40 % 6) := by unfold sizesOf; rw [if_neg n1, if_neg n2, if_neg n3]
    rw [e] at k
    rename Led _ _ => hl
    exact k _ _ hl
end
section
variable {P : Program} {w : World} {K : PySem.W.Frag} {mg : Str → Option Value} {base : Heap} {cP cU cA cB c1 c2 c3 cC c4 c5 cT cF cD cS cI : Addr}
theorem St.pull {H : Hp} {S : SS} {M : Cells} {c : Addr × HO} (h : Led H (StC cT cF cD cS cI S (c :: M))) : Led H (c :: StC cT cF cD cS cI S M) := by
  have e : ∀ X : Cells, StC cT cF cD cS cI S X = (stO cT S ++ (frB cF S.F ++ (diB cD S ++ (shB cS S ++ fiB cI S)))) ++ X := fun X => by unfold StC; simp only [List.append_assoc]
  rw [e] at h ⊢
  exact Led.perm h List.perm_middle
def spTouched (cT cF cD cS cI : Addr) : Sp := fun vs H Q _ => ∃ (S : SS) (n : Nat) (c : Int) (mk : Addr) (M : Cells), vs = [.ref S.b, .ref mk, .int c] ∧ Led H (StC cT cF cD cS cI S ((mk, .lst (S.bs.map V.bl)) :: M)) ∧ S.bs.length = n ∧ 1 ≤ n ∧ n ≤ 64 ∧ 0 ≤ c ∧ c < 104729 ∧ ∀ (i : Nat) (H' : Hp), i < n → Led H' (StC cT cF cD cS cI { S with bs := S.bs.set i true } ((mk, .lst ((S.bs.set i true).map V.bl)) :: M)) → Q .non H'
theorem ok_touched (D : Def K mg "_law_touched" s_l_touched) (B : Blt mg) (T : Txt K mg cP cU cA cB c1 c2 c3 cC c4 c5 cT cF cD cS cI) (M_Dial_touch : MethD P w K mg base 1 cD "touch" ["self", "frame"] (spMark cD true)) : FnD P w K mg base 2 "_law_touched" ["_law_store", "_law_marks", "_law_cell"] (spTouched cT cF cD cS cI) := by
  have sc := sc_l_touched
  refine D.ok sc_l_touched (fun vs H Q E h => ?_) (fun _ _ _ _ _ _ us hl => match us, hl with | [_, _, _], _ => rfl) (fun f cdv A outer s H vs Q E hr h => ?_)
  · obtain ⟨_, _, _, _, _, rfl, _⟩ := h; rfl
  · obtain ⟨S, n, c, mk, M, rfl, hL, hn, n1, n64, c0, c9, k⟩ := h
    have hsz := sizeLine_eq
    have f2 := stF_di S
    have c_b := hL.get St.b
    have c_m := hL.get (St.up mS)
    have lm : (S.bs.map V.bl).length = n := (List.length_map _).trans hn
    refine ⟨_, (@pss_cons _ _ _ _ _ (@ps_set _ _ 3 _ _ _ _ sc.nd rfl (by walk_at "o2") (@pe_op _ _ _ _ _ _ _ _ op_mod (@pe_op _ _ _ _ _ _ _ _ op_mod (@pe_op _ _ _ _ _ _ _ _ op_mul (@pv _ 2 _ _ (by rfl) (by walk_at "o3") (by decide) (by decide)) (@pe_int _ _ _ _)) (@pe_int _ _ _ _)) (@pe_callB _ _ _ _ _ _ _ _ _ call_lenA (by rfl) B.len bt_len (@pa_cons _ _ _ _ _ (@pv _ 1 _ _ (by rfl) (by walk_at "o3") (by decide) (by decide)) (@pa_nil _) (by rfl)) (by decide) (by decide) (by rfl) (by rfl))) (by rfl) (by first | exact .inl rfl | exact .inr rfl | assumption)) (@pss_cons _ _ _ _ _ (@ps_expr _ _ _ _ (@pe_methD _ _ _ _ _ _ _ _ _ _ _ _ _ _ _ _ T.Dial M_Dial_touch (hr.mono (by omega)) passR0 (@pe_fldC _ _ _ _ _ _ _ T.Store T.n_dial (@pv _ 0 _ _ (by rfl) (by walk_at "o3") (by decide) (by decide)) (by rfl)) (@pa_cons _ _ _ _ _ (@pv _ 3 _ _ (by rfl) (by walk_at "o3") (by decide) (by decide)) (@pa_nil _) (by rfl)) (by rfl) (by rfl) (by rfl)) (by rfl)) (@pss_one _ _ _ (@ps_asg _ _ _ _ _ _ (@pe_bl _ _ _ _) (@pg_sub _ _ _ _ _ _ _ (@pv _ 1 _ _ (by rfl) (by walk_at "o3") (by decide) (by decide)) (@pv _ 3 _ _ (by rfl) (by walk_at "o3") (by decide) (by decide)) set_list (by intro _; rfl)) (by rfl) (by rfl) (by rfl))))), ?_⟩
    refine seqK fun M1 K1 => ?_
    walk_at "ge"
    rw [lm]
    have e0 := Int.emod_nonneg (c * 69621 % 15101) (show (n : Int) ≠ 0 by omega)
    have e1 := Int.emod_lt_of_pos (c * 69621 % 15101) (show (0 : Int) < n by omega)
    obtain ⟨i, hi⟩ : ∃ i : Nat, c * 69621 % 15101 % (n : Int) = (i : Int) := ⟨_, (Int.toNat_of_nonneg e0).symm⟩
    rw [hi] at e0 e1 ⊢
    have hin : i < n := by omega
    clear e0 c_m
    refine K1.use ?_
    walk_at "cl"
    clear K1
    have hD := St.toD hL
    have c_d := hD.get dk1
    refine seqK fun M1 K1 => ?_
    walk_at "ge"
    refine ⟨S.d, S.ddx, S.dm, (S.p : Int), ((i : Nat) : Int), S.bs, _, rfl, hD, by omega, by omega, fun H2 hl3 => ?_⟩
    rw [Int.toNat_natCast] at hl3
    have hl4 := St.ofD (S := S) (N := []) (p' := S.p) (bs' := S.bs.set i true) hl3
    clear hl3 hD c_d c_b hL
    have hl5 : Led H2 ((mk, .lst (S.bs.map V.bl)) :: StC cT cF cD cS cI { S with bs := S.bs.set i true } M) := St.pull hl4
    have c_m := hl5.get mS
    clear hl4
    walk_at "ge"
    refine K1.use ?_
    walk_at "cl"
    clear K1
    walk_at "ge"
    refine setLH c_m (ixN_of (by omega) (by omega)) ?_
    rw [Int.toNat_natCast, show (S.bs.map V.bl).set i (V.bl true) = (S.bs.set i true).map V.bl by rw [List.map_set]]
    have hl6 := hl5.put (o' := .lst ((S.bs.set i true).map V.bl)) rfl rfl
    walk_at "ge"
    exact k i _ hin (St.push hl6)
end
section
variable {P : Program} {w : World} {K : PySem.W.Frag} {mg : Str → Option Value} {base : Heap} {cP cU cA cB c1 c2 c3 cC c4 c5 cT cF cD cS cI : Addr}
def spHeldL (cT cF cD cS cI : Addr) : Sp := fun vs H Q _ => ∃ (S : SS) (m c : Int) (ld : Addr) (M : Cells), vs = [.ref S.b, .ref ld, .int m] ∧ Led H (StC cT cF cD cS cI S ((ld, .dK (kvH S.hs)) :: M)) ∧ S.hs.length ≤ 600 ∧ (S.hs.map (·.1)).Nodup ∧ (m, c) ∈ S.hs ∧ ∀ H', Led H' (StC cT cF cD cS cI { S with hs := putH S.hs m (c + 1) } ((ld, .dK (kvH (putH S.hs m (c + 1)))) :: M)) → Q (.bl true) H'
theorem ok_heldL (D : Def K mg "_law_held" s_l_held) (B : Blt mg) (T : Txt K mg cP cU cA cB c1 c2 c3 cC c4 c5 cT cF cD cS cI) (G_hold : FnD P w K mg base 1 "hold" ["store", "sheet"] (spHold cT cF cD cS cI)) (G__law_alike : FnD P w K mg base 4 "_law_alike" ["_law_found", "_law_due"] (spAlike 2)) : FnD P w K mg base 5 "_law_held" ["_law_store", "_law_holders", "_law_sheet"] (spHeldL cT cF cD cS cI) := by
  have sc := sc_l_held
  refine D.ok sc_l_held (fun vs H Q E h => ?_) (fun _ _ _ _ _ _ us hl => match us, hl with | [_, _, _], _ => rfl) (fun f cdv A outer s H vs Q E hr h => ?_)
  · obtain ⟨_, _, _, _, _, rfl, _⟩ := h; rfl
  · obtain ⟨S, m, c, ld, M, rfl, hL, hh, nd, hm, k⟩ := h
    have hu := unit1 hr
    have hsz := sizeLine_eq
    have hv := kvH_at nd hm
    have hmk : m ∈ S.hs.map (·.1) := List.mem_map.mpr ⟨_, hm, rfl⟩
    have hl1 := St.pull hL
    have c_l := hl1.get mS
    refine ⟨_, (@pss_cons _ _ _ _ _ (@ps_dput _ _ _ _ _ _ _ _ _ hu (@pv _ 1 _ _ (by rfl) (by walk_at "o3") (by decide) (by decide)) (@pv _ 2 _ _ (by rfl) (by walk_at "o3") (by decide) (by decide)) (@pe_op _ _ _ _ _ _ _ _ op_add (@pe_dget _ _ _ _ _ _ hu (@pv _ 1 _ _ (by rfl) (by walk_at "o3") (by decide) (by decide)) (@pv _ 2 _ _ (by rfl) (by walk_at "o3") (by decide) (by decide)) (fun _ _ => rfl)) (@pe_int _ _ _ _)) rfl) (@pss_one _ _ _ (@ps_ret _ _ _ _ (@pe_callD _ _ _ _ _ _ _ _ _ _ _ G__law_alike (hr.mono (by omega)) (by rfl) passR0 (@pa_cons _ _ _ _ _ (@pe_callD _ _ _ _ _ _ _ _ _ _ _ G_hold (hr.mono (by omega)) (by rfl) passR0 (@pa_cons _ _ _ _ _ (@pv _ 0 _ _ (by rfl) (by walk_at "o3") (by decide) (by decide)) (@pa_cons _ _ _ _ _ (@pv _ 2 _ _ (by rfl) (by walk_at "o3") (by decide) (by decide)) (@pa_nil _) (by rfl)) (by rfl)) (by decide) (by rfl) (by rfl)) (@pa_cons _ _ _ _ _ (@pe_dget _ _ _ _ _ _ hu (@pv _ 1 _ _ (by rfl) (by walk_at "o3") (by decide) (by decide)) (@pv _ 2 _ _ (by rfl) (by walk_at "o3") (by decide) (by decide)) (fun _ _ => rfl)) (@pa_nil _) (by rfl)) (by rfl)) (by decide) (by rfl) (by rfl))))), ?_⟩
    refine seqK fun M1 K1 => ?_
    walk_at "ge"
    refine dgetR c_l hv ?_
    walk_at "ge"
    refine dputR c_l (by unfold kvH; rw [List.length_map]; omega) ?_
    rw [kvH_put _ hmk]
    have hl2 := St.push (hl1.put (o' := .dK (kvH (putH S.hs m (c + 1)))) rfl rfl)
    generalize upd H ld (.dK (kvH (putH S.hs m (c + 1)))) = H2 at hl2 ⊢
    clear hl1 c_l hL
    walk_at "ge"
    refine K1.use ?_
    walk_at "cl"
    clear K1
    walk_at "ge"
    refine ⟨S, m, c, _, rfl, hl2, hh, nd, hm, fun H3 hl3 => ?_⟩
    have c_l := hl3.get (St.up mS)
    walk_at "ge"
    refine dgetR c_l (kvH_at (by rw [putH_keys]; exact nd) (putH_at _ hmk)) ?_
    walk_at "ge"
    refine ⟨_, _, rfl, .inl (.inr (.inr (.inl ⟨_, rfl, rfl⟩))), ?_⟩
    walk_at "ge"
    exact k _ hl3
end
section
variable {P : Program} {w : World} {K : PySem.W.Frag} {mg : Str → Option Value} {base : Heap} {cP cU cA cB c1 c2 c3 cC c4 c5 cT cF cD cS cI : Addr}
def spRefusedL (cT cF cD cS cI : Addr) : Sp := fun vs H Q _ => ∃ (S : SS) (n q : Nat) (r0 : Addr) (row : List Int) (M : Cells), vs = [.ref S.b, .ref r0] ∧ Led H (StC cT cF cD cS cI S M) ∧ OkSt S n q M ∧ OkH S n q ∧ (r0, HO.lst (row.map V.int)) ∈ M ∧ row.length = 4 ∧ S.hs.length ≤ 600 ∧ (n : Int) - 1 + (q : Int) - (S.hs.length : Int) = 0 ∧ ∀ (N : Cells) (H' : Hp), Led H' (StC cT cF cD cS cI S (N ++ M)) → Q (.bl true) H'
theorem ok_refusedL (D : Def K mg "_law_refused" s_l_refused) (B : Blt mg) (T : Txt K mg cP cU cA cB c1 c2 c3 cC c4 c5 cT cF cD cS cI) (G_new_sheet : FnD P w K mg base 7 "new_sheet" ["store", "row"] (spNew cT cF cD cS cI cU)) : FnD P w K mg base 8 "_law_refused" ["_law_store", "_law_row_here"] (spRefusedL cT cF cD cS cI) := by
  refine D.ok sc_l_refused (fun vs H Q E h => ?_) (fun _ _ _ _ _ _ us hl => match us, hl with | [_, _], _ => rfl) (fun f cdv A outer s H vs Q E hr h => ?_)
  · obtain ⟨_, _, _, _, _, _, rfl, _⟩ := h; rfl
  · obtain ⟨S, n, q, r0, row, M, rfl, hL, g, gh, i_r, h4, hh, h0, k⟩ := h
    have sc := sc_l_refused
    have n1 := g.n1
    have n64 := g.n64
    have q6 := g.q6
    refine ⟨_, (@pss_cons _ _ _ _ _ (@ps_set _ _ 2 _ _ _ _ sc.nd rfl (by walk_at "o2") (@pe_bl _ _ _ _) (by rfl) (by first | exact .inl rfl | exact .inr rfl | assumption)) (@pss_cons _ _ _ _ _ (@ps_try _ _ _ _ _ _ _ 3 _ _ _ _ _ rfl rfl rfl (@psxs_one _ _ _ (@psx_expr _ _ _ _ (@pex_callD _ _ _ _ _ _ _ _ _ _ G_new_sheet (hr.mono (by omega)) (by rfl) (@pa_cons _ _ _ _ _ (@pv _ 0 _ _ (by rfl) (by walk_at "o3") (by decide) (by decide)) (@pa_cons _ _ _ _ _ (@pv _ 1 _ _ (by rfl) (by walk_at "o3") (by decide) (by decide)) (@pa_nil _) (by rfl)) (by rfl)) (by decide) (by rfl) (by rfl)) (by rfl))) (by rfl) T.PaneError.mgC sc.nd rfl rfl (fun _ => (@pss_cons _ _ _ _ _ (@ps_set _ _ 2 _ _ _ _ sc.nd rfl (by walk_at "o2") (@pe_and _ _ _ _ _ _ _ (@pe_callB _ _ _ _ _ _ _ _ _ (call_isiXK (K := K) rfl) (by rfl) B.isinstance bt_isinstance (@pa_cons _ _ _ _ _ (@pv _ 3 _ _ (by rfl) (by walk_at "o3") (by decide) (by decide)) (@pa_cons _ _ _ _ _ (@pe_glob _ _ (.ref _) _ _ (by rfl) T.Full.mgC rfl (by decide)) (@pa_nil _) (by rfl)) (by rfl)) (by decide) (by decide) (by rfl) (by rfl)) (@pe_one _ _ _ _ _ (@pe_callB _ _ _ _ _ _ _ _ _ (call_isiXK (K := K) rfl) (by rfl) B.isinstance bt_isinstance (@pa_cons _ _ _ _ _ (@pv _ 3 _ _ (by rfl) (by walk_at "o3") (by decide) (by decide)) (@pa_cons _ _ _ _ _ (@pe_bltn _ _ (.ty "ValueError") _ _ (by rfl) B.ValueError bt_ValueError rfl (by decide) (by decide)) (@pa_nil _) (by rfl)) (by rfl)) (by decide) (by decide) (by rfl) (by rfl)))) (by rfl) (by first | exact .inl rfl | exact .inr rfl | assumption)) (@pss_one _ _ _ (@ps_if _ _ _ _ _ _ _ _ (@pt_val _ _ _ (@pe_callB _ _ _ _ _ _ _ _ _ (call_isiXK (K := K) rfl) (by rfl) B.isinstance bt_isinstance (@pa_cons _ _ _ _ _ (@pv _ 3 _ _ (by rfl) (by walk_at "o3") (by decide) (by decide)) (@pa_cons _ _ _ _ _ (@pe_tup _ _ _ _ _ (@pa_cons _ _ _ _ _ (@pe_glob _ _ (.ref _) _ _ (by rfl) T.NoNumber.mgC rfl (by decide)) (@pa_cons _ _ _ _ _ (@pe_glob _ _ (.ref _) _ _ (by rfl) T.NoSpace.mgC rfl (by decide)) (@pa_cons _ _ _ _ _ (@pe_glob _ _ (.ref _) _ _ (by rfl) T.NoFile.mgC rfl (by decide)) (@pa_cons _ _ _ _ _ (@pe_glob _ _ (.ref _) _ _ (by rfl) T.NoPage.mgC rfl (by decide)) (@pa_cons _ _ _ _ _ (@pe_glob _ _ (.ref _) _ _ (by rfl) T.NoRight.mgC rfl (by decide)) (@pa_cons _ _ _ _ _ (@pe_glob _ _ (.ref _) _ _ (by rfl) T.Taken.mgC rfl (by decide)) (@pa_cons _ _ _ _ _ (@pe_glob _ _ (.ref _) _ _ (by rfl) T.Held.mgC rfl (by decide)) (@pa_cons _ _ _ _ _ (@pe_glob _ _ (.ref _) _ _ (by rfl) T.NoRow.mgC rfl (by decide)) (@pa_nil _) (by rfl)) (by rfl)) (by rfl)) (by rfl)) (by rfl)) (by rfl)) (by rfl)) (by rfl))) (@pa_nil _) (by rfl)) (by rfl)) (by decide) (by decide) (by rfl) (by rfl)) (by intro _; rfl)) (@pss_one _ _ _ (@ps_set _ _ 2 _ _ _ _ sc.nd rfl (by walk_at "o2") (@pe_bl _ _ _ _) (by rfl) (by first | exact .inl rfl | exact .inr rfl | assumption))) (@pss_nil _))))) (by decide)) (@pss_one _ _ _ (@ps_ret _ _ _ _ (@pv _ 2 _ _ (by rfl) (by walk_at "o3") (by decide) (by decide)))))), ?_⟩
    refine seqK fun M1 K1 => ?_
    walk_at "ge"
    refine K1.use ?_
    walk_at "cl"
    clear K1
    refine seqK fun M1 K1 => ?_
    refine tryI fun E1 hE1 => ?_
    walk_at "ge"
    refine ⟨S, n, q, r0, row, M, rfl, hL, g, i_r, h4, hh, gh.fresh, gh.key, fun _ N H1 hl1 => ?_, fun h => absurd h0 h, fun h => absurd h0 h⟩
    · rw [hE1.eq]
      refine ⟨T.xm_cU_cP, fun ea hea => ?_⟩
      clear hE1
      have hl2 := hl1.new (o := .ext (IsExc ea (.ref cU))) hea
      generalize upd H1 ea (.ext (IsExc ea (.ref cU))) = H2 at hl2 ⊢
      have c_e := hl2.get mS
      refine seqK fun M2 K2 => ?_
      walk_at "ge"
      refine ⟨ea, cU, _, true, rfl, c_e, T.xi_cU, .inr (.inl ⟨cU, rfl, T.xo_cU_cU⟩), ?_⟩
      walk_at "ge"
      refine ⟨ea, cU, _, true, rfl, c_e, T.xi_cU, .inl ⟨_, rfl, T.xo_cU_ValueError⟩, ?_⟩
      walk_at "ge"
      refine K2.use ?_
      walk_at "cl"
      clear K2
      walk_at "ge"
      rename_i tp H3 _ hl3 _
      refine ⟨ea, cU, _, false, rfl, hl3.get (mC mS), T.xi_cU, .inr (.inr ⟨tp, [c1, c2, cA, cB, c3, cC, c4, c5], rfl, hl3.get mS, T.xo⟩), ?_⟩
      walk_at "ge"
      refine K1.use ?_
      walk_at "ge"
      exact k N _ hl3.tail.tail
end
section
variable {P : Program} {w : World} {K : PySem.W.Frag} {mg : Str → Option Value} {base : Heap} {cP cU cA cB c1 c2 c3 cC c4 c5 cT cF cD cS cI : Addr}
structure SpM (S : SS) (us : List V) (M : Cells) : Prop where
  l : us.length = S.F.hs.length
  no : ∀ i : Nat, S.F.hs[i]? = some none → us[i]? = some .non
  th : ∀ (i : Nat) (t : Addr) (a : Th), S.F.hs[i]? = some (some (t, a)) → ∃ u, us[i]? = some (.ref u) ∧ (u, HO.tup (thV a)) ∈ M
theorem flat_th {H : Hp} {a : Th} {i : Nat} {x y : V} (h1 : (thV a)[i]? = some x) (h2 : (thV a)[i]? = some y) : Alike H 0 x y := by
  rw [h1] at h2
  cases h2
  have hm := List.mem_of_getElem? h1
  cases a with
  | own m =>
    rcases List.mem_cons.mp hm with rfl | hm
    · exact .inr (.inr (.inr ⟨_, rfl, rfl⟩))
    · rw [List.mem_singleton.mp hm]; exact .inr (.inr (.inl ⟨_, rfl, rfl⟩))
  | file z p =>
    rcases List.mem_cons.mp hm with rfl | hm
    · exact .inr (.inr (.inr ⟨_, rfl, rfl⟩))
    · rcases List.mem_cons.mp hm with rfl | hm
      · exact .inr (.inr (.inr ⟨_, rfl, rfl⟩))
      · rw [List.mem_singleton.mp hm]; exact .inr (.inr (.inl ⟨_, rfl, rfl⟩))
theorem SpM.alike {S : SS} {us : List V} {M L : Cells} {n q : Nat} {H : Hp} {p sp : Addr} (g : OkSt S n q M) (s : SpM S us M) (hL : Led H L) (hM : ∀ c ∈ M, c ∈ L) (h1 : H p = some (.lst (S.F.hs.map heldV))) (h2 : H sp = some (.lst us)) : Alike H 2 (.ref p) (.ref sp) := by
  have gn := g.n64
  have gl := g.f.h
  refine .inr ⟨p, sp, _, _, rfl, rfl, .inl ⟨h1, h2⟩, by rw [List.length_map, s.l], by rw [s.l]; omega, fun i x y hx hy => ?_⟩
  rw [List.getElem?_map] at hx
  obtain ⟨z, hz, rfl⟩ := Option.map_eq_some_iff.mp hx
  cases z with
  | none =>
    rw [s.no i hz] at hy
    cases hy
    exact .inl (.inl ⟨rfl, rfl⟩)
  | some z =>
    obtain ⟨u, hu, hc⟩ := s.th i z.1 z.2 hz
    rw [hu] at hy
    cases hy
    have hl : (thV z.2).length ≤ 100000 := by
      cases z.2 with
      | own m => show 2 ≤ 100000; decide
      | file w p => show 3 ≤ 100000; decide
    exact .inr ⟨z.1, u, _, _, rfl, rfl, .inr ⟨hL.get (hM _ (g.f.th z.1 z.2 (List.mem_of_getElem? hz)).1), hL.get (hM _ hc)⟩, rfl, hl, fun j x' y' a b => flat_th a b⟩
end
section
variable {P : Program} {w : World} {K : PySem.W.Frag} {mg : Str → Option Value} {base : Heap} {cP cU cA cB c1 c2 c3 cC c4 c5 cT cF cD cS cI : Addr}
theorem alike_bls {H : Hp} {a b : Addr} {bs : List Bool} (h1 : H a = some (.lst (bs.map V.bl))) (h2 : H b = some (.lst (bs.map V.bl))) (hl : bs.length ≤ 600) : Alike H 2 (.ref a) (.ref b) := by
  refine .inr ⟨a, b, _, _, rfl, rfl, .inl ⟨h1, h2⟩, rfl, by rw [List.length_map]; omega, fun i x y hx hy => ?_⟩
  rw [hx] at hy
  cases hy
  obtain ⟨v, _, rfl⟩ := List.mem_map.mp (List.mem_of_getElem? hx)
  exact .inl (.inr (.inl ⟨_, rfl, rfl⟩))
theorem OkSt.alike_ps {S : SS} {n q : Nat} {M : Cells} (g : OkSt S n q M) {H : Hp} {a b : Addr} (h1 : H a = some (.lst S.ps)) (h2 : H b = some (.lst S.ps)) : Alike H 2 (.ref a) (.ref b) := by
  have g6 := g.q6
  refine .inr ⟨a, b, _, _, rfl, rfl, .inl ⟨h1, h2⟩, rfl, by rw [g.pl]; omega, fun i x y hx hy => ?_⟩
  rw [hx] at hy
  cases hy
  rcases g.pe x (List.mem_of_getElem? hx) with rfl | ⟨m, rfl⟩
  · exact .inl (.inl ⟨rfl, rfl⟩)
  · exact .inl (.inr (.inr (.inl ⟨_, rfl, rfl⟩)))
def spIsStore (cT cF cD cS cI : Addr) : Sp := fun vs H Q _ => ∃ (S : SS) (n q : Nat) (sp mk sf : Addr) (us : List V) (M : Cells), vs = [.ref S.b, .ref sp, .ref mk, .ref sf, .int (S.p : Nat)] ∧ Led H (StC cT cF cD cS cI S M) ∧ OkSt S n q M ∧ (sp, HO.lst us) ∈ M ∧ (mk, HO.lst (S.bs.map V.bl)) ∈ M ∧ (sf, HO.lst S.ps) ∈ M ∧ SpM S us M ∧ ∀ (N : Cells) (H' : Hp), Led H' (StC cT cF cD cS cI S (N ++ M)) → Q (.bl true) H'
theorem ok_is_store (D : Def K mg "_law_is_store" s_l_is_store) (B : Blt mg) (T : Txt K mg cP cU cA cB c1 c2 c3 cC c4 c5 cT cF cD cS cI) (M_Frames_things : MethD P w K mg base 1 cF "things" ["self"] (spThings cF)) (M_Dial_marks : MethD P w K mg base 1 cD "marks" ["self"] (spMarks cD)) (M_Dial_pointer : MethD P w K mg base 1 cD "pointer" ["self"] (spPointer cD)) (M_Shelf_sheets : MethD P w K mg base 1 cS "sheets" ["self"] (spSheets cS)) (G__law_alike : FnD P w K mg base 4 "_law_alike" ["_law_found", "_law_due"] (spAlike 2)) : FnD P w K mg base 5 "_law_is_store" ["_law_store", "_law_spots", "_law_marks", "_law_shelf", "_law_pointer"] (spIsStore cT cF cD cS cI) := by
  have sc := sc_l_is_store
  refine D.ok sc_l_is_store (fun vs H Q E h => ?_) (fun _ _ _ _ _ _ us hl => match us, hl with | [_, _, _, _, _], _ => rfl) (fun f cdv A outer s H vs Q E hr h => ?_)
  · obtain ⟨_, _, _, _, _, _, _, _, rfl, _⟩ := h; rfl
  · obtain ⟨S, n, q, sp, mk, sf, us, M, rfl, hL, g, i_s, i_m, i_f, s1, k⟩ := h
    have gn := g.n64
    have gl := g.f.h
    have f1 := stF_fr S
    have f2 := stF_di S
    have f3 := stF_sh S
    have c_b := hL.get St.b
    have hF := St.toF hL
    have c_f := hF.get mS
    refine ⟨_, (@pss_cons _ _ _ _ _ (@ps_if _ _ _ _ _ _ _ _ (@PW.pt _ _ _ (@pw_or _ _ _ _ _ _ _ (@pt_not _ _ _ _ (@pt_val _ _ _ (@pe_callD _ _ _ _ _ _ _ _ _ _ _ G__law_alike (hr.mono (by omega)) (by rfl) passR0 (@pa_cons _ _ _ _ _ (@pe_methD0 _ _ _ _ _ _ _ _ _ _ _ _ _ T.Frames M_Frames_things (hr.mono (by omega)) passR0 (@pe_fldC _ _ _ _ _ _ _ T.Store T.n_frames (@pv _ 0 _ _ (by rfl) (by walk_at "o3") (by decide) (by decide)) (by rfl)) (by rfl)) (@pa_cons _ _ _ _ _ (@pv _ 1 _ _ (by rfl) (by walk_at "o3") (by decide) (by decide)) (@pa_nil _) (by rfl)) (by rfl)) (by decide) (by rfl) (by rfl)) (by intro _; rfl))) (@pw_or1 _ _ _ _ (@pt_not _ _ _ _ (@pt_val _ _ _ (@pe_callD _ _ _ _ _ _ _ _ _ _ _ G__law_alike (hr.mono (by omega)) (by rfl) passR0 (@pa_cons _ _ _ _ _ (@pe_methD0 _ _ _ _ _ _ _ _ _ _ _ _ _ T.Dial M_Dial_marks (hr.mono (by omega)) passR0 (@pe_fldC _ _ _ _ _ _ _ T.Store T.n_dial (@pv _ 0 _ _ (by rfl) (by walk_at "o3") (by decide) (by decide)) (by rfl)) (by rfl)) (@pa_cons _ _ _ _ _ (@pv _ 2 _ _ (by rfl) (by walk_at "o3") (by decide) (by decide)) (@pa_nil _) (by rfl)) (by rfl)) (by decide) (by rfl) (by rfl)) (by intro _; rfl)))))) (@pss_one _ _ _ (@ps_ret _ _ _ _ (@pe_bl _ _ _ _))) (@pss_nil _)) (@pss_one _ _ _ (@ps_ret _ _ _ _ (@pe_and _ _ _ _ _ _ _ (@pe_callD _ _ _ _ _ _ _ _ _ _ _ G__law_alike (hr.mono (by omega)) (by rfl) passR0 (@pa_cons _ _ _ _ _ (@pe_methD0 _ _ _ _ _ _ _ _ _ _ _ _ _ T.Shelf M_Shelf_sheets (hr.mono (by omega)) passR0 (@pe_fldC _ _ _ _ _ _ _ T.Store T.n_shelf (@pv _ 0 _ _ (by rfl) (by walk_at "o3") (by decide) (by decide)) (by rfl)) (by rfl)) (@pa_cons _ _ _ _ _ (@pv _ 3 _ _ (by rfl) (by walk_at "o3") (by decide) (by decide)) (@pa_nil _) (by rfl)) (by rfl)) (by decide) (by rfl) (by rfl)) (@pe_one _ _ _ _ _ (@pe_callD _ _ _ _ _ _ _ _ _ _ _ G__law_alike (hr.mono (by omega)) (by rfl) passR0 (@pa_cons _ _ _ _ _ (@pe_methD0 _ _ _ _ _ _ _ _ _ _ _ _ _ T.Dial M_Dial_pointer (hr.mono (by omega)) passR0 (@pe_fldC _ _ _ _ _ _ _ T.Store T.n_dial (@pv _ 0 _ _ (by rfl) (by walk_at "o3") (by decide) (by decide)) (by rfl)) (by rfl)) (@pa_cons _ _ _ _ _ (@pv _ 4 _ _ (by rfl) (by walk_at "o3") (by decide) (by decide)) (@pa_nil _) (by rfl)) (by rfl)) (by decide) (by rfl) (by rfl))))))), ?_⟩
    refine seqK fun M1 K1 => ?_
    walk_at "ge"
    refine ⟨S.F, _, rfl, hF, by omega, fun qt H1 hl1 => ?_⟩
    have hl2 : Led H1 ((qt, HO.lst (S.F.hs.map heldV)) :: StC cT cF cD cS cI S M) := Led.perm hl1 (List.Perm.cons _ (swap2 (frB cF S.F) (stO cT S) (diB cD S ++ (shB cS S ++ (fiB cI S ++ M)))))
    have hl3 := St.push hl2
    clear hl1 hF c_f c_b hL
    have c_q := hl2.get mS
    have c_s := hl2.get (mC (St.up i_s))
    walk_at "ge"
    refine ⟨_, _, rfl, s1.alike g hl2 (fun c hc => mC (St.up hc)) c_q c_s, ?_⟩
    clear hl2
    have c_b := hl3.get St.b
    have hD := St.toD hl3
    have c_d := hD.get dk1
    have c_k := hD.get (dk2 (cD := cD))
    walk_at "ge"
    refine ⟨S.d, S.ddx, S.dm, (S.p : Int), S.bs, _, rfl, hl3, c_d, c_k, fun r H2 hl4 => ?_⟩
    have hl5 := St.push hl4
    have a2 := alike_bls (hl4.get mS) (hl4.get (mC (St.up (mC i_m)))) (by rw [g.bl]; omega)
    clear hD c_d c_k c_b hl3 hl4
    walk_at "ge"
    refine ⟨_, _, rfl, a2, ?_⟩
    walk_at "ge"
    refine K1.use ?_
    walk_at "cl"
    clear K1
    have c_b := hl5.get St.b
    have hS := St.toS hl5
    have c_h := hS.get sk1
    have c_p := hS.get sk2
    walk_at "ge"
    refine ⟨S.sb, S.sdx, S.sl, S.sd, S.ps, _, rfl, hl5, c_h, c_p, fun r2 H3 hl6 => ?_⟩
    have hl7 := St.push hl6
    have a3 := g.alike_ps (hl6.get mS) (hl6.get (mC (St.up (mC (mC i_f)))))
    clear hS c_h c_p c_b hl5 hl6
    walk_at "ge"
    refine ⟨_, _, rfl, a3, ?_⟩
    have c_b := hl7.get St.b
    have hD := St.toD hl7
    have c_d := hD.get dk1
    walk_at "ge"
    refine ⟨S.d, S.ddx, S.dm, (S.p : Int), rfl, c_d, ?_⟩
    walk_at "ge"
    refine ⟨_, _, rfl, .inl (.inr (.inr (.inl ⟨_, rfl, rfl⟩))), ?_⟩
    walk_at "ge"
    exact k [(r2, _), (r, _), (qt, _)] _ hl7
end
section
variable {P : Program} {w : World} {K : PySem.W.Frag} {mg : Str → Option Value} {base : Heap} {cP cU cA cB c1 c2 c3 cC c4 c5 cT cF cD cS cI : Addr}
def off (p n g : Nat) : Nat := (g + n - p) % n
theorem off_lt {p n g : Nat} (h : p < n) : off p n g < n := Nat.mod_lt _ (by omega)
theorem off_at {p n i : Nat} (hp : p < n) (hi : i < n) : off p n ((p + i) % n) = i := by
  unfold off
  by_cases h : p + i < n
  · rw [Nat.mod_eq_of_lt h, show p + i + n - p = i + n by omega, Nat.add_mod_right, Nat.mod_eq_of_lt hi]
  · rw [Nat.mod_eq_sub_mod (a := p + i) (by omega), Nat.mod_eq_of_lt (a := p + i - n) (by omega), show p + i - n + n - p = i by omega, Nat.mod_eq_of_lt hi]
theorem at_off {p n g : Nat} (hp : p < n) (hg : g < n) : (p + off p n g) % n = g := by
  unfold off
  by_cases h : p ≤ g
  · rw [show g + n - p = (g - p) + n by omega, Nat.add_mod_right, Nat.mod_eq_of_lt (a := g - p) (by omega), show p + (g - p) = g by omega, Nat.mod_eq_of_lt hg]
  · rw [Nat.mod_eq_of_lt (a := g + n - p) (by omega), show p + (g + n - p) = g + n by omega, Nat.add_mod_right, Nat.mod_eq_of_lt hg]
theorem off_int {p n g : Nat} (hp : p < n) : ((g : Int) - (p : Int)) % (n : Int) = (off p n g : Nat) := by
  unfold off
  rw [Int.natCast_emod]
  rw [show ((g + n - p : Nat) : Int) = ((g : Int) - p) + n by omega, Int.add_emod_right]
abbrev ga (bs : List Bool) (g : Nat) : Bool := bs.getD g false
theorem ga_set {bs : List Bool} {f g : Nat} {b : Bool} (hf : f < bs.length) : ga (bs.set f b) g = if g = f then b else ga bs g := by
  unfold ga
  rw [List.getD_eq_getElem?_getD, List.getElem?_set, List.getD_eq_getElem?_getD]
  by_cases h : f = g
  · rw [if_pos h, if_pos hf, if_pos h.symm]; rfl
  · rw [if_neg h, if_neg (fun e => h e.symm)]
theorem ga_ext {as bs : List Bool} (h : as.length = bs.length) (hg : ∀ g, g < bs.length → ga as g = ga bs g) : as = bs := by
  refine List.ext_getElem h fun i h1 h2 => ?_
  have := hg i h2
  unfold ga at this
  rw [List.getD_eq_getElem?_getD, List.getD_eq_getElem?_getD, List.getElem?_eq_getElem h1, List.getElem?_eq_getElem h2] at this
  exact this
theorem ga_at {bs : List Bool} {g : Nat} (h : g < bs.length) : atI (bs.map L2.V.bl) ((g : Nat) : Int) = some (.bl (ga bs g)) := by
  refine atI_of (by omega) ?_
  unfold ga
  rw [Int.toNat_natCast, List.getElem?_map, List.getElem?_eq_getElem h, List.getD_eq_getElem?_getD, List.getElem?_eq_getElem h]
  rfl
def Res (may bs : List Bool) (n p f : Nat) (bs' : List Bool) : Prop := f < n ∧ ga may f = true ∧ bs'.length = n ∧
  ((ga bs f = false ∧ (∀ g, g < n → ga may g = true → off p n g < off p n f → ga bs g = true) ∧ ∀ g, g < n → ga bs' g = (ga bs g && !(ga may g && decide (off p n g < off p n f)))) ∨
   (ga bs f = true ∧ (∀ g, g < n → ga may g = true → ga bs g = true ∧ ¬ off p n g < off p n f) ∧ ∀ g, g < n → ga bs' g = (ga bs g && !ga may g)))
def Ph (may bs : List Bool) (n p i : Nat) (cur : List Bool) : Prop :=
  (i < n ∧ (∀ g, g < n → ga cur g = (ga bs g && !(ga may g && decide (off p n g < i)))) ∧ ∀ g, g < n → ga may g = true → off p n g < i → ga bs g = true) ∨
  (n ≤ i ∧ (∀ g, g < n → ga cur g = (ga bs g && !ga may g)) ∧ ∀ g, g < n → ga may g = true → ga bs g = true ∧ ¬ off p n g < i - n)
theorem ph_up {may bs cur : List Bool} {n p i : Nat} (hp : p < n) (hi : i ≤ n) (h1 : ∀ g, g < n → ga cur g = (ga bs g && !(ga may g && decide (off p n g < i)))) (h2 : ∀ g, g < n → ga may g = true → off p n g < i → ga bs g = true) : Ph may bs n p i cur := by
  by_cases h : i < n
  · exact .inl ⟨h, h1, h2⟩
  · have e : i = n := by omega
    subst e
    refine .inr ⟨Nat.le_refl _, fun g hg => ?_, fun g hg hm => ⟨h2 g hg hm (off_lt hp), by omega⟩⟩
    rw [h1 g hg, decide_eq_true (off_lt hp), Bool.and_true]
theorem goF_char {may bs : List Bool} {n p f : Nat} {bs' : List Bool} (hp : p < n) (hm : may.length = n) : ∀ (k i : Nat) (cur : List Bool), k + i = 2 * n → cur.length = n → Ph may bs n p i cur → goF may k (p + i) cur = some (f, bs') → Res may bs n p f bs'
  | 0, _, _, _, _, _, h => nomatch h
  | k + 1, i, cur, hk, hc, hph, h => by
    unfold goF at h
    rw [hm] at h
    rcases hph with ⟨hi, h1, h2⟩ | ⟨hi, h1, h2⟩
    · have hg0 : (p + i) % n < n := Nat.mod_lt _ (by omega)
      have ho := off_at hp hi
      have hat : ∀ g, g < n → off p n g = i → g = (p + i) % n := fun g hg e => by rw [← e, at_off hp hg]
      generalize (p + i) % n = g0 at h hg0 ho hat
      have hcb : ga cur g0 = ga bs g0 := by rw [h1 g0 hg0, ho]; simp
      split at h
      · rename_i hc2
        rw [Option.some.injEq, Prod.mk.injEq] at h
        rw [← h.1, ← h.2]
        refine ⟨hg0, hc2.1, hc, .inl ⟨by rw [← hcb]; exact hc2.2, fun g hg hmg hlt => h2 g hg hmg (by rw [← ho]; exact hlt), fun g hg => by rw [h1 g hg, ho]⟩⟩
      · rename_i hc2
        refine goF_char hp hm k (i + 1) _ (by omega) (by split <;> first | (rw [List.length_set]; exact hc) | exact hc) (ph_up hp (by omega) (fun g hg => ?_) fun g hg hmg hlt => ?_) h
        · by_cases hmy : ga may g0 = true
          · rw [if_pos hmy, ga_set (by omega)]
            by_cases e : g = g0
            · subst e
              rw [if_pos rfl, hmy, ho, decide_eq_true (Nat.lt_succ_self _)]; simp
            · rw [if_neg e, h1 g hg]
              have : off p n g ≠ i := fun q => e (hat g hg q)
              rw [decide_eq_decide.mpr (show off p n g < i ↔ off p n g < i + 1 by omega)]
          · rw [if_neg hmy, h1 g hg]
            by_cases e : g = g0
            · subst e
              rw [Bool.eq_false_iff.mpr hmy]; simp
            · have : off p n g ≠ i := fun q => e (hat g hg q)
              rw [decide_eq_decide.mpr (show off p n g < i ↔ off p n g < i + 1 by omega)]
        · by_cases e : off p n g = i
          · have := hat g hg e
            rw [this] at hmg ⊢
            rw [← hcb]
            cases q : ga cur g0 with
            | true => rfl
            | false => exact absurd ⟨hmg, q⟩ hc2
          · exact h2 g hg hmg (by omega)
    · have hj : i - n < n := by omega
      have e0 : (p + i) % n = (p + (i - n)) % n := by rw [show p + i = p + (i - n) + n by omega, Nat.add_mod_right]
      rw [e0] at h
      have hg0 : (p + (i - n)) % n < n := Nat.mod_lt _ (by omega)
      have ho := off_at hp hj
      have hat : ∀ g, g < n → off p n g = i - n → g = (p + (i - n)) % n := fun g hg e => by rw [← e, at_off hp hg]
      generalize (p + (i - n)) % n = g0 at h hg0 ho hat
      by_cases hmy : ga may g0 = true
      · have hcf : ga cur g0 = false := by rw [h1 g0 hg0, hmy]; simp
        rw [if_pos ⟨hmy, hcf⟩, Option.some.injEq, Prod.mk.injEq] at h
        rw [← h.1, ← h.2]
        exact ⟨hg0, hmy, hc, .inr ⟨(h2 g0 hg0 hmy).1, fun g hg hmg => ⟨(h2 g hg hmg).1, by rw [ho]; exact (h2 g hg hmg).2⟩, h1⟩⟩
      · rw [if_neg (fun q => hmy q.1), if_neg hmy] at h
        have e2 : p + i + 1 = p + (i + 1) := by omega
        rw [e2] at h
        refine goF_char hp hm k (i + 1) cur (by omega) hc (.inr ⟨by omega, h1, fun g hg hmg => ⟨(h2 g hg hmg).1, fun hlt => ?_⟩⟩) h
        have h3 := (h2 g hg hmg).2
        have e : off p n g = i - n := by omega
        exact hmy ((hat g hg e) ▸ hmg)
theorem goF_res {may bs : List Bool} {p f : Nat} {bs' : List Bool} (hm : may.length = bs.length) (hp : p < bs.length) (h : goF may (2 * may.length) p bs = some (f, bs')) : Res may bs bs.length p f bs' :=
  goF_char hp hm (2 * may.length) 0 bs (by omega) rfl (.inl ⟨by omega, fun g hg => by simp, fun g hg _ h => by omega⟩) h
theorem op_in_seqB {X : Cx} {K : PySem.W.Frag} (h : X.K = K) : OpR X (compareOp .In) (rIn K false) := h ▸ op_in_seq
theorem St.pullN {H : Hp} {S : SS} {M : Cells} (N L : Cells) (h : Led H (StC cT cF cD cS cI S (N ++ (L ++ M)))) : Led H (L ++ StC cT cF cD cS cI S (N ++ M)) := by
  have e : ∀ X : Cells, StC cT cF cD cS cI S X = (stO cT S ++ (frB cF S.F ++ (diB cD S ++ (shB cS S ++ fiB cI S)))) ++ X := fun X => by unfold StC; simp only [List.append_assoc]
  rw [e] at h ⊢
  exact Led.perm h ((List.Perm.append_left _ (swap2 N L M)).trans (swap2 _ L _))
theorem St.pushN {H : Hp} {S : SS} {M : Cells} (L : Cells) (h : Led H (L ++ StC cT cF cD cS cI S M)) : Led H (StC cT cF cD cS cI S (L ++ M)) := by
  have e : ∀ X : Cells, StC cT cF cD cS cI S X = (stO cT S ++ (frB cF S.F ++ (diB cD S ++ (shB cS S ++ fiB cI S)))) ++ X := fun X => by unfold StC; simp only [List.append_assoc]
  rw [e] at h ⊢
  exact Led.perm h (swap2 L _ _)
theorem SpM.mono {S : SS} {us : List V} {M M' : Cells} (s : SpM S us M) (up : ∀ c ∈ M, c ∈ M') : SpM S us M' := ⟨s.l, s.no, fun i t a h => (s.th i t a h).imp fun u hu => ⟨hu.1, up _ hu.2⟩⟩
theorem SpM.same {S S' : SS} {us : List V} {M : Cells} (e : S'.F.hs = S.F.hs) (s : SpM S us M) : SpM S' us M := ⟨by rw [e]; exact s.l, fun i h => s.no i (by rw [← e]; exact h), fun i t a h => s.th i t a (by rw [← e]; exact h)⟩
theorem SpM.out {S S' : SS} {us : List V} {M : Cells} {i : Nat} (e : S'.F.hs = S.F.hs.set i none) (s : SpM S us M) : SpM S' (us.set i .non) M := by
  refine ⟨by rw [e, List.length_set, List.length_set]; exact s.l, fun j h => ?_, fun j t a h => ?_⟩
  · rw [e, List.getElem?_set] at h
    rw [List.getElem?_set]
    by_cases z : i = j
    · rw [if_pos z] at h ⊢
      by_cases y : i < S.F.hs.length
      · rw [if_pos (by rw [s.l]; exact y)]
      · rw [if_neg y] at h
        cases h
    · rw [if_neg z] at h ⊢
      exact s.no j h
  · rw [e, List.getElem?_set] at h
    rw [List.getElem?_set]
    by_cases z : i = j
    · rw [if_pos z] at h
      split at h <;> cases h
    · rw [if_neg z] at h ⊢
      exact s.th j t a h
theorem SpM.in_ {S S' : SS} {us : List V} {M : Cells} {i : Nat} {t u : Addr} {a : Th} (e : S'.F.hs = S.F.hs.set i (some (t, a))) (hu : (u, HO.tup (thV a)) ∈ M) (s : SpM S us M) : SpM S' (us.set i (.ref u)) M := by
  refine ⟨by rw [e, List.length_set, List.length_set]; exact s.l, fun j h => ?_, fun j t' a' h => ?_⟩
  · rw [e, List.getElem?_set] at h
    rw [List.getElem?_set]
    by_cases z : i = j
    · rw [if_pos z] at h
      split at h <;> cases h
    · rw [if_neg z] at h ⊢
      exact s.no j h
  · rw [e, List.getElem?_set] at h
    rw [List.getElem?_set]
    by_cases z : i = j
    · rw [if_pos z] at h ⊢
      by_cases y : i < S.F.hs.length
      · rw [if_pos y] at h
        rw [if_pos (by rw [s.l]; exact y)]
        cases h
        exact ⟨u, rfl, hu⟩
      · rw [if_neg y] at h
        cases h
    · rw [if_neg z] at h ⊢
      exact s.th j t' a' h
theorem datUs {H : Hp} : ∀ {hs : List Hd} {us : List V}, us.length = hs.length → (∀ i : Nat, hs[i]? = some none → us[i]? = some .non) → (∀ (i : Nat) (t : Addr) (a : Th), hs[i]? = some (some (t, a)) → ∃ u, us[i]? = some (.ref u) ∧ H u = some (.tup (thV a))) → DatVs H us (PySem.W.kqdPs (hs.map fun x => datO (thO x)))
  | [], [], _, _, _ => .nil
  | [], _ :: _, hl, _, _ => nomatch hl
  | _ :: _, [], hl, _, _ => nomatch hl
  | x :: hs, u :: us, hl, h1, h2 => by
    rw [List.map_cons, PySem.W.kqdPs]
    refine .cons ?_ (datUs (Nat.succ.inj hl) (fun i h => h1 (i + 1) h) (fun i t a h => h2 (i + 1) t a h))
    cases x with
    | none =>
      have h3 : some u = some V.non := h1 0 rfl
      cases h3
      show DatV H .non (PySem.W.kqdP .none)
      rw [PySem.W.kqdP]
      exact .non
    | some x =>
      obtain ⟨w, e, hw⟩ := h2 0 x.1 x.2 rfl
      have e' : some u = some (V.ref w) := e
      cases e'
      exact datH_V hw
theorem SpM.dat {S : SS} {us : List V} {M L : Cells} {H : Hp} (s : SpM S us M) (hL : Led H L) (hM : ∀ c ∈ M, c ∈ L) : DatVs H us (PySem.W.kqdPs (S.F.hs.map fun x => datO (thO x))) := datUs s.l s.no fun i t a h => (s.th i t a h).imp fun _ hu => ⟨hu.1, hL.get (hM _ hu.2)⟩
theorem OkSt.dats {S : SS} {n q : Nat} {M : Cells} (g : OkSt S n q M) : ∀ e ∈ S.F.hs.map (fun x => datO (thO x)), PySem.W.kqdOk 7 e = true := fun e he => by
  obtain ⟨y, hy, rfl⟩ := List.mem_map.mp he
  refine datO_ok (fun a ha => ?_) 6
  cases y with
  | none => cases ha
  | some y => cases ha; exact (g.f.th y.1 y.2 hy).2
end
section
variable {P : Program} {w : World} {K : PySem.W.Frag} {mg : Str → Option Value} {base : Heap} {cP cU cA cB c1 c2 c3 cC c4 c5 cT cF cD cS cI : Addr}
theorem HadF.lt {N : Cells} {S S1 : SS} {n q i : Nat} {M : Cells} (g : OkSt S n q M) (h : HadF N S n i S1) : i < n := by
  rw [← g.f.h]
  rcases h with ⟨h, _⟩ | ⟨_, _, _, _, _, h, _⟩
  · exact (List.getElem?_eq_some_iff.mp h).1
  · exact (List.getElem?_eq_some_iff.mp h).1
def spGoes : Sp := fun vs H Q _ => ∃ (S S1 : SS) (n q i : Nat) (sp mk sf : Addr) (us : List V) (M L N0 : Cells), vs = [.ref sp, .ref mk, .ref sf, .int (S.p : Nat), .int (i : Nat)] ∧ Led H ((sp, .lst us) :: (mk, .lst (S.bs.map V.bl)) :: (sf, .lst S.ps) :: L) ∧ (∀ c ∈ M, c ∈ L) ∧ OkSt S n q M ∧ SpM S us M ∧ HadF N0 S n i S1 ∧ ∀ (us' : List V) (N : Cells) (H' : Hp), SpM S1 us' M → Led H' ((sp, .lst us') :: (mk, .lst (S1.bs.map V.bl)) :: (sf, .lst S1.ps) :: (N ++ L)) → Q (.int (S1.p : Nat)) H'
theorem ok_goes (D : Def K mg "_law_goes" s_l_goes) (B : Blt mg) (T : Txt K mg cP cU cA cB c1 c2 c3 cC c4 c5 cT cF cD cS cI) (G__law_whole : FnD P w K mg base 1 "_law_whole" ["_law_found"] spWhole) : FnD P w K mg base 2 "_law_goes" ["_law_spots", "_law_marks", "_law_shelf", "_law_pointer", "_law_found"] spGoes := by
  have sc := sc_l_goes
  refine D.ok sc_l_goes (fun vs H Q E h => ?_) (fun _ _ _ _ _ _ us hl => match us, hl with | [_, _, _, _, _], _ => rfl) (fun f cdv A outer s H vs Q E hr h => ?_)
  · obtain ⟨_, _, _, _, _, _, _, _, _, _, _, _, rfl, _⟩ := h; rfl
  · obtain ⟨S, S1, n, q, i, sp, mk, sf, us, M, L, N0, rfl, hL, hML, g, s1, hHad, k⟩ := h
    have hin := hHad.lt g
    have hsz := sizeLine_eq
    have n64 := g.n64
    have ul : us.length = n := s1.l.trans g.f.h
    have up3 : ∀ c ∈ M, c ∈ (sp, HO.lst us) :: (mk, HO.lst (S.bs.map V.bl)) :: (sf, HO.lst S.ps) :: L := fun c hc => mC (mC (mC (hML c hc)))
    have c_s := hL.get mS
    have d2 := s1.dat hL up3
    have d1 : DatV H .non (PySem.W.kqdP (datO none)) := by show DatV H .non (PySem.W.kqdP .none); rw [PySem.W.kqdP]; exact .non
    have o1 : PySem.W.kqdOk 8 (datO none) = true := rfl
    have o2 := g.dats
    refine ⟨_, (@pss_cons _ _ _ _ _ (@ps_if _ _ _ _ _ _ _ _ (@PW.pt _ _ _ (@pw_or _ _ _ _ _ _ _ (@pt_not _ _ _ _ (@pt_val _ _ _ (@pe_callD _ _ _ _ _ _ _ _ _ _ _ G__law_whole (hr.mono (by omega)) (by rfl) passR0 (@pa_cons _ _ _ _ _ (@pv _ 4 _ _ (by rfl) (by walk_at "o3") (by decide) (by decide)) (@pa_nil _) (by rfl)) (by decide) (by rfl) (by rfl)) (by intro _; rfl))) (@pw_or1 _ _ _ _ (@pt_not _ _ _ _ (@pt_chain _ _ _ _ _ _ _ _ _ _ _ _ op_le op_lt (@pe_int _ _ _ _) (@pv _ 4 _ _ (by rfl) (by walk_at "o3") (by decide) (by decide)) (@pe_callB _ _ _ _ _ _ _ _ _ call_lenA (by rfl) B.len bt_len (@pa_cons _ _ _ _ _ (@pv _ 0 _ _ (by rfl) (by walk_at "o3") (by decide) (by decide)) (@pa_nil _) (by rfl)) (by decide) (by decide) (by rfl) (by rfl)) (by with_unfolding_all rfl)))))) (@pss_one _ _ _ (@ps_ret _ _ _ _ (@pe_un _ _ _ _ _ _ un_neg (@pe_int _ _ _ _)))) (@pss_nil _)) (@pss_cons _ _ _ _ _ (@ps_if _ _ _ _ _ _ _ _ (@pt_cmpR _ _ _ _ _ _ _ _ (op_inD hr.units) (@pe_non _ _ _) (@pv _ 0 _ _ (by rfl) (by walk_at "o3") (by decide) (by decide)) (by with_unfolding_all rfl)) (@pss_cons _ _ _ _ _ (@ps_if _ _ _ _ _ _ _ _ (@pt_cmpR _ _ _ _ _ _ _ _ op_eq (@pv _ 4 _ _ (by rfl) (by walk_at "o3") (by decide) (by decide)) (@pe_bm _ _ _ _ _ _ _ _ _ _ _ _ PySem.F.plainAttrs_list PySem.F.slot_list_index PySem.F.type_list_index (mt_indexD hr.units) (@pv _ 0 _ _ (by rfl) (by walk_at "o3") (by decide) (by decide)) (@pa_cons _ _ _ _ _ (@pe_non _ _ _) (@pa_nil _) (by rfl)) (by rfl) (by rfl) (by rfl) (by rfl) (by rfl)) (nomark _)) (@pss_one _ _ _ (@ps_ret _ _ _ _ (@pv _ 3 _ _ (by rfl) (by walk_at "o3") (by decide) (by decide)))) (@pss_nil _)) (@pss_one _ _ _ (@ps_ret _ _ _ _ (@pe_un _ _ _ _ _ _ un_neg (@pe_int _ _ _ _))))) (@pss_nil _)) (@pss_cons _ _ _ _ _ (@ps_setComp _ _ "_law_thing" _ _ _ _ _ _ _ _ _ _ 5 _ _ rfl rfl rfl rfl noH (compSc_of (by kernel_rfl)) (@pi_list _ _ _ _ (@pv _ 0 _ _ (by rfl) (by walk_at "o3") (by decide) (by decide))) (fun _ _ _ _ => (@pts_nil _)) (fun _ _ _ _ => (@pe_or _ _ _ _ _ _ _ (@pe_cmpR _ _ _ _ _ _ _ _ op_eq (@pe_ix _ _ _ _ _ _ _ ix_any (@pk _ 0 _ _ (by kernel_rfl) (by kernel_rfl) (by decide) (by decide)) (@pe_int _ _ _ _) (fun _ _ => rfl)) (@pe_str _ _ _ _) (nomark _)) (@pe_one _ _ _ _ _ (@pe_cmpR _ _ _ _ _ _ _ _ (op_in_seqB (K := K) rfl) (@pe_non _ _ _) (@pk _ 3 _ _ (by kernel_rfl) (by kernel_rfl) (by decide) (by decide)) (by with_unfolding_all rfl))))) sc.nd rfl (by walk_at "o2") (by intro _; rfl) (by rfl) (by first | exact .inl rfl | exact .inr rfl | assumption)) (@pss_cons _ _ _ _ _ (@ps_set _ _ 6 _ _ _ _ sc.nd rfl (by walk_at "o2") (@pe_op _ _ _ _ _ _ _ _ op_mod (@pe_op _ _ _ _ _ _ _ _ op_sub (@pv _ 4 _ _ (by rfl) (by walk_at "o3") (by decide) (by decide)) (@pv _ 3 _ _ (by rfl) (by walk_at "o3") (by decide) (by decide))) (@pe_callB _ _ _ _ _ _ _ _ _ call_lenA (by rfl) B.len bt_len (@pa_cons _ _ _ _ _ (@pv _ 0 _ _ (by rfl) (by walk_at "o3") (by decide) (by decide)) (@pa_nil _) (by rfl)) (by decide) (by decide) (by rfl) (by rfl))) (by rfl) (by first | exact .inl rfl | exact .inr rfl | assumption)) (@pss_cons _ _ _ _ _ (@ps_set _ _ 7 _ _ _ _ sc.nd rfl (by walk_at "o2") (@pe_ix _ _ _ _ _ _ _ ix_any (@pv _ 1 _ _ (by rfl) (by walk_at "o3") (by decide) (by decide)) (@pv _ 4 _ _ (by rfl) (by walk_at "o3") (by decide) (by decide)) (fun _ _ => rfl)) (by rfl) (by first | exact .inl rfl | exact .inr rfl | assumption)) (@pss_cons _ _ _ _ _ (@ps_if _ _ _ _ _ _ _ _ (@pt_not _ _ _ _ (@pt_val _ _ _ (@pe_ix _ _ _ _ _ _ _ ix_any (@pv _ 5 _ _ (by rfl) (by walk_at "o3") (by decide) (by decide)) (@pv _ 4 _ _ (by rfl) (by walk_at "o3") (by decide) (by decide)) (fun _ _ => rfl)) (by intro _; rfl))) (@pss_one _ _ _ (@ps_ret _ _ _ _ (@pe_un _ _ _ _ _ _ un_neg (@pe_int _ _ _ _)))) (@pss_nil _)) (@pss_cons _ _ _ _ _ (@ps_for _ _ _ _ _ _ _ _ PassesOwn.never rfl (@pi_range1 _ _ _ _ _ _ (by rfl) B.range (@pa_cons _ _ _ _ _ (@pe_callB _ _ _ _ _ _ _ _ _ call_lenA (by rfl) B.len bt_len (@pa_cons _ _ _ _ _ (@pv _ 0 _ _ (by rfl) (by walk_at "o3") (by decide) (by decide)) (@pa_nil _) (by rfl)) (by decide) (by decide) (by rfl) (by rfl)) (@pa_nil _) (by rfl)) (by rfl)) (@pg_name _ _ 8 _ sc.nd rfl (by walk_at "o2") (by first | exact .inl rfl | exact .inr rfl | assumption)) (@pss_cons _ _ _ _ _ (@ps_set _ _ 9 _ _ _ _ sc.nd rfl (by walk_at "o2") (@pe_cmpR _ _ _ _ _ _ _ _ op_lt (@pe_op _ _ _ _ _ _ _ _ op_mod (@pe_op _ _ _ _ _ _ _ _ op_sub (@pv _ 8 _ _ (by rfl) (by walk_at "o3") (by decide) (by decide)) (@pv _ 3 _ _ (by rfl) (by walk_at "o3") (by decide) (by decide))) (@pe_callB _ _ _ _ _ _ _ _ _ call_lenA (by rfl) B.len bt_len (@pa_cons _ _ _ _ _ (@pv _ 0 _ _ (by rfl) (by walk_at "o3") (by decide) (by decide)) (@pa_nil _) (by rfl)) (by decide) (by decide) (by rfl) (by rfl))) (@pv _ 6 _ _ (by rfl) (by walk_at "o3") (by decide) (by decide)) (nomark _)) (by rfl) (by first | exact .inl rfl | exact .inr rfl | assumption)) (@pss_cons _ _ _ _ _ (@ps_if _ _ _ _ _ _ _ _ (@PW.pt _ _ _ (@pw_and _ _ _ _ _ _ _ (@pt_val _ _ _ (@pe_ix _ _ _ _ _ _ _ ix_any (@pv _ 5 _ _ (by rfl) (by walk_at "o3") (by decide) (by decide)) (@pv _ 8 _ _ (by rfl) (by walk_at "o3") (by decide) (by decide)) (fun _ _ => rfl)) (by intro _; rfl)) (@pw_and _ _ _ _ _ _ _ (@pt_val _ _ _ (@pv _ 9 _ _ (by rfl) (by walk_at "o3") (by decide) (by decide)) (by intro _; rfl)) (@pw_and1 _ _ _ _ (@pt_val _ _ _ (@pv _ 7 _ _ (by rfl) (by walk_at "o3") (by decide) (by decide)) (by intro _; rfl)))))) (@pss_one _ _ _ (@ps_ret _ _ _ _ (@pe_un _ _ _ _ _ _ un_neg (@pe_int _ _ _ _)))) (@pss_nil _)) (@pss_one _ _ _ (@ps_if _ _ _ _ _ _ _ _ (@PW.pt _ _ _ (@pw_and _ _ _ _ _ _ _ (@pt_val _ _ _ (@pe_ix _ _ _ _ _ _ _ ix_any (@pv _ 5 _ _ (by rfl) (by walk_at "o3") (by decide) (by decide)) (@pv _ 8 _ _ (by rfl) (by walk_at "o3") (by decide) (by decide)) (fun _ _ => rfl)) (by intro _; rfl)) (@pw_and1 _ _ _ _ (@PW.pt _ _ _ (@pw_or _ _ _ _ _ _ _ (@pt_val _ _ _ (@pv _ 9 _ _ (by rfl) (by walk_at "o3") (by decide) (by decide)) (by intro _; rfl)) (@pw_or1 _ _ _ _ (@pt_val _ _ _ (@pv _ 7 _ _ (by rfl) (by walk_at "o3") (by decide) (by decide)) (by intro _; rfl)))))))) (@pss_cons _ _ _ _ _ (@ps_if _ _ _ _ _ _ _ _ (@pt_not _ _ _ _ (@pt_val _ _ _ (@pe_ix _ _ _ _ _ _ _ ix_any (@pv _ 1 _ _ (by rfl) (by walk_at "o3") (by decide) (by decide)) (@pv _ 8 _ _ (by rfl) (by walk_at "o3") (by decide) (by decide)) (fun _ _ => rfl)) (by intro _; rfl))) (@pss_one _ _ _ (@ps_ret _ _ _ _ (@pe_un _ _ _ _ _ _ un_neg (@pe_int _ _ _ _)))) (@pss_nil _)) (@pss_one _ _ _ (@ps_asg _ _ _ _ _ _ (@pe_bl _ _ _ _) (@pg_sub _ _ _ _ _ _ _ (@pv _ 1 _ _ (by rfl) (by walk_at "o3") (by decide) (by decide)) (@pv _ 8 _ _ (by rfl) (by walk_at "o3") (by decide) (by decide)) set_list (by intro _; rfl)) (by rfl) (by rfl) (by rfl)))) (@pss_nil _))))) (by intro _; rfl)) (@pss_cons _ _ _ _ _ (@ps_if _ _ _ _ _ _ _ _ (@pt_cmpR _ _ _ _ _ _ _ _ op_eq (@pe_ix _ _ _ _ _ _ _ ix_any (@pe_ix _ _ _ _ _ _ _ ix_any (@pv _ 0 _ _ (by rfl) (by walk_at "o3") (by decide) (by decide)) (@pv _ 4 _ _ (by rfl) (by walk_at "o3") (by decide) (by decide)) (fun _ _ => rfl)) (@pe_int _ _ _ _) (fun _ _ => rfl)) (@pe_str _ _ _ _) (nomark _)) (@pss_one _ _ _ (@ps_asg _ _ _ _ _ _ (@pe_ix _ _ _ _ _ _ _ ix_any (@pe_ix _ _ _ _ _ _ _ ix_any (@pv _ 0 _ _ (by rfl) (by walk_at "o3") (by decide) (by decide)) (@pv _ 4 _ _ (by rfl) (by walk_at "o3") (by decide) (by decide)) (fun _ _ => rfl)) (@pe_int _ _ _ _) (fun _ _ => rfl)) (@pg_sub _ _ _ _ _ _ _ (@pv _ 2 _ _ (by rfl) (by walk_at "o3") (by decide) (by decide)) (@pe_bm _ _ _ _ _ _ _ _ _ _ _ _ PySem.F.plainAttrs_list PySem.F.slot_list_index PySem.F.type_list_index mt_index (@pv _ 2 _ _ (by rfl) (by walk_at "o3") (by decide) (by decide)) (@pa_cons _ _ _ _ _ (@pe_non _ _ _) (@pa_nil _) (by rfl)) (by rfl) (by rfl) (by rfl) (by rfl) (by rfl)) set_list (by intro _; rfl)) (by rfl) (by rfl) (by rfl))) (@pss_nil _)) (@pss_cons _ _ _ _ _ (@ps_asg _ _ _ _ _ _ (@pe_non _ _ _) (@pg_sub _ _ _ _ _ _ _ (@pv _ 0 _ _ (by rfl) (by walk_at "o3") (by decide) (by decide)) (@pv _ 4 _ _ (by rfl) (by walk_at "o3") (by decide) (by decide)) set_list (by intro _; rfl)) (by rfl) (by rfl) (by rfl)) (@pss_one _ _ _ (@ps_ret _ _ _ _ (@pe_op _ _ _ _ _ _ _ _ op_mod (@pe_op _ _ _ _ _ _ _ _ op_add (@pv _ 4 _ _ (by rfl) (by walk_at "o3") (by decide) (by decide)) (@pe_int _ _ _ _)) (@pe_callB _ _ _ _ _ _ _ _ _ call_lenA (by rfl) B.len bt_len (@pa_cons _ _ _ _ _ (@pv _ 0 _ _ (by rfl) (by walk_at "o3") (by decide) (by decide)) (@pa_nil _) (by rfl)) (by decide) (by decide) (by rfl) (by rfl)))))))))))))), ?_⟩
    refine seqK fun M1 K1 => ?_
    walk_at "ge"
    refine ⟨_, rfl, ?_⟩
    walk_at "ge"
    simp only [tTest, tChain]
    walk_at "ge"
    all_goals first | (exfalso; omega) | skip
    refine K1.use ?_
    walk_at "cl"
    clear K1
    refine seqK fun M1 K1 => ?_
    walk_at "ge"
    rcases hHad with ⟨h1, h2, rfl⟩ | ⟨hall, bs', t, a, hgo, hi, hpo⟩
    · refine inDH (neg := false) (b := true) c_s d1 d2 o1 o2 (iff_of_true rfl (List.mem_map.mpr ⟨none, List.mem_of_getElem? h1, rfl⟩)) ?_
      rw [if_neg Bool.false_ne_true]
      walk_at "ge"
      refine ⟨tyVL c_s, ?_⟩
      walk_at "ge"
      refine idxDH c_s d1 d2 o1 o2 (j := i) (by rw [List.getElem?_map, h1]; rfl) (fun m e hm he => ?_) ?_
      · rw [List.getElem?_map] at he
        obtain ⟨z, hz, rfl⟩ := Option.map_eq_some_iff.mp he
        refine fun w => h2 m z hm hz ?_
        cases z with
        | none => rfl
        | some z => exact nomatch (datO_inj.mp w)
      · walk_at "ge"
        all_goals first | (exfalso; omega) | skip
        exact k us [] _ s1 hL
    · have hnot : datO none ∉ S.F.hs.map fun x => datO (thO x) := fun hm => by
        obtain ⟨y, hy, e⟩ := List.mem_map.mp hm
        refine hall y hy ?_
        have e2 := datO_inj.mp e
        cases y with
        | none => rfl
        | some y => cases e2
      refine inDH (neg := false) (b := false) c_s d1 d2 o1 o2 (iff_of_false Bool.false_ne_true hnot) ?_
      walk_at "ge"
      refine K1.use ?_
      walk_at "cl"
      clear K1 d1 d2 o1 o2
      have ml : (mayS S).length = n := by unfold mayS; rw [List.length_map]; exact g.f.h
      have hbl := g.bl
      have hpn := g.pn
      have res : Res (mayS S) S.bs S.bs.length S.p i bs' := goF_res (by rw [ml, hbl]) (by rw [hbl]; exact hpn) (by rw [ml]; exact hgo)
      obtain ⟨hfl, hmf, hbl', hres⟩ := res
      obtain ⟨u, hu, cu⟩ := s1.th i t a hi
      have fbs : bs'.set i false = bs' := by
        have e0 : ga bs' i = false := by
          rcases hres with ⟨h1, _, h3⟩ | ⟨h1, _, h3⟩
          · rw [h3 i hfl, h1]; rfl
          · rw [h3 i hfl, hmf]; simp
        refine ga_ext (List.length_set ..) fun g hg => ?_
        rw [ga_set (by omega)]
        by_cases e : g = i
        · rw [if_pos e, e, e0]
        · rw [if_neg e]
      refine seqK fun M1 K1 => ?_
      walk_at "ge"
      refine compL fun Lc hLc => ?_
      walk_at "ge"
      refine ⟨sp, rfl, ⟨_, SqL.of c_s⟩, hLc.use ?_⟩
      clear hLc
      refine compListL us (fun j v C => C = [] ∧ ∃ b, (mayS S)[j]? = some b ∧ v = .bl b) hL List.mem_cons_self (by rw [ul]; omega) (fun j y H2 R N hy hl2 hR => ?_) (fun pm vs Cs H2 hv hc hG hl2 => ?_)
      · have hj : j < n := by rw [← ul]; exact (List.getElem?_eq_some_iff.mp hy).1
        obtain ⟨x, hx⟩ : ∃ x, S.F.hs[j]? = some x := ⟨_, List.getElem?_eq_getElem (by rw [g.f.h]; exact hj)⟩
        cases x with
        | none => exact absurd rfl (hall none (List.mem_of_getElem? hx))
        | some x =>
          obtain ⟨v, hv, cv⟩ := s1.th j x.1 x.2 hx
          rw [hv] at hy
          cases hy
          have c_x := hl2.get (mA (up3 _ cv))
          have c_f := hl2.get (mA (mC (mC mS)))
          have hm := mayS_at (t := x.1) (a := x.2) hx
          obtain ⟨t2, a2⟩ := x
          cases a2 with
          | own m =>
            have c_x2 : H2 v = some (.tup [.str (Str.ofString "own"), .int m]) := c_x
            clear c_x
            have hne : ¬ Str.ofString "own" = Str.ofString "file" := by decide +kernel
            walk_at "ge"
            · exact absurd (by assumption) hne
            refine inFlatH c_f rfl g.flat ?_
            exact hR _ _ [] ⟨rfl, _, hm, rfl⟩ hl2
          | file z p =>
            have c_x2 : H2 v = some (.tup [.str (Str.ofString "file"), .str z, .int p]) := c_x
            clear c_x
            walk_at "ge"
            · exact hR _ _ [] ⟨rfl, _, hm, rfl⟩ hl2
            · exact absurd rfl (by assumption)
      · rw [ul] at hv hc
        have hvs := bls_of (by rw [hv, ml]) fun j v hj => by
          have hlt : j < Cs.length := by have := (List.getElem?_eq_some_iff.mp hj).1; omega
          exact (hG j v _ hj (List.getElem?_eq_getElem hlt)).2
        have hcs : Cs.flatten = [] := by
          rw [List.flatten_eq_nil_iff]
          intro C hC
          obtain ⟨j, hj⟩ := List.getElem?_of_mem hC
          have hlt : j < vs.length := by have := (List.getElem?_eq_some_iff.mp hj).1; omega
          exact (hG j _ C (List.getElem?_eq_getElem hlt) hj).1
        rw [hvs, hcs] at hl2
        have hl3 : Led H2 ((pm, .lst ((mayS S).map V.bl)) :: (sp, .lst us) :: (mk, .lst (S.bs.map V.bl)) :: (sf, .lst S.ps) :: L) := hl2
        clear hl2 hG hvs hcs hL c_s
        walk_at "ge"
        refine K1.use ?_
        walk_at "cl"
        clear K1
        have c_s := hl3.get (mC mS)
        have c_k := hl3.get (mC (mC mS))
        have c_m := hl3.get mS
        refine seqK fun M1 K1 => ?_
        walk_at "ge"
        rw [ul, off_int hpn]
        refine K1.use ?_
        walk_at "cl"
        clear K1
        obtain ⟨bf, hbf⟩ : ∃ b, ga S.bs i = b := ⟨_, rfl⟩
        have a3 := ga_at (bs := S.bs) (g := i) (by omega)
        rw [hbf] at a3
        have a4 := ga_at (bs := mayS S) (g := i) (by omega)
        rw [hmf] at a4
        refine seqK fun M1 K1 => ?_
        walk_at "ge"
        refine K1.use ?_
        walk_at "cl"
        clear K1 c_k a3
        refine seqK fun M1 K1 => ?_
        walk_at "ge"
        refine K1.use ?_
        walk_at "cl"
        clear K1 c_m a4
        refine seqK fun M1 K1 => ?_
        refine forR1 fun Lr hLr => ?_
        walk_at "ge"
        refine ⟨_, rfl, by omega, by omega, hLr.use ?_⟩
        clear hLr c_s
        rw [show ((us.length : Int)).toNat = n by omega]
        rw [hbl] at hfl hbl' hres
        refine loopR (fun j σ H' => ∃ cur : List Bool, Led H' ((pm, .lst ((mayS S).map V.bl)) :: (sp, .lst us) :: (mk, .lst (cur.map V.bl)) :: (sf, .lst S.ps) :: L) ∧ cur.length = n ∧ (∀ g, g < n → ga cur g = if g < j then ga bs' g else ga S.bs g) ∧ ∃ v1 v2, σ = [some (.ref sp), some (.ref mk), some (.ref sf), some (.int (S.p : Nat)), some (.int (i : Nat)), some (.ref pm), some (.int (off S.p n i : Nat)), some (.bl bf), v1, v2]) ⟨S.bs, hl3, hbl, fun g _ => by rw [if_neg (Nat.not_lt_zero _)], _, _, rfl⟩ ?_ ?_
        · clear hl3 K1 k
          rintro j σ H' hj ⟨cur, hl', hcu, hg, v1, v2, rfl⟩
          have c_m := hl'.get mS
          have c_s := hl'.get (mC mS)
          have c_k := hl'.get (mC (mC mS))
          have e0 : (0 + (j : Int)) = ((j : Nat) : Int) := by omega
          have a1 := ga_at (bs := mayS S) (g := j) (by omega)
          have a2 := ga_at (bs := cur) (g := j) (by omega)
          rw [hg j hj, if_neg (Nat.lt_irrefl _)] at a2
          rw [← e0] at a1 a2
          refine seqK fun M2 K2 => ?_
          walk_at "ge"
          have eo : (0 + (j : Int) - (S.p : Int)) % (n : Int) = (off S.p n j : Nat) := by rw [e0]; exact off_int hpn
          rw [ul, eo]
          obtain ⟨ah, hah⟩ : ∃ b : Bool, decide (((off S.p n j : Nat) : Int) < ((off S.p n i : Nat) : Int)) = b := ⟨_, rfl⟩
          rw [hah]
          have hah2 : ah = decide (off S.p n j < off S.p n i) := by rw [← hah]; exact decide_eq_decide.mpr (by omega)
          refine K2.use ?_
          walk_at "cl"
          clear K2 hah c_s
          obtain ⟨my, hmy⟩ : ∃ b, ga (mayS S) j = b := ⟨_, rfl⟩
          obtain ⟨bi, hbi⟩ : ∃ b, ga S.bs j = b := ⟨_, rfl⟩
          rw [hmy] at a1
          rw [hbi] at a2
          have stay : ga bs' j = ga S.bs j → ∃ cur : List Bool, Led H' ((pm, .lst ((mayS S).map V.bl)) :: (sp, .lst us) :: (mk, .lst (cur.map V.bl)) :: (sf, .lst S.ps) :: L) ∧ cur.length = n ∧ (∀ g, g < n → ga cur g = if g < j + 1 then ga bs' g else ga S.bs g) ∧ ∃ v1 v2, [some (V.ref sp), some (.ref mk), some (.ref sf), some (.int (S.p : Nat)), some (.int (i : Nat)), some (.ref pm), some (.int (off S.p n i : Nat)), some (.bl bf), some (.int (0 + (j : Int))), some (.bl ah)] = [some (.ref sp), some (.ref mk), some (.ref sf), some (.int (S.p : Nat)), some (.int (i : Nat)), some (.ref pm), some (.int (off S.p n i : Nat)), some (.bl bf), v1, v2] := fun he => by
            refine ⟨cur, hl', hcu, fun g hgl => ?_, _, _, rfl⟩
            rw [hg g hgl]
            by_cases e : g = j
            · subst e; rw [if_neg (Nat.lt_irrefl _), if_pos (Nat.lt_succ_self _), he]
            · by_cases h : g < j
              · rw [if_pos h, if_pos (by omega)]
              · rw [if_neg h, if_neg (by omega)]
          have turn : ga bs' j = false → ∃ cur2 : List Bool, Led (upd H' mk (.lst ((cur.set (0 + (j : Int)).toNat false).map V.bl))) ((pm, .lst ((mayS S).map V.bl)) :: (sp, .lst us) :: (mk, .lst (cur2.map V.bl)) :: (sf, .lst S.ps) :: L) ∧ cur2.length = n ∧ (∀ g, g < n → ga cur2 g = if g < j + 1 then ga bs' g else ga S.bs g) ∧ ∃ v1 v2, [some (V.ref sp), some (.ref mk), some (.ref sf), some (.int (S.p : Nat)), some (.int (i : Nat)), some (.ref pm), some (.int (off S.p n i : Nat)), some (.bl bf), some (.int (0 + (j : Int))), some (.bl ah)] = [some (.ref sp), some (.ref mk), some (.ref sf), some (.int (S.p : Nat)), some (.int (i : Nat)), some (.ref pm), some (.int (off S.p n i : Nat)), some (.bl bf), v1, v2] := fun he => by
            refine ⟨cur.set (0 + (j : Int)).toNat false, hl'.putI 2 rfl rfl rfl, by rw [List.length_set]; exact hcu, fun g hgl => ?_, _, _, rfl⟩
            rw [show (0 + (j : Int)).toNat = j by omega, ga_set (by omega)]
            by_cases e : g = j
            · subst e; rw [if_pos rfl, if_pos (Nat.lt_succ_self _), he]
            · rw [if_neg e, hg g hgl]
              by_cases h : g < j
              · rw [if_pos h, if_pos (by omega)]
              · rw [if_neg h, if_neg (by omega)]
          rcases hres with ⟨hf, h1, h2⟩ | ⟨hf, h1, h2⟩
          · have e1 : bf = false := by rw [← hbf]; exact hf
            subst e1
            have hv := h2 j hj
            rw [hmy, hbi, ← hah2] at hv
            cases my with
            | false =>
              walk_at "ge"
              exact stay (by rw [hv, hbi]; simp)
            | true =>
              cases ah with
              | false =>
                walk_at "ge"
                exact stay (by rw [hv, hbi]; simp)
              | true =>
                have hb1 := h1 j hj hmy (of_decide_eq_true hah2.symm)
                have e2 : bi = true := by rw [← hbi]; exact hb1
                subst e2
                walk_at "ge"
                refine setLH c_k (ixN_of (by omega) (by rw [List.length_map]; omega)) ?_
                rw [blSet]
                walk_at "ge"
                exact turn (by rw [hv]; rfl)
          · have e1 : bf = true := by rw [← hbf]; exact hf
            subst e1
            have hv := h2 j hj
            rw [hmy, hbi] at hv
            cases my with
            | false =>
              cases ah <;> walk_at "ge" <;> exact stay (by rw [hv, hbi]; simp)
            | true =>
              obtain ⟨hb1, hb2⟩ := h1 j hj hmy
              have e2 : bi = true := by rw [← hbi]; exact hb1
              subst e2
              have e3 : ah = false := by rw [hah2]; exact decide_eq_false hb2
              subst e3
              walk_at "ge"
              refine setLH c_k (ixN_of (by omega) (by rw [List.length_map]; omega)) ?_
              rw [blSet]
              walk_at "ge"
              exact turn (by rw [hv]; rfl)
        · rintro σ H' ⟨cur, hl', hcu, hg, v1, v2, rfl⟩
          have e : cur = bs' := ga_ext (by rw [hcu, hbl']) fun g hgl => by rw [hg g (by omega), if_pos (by omega)]
          subst e
          walk_at "ge"
          refine K1.use ?_
          walk_at "cl"
          clear K1 hl3
          have c_s := hl'.get (mC mS)
          have c_f := hl'.get (mC (mC (mC mS)))
          have c_u := hl'.get (mC (mC (mC (mC (hML _ cu)))))
          have au : atI us ((i : Nat) : Int) = some (.ref u) := atI_of (by omega) (by rw [Int.toNat_natCast]; exact hu)
          refine seqK fun M1 K1 => ?_
          have rest : ∀ (ps' : List V) (H3 : Hp), S1.ps = ps' → S1.bs = cur → S1.p = (i + 1) % n → Led H3 ((pm, .lst ((mayS S).map V.bl)) :: (sp, .lst us) :: (mk, .lst (cur.map V.bl)) :: (sf, .lst ps') :: L) → M1 [some (V.ref sp), some (.ref mk), some (.ref sf), some (.int (S.p : Nat)), some (.int (i : Nat)), some (.ref pm), some (.int (off S.p n i : Nat)), some (.bl bf), v1, v2] H3 := by
            intro ps' H3 e1 e2 e3 hl4
            refine K1.use ?_
            clear K1 hl' c_s c_f c_u
            have c_s := hl4.get (mC mS)
            refine seqK fun M2 K2 => ?_
            walk_at "ge"
            refine setLH c_s (ixN_of (by omega) (by omega)) ?_
            rw [Int.toNat_natCast]
            have hl5 := hl4.putI (o' := .lst (us.set i .non)) 1 rfl rfl rfl
            generalize upd H3 sp (.lst (us.set i .non)) = H5 at hl5 ⊢
            clear c_s hl4
            have hl6 : Led H5 ((pm, .lst ((mayS S).map V.bl)) :: (sp, .lst (us.set i .non)) :: (mk, .lst (cur.map V.bl)) :: (sf, .lst ps') :: L) := hl5
            have c_s := hl6.get (mC mS)
            clear hl5
            walk_at "ge"
            refine K2.use ?_
            walk_at "cl"
            clear K2
            walk_at "ge"
            rw [List.length_set, ul]
            have hn0 : (0 : Int) < (n : Int) := by omega
            walk_at "ge"
            have e4 : ((i : Int) + 1) % (n : Int) = ((i + 1) % n : Nat) := by simp
            rw [e4, ← e3]
            refine k (us.set i .non) [(pm, .lst ((mayS S).map V.bl))] H5 (SpM.out (S := S) hpo.hs.1 s1) ?_
            rw [e1, e2]
            exact Led.perm hl6 (swap2 [(pm, HO.lst ((mayS S).map V.bl))] [(sp, HO.lst (us.set i .non)), (mk, HO.lst (cur.map V.bl)), (sf, HO.lst ps')] L)
          clear K1
          cases a with
          | own m =>
            obtain ⟨r, row, b, _, eS1⟩ := hpo
            have c_u2 : H' u = some (.tup [.str (Str.ofString "own"), .int m]) := c_u
            clear c_u
            have hnn : inV .non S.ps = true := by
              have hm := mayS_at hi
              have h5 : (mayS S).getD i false = true := hmf
              rw [List.getD_eq_getElem?_getD, hm] at h5
              exact h5
            have hne : Str.ofString "own" = Str.ofString "own" := rfl
            walk_at "ge"
            all_goals first | exact absurd hne (by assumption) | skip
            refine ⟨tyVL c_f, ?_⟩
            walk_at "ge"
            refine idxH c_f rfl g.flat hnn ?_
            have hlt : idx S.ps .non < S.ps.length := (List.getElem?_eq_some_iff.mp (g.non_at hnn)).1
            walk_at "ge"
            refine setLH c_f (ixN_of (by omega) (by omega)) ?_
            rw [Int.toNat_natCast]
            have hl6 := hl'.putI (o' := .lst (S.ps.set (idx S.ps .non) (.int m))) 3 rfl rfl rfl
            walk_at "ge"
            exact rest (S.ps.set (idx S.ps .non) (.int m)) _ (by rw [eS1]; rfl) (by rw [eS1]; exact fbs) (by rw [eS1]; rfl) hl6
          | file z p =>
            have c_u2 : H' u = some (.tup [.str (Str.ofString "file"), .str z, .int p]) := c_u
            clear c_u
            have hne : ¬ Str.ofString "file" = Str.ofString "own" := by decide +kernel
            walk_at "ge"
            · exact absurd (by assumption) hne
            obtain ⟨r, row, _, h6⟩ := hpo
            rcases h6 with ⟨_, eS1⟩ | ⟨_, as, bs, e, j, nr, _, _, _, _, _, eS1⟩
            · exact rest S.ps H' (by rw [eS1]; rfl) (by rw [eS1]; exact fbs) (by rw [eS1]; rfl) hl'
            · exact rest S.ps H' (by rw [eS1]; rfl) (by rw [eS1]; exact fbs) (by rw [eS1]; rfl) hl'
end
section
variable {P : Program} {w : World} {K : PySem.W.Frag} {mg : Str → Option Value} {base : Heap} {cP cU cA cB c1 c2 c3 cC c4 c5 cT cF cD cS cI : Addr}
def LwC (sp mk sf ld : Addr) (us : List V) (S : SS) : Cells := [(sp, .lst us), (mk, .lst (S.bs.map V.bl)), (sf, .lst S.ps), (ld, .dK (kvH S.hs))]
theorem valE_none {es : Ents} {m : Int} (h : m ∉ es.map (·.1)) : valV (kvE es) (.inl m) = none := by
  rw [kvE_val, List.find?_eq_none.mpr]
  · rfl
  · intro e he z
    exact h (List.mem_map.mpr ⟨e, he, of_decide_eq_true z⟩)
theorem putH_in {hs : List (Int × Int)} {m c : Int} {e : Int × Int} (h : e ∈ putH hs m c) : e.2 = c ∨ e ∈ hs := by
  obtain ⟨d, hd, rfl⟩ := List.mem_map.mp h
  by_cases z : d.1 = m
  · rw [if_pos z]; exact .inl rfl
  · rw [if_neg z]; exact .inr hd
theorem St.permM {H : Hp} {S : SS} {M M' : Cells} (h : Led H (StC cT cF cD cS cI S M)) (p : M.Perm M') : Led H (StC cT cF cD cS cI S M') := Led.perm h (List.Perm.append_left _ (List.Perm.append_left _ (List.Perm.append_left _ (List.Perm.append_left _ (List.Perm.append_left _ p)))))
theorem OkSt.ended {S S' : SS} {n q : Nat} {M : Cells} {m : Int} (g : OkSt S n q M) (h : Ended S S' m) : OkSt S' n q M := by
  rcases h with ⟨i, t, hi, rfl⟩ | ⟨_, hin, rfl⟩
  · exact OkSt.freed (S := { S with hs := S.hs.filter fun e => decide (e.1 ≠ m) }) { g with } i
  · exact { g.unshelve hin with }
def spLetL (cT cF cD cS cI : Addr) : Sp := fun vs H Q _ => ∃ (S : SS) (n q : Nat) (m c b : Int) (sp mk sf ld : Addr) (us : List V) (M : Cells), vs = [.ref S.b, .ref sp, .ref mk, .ref sf, .ref ld, .int m] ∧ Led H (StC cT cF cD cS cI S (LwC sp mk sf ld us S ++ M)) ∧ OkSt S n q M ∧ OkH S n q ∧ SpM S us M ∧ S.hs.length ≤ 600 ∧ (∀ e ∈ S.hs, e.2 ≤ b) ∧ (m, c) ∈ S.hs ∧
  ∀ (S' : SS) (us' : List V) (N : Cells) (H' : Hp), S'.b = S.b → S'.p = S.p → S'.made = S.made → S'.hs.length ≤ S.hs.length → (c ≠ 1 → (m, c - 1) ∈ S'.hs) → (∀ e ∈ S'.hs, e.2 ≤ b) → OkSt S' n q (N ++ M) → OkH S' n q → SpM S' us' (N ++ M) → Led H' (StC cT cF cD cS cI S' (LwC sp mk sf ld us' S' ++ (N ++ M))) → Q (.bl true) H'
theorem ok_letL (D : Def K mg "_law_let" s_l_let) (B : Blt mg) (T : Txt K mg cP cU cA cB c1 c2 c3 cC c4 c5 cT cF cD cS cI) (M_Frames_where : MethD P w K mg base 1 cF "where" ["self", "thing"] (spWhere cF)) (M_Shelf_has : MethD P w K mg base 1 cS "has" ["self", "sheet"] (spHas cS)) (G_let_go : FnD P w K mg base 4 "let_go" ["store", "sheet"] (spLet cT cF cD cS cI)) (G__law_alike : FnD P w K mg base 4 "_law_alike" ["_law_found", "_law_due"] (spAlike 2)) : FnD P w K mg base 5 "_law_let" ["_law_store", "_law_spots", "_law_marks", "_law_shelf", "_law_holders", "_law_sheet"] (spLetL cT cF cD cS cI) := by
  have sc := sc_l_let
  refine D.ok sc_l_let (fun vs H Q E h => ?_) (fun _ _ _ _ _ _ us hl => match us, hl with | [_, _, _, _, _, _], _ => rfl) (fun f cdv A outer s H vs Q E hr h => ?_)
  · obtain ⟨_, _, _, _, _, _, _, _, _, _, _, _, rfl, _⟩ := h; rfl
  · obtain ⟨S, n, q, m, c, b, sp, mk, sf, ld, us, M, rfl, hL, g, gh, s1, hh, hb, hm, k⟩ := h
    have hu := unit1 hr
    have hsz := sizeLine_eq
    have n64 := g.n64
    have nd := gh.nd
    have hv := kvH_at nd hm
    have hmk : m ∈ S.hs.map (·.1) := List.mem_map.mpr ⟨_, hm, rfl⟩
    have c1 := gh.c1 _ hm
    have hl1 : Led H (LwC sp mk sf ld us S ++ StC cT cF cD cS cI S M) := St.pullN [] _ hL
    have c_l := hl1.get (mC (mC (mC mS)))
    refine ⟨_, (@pss_cons _ _ _ _ _ (@ps_dput _ _ _ _ _ _ _ _ _ hu (@pv _ 4 _ _ (by rfl) (by walk_at "o3") (by decide) (by decide)) (@pv _ 5 _ _ (by rfl) (by walk_at "o3") (by decide) (by decide)) (@pe_op _ _ _ _ _ _ _ _ op_sub (@pe_dget _ _ _ _ _ _ hu (@pv _ 4 _ _ (by rfl) (by walk_at "o3") (by decide) (by decide)) (@pv _ 5 _ _ (by rfl) (by walk_at "o3") (by decide) (by decide)) (fun _ _ => rfl)) (@pe_int _ _ _ _)) rfl) (@pss_cons _ _ _ _ _ (@ps_set _ _ 6 _ _ _ _ sc.nd rfl (by walk_at "o2") (@pe_dget _ _ _ _ _ _ hu (@pv _ 4 _ _ (by rfl) (by walk_at "o3") (by decide) (by decide)) (@pv _ 5 _ _ (by rfl) (by walk_at "o3") (by decide) (by decide)) (fun _ _ => rfl)) (by rfl) (by first | exact .inl rfl | exact .inr rfl | assumption)) (@pss_cons _ _ _ _ _ (@ps_if _ _ _ _ _ _ _ _ (@pt_not _ _ _ _ (@pt_val _ _ _ (@pe_callD _ _ _ _ _ _ _ _ _ _ _ G__law_alike (hr.mono (by omega)) (by rfl) passR0 (@pa_cons _ _ _ _ _ (@pe_callD _ _ _ _ _ _ _ _ _ _ _ G_let_go (hr.mono (by omega)) (by rfl) passR0 (@pa_cons _ _ _ _ _ (@pv _ 0 _ _ (by rfl) (by walk_at "o3") (by decide) (by decide)) (@pa_cons _ _ _ _ _ (@pv _ 5 _ _ (by rfl) (by walk_at "o3") (by decide) (by decide)) (@pa_nil _) (by rfl)) (by rfl)) (by decide) (by rfl) (by rfl)) (@pa_cons _ _ _ _ _ (@pv _ 6 _ _ (by rfl) (by walk_at "o3") (by decide) (by decide)) (@pa_nil _) (by rfl)) (by rfl)) (by decide) (by rfl) (by rfl)) (by intro _; rfl))) (@pss_one _ _ _ (@ps_ret _ _ _ _ (@pe_bl _ _ _ _))) (@pss_nil _)) (@pss_cons _ _ _ _ _ (@ps_if _ _ _ _ _ _ _ _ (@pt_cmpR _ _ _ _ _ _ _ _ op_eq (@pv _ 6 _ _ (by rfl) (by walk_at "o3") (by decide) (by decide)) (@pe_int _ _ _ _) (nomark _)) (@pss_cons _ _ _ _ _ (@ps_expr _ _ _ _ (@pe_dpop1 _ _ _ _ _ _ _ (@pv _ 4 _ _ (by rfl) (by walk_at "o3") (by decide) (by decide)) (@pv _ 5 _ _ (by rfl) (by walk_at "o3") (by decide) (by decide)) ⟨rfl, rfl, rfl, rfl⟩) (by rfl)) (@pss_cons _ _ _ _ _ (@ps_if _ _ _ _ _ _ _ _ (@pt_cmpR _ _ _ _ _ _ _ _ (op_inD hr.units) (@pe_tup _ _ _ _ _ (@pa_cons _ _ _ _ _ (@pe_str _ _ _ _) (@pa_cons _ _ _ _ _ (@pv _ 5 _ _ (by rfl) (by walk_at "o3") (by decide) (by decide)) (@pa_nil _) (by rfl)) (by rfl))) (@pv _ 1 _ _ (by rfl) (by walk_at "o3") (by decide) (by decide)) (by with_unfolding_all rfl)) (@pss_cons _ _ _ _ _ (@ps_asg _ _ _ _ _ _ (@pe_bl _ _ _ _) (@pg_sub _ _ _ _ _ _ _ (@pv _ 2 _ _ (by rfl) (by walk_at "o3") (by decide) (by decide)) (@pe_bm _ _ _ _ _ _ _ _ _ _ _ _ PySem.F.plainAttrs_list PySem.F.slot_list_index PySem.F.type_list_index (mt_indexD hr.units) (@pv _ 1 _ _ (by rfl) (by walk_at "o3") (by decide) (by decide)) (@pa_cons _ _ _ _ _ (@pe_tup _ _ _ _ _ (@pa_cons _ _ _ _ _ (@pe_str _ _ _ _) (@pa_cons _ _ _ _ _ (@pv _ 5 _ _ (by rfl) (by walk_at "o3") (by decide) (by decide)) (@pa_nil _) (by rfl)) (by rfl))) (@pa_nil _) (by rfl)) (by rfl) (by rfl) (by rfl) (by rfl) (by rfl)) set_list (by intro _; rfl)) (by rfl) (by rfl) (by rfl)) (@pss_one _ _ _ (@ps_asg _ _ _ _ _ _ (@pe_non _ _ _) (@pg_sub _ _ _ _ _ _ _ (@pv _ 1 _ _ (by rfl) (by walk_at "o3") (by decide) (by decide)) (@pe_bm _ _ _ _ _ _ _ _ _ _ _ _ PySem.F.plainAttrs_list PySem.F.slot_list_index PySem.F.type_list_index (mt_indexD hr.units) (@pv _ 1 _ _ (by rfl) (by walk_at "o3") (by decide) (by decide)) (@pa_cons _ _ _ _ _ (@pe_tup _ _ _ _ _ (@pa_cons _ _ _ _ _ (@pe_str _ _ _ _) (@pa_cons _ _ _ _ _ (@pv _ 5 _ _ (by rfl) (by walk_at "o3") (by decide) (by decide)) (@pa_nil _) (by rfl)) (by rfl))) (@pa_nil _) (by rfl)) (by rfl) (by rfl) (by rfl) (by rfl) (by rfl)) set_list (by intro _; rfl)) (by rfl) (by rfl) (by rfl)))) (@pss_one _ _ _ (@ps_asg _ _ _ _ _ _ (@pe_non _ _ _) (@pg_sub _ _ _ _ _ _ _ (@pv _ 3 _ _ (by rfl) (by walk_at "o3") (by decide) (by decide)) (@pe_bm _ _ _ _ _ _ _ _ _ _ _ _ PySem.F.plainAttrs_list PySem.F.slot_list_index PySem.F.type_list_index mt_index (@pv _ 3 _ _ (by rfl) (by walk_at "o3") (by decide) (by decide)) (@pa_cons _ _ _ _ _ (@pv _ 5 _ _ (by rfl) (by walk_at "o3") (by decide) (by decide)) (@pa_nil _) (by rfl)) (by rfl) (by rfl) (by rfl) (by rfl) (by rfl)) set_list (by intro _; rfl)) (by rfl) (by rfl) (by rfl)))) (@pss_one _ _ _ (@ps_ret _ _ _ _ (@pe_and _ _ _ _ _ _ _ (@pe_callD _ _ _ _ _ _ _ _ _ _ _ G__law_alike (hr.mono (by omega)) (by rfl) passR0 (@pa_cons _ _ _ _ _ (@pe_methD _ _ _ _ _ _ _ _ _ _ _ _ _ _ _ _ T.Frames M_Frames_where (hr.mono (by omega)) passR0 (@pe_fldC _ _ _ _ _ _ _ T.Store T.n_frames (@pv _ 0 _ _ (by rfl) (by walk_at "o3") (by decide) (by decide)) (by rfl)) (@pa_cons _ _ _ _ _ (@pe_tup _ _ _ _ _ (@pa_cons _ _ _ _ _ (@pe_str _ _ _ _) (@pa_cons _ _ _ _ _ (@pv _ 5 _ _ (by rfl) (by walk_at "o3") (by decide) (by decide)) (@pa_nil _) (by rfl)) (by rfl))) (@pa_nil _) (by rfl)) (by rfl) (by rfl) (by rfl)) (@pa_cons _ _ _ _ _ (@pe_non _ _ _) (@pa_nil _) (by rfl)) (by rfl)) (by decide) (by rfl) (by rfl)) (@pe_one _ _ _ _ _ (@pe_callD _ _ _ _ _ _ _ _ _ _ _ G__law_alike (hr.mono (by omega)) (by rfl) passR0 (@pa_cons _ _ _ _ _ (@pe_methD _ _ _ _ _ _ _ _ _ _ _ _ _ _ _ _ T.Shelf M_Shelf_has (hr.mono (by omega)) passR0 (@pe_fldC _ _ _ _ _ _ _ T.Store T.n_shelf (@pv _ 0 _ _ (by rfl) (by walk_at "o3") (by decide) (by decide)) (by rfl)) (@pa_cons _ _ _ _ _ (@pv _ 5 _ _ (by rfl) (by walk_at "o3") (by decide) (by decide)) (@pa_nil _) (by rfl)) (by rfl) (by rfl) (by rfl)) (@pa_cons _ _ _ _ _ (@pe_bl _ _ _ _) (@pa_nil _) (by rfl)) (by rfl)) (by decide) (by rfl) (by rfl)))))))) (@pss_nil _)) (@pss_one _ _ _ (@ps_ret _ _ _ _ (@pe_bl _ _ _ _))))))), ?_⟩
    refine seqK fun M1 K1 => ?_
    walk_at "ge"
    refine dgetR c_l hv ?_
    walk_at "ge"
    refine dputR c_l (by unfold kvH; rw [List.length_map]; omega) ?_
    rw [kvH_put _ hmk]
    have hl2 : Led (upd H ld (.dK (kvH (putH S.hs m (c - 1))))) (((sp, HO.lst us) :: (mk, HO.lst (S.bs.map V.bl)) :: (sf, HO.lst S.ps) :: [(ld, HO.dK (kvH (putH S.hs m (c - 1))))]) ++ StC cT cF cD cS cI S M) := hl1.putI 3 rfl rfl rfl
    generalize upd H ld (.dK (kvH (putH S.hs m (c - 1)))) = H2 at hl2 ⊢
    clear hl1 c_l hL
    have hl3 := St.pushN _ hl2
    clear hl2
    walk_at "ge"
    refine K1.use ?_
    walk_at "cl"
    clear K1
    have nd2 : ((putH S.hs m (c - 1)).map (·.1)).Nodup := by rw [putH_keys]; exact nd
    have hv2 := kvH_at nd2 (putH_at (c - 1) hmk)
    have c_l := hl3.get (St.up (mC (mC (mC mS))))
    refine seqK fun M1 K1 => ?_
    walk_at "ge"
    refine dgetR c_l hv2 ?_
    walk_at "ge"
    refine K1.use ?_
    walk_at "cl"
    clear K1 c_l
    refine seqK fun M1 K1 => ?_
    walk_at "ge"
    refine ⟨S, n, q, m, c, _, rfl, hl3, g.mono (fun x hx => mA hx), hh, nd, hm, (gh.lie m).mp hmk, fun hc H3 hl4 => ?_, fun hc S' N H3 hE g3 hl4 => ?_⟩
    · walk_at "ge"
      refine ⟨_, _, rfl, .inl (.inr (.inr (.inl ⟨_, rfl, rfl⟩))), ?_⟩
      walk_at "ge"
      refine K1.use ?_
      walk_at "cl"
      clear K1
      refine seqK fun M1 K1 => ?_
      walk_at "ge"
      all_goals first | (exfalso; omega) | skip
      refine K1.use ?_
      walk_at "cl"
      clear K1
      walk_at "ge"
      refine k { S with hs := putH S.hs m (c - 1) } us [] H3 rfl rfl rfl (by show (putH S.hs m (c - 1)).length ≤ _; unfold putH; rw [List.length_map]; exact Nat.le_refl _) (fun _ => putH_at _ hmk) (fun e he => ?_) { g with } (gh.count (by omega)) (SpM.same (S := S) rfl s1) hl4
      rcases putH_in he with h | h
      · have := hb _ hm
        have h2 : e.2 = c - 1 := h
        have h3 : c ≤ b := this
        omega
      · exact hb e h
    · have e0 : c - 1 = 0 := by omega
      walk_at "ge"
      refine ⟨_, _, rfl, .inl (.inr (.inr (.inl ⟨0, rfl, by rw [e0]⟩))), ?_⟩
      walk_at "ge"
      refine K1.use ?_
      walk_at "cl"
      clear K1
      have hl5 := St.pullN N _ hl4
      clear hl4 hl3
      obtain ⟨eh, em, eb, ep⟩ := hE.hs
      have c_l := hl5.get (mC (mC (mC mS)))
      refine seqK fun M1 K1 => ?_
      walk_at "ge"
      all_goals first | (exfalso; omega) | skip
      refine dpop1H fun R5 hR5 => ?_
      walk_at "ge"
      refine dpopR c_l hv2 ?_
      rw [kvH_drop, putH_drop, ← eh]
      have hl6 : Led (upd H3 ld (.dK (kvH S'.hs))) ((sp, HO.lst us) :: (mk, HO.lst (S.bs.map V.bl)) :: (sf, HO.lst S.ps) :: (ld, HO.dK (kvH S'.hs)) :: StC cT cF cD cS cI S' (N ++ M)) := hl5.putI 3 rfl rfl rfl
      generalize upd H3 ld (.dK (kvH S'.hs)) = H4 at hl6 ⊢
      clear hl5 c_l
      have up6 : ∀ x ∈ M, x ∈ (sp, HO.lst us) :: (mk, HO.lst (S.bs.map V.bl)) :: (sf, HO.lst S.ps) :: (ld, HO.dK (kvH S'.hs)) :: StC cT cF cD cS cI S' (N ++ M) := fun x hx => mC (mC (mC (mC (St.up (mA hx)))))
      have gh' := gh.ended g hE
      have gM : OkSt S' n q M := g.ended hE
      have nl : ¬ Lies S' m := fun z => ((hE.lies g m).mp z).2 rfl
      have o1 : PySem.W.kqdOk 8 (datO (some (.own m))) = true := datO_ok (fun a ha => by cases ha; exact True.intro) 7
      have o2 := g.dats
      have up6T : ∀ (x1 : Addr × HO) x, x ∈ M → x ∈ x1 :: (sp, HO.lst us) :: (mk, HO.lst (S.bs.map V.bl)) :: (sf, HO.lst S.ps) :: (ld, HO.dK (kvH S'.hs)) :: StC cT cF cD cS cI S' (N ++ M) := fun x1 x hx => mC (up6 x hx)
      walk_at "ge"
      rename_i t1 H5 _ hl7 _ _ _
      have c_s := hl7.get (mC mS)
      have d1 : DatV H5 (.ref t1) (PySem.W.kqdP (datO (some (.own m)))) := datH_V (a := .own m) (hl7.get mS)
      have d2 := s1.dat hl7 (up6T _)
      rcases hE with ⟨i, t, hi, eS⟩ | ⟨hno, hin, eS⟩
      · have hil : i < n := by rw [← g.f.h]; exact (List.getElem?_eq_some_iff.mp hi).1
        have hji : (S.F.hs.map fun x => datO (thO x))[i]? = some (datO (some (.own m))) := by rw [List.getElem?_map, hi]; rfl
        have hno : ∀ (j : Nat) e, j < i → (S.F.hs.map fun x => datO (thO x))[j]? = some e → e ≠ datO (some (.own m)) := fun j e hj he w => by
          rw [List.getElem?_map] at he
          obtain ⟨z, hz, rfl⟩ := Option.map_eq_some_iff.mp he
          have w2 := datO_inj.mp w
          cases z with
          | none => cases w2
          | some z =>
            have h3 : z.2 = .own m := Option.some.inj w2
            have := g.inj j i z.1 t (.own m) (by rw [hz, ← h3]) hi
            omega
        refine inDH (neg := false) (b := true) c_s d1 d2 o1 o2 (iff_of_true rfl (List.mem_of_getElem? hji)) ?_
        rw [if_neg Bool.false_ne_true]
        clear d1 d2
        walk_at "ge"
        refine ⟨tyVL c_s, ?_⟩
        walk_at "ge"
        rename_i t2 H7 _ hl8 _
        have c_s2 := hl8.get (mC (mC mS))
        have c_m2 := hl8.get (mC (mC (mC mS)))
        have d3 : DatV H7 (.ref t2) (PySem.W.kqdP (datO (some (.own m)))) := datH_V (a := .own m) (hl8.get mS)
        have d4 := s1.dat hl8 (fun x hx => mC (up6T _ x hx))
        refine idxDH c_s2 d3 d4 o1 o2 hji hno ?_
        walk_at "ge"
        refine setLH c_m2 (ixN_of (by omega) (by rw [List.length_map, g.bl]; omega)) ?_
        rw [Int.toNat_natCast, blSet]
        have hl9 : Led (upd H7 mk (.lst ((S.bs.set i false).map V.bl))) ((t2, .tup (thV (.own m))) :: (t1, .tup (thV (.own m))) :: (sp, .lst us) :: (mk, .lst ((S.bs.set i false).map V.bl)) :: (sf, .lst S.ps) :: (ld, .dK (kvH S'.hs)) :: StC cT cF cD cS cI S' (N ++ M)) := hl8.putI 3 rfl rfl rfl
        generalize upd H7 mk (.lst ((S.bs.set i false).map V.bl)) = H8 at hl9 ⊢
        clear d3 d4 c_s2 c_m2 hl8 hl7 c_s
        have c_s := hl9.get (mC (mC mS))
        walk_at "ge"
        refine ⟨tyVL c_s, ?_⟩
        walk_at "ge"
        rename_i t3 H9 _ hl10 _
        have c_s2 := hl10.get (mC (mC (mC mS)))
        have d3 : DatV H9 (.ref t3) (PySem.W.kqdP (datO (some (.own m)))) := datH_V (a := .own m) (hl10.get mS)
        have d4 := s1.dat hl10 (fun x hx => mC (mC (mC (mC (mC (mC (mC (St.up (mA hx)))))))))
        refine idxDH c_s2 d3 d4 o1 o2 hji hno ?_
        walk_at "ge"
        have ul : us.length = n := s1.l.trans g.f.h
        refine setLH c_s2 (ixN_of (by omega) (by omega)) ?_
        rw [Int.toNat_natCast]
        have hl11 := hl10.putI (o' := .lst (us.set i .non)) 3 rfl rfl rfl
        generalize upd H9 sp (.lst (us.set i .non)) = H5 at hl11 ⊢
        have hl7 : Led H5 ([(t3, .tup (thV (.own m))), (t2, .tup (thV (.own m))), (t1, .tup (thV (.own m)))] ++ (LwC sp mk sf ld (us.set i .non) S' ++ StC cT cF cD cS cI S' (N ++ M))) := by
          have e1 : S'.bs = S.bs.set i false := by rw [eS]; rfl
          have e2 : S'.ps = S.ps := by rw [eS]; rfl
          unfold LwC
          rw [e1, e2]
          exact hl11
        have s5 : SpM S' (us.set i .non) M := SpM.out (S := S) (by rw [eS]; rfl) s1
        clear d3 d4 c_s2 hl9 hl10 hl11 c_s
        obtain ⟨us', eus⟩ : ∃ us', us.set i .non = us' := ⟨_, rfl⟩
        obtain ⟨T, eT⟩ : ∃ T, [(t3, HO.tup (thV (.own m))), (t2, HO.tup (thV (.own m))), (t1, HO.tup (thV (.own m)))] = T := ⟨_, rfl⟩
        rw [eus] at s5 hl7
        rw [eT] at hl7
        have hl8 : Led H5 (StC cT cF cD cS cI S' (LwC sp mk sf ld us' S' ++ ((T ++ N) ++ M))) := by
          have h1 : Led H5 ((T ++ LwC sp mk sf ld us' S') ++ StC cT cF cD cS cI S' (N ++ M)) := by rw [List.append_assoc]; exact hl7
          have h2 := St.pushN _ h1
          rw [List.append_assoc] at h2
          refine Led.perm h2 (List.Perm.append_left _ (List.Perm.append_left _ (List.Perm.append_left _ (List.Perm.append_left _ (List.Perm.append_left _ ?_)))))
          rw [List.append_assoc T N M]
          exact swap2 _ _ _
        have g8 : OkSt S' n q (LwC sp mk sf ld us' S' ++ ((T ++ N) ++ M)) := gM.mono fun x hx => mA (mA hx)
        clear hl7
        have f1 := stF_fr S'
        have f3 := stF_sh S'
        have c_b : H5 S.b = some (.ins cT S'.dx (stF S')) := by rw [← eb]; exact hl8.get St.b
        have hF := St.toF hl8
        have c_f := hF.get mS
        walk_at "ge"
        rename_i t H6 _ hl9 _
        have hl10 : Led H6 (FrC cF S'.F ([(t, HO.tup (thV (.own m)))] ++ rF cT cD cS cI S' _)) := Led.perm hl9 (swap2 [(t, HO.tup (thV (.own m)))] (frB cF S'.F) _)
        have hl11 : Led H6 (StC cT cF cD cS cI S' ([(t, HO.tup (thV (.own m)))] ++ (LwC sp mk sf ld us' S' ++ ((T ++ N) ++ M)))) := St.ofF (S := S') (F' := S'.F) rfl hl10
        clear hl9 hl8 hF c_f c_b
        have c_b : H6 S.b = some (.ins cT S'.dx (stF S')) := by rw [← eb]; exact hl11.get St.b
        have hS := St.toS hl11
        have c_s := hS.get sk1
        have c_d := hS.get sk3
        refine ⟨S'.F, n, some (t, .own m), _, rfl, hl10, gM.f.mono (fun x hx => mA (rF_up (mA (mA hx)))), fun t' a e => ?_, by omega, fun _ => ?_, fun j y h1 h2 _ => ?_⟩
        · cases e
          exact ⟨mS, True.intro⟩
        · walk_at "ge"
          refine ⟨_, _, rfl, .inl (.inl ⟨rfl, rfl⟩), ?_⟩
          walk_at "ge"
          refine ⟨S'.sb, S'.sdx, S'.sl, S'.sd, m, S'.es, rfl, c_s, c_d, ?_⟩
          rw [valE_none (fun z => nl (.inr z))]
          walk_at "ge"
          refine ⟨_, _, rfl, .inl (.inr (.inl ⟨_, rfl, rfl⟩)), ?_⟩
          walk_at "ge"
          refine k S' us' ([(t, HO.tup (thV (.own m)))] ++ (T ++ N)) H6 eb ep em (by rw [eh]; exact List.length_filter_le ..) (fun h => absurd hc h) (fun e he => hb e (by rw [eh] at he; exact (List.mem_filter.mp he).1)) (gM.mono fun x hx => mA hx) gh' (s5.mono fun x hx => mA hx) ?_
          refine St.permM hl11 ?_
          rw [List.append_assoc _ (T ++ N) M]
          exact swap2 _ _ _
        · exfalso
          cases y with
          | none => cases h2
          | some y =>
            have h3 : y.2 = .own m := Option.some.inj h2
            exact nl (.inl ⟨j, y.1, by rw [h1, ← h3]⟩)
      · have hnot : datO (some (.own m)) ∉ S.F.hs.map fun x => datO (thO x) := fun hm => by
          obtain ⟨z, hz, w⟩ := List.mem_map.mp hm
          obtain ⟨i, hi⟩ := List.getElem?_of_mem hz
          have w2 := datO_inj.mp w
          cases z with
          | none => cases w2
          | some z =>
            have h3 : z.2 = .own m := Option.some.inj w2
            exact hno i z.1 (by rw [hi, ← h3])
        refine inDH (neg := false) (b := false) c_s d1 d2 o1 o2 (iff_of_false Bool.false_ne_true hnot) ?_
        rw [if_neg Bool.false_ne_true]
        clear d1 d2 c_s
        have c_f := hl7.get (mC (mC (mC mS)))
        walk_at "ge"
        refine ⟨tyVL c_f, ?_⟩
        walk_at "ge"
        refine idxH c_f rfl g.flat hin ?_
        have hlt : idx S.ps (.int m) < S.ps.length := (List.getElem?_eq_some_iff.mp (g.int_at hin)).1
        walk_at "ge"
        refine setLH c_f (ixN_of (by omega) (by omega)) ?_
        rw [Int.toNat_natCast]
        have hl11 := hl7.putI (o' := .lst (S.ps.set (idx S.ps (.int m)) .non)) 3 rfl rfl rfl
        clear hl7 c_f
        generalize upd H5 sf (.lst (S.ps.set (idx S.ps (.int m)) .non)) = H7 at hl11 ⊢
        have hl7 : Led H7 ([(t1, .tup (thV (.own m)))] ++ (LwC sp mk sf ld us S' ++ StC cT cF cD cS cI S' (N ++ M))) := by
          have e1 : S'.bs = S.bs := by rw [eS]
          have e2 : S'.ps = S.ps.set (idx S.ps (.int m)) .non := by rw [eS]
          unfold LwC
          rw [e1, e2]
          exact hl11
        have s5 : SpM S' us M := SpM.same (S := S) (by rw [eS]) s1
        obtain ⟨us', eus⟩ : ∃ us', us = us' := ⟨_, rfl⟩
        obtain ⟨T, eT⟩ : ∃ T, [(t1, HO.tup (thV (.own m)))] = T := ⟨_, rfl⟩
        rw [eus] at s5 hl7
        rw [eT] at hl7
        have hl8 : Led H7 (StC cT cF cD cS cI S' (LwC sp mk sf ld us' S' ++ ((T ++ N) ++ M))) := by
          have h1 : Led H7 ((T ++ LwC sp mk sf ld us' S') ++ StC cT cF cD cS cI S' (N ++ M)) := by rw [List.append_assoc]; exact hl7
          have h2 := St.pushN _ h1
          rw [List.append_assoc] at h2
          refine Led.perm h2 (List.Perm.append_left _ (List.Perm.append_left _ (List.Perm.append_left _ (List.Perm.append_left _ (List.Perm.append_left _ ?_)))))
          rw [List.append_assoc T N M]
          exact swap2 _ _ _
        have g8 : OkSt S' n q (LwC sp mk sf ld us' S' ++ ((T ++ N) ++ M)) := gM.mono fun x hx => mA (mA hx)
        clear hl7
        have f1 := stF_fr S'
        have f3 := stF_sh S'
        have c_b : H7 S.b = some (.ins cT S'.dx (stF S')) := by rw [← eb]; exact hl8.get St.b
        have hF := St.toF hl8
        have c_f := hF.get mS
        walk_at "ge"
        rename_i t H6 _ hl9 _
        have hl10 : Led H6 (FrC cF S'.F ([(t, HO.tup (thV (.own m)))] ++ rF cT cD cS cI S' _)) := Led.perm hl9 (swap2 [(t, HO.tup (thV (.own m)))] (frB cF S'.F) _)
        have hl11 : Led H6 (StC cT cF cD cS cI S' ([(t, HO.tup (thV (.own m)))] ++ (LwC sp mk sf ld us' S' ++ ((T ++ N) ++ M)))) := St.ofF (S := S') (F' := S'.F) rfl hl10
        clear hl9 hl8 hF c_f c_b
        have c_b : H6 S.b = some (.ins cT S'.dx (stF S')) := by rw [← eb]; exact hl11.get St.b
        have hS := St.toS hl11
        have c_s := hS.get sk1
        have c_d := hS.get sk3
        refine ⟨S'.F, n, some (t, .own m), _, rfl, hl10, gM.f.mono (fun x hx => mA (rF_up (mA (mA hx)))), fun t' a e => ?_, by omega, fun _ => ?_, fun j y h1 h2 _ => ?_⟩
        · cases e
          exact ⟨mS, True.intro⟩
        · walk_at "ge"
          refine ⟨_, _, rfl, .inl (.inl ⟨rfl, rfl⟩), ?_⟩
          walk_at "ge"
          refine ⟨S'.sb, S'.sdx, S'.sl, S'.sd, m, S'.es, rfl, c_s, c_d, ?_⟩
          rw [valE_none (fun z => nl (.inr z))]
          walk_at "ge"
          refine ⟨_, _, rfl, .inl (.inr (.inl ⟨_, rfl, rfl⟩)), ?_⟩
          walk_at "ge"
          refine k S' us' ([(t, HO.tup (thV (.own m)))] ++ (T ++ N)) H6 eb ep em (by rw [eh]; exact List.length_filter_le ..) (fun h => absurd hc h) (fun e he => hb e (by rw [eh] at he; exact (List.mem_filter.mp he).1)) (gM.mono fun x hx => mA hx) gh' (s5.mono fun x hx => mA hx) ?_
          refine St.permM hl11 ?_
          rw [List.append_assoc _ (T ++ N) M]
          exact swap2 _ _ _
        · exfalso
          cases y with
          | none => cases h2
          | some y =>
            have h3 : y.2 = .own m := Option.some.inj h2
            exact nl (.inl ⟨j, y.1, by rw [h1, ← h3]⟩)
end
section
variable {P : Program} {w : World} {K : PySem.W.Frag} {mg : Str → Option Value} {base : Heap} {cP cU cA cB c1 c2 c3 cC c4 c5 cT cF cD cS cI : Addr}
theorem alike_ints {H : Hp} {a b : Addr} {row : List Int} (h1 : H a = some (.lst (row.map V.int))) (h2 : H b = some (.lst (row.map V.int))) (hl : row.length ≤ 100000) : Alike H 2 (.ref a) (.ref b) := by
  refine .inr ⟨a, b, _, _, rfl, rfl, .inl ⟨h1, h2⟩, rfl, by rw [List.length_map]; exact hl, fun i x y hx hy => ?_⟩
  rw [hx] at hy
  cases hy
  rw [List.getElem?_map] at hx
  obtain ⟨n, _, rfl⟩ := Option.map_eq_some_iff.mp hx
  exact .inl (.inr (.inr (.inl ⟨n, rfl, rfl⟩)))
theorem St.tuck {H : Hp} {S : SS} {X : Cells} (A N C : Cells) (h : Led H (A ++ (N ++ (C ++ StC cT cF cD cS cI S X)))) : Led H (A ++ (C ++ StC cT cF cD cS cI S (N ++ X))) := by
  have e : ∀ X : Cells, StC cT cF cD cS cI S X = (stO cT S ++ (frB cF S.F ++ (diB cD S ++ (shB cS S ++ fiB cI S)))) ++ X := fun X => by unfold StC; simp only [List.append_assoc]
  rw [e] at h ⊢
  exact Led.perm h (List.Perm.append_left _ ((swap2 N C _).trans (List.Perm.append_left _ (swap2 N _ _))))
def spMadeL (cT cF cD cS cI : Addr) : Sp := fun vs H Q _ => ∃ (S : SS) (n q : Nat) (c : Int) (sp mk sf ld : Addr) (us : List V) (M : Cells), vs = [.ref S.b, .ref sp, .ref mk, .ref sf, .ref ld, .int (S.p : Nat), .int (S.made + 1), .int c] ∧ Led H (StC cT cF cD cS cI S (LwC sp mk sf ld us S ++ M)) ∧ OkSt S n q M ∧ OkH S n q ∧ SpM S us M ∧ S.hs.length ≤ 600 ∧ Builtin.Int.intBits c ≤ 1400000 ∧ (n : Int) - 1 + (q : Int) - (S.hs.length : Int) ≠ 0 ∧
  ∀ (S' : SS) (us' : List V) (N : Cells) (H' : Hp), S'.b = S.b → S'.made = S.made + 1 → S'.hs = S.hs ++ [(S.made + 1, 1)] → OkSt S' n q (N ++ M) → OkH S' n q → SpM S' us' (N ++ M) → Led H' (StC cT cF cD cS cI S' (LwC sp mk sf ld us' S' ++ (N ++ M))) → Q (.int (S'.p : Nat)) H'
theorem ok_madeL (D : Def K mg "_law_made" s_l_made) (B : Blt mg) (T : Txt K mg cP cU cA cB c1 c2 c3 cC c4 c5 cT cF cD cS cI) (M_Frames_row_in : MethD P w K mg base 1 cF "row_in" ["self", "frame"] (spRowIn cF)) (G_new_sheet : FnD P w K mg base 7 "new_sheet" ["store", "row"] (spNew cT cF cD cS cI cU)) (G__law_goes : FnD P w K mg base 2 "_law_goes" ["_law_spots", "_law_marks", "_law_shelf", "_law_pointer", "_law_found"] spGoes) (G__law_row : FnD P w K mg base 2 "_law_row" ["_law_cell"] spRow) (G__law_alike : FnD P w K mg base 4 "_law_alike" ["_law_found", "_law_due"] (spAlike 2)) : FnD P w K mg base 8 "_law_made" ["_law_store", "_law_spots", "_law_marks", "_law_shelf", "_law_holders", "_law_pointer", "_law_number_next", "_law_cell"] (spMadeL cT cF cD cS cI) := by
  have sc := sc_l_made
  refine D.ok sc_l_made (fun vs H Q E h => ?_) (fun _ _ _ _ _ _ us hl => match us, hl with | [_, _, _, _, _, _, _, _], _ => rfl) (fun f cdv A outer s H vs Q E hr h => ?_)
  · obtain ⟨_, _, _, _, _, _, _, _, _, _, rfl, _⟩ := h; rfl
  · obtain ⟨S, n, q, c, sp, mk, sf, ld, us, M, rfl, hL, g, gh, s1, hh, hbits, hroom, k⟩ := h
    have hu := unit1 hr
    have hsz := sizeLine_eq
    have n64 := g.n64
    refine ⟨_, (@pss_cons _ _ _ _ _ (@ps_set _ _ 8 _ _ _ _ sc.nd rfl (by walk_at "o2") (@pe_callD _ _ _ _ _ _ _ _ _ _ _ G_new_sheet (hr.mono (by omega)) (by rfl) passR0 (@pa_cons _ _ _ _ _ (@pv _ 0 _ _ (by rfl) (by walk_at "o3") (by decide) (by decide)) (@pa_cons _ _ _ _ _ (@pe_callD _ _ _ _ _ _ _ _ _ _ _ G__law_row (hr.mono (by omega)) (by rfl) passR0 (@pa_cons _ _ _ _ _ (@pv _ 7 _ _ (by rfl) (by walk_at "o3") (by decide) (by decide)) (@pa_nil _) (by rfl)) (by decide) (by rfl) (by rfl)) (@pa_nil _) (by rfl)) (by rfl)) (by decide) (by rfl) (by rfl)) (by rfl) (by first | exact .inl rfl | exact .inr rfl | assumption)) (@pss_cons _ _ _ _ _ (@ps_if _ _ _ _ _ _ _ _ (@PW.pt _ _ _ (@pw_or _ _ _ _ _ _ _ (@pt_not _ _ _ _ (@pt_val _ _ _ (@pe_callB _ _ _ _ _ _ _ _ _ call_isiN (by rfl) B.isinstance bt_isinstance (@pa_cons _ _ _ _ _ (@pv _ 8 _ _ (by rfl) (by walk_at "o3") (by decide) (by decide)) (@pa_cons _ _ _ _ _ (@pe_bltn _ _ (.ty "tuple") _ _ (by rfl) B.tuple bt_tuple rfl (by decide) (by decide)) (@pa_nil _) (by rfl)) (by rfl)) (by decide) (by decide) (by rfl) (by rfl)) (by intro _; rfl))) (@pw_or1 _ _ _ _ (@pt_cmpR _ _ _ _ _ _ _ _ op_ne (@pe_callB _ _ _ _ _ _ _ _ _ call_lenA (by rfl) B.len bt_len (@pa_cons _ _ _ _ _ (@pv _ 8 _ _ (by rfl) (by walk_at "o3") (by decide) (by decide)) (@pa_nil _) (by rfl)) (by decide) (by decide) (by rfl) (by rfl)) (@pe_int _ _ _ _) (nomark _))))) (@pss_one _ _ _ (@ps_ret _ _ _ _ (@pe_un _ _ _ _ _ _ un_neg (@pe_int _ _ _ _)))) (@pss_nil _)) (@pss_cons _ _ _ _ _ (@ps_set _ _ 5 _ _ _ _ sc.nd rfl (by walk_at "o2") (@pe_callD _ _ _ _ _ _ _ _ _ _ _ G__law_goes (hr.mono (by omega)) (by rfl) passR0 (@pa_cons _ _ _ _ _ (@pv _ 1 _ _ (by rfl) (by walk_at "o3") (by decide) (by decide)) (@pa_cons _ _ _ _ _ (@pv _ 2 _ _ (by rfl) (by walk_at "o3") (by decide) (by decide)) (@pa_cons _ _ _ _ _ (@pv _ 3 _ _ (by rfl) (by walk_at "o3") (by decide) (by decide)) (@pa_cons _ _ _ _ _ (@pv _ 5 _ _ (by rfl) (by walk_at "o3") (by decide) (by decide)) (@pa_cons _ _ _ _ _ (@pe_ix _ _ _ _ _ _ _ ix_any (@pv _ 8 _ _ (by rfl) (by walk_at "o3") (by decide) (by decide)) (@pe_int _ _ _ _) (fun _ _ => rfl)) (@pa_nil _) (by rfl)) (by rfl)) (by rfl)) (by rfl)) (by rfl)) (by decide) (by rfl) (by rfl)) (by rfl) (by first | exact .inl rfl | exact .inr rfl | assumption)) (@pss_cons _ _ _ _ _ (@ps_if _ _ _ _ _ _ _ _ (@PW.pt _ _ _ (@pw_or _ _ _ _ _ _ _ (@pt_cmpR _ _ _ _ _ _ _ _ op_lt (@pv _ 5 _ _ (by rfl) (by walk_at "o3") (by decide) (by decide)) (@pe_int _ _ _ _) (nomark _)) (@pw_or1 _ _ _ _ (@pt_not _ _ _ _ (@pt_val _ _ _ (@pe_callD _ _ _ _ _ _ _ _ _ _ _ G__law_alike (hr.mono (by omega)) (by rfl) passR0 (@pa_cons _ _ _ _ _ (@pe_ix _ _ _ _ _ _ _ ix_any (@pv _ 8 _ _ (by rfl) (by walk_at "o3") (by decide) (by decide)) (@pe_int _ _ _ _) (fun _ _ => rfl)) (@pa_cons _ _ _ _ _ (@pv _ 6 _ _ (by rfl) (by walk_at "o3") (by decide) (by decide)) (@pa_nil _) (by rfl)) (by rfl)) (by decide) (by rfl) (by rfl)) (by intro _; rfl)))))) (@pss_one _ _ _ (@ps_ret _ _ _ _ (@pe_un _ _ _ _ _ _ un_neg (@pe_int _ _ _ _)))) (@pss_nil _)) (@pss_cons _ _ _ _ _ (@ps_asg _ _ _ _ _ _ (@pe_tup _ _ _ _ _ (@pa_cons _ _ _ _ _ (@pe_str _ _ _ _) (@pa_cons _ _ _ _ _ (@pv _ 6 _ _ (by rfl) (by walk_at "o3") (by decide) (by decide)) (@pa_nil _) (by rfl)) (by rfl))) (@pg_sub _ _ _ _ _ _ _ (@pv _ 1 _ _ (by rfl) (by walk_at "o3") (by decide) (by decide)) (@pe_ix _ _ _ _ _ _ _ ix_any (@pv _ 8 _ _ (by rfl) (by walk_at "o3") (by decide) (by decide)) (@pe_int _ _ _ _) (fun _ _ => rfl)) set_list (by intro _; rfl)) (by rfl) (by rfl) (by rfl)) (@pss_cons _ _ _ _ _ (@ps_dput _ _ _ _ _ _ _ _ _ hu (@pv _ 4 _ _ (by rfl) (by walk_at "o3") (by decide) (by decide)) (@pv _ 6 _ _ (by rfl) (by walk_at "o3") (by decide) (by decide)) (@pe_int _ _ _ _) rfl) (@pss_cons _ _ _ _ _ (@ps_if _ _ _ _ _ _ _ _ (@pt_not _ _ _ _ (@pt_val _ _ _ (@pe_callD _ _ _ _ _ _ _ _ _ _ _ G__law_alike (hr.mono (by omega)) (by rfl) passR0 (@pa_cons _ _ _ _ _ (@pe_methD _ _ _ _ _ _ _ _ _ _ _ _ _ _ _ _ T.Frames M_Frames_row_in (hr.mono (by omega)) passR0 (@pe_fldC _ _ _ _ _ _ _ T.Store T.n_frames (@pv _ 0 _ _ (by rfl) (by walk_at "o3") (by decide) (by decide)) (by rfl)) (@pa_cons _ _ _ _ _ (@pe_ix _ _ _ _ _ _ _ ix_any (@pv _ 8 _ _ (by rfl) (by walk_at "o3") (by decide) (by decide)) (@pe_int _ _ _ _) (fun _ _ => rfl)) (@pa_nil _) (by rfl)) (by rfl) (by rfl) (by rfl)) (@pa_cons _ _ _ _ _ (@pe_callD _ _ _ _ _ _ _ _ _ _ _ G__law_row (hr.mono (by omega)) (by rfl) passR0 (@pa_cons _ _ _ _ _ (@pv _ 7 _ _ (by rfl) (by walk_at "o3") (by decide) (by decide)) (@pa_nil _) (by rfl)) (by decide) (by rfl) (by rfl)) (@pa_nil _) (by rfl)) (by rfl)) (by decide) (by rfl) (by rfl)) (by intro _; rfl))) (@pss_one _ _ _ (@ps_ret _ _ _ _ (@pe_un _ _ _ _ _ _ un_neg (@pe_int _ _ _ _)))) (@pss_nil _)) (@pss_one _ _ _ (@ps_ret _ _ _ _ (@pv _ 5 _ _ (by rfl) (by walk_at "o3") (by decide) (by decide))))))))))), ?_⟩
    refine seqK fun M1 K1 => ?_
    walk_at "ge"
    refine ⟨c, _, rfl, hbits, hL, fun r0 H1 hl1 => ?_⟩
    have hl2 := St.push hl1
    clear hl1 hL
    walk_at "ge"
    refine ⟨S, n, q, r0, rowOf c, _, rfl, hl2, g.mono (fun x hx => mC (mA hx)), mS, rowOf_len c, hh, gh.fresh, gh.key, fun h => absurd h hroom, fun _ hall hno => gh.some_goes g hall hno, fun _ i S1 t r p N H2 hHad i_t i_rr g2 i_p hl3 => ?_⟩
    have hin := hHad.lt g
    have gh2 := gh.made_ (t := t) (r := r) (row := rowOf c) hHad g hroom
    obtain ⟨h0, ehs, ema, eb, eho⟩ := hHad.at
    obtain ⟨S2, eS2⟩ : ∃ S2 : SS, S2 = { S1 with made := S.made + 1, hs := S.hs ++ [(S.made + 1, 1)], F := S1.F.fill i (some (t, .own (S.made + 1))) (some (r, rowOf c)) false } := ⟨_, rfl⟩
    rw [← eS2] at hl3 g2 gh2
    have eb2 : S2.b = S.b := by rw [eS2]; exact eb
    have em2 : S2.made = S.made + 1 := by rw [eS2]
    have eh2 : S2.hs = S.hs ++ [(S.made + 1, 1)] := by rw [eS2]
    have ep2 : S2.p = S1.p := by rw [eS2]
    have ebs2 : S2.bs = S1.bs := by rw [eS2]
    have eps2 : S2.ps = S1.ps := by rw [eS2]
    have ef2 : S2.F.hs = S1.F.hs.set i (some (t, .own (S.made + 1))) := by rw [eS2]; rfl
    have er2 : S2.F.rs[i]? = some (some (r, rowOf c)) := by
      have hlt : i < S1.F.rs.length := by
        have h5 : S2.F.rs.length = n := g2.f.r
        rw [eS2] at h5
        have h6 : (S1.F.rs.set i (some (r, rowOf c))).length = n := h5
        rw [List.length_set] at h6
        omega
      rw [eS2]
      show (S1.F.rs.set i _)[i]? = _
      rw [List.getElem?_set, if_pos rfl, if_pos hlt]
    have i_r := g2.f.rw r (rowOf c) (List.mem_of_getElem? er2)
    have eN : N ++ ((r0, HO.lst ((rowOf c).map V.int)) :: (LwC sp mk sf ld us S ++ M)) = (N ++ [(r0, HO.lst ((rowOf c).map V.int))]) ++ (LwC sp mk sf ld us S ++ M) := by simp
    obtain ⟨N1, eN1⟩ : ∃ N1, N ++ [(r0, HO.lst ((rowOf c).map V.int))] = N1 := ⟨_, rfl⟩
    rw [eN, eN1] at hl3
    have i_p1 : (p, HO.tup [.int (S.made + 1), .int (i : Nat)]) ∈ N1 := by rw [← eN1]; exact mB i_p
    have hl4 := St.pullN N1 _ hl3
    clear hl3 hl2
    have c_p := hl4.get (mA (St.up (mB i_p1)))
    walk_at "ge"
    refine K1.use ?_
    walk_at "cl"
    clear K1
    refine seqK fun M1 K1 => ?_
    walk_at "ge"
    all_goals first | (exfalso; exact absurd rfl (by assumption)) | skip
    refine K1.use ?_
    walk_at "cl"
    clear K1
    refine seqK fun M1 K1 => ?_
    walk_at "ge"
    refine ⟨S, S1, n, q, i, sp, mk, sf, us, M, (ld, .dK (kvH S.hs)) :: StC cT cF cD cS cI S2 (N1 ++ M), N, rfl, hl4, fun x hx => mC (St.up (mA hx)), g, s1, hHad, fun us' N2 H3 s2 hl5 => ?_⟩
    have hl6 : Led H3 ([(sp, .lst us'), (mk, .lst (S1.bs.map V.bl)), (sf, .lst S1.ps)] ++ ([(ld, .dK (kvH S.hs))] ++ StC cT cF cD cS cI S2 (N2 ++ (N1 ++ M)))) := St.tuck _ N2 _ hl5
    clear hl5 hl4 c_p
    have c_p := hl6.get (mA (mA (St.up (mA (mB i_p1)))))
    walk_at "ge"
    refine K1.use ?_
    walk_at "cl"
    clear K1
    refine seqK fun M1 K1 => ?_
    walk_at "ge"
    all_goals first | (exfalso; omega) | skip
    refine ⟨_, _, rfl, .inl (.inr (.inr (.inl ⟨_, rfl, rfl⟩))), ?_⟩
    walk_at "ge"
    refine K1.use ?_
    walk_at "cl"
    clear K1 c_p
    have ul : us'.length = n := s2.l.trans (g.had hHad).f.h
    refine seqK fun M1 K1 => ?_
    walk_at "ge"
    rename_i u H4 _ hl7 _ _ _ _ _ _ _ _ _
    have c_p := hl7.get (mC (mA (mA (St.up (mA (mB i_p1))))))
    walk_at "ge"
    refine setLH (hl7.get (mC mS)) (ixN_of (by omega) (by omega)) ?_
    rw [Int.toNat_natCast]
    have hl8 : Led (upd H4 sp (.lst (us'.set i (.ref u)))) ([(u, .tup (thV (.own (S.made + 1)))), (sp, .lst (us'.set i (.ref u))), (mk, .lst (S1.bs.map V.bl)), (sf, .lst S1.ps), (ld, .dK (kvH S.hs))] ++ StC cT cF cD cS cI S2 (N2 ++ (N1 ++ M))) := hl7.putI 1 rfl rfl rfl
    generalize upd H4 sp (.lst (us'.set i (.ref u))) = H5 at hl8 ⊢
    clear c_p hl7 hl6
    walk_at "ge"
    refine K1.use ?_
    walk_at "cl"
    clear K1
    have c_l := hl8.get (mC (mC (mC (mC mS))))
    refine seqK fun M1 K1 => ?_
    walk_at "ge"
    refine dputR c_l (by unfold kvH; rw [List.length_map]; omega) ?_
    rw [kvH_new _ gh.key, ← eh2]
    have hl9 : Led (upd H5 ld (.dK (kvH S2.hs))) ([(u, .tup (thV (.own (S.made + 1)))), (sp, .lst (us'.set i (.ref u))), (mk, .lst (S1.bs.map V.bl)), (sf, .lst S1.ps), (ld, .dK (kvH S2.hs))] ++ StC cT cF cD cS cI S2 (N2 ++ (N1 ++ M))) := hl8.putI 4 rfl rfl rfl
    generalize upd H5 ld (.dK (kvH S2.hs)) = H6 at hl9 ⊢
    clear c_l hl8
    walk_at "ge"
    refine K1.use ?_
    walk_at "cl"
    clear K1
    have hl10 := St.pushN _ hl9
    clear hl9
    rw [← eb2]
    have f1 := stF_fr S2
    have c_b := hl10.get St.b
    have c_p := hl10.get (St.up (mA (mA (mB i_p1))))
    have hF := St.toF hl10
    have c_f := hF.get mS
    refine seqK fun M1 K1 => ?_
    walk_at "ge"
    have i_r1 : (r, HO.lst ((rowOf c).map V.int)) ∈ N1 := by rw [← eN1]; exact mB i_rr
    have i_t1 : (t, HO.tup (thV (.own (S.made + 1)))) ∈ N1 := by rw [← eN1]; exact mB i_t
    refine ⟨S2.F, i, r, rowOf c, _, rfl, hF, er2, rF_up (mA (mA (mB i_r1))), by rw [rowOf_len]; decide, fun qr H7 hl11 => ?_⟩
    have hl12 : Led H7 ((qr, HO.lst ((rowOf c).map V.int)) :: StC cT cF cD cS cI S2 _) := Led.perm hl11 (List.Perm.cons _ (swap2 (frB cF S2.F) (stO cT S2) (diB cD S2 ++ (shB cS S2 ++ (fiB cI S2 ++ _)))))
    clear hl11 hl10 hF c_b c_p c_f
    walk_at "ge"
    refine ⟨c, _, rfl, hbits, hl12, fun r3 H8 hl13 => ?_⟩
    walk_at "ge"
    refine ⟨_, _, rfl, alike_ints (hl13.get (mC mS)) (hl13.get mS) (by rw [rowOf_len]; decide), ?_⟩
    walk_at "ge"
    refine K1.use ?_
    walk_at "cl"
    clear K1
    have hl14 := St.pushN [_, _] hl13
    walk_at "ge"
    rw [← ep2]
    have sub : ∀ x ∈ N, x ∈ N1 := fun x hx => by rw [← eN1]; exact mB hx
    obtain ⟨N3, eN3⟩ : ∃ N3, [(r3, HO.lst ((rowOf c).map V.int)), (qr, HO.lst ((rowOf c).map V.int)), (u, HO.tup (thV (.own (S.made + 1))))] ++ (N2 ++ N1) = N3 := ⟨_, rfl⟩
    have in3 : ∀ x ∈ N1, x ∈ N3 ++ M := fun x hx => by rw [← eN3]; exact mB (mA (mA hx))
    refine k S2 (us'.set i (.ref u)) N3 H8 eb2 em2 eh2 ?_ gh2 (SpM.in_ ef2 (by rw [← eN3]; exact mB (mC (mC mS))) (s2.mono fun x hx => mA hx)) ?_
    · have g3 := ((g.had hHad).mono (M' := N3 ++ M) fun x hx => ?_).filled (i := i) (t := t) (r := r) (m := S.made + 1) (k := S.made + 1) (row := rowOf c) (hs' := S.hs ++ [(S.made + 1, 1)]) (in3 _ i_t1) (in3 _ i_r1) (rowOf_len c) (fun z => gh.fresh ((hHad.lies _).mp z))
      · rw [eS2]; exact g3
      · rcases List.mem_append.mp hx with hx | hx
        · exact in3 x (sub x hx)
        · exact mA hx
    · refine St.permM hl14 ?_
      rw [← eN3]
      unfold LwC
      rw [ebs2, eps2]
      rw [List.append_assoc _ _ M, List.append_assoc N2 N1 M]
      exact swap2 [_, _, _] [_, _, _, _] _
end
section
variable {P : Program} {w : World} {K : PySem.W.Frag} {mg : Str → Option Value} {base : Heap} {cP cU cA cB c1 c2 c3 cC c4 c5 cT cF cD cS cI : Addr}
theorem kvH_keys (hs : List (Int × Int)) : (kvH hs).map (·.1) = (hs.map (·.1)).map Sum.inl := by unfold kvH; rw [List.map_map, List.map_map]; rfl
theorem pickH {hs : List (Int × Int)} (hne : hs ≠ []) (z : Int) : ∃ e ∈ hs, (0 : Int) < ((kvH hs).length : Int) ∧ atI ((hs.map (·.1)).map V.int) (z % ((kvH hs).length : Int)) = some (.int e.1) := by
  have hl : (kvH hs).length = hs.length := by unfold kvH; exact List.length_map ..
  have hp : 0 < hs.length := List.length_pos_iff.mpr hne
  have e0 := Int.emod_nonneg z (show (hs.length : Int) ≠ 0 by omega)
  have e1 := Int.emod_lt_of_pos z (show (0 : Int) < hs.length by omega)
  have hj : (z % (hs.length : Int)).toNat < hs.length := by omega
  refine ⟨hs[(z % (hs.length : Int)).toNat], List.getElem_mem hj, by rw [hl]; omega, ?_⟩
  rw [hl]
  refine atI_of e0 ?_
  rw [List.getElem?_map, List.getElem?_map, List.getElem?_eq_getElem hj]
  rfl
def spCountsL (cT cF cD cS cI : Addr) : Sp := fun vs H Q _ => ∃ (S : SS) (n q : Nat) (c : Int) (sp sf ld : Addr) (us : List V) (M : Cells), vs = [.ref S.b, .ref sp, .ref sf, .ref ld, .int S.made, .int c] ∧ Led H (StC cT cF cD cS cI S M) ∧ (sp, HO.lst us) ∈ M ∧ (sf, HO.lst S.ps) ∈ M ∧ (ld, HO.dK (kvH S.hs)) ∈ M ∧ us.length = n ∧ OkSt S n q M ∧ OkH S n q ∧ S.hs.length ≤ 600 ∧ 0 ≤ c ∧ ∀ (N : Cells) (H' : Hp), Led H' (StC cT cF cD cS cI S (N ++ M)) → Q (.bl true) H'
theorem ok_countsL (D : Def K mg "_law_counts" s_l_counts) (B : Blt mg) (T : Txt K mg cP cU cA cB c1 c2 c3 cC c4 c5 cT cF cD cS cI) (G_room_of : FnD P w K mg base 2 "room_of" ["store"] (spRoom cT cF cD cS cI)) (G_holders_of : FnD P w K mg base 1 "holders_of" ["store", "sheet"] (spHolders cT cF cD cS cI)) (G__law_alike : FnD P w K mg base 4 "_law_alike" ["_law_found", "_law_due"] (spAlike 2)) : FnD P w K mg base 5 "_law_counts" ["_law_store", "_law_spots", "_law_shelf", "_law_holders", "_law_made_here", "_law_cell"] (spCountsL cT cF cD cS cI) := by
  have sc := sc_l_counts
  refine D.ok sc_l_counts (fun vs H Q E h => ?_) (fun _ _ _ _ _ _ us hl => match us, hl with | [_, _, _, _, _, _], _ => rfl) (fun f cdv A outer s H vs Q E hr h => ?_)
  · obtain ⟨_, _, _, _, _, _, _, _, _, rfl, _⟩ := h; rfl
  · obtain ⟨S, n, q, c, sp, sf, ld, us, M, rfl, hL, i_s, i_f, i_l, ul, g, gh, hh, c0, k⟩ := h
    have hu := unit1 hr
    have hsz := sizeLine_eq
    have m0 := gh.m0
    refine ⟨_, (@pss_cons _ _ _ _ _ (@ps_if _ _ _ _ _ _ _ _ (@pt_not _ _ _ _ (@pt_val _ _ _ (@pe_callD _ _ _ _ _ _ _ _ _ _ _ G__law_alike (hr.mono (by omega)) (by rfl) passR0 (@pa_cons _ _ _ _ _ (@pe_callD _ _ _ _ _ _ _ _ _ _ _ G_room_of (hr.mono (by omega)) (by rfl) passR0 (@pa_cons _ _ _ _ _ (@pv _ 0 _ _ (by rfl) (by walk_at "o3") (by decide) (by decide)) (@pa_nil _) (by rfl)) (by decide) (by rfl) (by rfl)) (@pa_cons _ _ _ _ _ (@pe_op _ _ _ _ _ _ _ _ op_sub (@pe_op _ _ _ _ _ _ _ _ op_add (@pe_op _ _ _ _ _ _ _ _ op_sub (@pe_callB _ _ _ _ _ _ _ _ _ call_lenA (by rfl) B.len bt_len (@pa_cons _ _ _ _ _ (@pv _ 1 _ _ (by rfl) (by walk_at "o3") (by decide) (by decide)) (@pa_nil _) (by rfl)) (by decide) (by decide) (by rfl) (by rfl)) (@pe_int _ _ _ _)) (@pe_callB _ _ _ _ _ _ _ _ _ call_lenA (by rfl) B.len bt_len (@pa_cons _ _ _ _ _ (@pv _ 2 _ _ (by rfl) (by walk_at "o3") (by decide) (by decide)) (@pa_nil _) (by rfl)) (by decide) (by decide) (by rfl) (by rfl))) (@pe_callB _ _ _ _ _ _ _ _ _ call_lenA (by rfl) B.len bt_len (@pa_cons _ _ _ _ _ (@pv _ 3 _ _ (by rfl) (by walk_at "o3") (by decide) (by decide)) (@pa_nil _) (by rfl)) (by decide) (by decide) (by rfl) (by rfl))) (@pa_nil _) (by rfl)) (by rfl)) (by decide) (by rfl) (by rfl)) (by intro _; rfl))) (@pss_one _ _ _ (@ps_ret _ _ _ _ (@pe_bl _ _ _ _))) (@pss_nil _)) (@pss_cons _ _ _ _ _ (@ps_set _ _ 6 _ _ _ _ sc.nd rfl (by walk_at "o2") (@pe_op _ _ _ _ _ _ _ _ op_add (@pe_int _ _ _ _) (@pe_op _ _ _ _ _ _ _ _ op_mod (@pv _ 5 _ _ (by rfl) (by walk_at "o3") (by decide) (by decide)) (@pe_op _ _ _ _ _ _ _ _ op_add (@pv _ 4 _ _ (by rfl) (by walk_at "o3") (by decide) (by decide)) (@pe_int _ _ _ _)))) (by rfl) (by first | exact .inl rfl | exact .inr rfl | assumption)) (@pss_cons _ _ _ _ _ (@ps_if _ _ _ _ _ _ _ _ (@pt_not _ _ _ _ (@pt_val _ _ _ (@pe_callD _ _ _ _ _ _ _ _ _ _ _ G__law_alike (hr.mono (by omega)) (by rfl) passR0 (@pa_cons _ _ _ _ _ (@pe_callD _ _ _ _ _ _ _ _ _ _ _ G_holders_of (hr.mono (by omega)) (by rfl) passR0 (@pa_cons _ _ _ _ _ (@pv _ 0 _ _ (by rfl) (by walk_at "o3") (by decide) (by decide)) (@pa_cons _ _ _ _ _ (@pv _ 6 _ _ (by rfl) (by walk_at "o3") (by decide) (by decide)) (@pa_nil _) (by rfl)) (by rfl)) (by decide) (by rfl) (by rfl)) (@pa_cons _ _ _ _ _ (@pe_dget2 _ _ _ _ _ _ _ _ _ hu (@pv _ 3 _ _ (by rfl) (by walk_at "o3") (by decide) (by decide)) (@pv _ 6 _ _ (by rfl) (by walk_at "o3") (by decide) (by decide)) (@pe_int _ _ _ _) ⟨rfl, rfl, rfl, rfl⟩) (@pa_nil _) (by rfl)) (by rfl)) (by decide) (by rfl) (by rfl)) (by intro _; rfl))) (@pss_one _ _ _ (@ps_ret _ _ _ _ (@pe_bl _ _ _ _))) (@pss_nil _)) (@pss_cons _ _ _ _ _ (@ps_if _ _ _ _ _ _ _ _ (@pt_cmpR _ _ _ _ _ _ _ _ op_eq (@pe_callB _ _ _ _ _ _ _ _ _ call_lenA (by rfl) B.len bt_len (@pa_cons _ _ _ _ _ (@pv _ 3 _ _ (by rfl) (by walk_at "o3") (by decide) (by decide)) (@pa_nil _) (by rfl)) (by decide) (by decide) (by rfl) (by rfl)) (@pe_int _ _ _ _) (nomark _)) (@pss_one _ _ _ (@ps_ret _ _ _ _ (@pe_bl _ _ _ _))) (@pss_nil _)) (@pss_cons _ _ _ _ _ (@ps_set _ _ 6 _ _ _ _ sc.nd rfl (by walk_at "o2") (@pe_ix _ _ _ _ _ _ _ ix_any (@pe_callTy _ _ _ _ _ _ _ _ _ (call_listD rfl) (by rfl) B.list bt_list (@pa_cons _ _ _ _ _ (@pv _ 3 _ _ (by rfl) (by walk_at "o3") (by decide) (by decide)) (@pa_nil _) (by rfl)) (by decide) (by decide) (by rfl) (by rfl)) (@pe_op _ _ _ _ _ _ _ _ op_mod (@pe_op _ _ _ _ _ _ _ _ op_fdiv (@pv _ 5 _ _ (by rfl) (by walk_at "o3") (by decide) (by decide)) (@pe_int _ _ _ _)) (@pe_callB _ _ _ _ _ _ _ _ _ call_lenA (by rfl) B.len bt_len (@pa_cons _ _ _ _ _ (@pv _ 3 _ _ (by rfl) (by walk_at "o3") (by decide) (by decide)) (@pa_nil _) (by rfl)) (by decide) (by decide) (by rfl) (by rfl))) (fun _ _ => rfl)) (by rfl) (by first | exact .inl rfl | exact .inr rfl | assumption)) (@pss_one _ _ _ (@ps_ret _ _ _ _ (@pe_callD _ _ _ _ _ _ _ _ _ _ _ G__law_alike (hr.mono (by omega)) (by rfl) passR0 (@pa_cons _ _ _ _ _ (@pe_callD _ _ _ _ _ _ _ _ _ _ _ G_holders_of (hr.mono (by omega)) (by rfl) passR0 (@pa_cons _ _ _ _ _ (@pv _ 0 _ _ (by rfl) (by walk_at "o3") (by decide) (by decide)) (@pa_cons _ _ _ _ _ (@pv _ 6 _ _ (by rfl) (by walk_at "o3") (by decide) (by decide)) (@pa_nil _) (by rfl)) (by rfl)) (by decide) (by rfl) (by rfl)) (@pa_cons _ _ _ _ _ (@pe_dget _ _ _ _ _ _ hu (@pv _ 3 _ _ (by rfl) (by walk_at "o3") (by decide) (by decide)) (@pv _ 6 _ _ (by rfl) (by walk_at "o3") (by decide) (by decide)) (fun _ _ => rfl)) (@pa_nil _) (by rfl)) (by rfl)) (by decide) (by rfl) (by rfl))))))))), ?_⟩
    refine seqK fun M1 K1 => ?_
    walk_at "ge"
    refine ⟨S, n, q, M, rfl, hL, g.f.h, g.n64, g.pl, g.q6, hh, fun N1 H1 hl1 => ?_⟩
    clear hL
    have c_s := hl1.get (St.up (mA i_s))
    have c_f := hl1.get (St.up (mA i_f))
    have c_l := hl1.get (St.up (mA i_l))
    walk_at "ge"
    have el : (kvH S.hs).length = S.hs.length := by unfold kvH; exact List.length_map ..
    rw [ul, g.pl, el]
    refine ⟨_, _, rfl, .inl (.inr (.inr (.inl ⟨_, rfl, rfl⟩))), ?_⟩
    walk_at "ge"
    refine K1.use ?_
    walk_at "cl"
    clear K1
    refine seqK fun M1 K1 => ?_
    walk_at "ge"
    refine K1.use ?_
    walk_at "cl"
    clear K1
    generalize 1 + c % (S.made + 2) = m1
    have due : ∀ m : Int, ∃ z : Int, (valV (kvH S.hs) (.inl m)).getD (.int 0) = .int z := fun m => by
      by_cases hm : m ∈ S.hs.map (·.1)
      · obtain ⟨e, he, rfl⟩ := List.mem_map.mp hm
        rw [kvH_at (c := e.2) gh.nd he]
        exact ⟨_, rfl⟩
      · rw [kvH_none hm]
        exact ⟨_, rfl⟩
    obtain ⟨z1, hz1⟩ := due m1
    refine seqK fun M1 K1 => ?_
    walk_at "ge"
    refine ⟨S, m1, _, rfl, hl1, ?_⟩
    rw [hz1]
    walk_at "ge"
    unfold tDGet2
    walk_at "ge"
    refine ⟨ld, rfl, .inl ⟨_, .inl c_l⟩, ?_⟩
    walk_at "ge"
    refine ⟨_, DGet.k (k := .inl m1) c_l, ?_⟩
    rw [hz1]
    walk_at "ge"
    refine ⟨_, _, rfl, .inl (.inr (.inr (.inl ⟨_, rfl, rfl⟩))), ?_⟩
    walk_at "ge"
    refine K1.use ?_
    walk_at "cl"
    clear K1
    refine seqK fun M1 K1 => ?_
    walk_at "ge"
    · exact k N1 _ hl1
    have hne : S.hs.length ≠ 0 := by
      have h : ¬ ((kvH S.hs).length : Int) = 0 := by assumption
      rw [el] at h
      omega
    refine K1.use ?_
    walk_at "cl"
    clear K1
    obtain ⟨e, he, hpos, hat⟩ := pickH (hs := S.hs) (fun z => hne (by rw [z]; rfl)) (c / 7)
    refine seqK fun M1 K1 => ?_
    walk_at "ge"
    refine listDH c_l (kvH_keys S.hs) (Led.alloc hl1 fun ky H2 _ hl2 _ => ?_)
    have c_l2 := hl2.get (mC (St.up (mA i_l)))
    have c_k := hl2.get mS
    clear c_l c_s c_f
    walk_at "ge"
    refine K1.use ?_
    walk_at "cl"
    clear K1
    have hl3 := St.push hl2
    walk_at "ge"
    refine ⟨S, e.1, _, rfl, hl3, ?_⟩
    have hv := kvH_at (c := e.2) gh.nd he
    rw [hv]
    walk_at "ge"
    refine dgetR c_l2 hv ?_
    walk_at "ge"
    refine ⟨_, _, rfl, .inl (.inr (.inr (.inl ⟨_, rfl, rfl⟩))), ?_⟩
    walk_at "ge"
    exact k ((ky, _) :: N1) _ hl3
end
section
variable {P : Program} {w : World} {K : PySem.W.Frag} {mg : Str → Option Value} {base : Heap} {cP cU cA cB c1 c2 c3 cC c4 c5 cT cF cD cS cI : Addr}
def spLessL (cT cF cD cS cI : Addr) : Sp := fun vs H Q _ => ∃ (S : SS) (n q : Nat) (c b : Int) (sp mk sf ld : Addr) (us : List V) (M : Cells), vs = [.ref S.b, .ref sp, .ref mk, .ref sf, .ref ld, .int c] ∧ Led H (StC cT cF cD cS cI S (LwC sp mk sf ld us S ++ M)) ∧ OkSt S n q M ∧ OkH S n q ∧ SpM S us M ∧ S.hs.length ≤ 600 ∧ (∀ e ∈ S.hs, e.2 ≤ b) ∧ b ≤ 1000 ∧ S.hs ≠ [] ∧ 0 ≤ c ∧
  ∀ (S' : SS) (us' : List V) (N : Cells) (H' : Hp), S'.b = S.b → S'.p = S.p → S'.made = S.made → S'.hs.length ≤ S.hs.length → (∀ e ∈ S'.hs, e.2 ≤ b) → OkSt S' n q (N ++ M) → OkH S' n q → SpM S' us' (N ++ M) → Led H' (StC cT cF cD cS cI S' (LwC sp mk sf ld us' S' ++ (N ++ M))) → Q (.bl true) H'
theorem ok_lessL (D : Def K mg "_law_less" s_l_less) (B : Blt mg) (T : Txt K mg cP cU cA cB c1 c2 c3 cC c4 c5 cT cF cD cS cI) (G__law_let : FnD P w K mg base 5 "_law_let" ["_law_store", "_law_spots", "_law_marks", "_law_shelf", "_law_holders", "_law_sheet"] (spLetL cT cF cD cS cI)) : FnD P w K mg base 6 "_law_less" ["_law_store", "_law_spots", "_law_marks", "_law_shelf", "_law_holders", "_law_cell"] (spLessL cT cF cD cS cI) := by
  have sc := sc_l_less
  refine D.ok sc_l_less (fun vs H Q E h => ?_) (fun _ _ _ _ _ _ us hl => match us, hl with | [_, _, _, _, _, _], _ => rfl) (fun f cdv A outer s H vs Q E hr h => ?_)
  · obtain ⟨_, _, _, _, _, _, _, _, _, _, _, rfl, _⟩ := h; rfl
  · obtain ⟨S, n, q, c, b, sp, mk, sf, ld, us, M, rfl, hL, g, gh, s1, hh, hb, b1, hne, c0, k⟩ := h
    have hu := unit1 hr
    have hsz := sizeLine_eq
    have c_l := hL.get (St.up (mC (mC (mC mS))))
    have el : (kvH S.hs).length = S.hs.length := by unfold kvH; exact List.length_map ..
    refine ⟨_, (@pss_cons _ _ _ _ _ (@ps_set _ _ 6 _ _ _ _ sc.nd rfl (by walk_at "o2") (@pe_ix _ _ _ _ _ _ _ ix_any (@pe_callTy _ _ _ _ _ _ _ _ _ (call_listD rfl) (by rfl) B.list bt_list (@pa_cons _ _ _ _ _ (@pv _ 4 _ _ (by rfl) (by walk_at "o3") (by decide) (by decide)) (@pa_nil _) (by rfl)) (by decide) (by decide) (by rfl) (by rfl)) (@pe_op _ _ _ _ _ _ _ _ op_mod (@pe_op _ _ _ _ _ _ _ _ op_fdiv (@pv _ 5 _ _ (by rfl) (by walk_at "o3") (by decide) (by decide)) (@pe_int _ _ _ _)) (@pe_callB _ _ _ _ _ _ _ _ _ call_lenA (by rfl) B.len bt_len (@pa_cons _ _ _ _ _ (@pv _ 4 _ _ (by rfl) (by walk_at "o3") (by decide) (by decide)) (@pa_nil _) (by rfl)) (by decide) (by decide) (by rfl) (by rfl))) (fun _ _ => rfl)) (by rfl) (by first | exact .inl rfl | exact .inr rfl | assumption)) (@pss_cons _ _ _ _ _ (@ps_set _ _ 7 _ _ _ _ sc.nd rfl (by walk_at "o2") (@pe_int _ _ _ _) (by rfl) (by first | exact .inl rfl | exact .inr rfl | assumption)) (@pss_cons _ _ _ _ _ (@ps_if _ _ _ _ _ _ _ _ (@pt_cmpR _ _ _ _ _ _ _ _ op_eq (@pe_op _ _ _ _ _ _ _ _ op_mod (@pv _ 5 _ _ (by rfl) (by walk_at "o3") (by decide) (by decide)) (@pe_int _ _ _ _)) (@pe_int _ _ _ _) (nomark _)) (@pss_one _ _ _ (@ps_set _ _ 7 _ _ _ _ sc.nd rfl (by walk_at "o2") (@pe_dget _ _ _ _ _ _ hu (@pv _ 4 _ _ (by rfl) (by walk_at "o3") (by decide) (by decide)) (@pv _ 6 _ _ (by rfl) (by walk_at "o3") (by decide) (by decide)) (fun _ _ => rfl)) (by rfl) (by first | exact .inl rfl | exact .inr rfl | assumption))) (@pss_nil _)) (@pss_cons _ _ _ _ _ (@ps_if _ _ _ _ _ _ _ _ (@pt_cmpR _ _ _ _ _ _ _ _ op_eq (@pe_op _ _ _ _ _ _ _ _ op_mod (@pv _ 5 _ _ (by rfl) (by walk_at "o3") (by decide) (by decide)) (@pe_int _ _ _ _)) (@pe_int _ _ _ _) (nomark _)) (@pss_one _ _ _ (@ps_set _ _ 7 _ _ _ _ sc.nd rfl (by walk_at "o2") (@pe_op _ _ _ _ _ _ _ _ op_sub (@pe_dget _ _ _ _ _ _ hu (@pv _ 4 _ _ (by rfl) (by walk_at "o3") (by decide) (by decide)) (@pv _ 6 _ _ (by rfl) (by walk_at "o3") (by decide) (by decide)) (fun _ _ => rfl)) (@pe_int _ _ _ _)) (by rfl) (by first | exact .inl rfl | exact .inr rfl | assumption))) (@pss_nil _)) (@pss_cons _ _ _ _ _ (@ps_for _ _ _ _ _ _ _ _ PassesOwn.never rfl (@pi_range1 _ _ _ _ _ _ (by rfl) B.range (@pa_cons _ _ _ _ _ (@pv _ 7 _ _ (by rfl) (by walk_at "o3") (by decide) (by decide)) (@pa_nil _) (by rfl)) (by rfl)) (@pg_name _ _ 8 _ sc.nd rfl (by walk_at "o2") (by first | exact .inl rfl | exact .inr rfl | assumption)) (@pss_one _ _ _ (@ps_if _ _ _ _ _ _ _ _ (@pt_not _ _ _ _ (@pt_val _ _ _ (@pe_callD _ _ _ _ _ _ _ _ _ _ _ G__law_let (hr.mono (by omega)) (by rfl) passR0 (@pa_cons _ _ _ _ _ (@pv _ 0 _ _ (by rfl) (by walk_at "o3") (by decide) (by decide)) (@pa_cons _ _ _ _ _ (@pv _ 1 _ _ (by rfl) (by walk_at "o3") (by decide) (by decide)) (@pa_cons _ _ _ _ _ (@pv _ 2 _ _ (by rfl) (by walk_at "o3") (by decide) (by decide)) (@pa_cons _ _ _ _ _ (@pv _ 3 _ _ (by rfl) (by walk_at "o3") (by decide) (by decide)) (@pa_cons _ _ _ _ _ (@pv _ 4 _ _ (by rfl) (by walk_at "o3") (by decide) (by decide)) (@pa_cons _ _ _ _ _ (@pv _ 6 _ _ (by rfl) (by walk_at "o3") (by decide) (by decide)) (@pa_nil _) (by rfl)) (by rfl)) (by rfl)) (by rfl)) (by rfl)) (by rfl)) (by decide) (by rfl) (by rfl)) (by intro _; rfl))) (@pss_one _ _ _ (@ps_ret _ _ _ _ (@pe_bl _ _ _ _))) (@pss_nil _))) (by intro _; rfl)) (@pss_one _ _ _ (@ps_ret _ _ _ _ (@pe_bl _ _ _ _)))))))), ?_⟩
    obtain ⟨e, he, hpos, hat⟩ := pickH hne (c / 8)
    have hv := kvH_at (c := e.2) gh.nd he
    have e1 := gh.c1 e he
    have eb := hb e he
    refine seqK fun M1 K1 => ?_
    walk_at "ge"
    refine listDH c_l (kvH_keys S.hs) (Led.alloc hL fun ky H2 _ hl2 _ => ?_)
    have c_l2 := hl2.get (mC (St.up (mC (mC (mC mS)))))
    have c_k := hl2.get mS
    clear c_l
    walk_at "ge"
    refine K1.use ?_
    walk_at "cl"
    clear K1 c_k
    have hl2' := St.push hl2
    obtain ⟨C, hC⟩ : ∃ C, (ky, HO.lst (List.map V.int (List.map (fun x : Int × Int => x.1) S.hs))) = C := ⟨_, rfl⟩
    rw [hC] at hl2'
    have hl3 : Led H2 (StC cT cF cD cS cI S (LwC sp mk sf ld us S ++ ([C] ++ M))) := St.permM hl2' (swap2 [C] (LwC sp mk sf ld us S) M)
    clear hl2 hL hl2'
    refine seqK fun M1 K1 => ?_
    walk_at "ge"
    refine K1.use ?_
    walk_at "cl"
    clear K1
    refine seqK fun M1 K1 => ?_
    have rest1 : ∀ many : Int, 0 ≤ many → many ≤ e.2 → M1 [some (.ref S.b), some (.ref sp), some (.ref mk), some (.ref sf), some (.ref ld), some (.int c), some (.int e.1), some (.int many), none] H2 := by
      intro many m0 m1
      refine K1.use ?_
      clear K1
      refine seqK fun M1 K1 => ?_
      have rest2 : ∀ many : Int, 0 ≤ many → many ≤ e.2 → M1 [some (.ref S.b), some (.ref sp), some (.ref mk), some (.ref sf), some (.ref ld), some (.int c), some (.int e.1), some (.int many), none] H2 := by
        clear m0 m1 many
        intro many m0 m1
        refine K1.use ?_
        clear K1 c_l2
        refine seqK fun M1 K1 => ?_
        refine forR1 fun Lr hLr => ?_
        walk_at "ge"
        refine ⟨_, rfl, by omega, by omega, hLr.use ?_⟩
        clear hLr
        have h0 : (e.1, e.2 - ((0 : Nat) : Int)) ∈ S.hs := by rw [show e.2 - ((0 : Nat) : Int) = e.2 by omega]; exact he
        refine loopR (fun i σ H' => ∃ (S' : SS) (us' : List V) (N : Cells), S'.b = S.b ∧ S'.p = S.p ∧ S'.made = S.made ∧ S'.hs.length ≤ S.hs.length ∧ ((i : Int) < many → (e.1, e.2 - (i : Int)) ∈ S'.hs) ∧ (∀ x ∈ S'.hs, x.2 ≤ b) ∧ OkSt S' n q (N ++ M) ∧ OkH S' n q ∧ SpM S' us' (N ++ M) ∧ Led H' (StC cT cF cD cS cI S' (LwC sp mk sf ld us' S' ++ (N ++ M))) ∧ ∃ v1, σ = [some (.ref S.b), some (.ref sp), some (.ref mk), some (.ref sf), some (.ref ld), some (.int c), some (.int e.1), some (.int many), v1]) ⟨S, us, _, rfl, rfl, rfl, Nat.le_refl _, (fun _ => h0), hb, g.mono (fun x hx => mA hx), gh, s1.mono (fun x hx => mA hx), hl3, _, rfl⟩ ?_ ?_
        · clear hl3 K1 k
          rintro i σ H' hi ⟨S', us', N, q1, q2, q3, q4, q5, q6, g', gh', s', hl', v1, rfl⟩
          walk_at "ge"
          refine ⟨S', n, q, e.1, e.2 - (i : Int), b, sp, mk, sf, ld, us', N ++ M, by rw [q1]; rfl, hl', g', gh', s', by omega, q6, q5 (by omega), fun S2 us2 N2 H3 r1 r2 r3 r4 r5 r6 g2 gh2 s2 hl2 => ?_⟩
          rw [show N2 ++ (N ++ M) = (N2 ++ N) ++ M from (List.append_assoc ..).symm] at g2 s2 hl2
          walk_at "ge"
          refine ⟨S2, us2, N2 ++ N, r1.trans q1, r2.trans q2, r3.trans q3, Nat.le_trans r4 q4, fun h => ?_, r6, g2, gh2, s2, hl2, _, rfl⟩
          have h5 := r5 (by omega)
          rw [show e.2 - ((i + 1 : Nat) : Int) = e.2 - (i : Int) - 1 by omega]
          exact h5
        · clear hl3
          rintro σ H' ⟨S', us', N, q1, q2, q3, q4, q5, q6, g', gh', s', hl', v1, rfl⟩
          walk_at "ge"
          refine K1.use ?_
          walk_at "ge"
          exact k S' us' N H' q1 q2 q3 q4 q6 g' gh' s' hl'
      clear K1
      walk_at "ge"
      · refine dgetR c_l2 hv ?_
        walk_at "ge"
        exact rest2 (e.2 - 1) (by omega) (by omega)
      · exact rest2 many m0 m1
    clear K1
    walk_at "ge"
    · refine dgetR c_l2 hv ?_
      walk_at "ge"
      exact rest1 e.2 (by omega) (by omega)
    · exact rest1 1 (by omega) (by omega)
end
section
variable {P : Program} {w : World} {K : PySem.W.Frag} {mg : Str → Option Value} {base : Heap} {cP cU cA cB c1 c2 c3 cC c4 c5 cT cF cD cS cI : Addr}
structure Lw (b : Addr) (n q : Nat) (sp mk sf ld : Addr) (S : SS) (us : List V) (M : Cells) (m : Nat) (H : Hp) (cT cF cD cS cI : Addr) : Prop where
  l : Led H (StC cT cF cD cS cI S (LwC sp mk sf ld us S ++ M))
  g : OkSt S n q M
  gh : OkH S n q
  s : SpM S us M
  b : S.b = b
  c : ∀ e ∈ S.hs, e.2 ≤ (m : Int)
theorem Lw.h6 {b : Addr} {n q : Nat} {sp mk sf ld : Addr} {S : SS} {us : List V} {M : Cells} {m : Nat} {H : Hp} {cT cF cD cS cI : Addr} (h : Lw b n q sp mk sf ld S us M m H cT cF cD cS cI) (q1 : q ≤ 128) : S.hs.length ≤ 600 := by
  have h1 := h.gh.most
  have h2 := h.g.n64
  omega
theorem Led.right {H : Hp} : ∀ {A L : Cells}, Led H (A ++ L) → Led H L
  | [], _, h => h
  | _ :: _, _, h => Led.right (Led.tail h)
theorem St.rest {H : Hp} {S : SS} {M : Cells} (h : Led H (StC cT cF cD cS cI S M)) : Led H M := by
  have e : StC cT cF cD cS cI S M = (stO cT S ++ (frB cF S.F ++ (diB cD S ++ (shB cS S ++ fiB cI S)))) ++ M := by unfold StC; simp only [List.append_assoc]
  rw [e] at h
  exact Led.right h
theorem SpM.laid {S : SS} {n : Nat} {M : Cells} (h : S.F.hs = List.replicate n none) : SpM S (List.replicate n .non) M := by
  refine ⟨by rw [h, List.length_replicate, List.length_replicate], fun i hi => ?_, fun i t a hi => ?_⟩
  · rw [h] at hi
    have hl := (List.getElem?_eq_some_iff.mp hi).1
    rw [List.length_replicate] at hl
    rw [List.getElem?_replicate, if_pos hl]
  · rw [h] at hi
    exact nomatch (rep_at (α := Hd) (x := none) hi)
theorem Lw.up {b : Addr} {n q : Nat} {sp mk sf ld : Addr} {S : SS} {us : List V} {M : Cells} {m m' : Nat} {H : Hp} {cT cF cD cS cI : Addr} (h : Lw b n q sp mk sf ld S us M m H cT cF cD cS cI) (le : m ≤ m') : Lw b n q sp mk sf ld S us M m' H cT cF cD cS cI := { h with c := fun e he => by have := h.c e he; omega }
theorem ok_law {f : Addr} {fd : FuncData} (F : Fun K "law" "law" s_law f fd) (B : Blt mg) (T : Txt K mg cP cU cA cB c1 c2 c3 cC c4 c5 cT cF cD cS cI) (I_Store : InitD P w K mg base 3 cT ["self", "many", "places"] (spTInit cT cF cD cS cI)) (G__law_cell_at : FnD P w K mg base 1 "_law_cell_at" ["_law_script", "_law_k"] (spCellAt K)) (G__law_sizes : FnD P w K mg base 1 "_law_sizes" ["_law_cell"] spSizes) (G__law_row : FnD P w K mg base 2 "_law_row" ["_law_cell"] spRow) (G__law_touched : FnD P w K mg base 2 "_law_touched" ["_law_store", "_law_marks", "_law_cell"] (spTouched cT cF cD cS cI)) (G__law_refused : FnD P w K mg base 8 "_law_refused" ["_law_store", "_law_row_here"] (spRefusedL cT cF cD cS cI)) (G__law_made : FnD P w K mg base 8 "_law_made" ["_law_store", "_law_spots", "_law_marks", "_law_shelf", "_law_holders", "_law_pointer", "_law_number_next", "_law_cell"] (spMadeL cT cF cD cS cI)) (G__law_held : FnD P w K mg base 5 "_law_held" ["_law_store", "_law_holders", "_law_sheet"] (spHeldL cT cF cD cS cI)) (G__law_less : FnD P w K mg base 6 "_law_less" ["_law_store", "_law_spots", "_law_marks", "_law_shelf", "_law_holders", "_law_cell"] (spLessL cT cF cD cS cI)) (G__law_is_store : FnD P w K mg base 5 "_law_is_store" ["_law_store", "_law_spots", "_law_marks", "_law_shelf", "_law_pointer"] (spIsStore cT cF cD cS cI)) (G__law_counts : FnD P w K mg base 5 "_law_counts" ["_law_store", "_law_spots", "_law_shelf", "_law_holders", "_law_made_here", "_law_cell"] (spCountsL cT cF cD cS cI)) : FnOk P w K mg base (CXR P w) 9 f fd ["_law_script"] (spLawB K) := by
  have sc := sc_law
  refine F.okN sc (fun vs H Q E h => ?_) (fun cdv A outer s H vs Q E hr h => ?_)
  · obtain ⟨a, ns, rfl, _⟩ := h; rfl
  · obtain ⟨a, ns, rfl, hS, hlen, hbits, hO, k⟩ := h
    have hu := unit1 hr
    refine ⟨_, (@pss_cons _ _ _ _ _ (@ps_asg _ _ _ _ _ _ (@pe_callD _ _ _ _ _ _ _ _ _ _ _ G__law_sizes (hr.mono (by omega)) (by rfl) passR0 (@pa_cons _ _ _ _ _ (@pe_callD _ _ _ _ _ _ _ _ _ _ _ G__law_cell_at (hr.mono (by omega)) (by rfl) passR0 (@pa_cons _ _ _ _ _ (@pv _ 0 _ _ (by rfl) (by walk_at "o3") (by decide) (by decide)) (@pa_cons _ _ _ _ _ (@pe_int _ _ _ _) (@pa_nil _) (by rfl)) (by rfl)) (by decide) (by rfl) (by rfl)) (@pa_nil _) (by rfl)) (by decide) (by rfl) (by rfl)) (@pg_tup _ _ _ _ _ _ rfl (@pgs_cons _ _ _ _ _ (@pg_name _ _ 1 _ sc.nd rfl (by walk_at "o2") (by first | exact .inl rfl | exact .inr rfl | assumption)) (@pgs_cons _ _ _ _ _ (@pg_name _ _ 2 _ sc.nd rfl (by walk_at "o2") (by first | exact .inl rfl | exact .inr rfl | assumption)) (@pgs_nil _) (by rfl)) (by rfl)) (by rfl) (by rfl)) (by rfl) (by rfl) (by rfl)) (@pss_cons _ _ _ _ _ (@ps_set _ _ 3 _ _ _ _ sc.nd rfl (by walk_at "o2") (@pe_makeD _ _ _ _ _ _ _ _ _ _ _ _ T.Store I_Store (hr.mono (by omega)) (by rfl) passR0 (@pa_cons _ _ _ _ _ (@pv _ 1 _ _ (by rfl) (by walk_at "o3") (by decide) (by decide)) (@pa_cons _ _ _ _ _ (@pv _ 2 _ _ (by rfl) (by walk_at "o3") (by decide) (by decide)) (@pa_nil _) (by rfl)) (by rfl)) (by decide) (by rfl) (by rfl)) (by rfl) (by first | exact .inl rfl | exact .inr rfl | assumption)) (@pss_cons _ _ _ _ _ (@ps_set _ _ 4 _ _ _ _ sc.nd rfl (by walk_at "o2") (@pe_op _ _ _ _ _ _ _ _ op_rep (@pe_lst _ _ _ _ (@pa_cons _ _ _ _ _ (@pe_non _ _ _) (@pa_nil _) (by rfl))) (@pv _ 1 _ _ (by rfl) (by walk_at "o3") (by decide) (by decide))) (by rfl) (by first | exact .inl rfl | exact .inr rfl | assumption)) (@pss_cons _ _ _ _ _ (@ps_set _ _ 5 _ _ _ _ sc.nd rfl (by walk_at "o2") (@pe_op _ _ _ _ _ _ _ _ op_rep (@pe_lst _ _ _ _ (@pa_cons _ _ _ _ _ (@pe_bl _ _ _ _) (@pa_nil _) (by rfl))) (@pv _ 1 _ _ (by rfl) (by walk_at "o3") (by decide) (by decide))) (by rfl) (by first | exact .inl rfl | exact .inr rfl | assumption)) (@pss_cons _ _ _ _ _ (@ps_set _ _ 6 _ _ _ _ sc.nd rfl (by walk_at "o2") (@pe_op _ _ _ _ _ _ _ _ op_rep (@pe_lst _ _ _ _ (@pa_cons _ _ _ _ _ (@pe_non _ _ _) (@pa_nil _) (by rfl))) (@pv _ 2 _ _ (by rfl) (by walk_at "o3") (by decide) (by decide))) (by rfl) (by first | exact .inl rfl | exact .inr rfl | assumption)) (@pss_cons _ _ _ _ _ (@ps_set _ _ 7 _ _ _ _ sc.nd rfl (by walk_at "o2") (@pe_dnewK _ _) (by rfl) (by first | exact .inl rfl | exact .inr rfl | assumption)) (@pss_cons _ _ _ _ _ (@ps_set _ _ 8 _ _ _ _ sc.nd rfl (by walk_at "o2") (@pe_int _ _ _ _) (by rfl) (by first | exact .inl rfl | exact .inr rfl | assumption)) (@pss_cons _ _ _ _ _ (@ps_set _ _ 9 _ _ _ _ sc.nd rfl (by walk_at "o2") (@pe_int _ _ _ _) (by rfl) (by first | exact .inl rfl | exact .inr rfl | assumption)) (@pss_cons _ _ _ _ _ (@ps_for _ _ _ _ _ _ _ _ PassesOwn.never rfl (@pi_list _ _ _ _ (@pe_slice _ _ _ _ _ _ _ _ _ _ (sl_listK (K := K) rfl) (@pv _ 0 _ _ (by rfl) (by walk_at "o3") (by decide) (by decide)) (@po_some _ _ _ (@pe_int _ _ _ _)) (@po_some _ _ _ (@pe_int _ _ _ _)))) (@pg_name _ _ 10 _ sc.nd rfl (by walk_at "o2") (by first | exact .inl rfl | exact .inr rfl | assumption)) (@pss_cons _ _ _ _ _ (@ps_set _ _ 11 _ _ _ _ sc.nd rfl (by walk_at "o2") (@pe_op _ _ _ _ _ _ _ _ op_mod (@pe_op _ _ _ _ _ _ _ _ op_mulB (@pv _ 10 _ _ (by rfl) (by walk_at "o3") (by decide) (by decide)) (@pe_int _ _ _ _)) (@pe_int _ _ _ _)) (by rfl) (by first | exact .inl rfl | exact .inr rfl | assumption)) (@pss_cons _ _ _ _ _ (@ps_if _ _ _ _ _ _ _ _ (@pt_cmpR _ _ _ _ _ _ _ _ op_eq (@pe_op _ _ _ _ _ _ _ _ op_mod (@pe_op _ _ _ _ _ _ _ _ op_fdiv (@pv _ 11 _ _ (by rfl) (by walk_at "o3") (by decide) (by decide)) (@pe_int _ _ _ _)) (@pe_int _ _ _ _)) (@pe_int _ _ _ _) (nomark _)) (@pss_one _ _ _ (@ps_expr _ _ _ _ (@pe_callD _ _ _ _ _ _ _ _ _ _ _ G__law_touched (hr.mono (by omega)) (by rfl) passR0 (@pa_cons _ _ _ _ _ (@pv _ 3 _ _ (by rfl) (by walk_at "o3") (by decide) (by decide)) (@pa_cons _ _ _ _ _ (@pv _ 5 _ _ (by rfl) (by walk_at "o3") (by decide) (by decide)) (@pa_cons _ _ _ _ _ (@pv _ 11 _ _ (by rfl) (by walk_at "o3") (by decide) (by decide)) (@pa_nil _) (by rfl)) (by rfl)) (by rfl)) (by decide) (by rfl) (by rfl)) (by rfl))) (@pss_nil _)) (@pss_cons _ _ _ _ _ (@ps_set _ _ 12 _ _ _ _ sc.nd rfl (by walk_at "o2") (@pe_or _ _ _ _ _ _ _ (@pe_cmpR _ _ _ _ _ _ _ _ op_lt (@pe_op _ _ _ _ _ _ _ _ op_mod (@pv _ 11 _ _ (by rfl) (by walk_at "o3") (by decide) (by decide)) (@pe_int _ _ _ _)) (@pe_int _ _ _ _) (nomark _)) (@pe_one _ _ _ _ _ (@pe_cmpR _ _ _ _ _ _ _ _ op_eq (@pe_callB _ _ _ _ _ _ _ _ _ call_lenA (by rfl) B.len bt_len (@pa_cons _ _ _ _ _ (@pv _ 7 _ _ (by rfl) (by walk_at "o3") (by decide) (by decide)) (@pa_nil _) (by rfl)) (by decide) (by decide) (by rfl) (by rfl)) (@pe_int _ _ _ _) (nomark _)))) (by rfl) (by first | exact .inl rfl | exact .inr rfl | assumption)) (@pss_cons _ _ _ _ _ (@ps_if _ _ _ _ _ _ _ _ (@PW.pt _ _ _ (@pw_and _ _ _ _ _ _ _ (@pt_val _ _ _ (@pv _ 12 _ _ (by rfl) (by walk_at "o3") (by decide) (by decide)) (by intro _; rfl)) (@pw_and1 _ _ _ _ (@pt_cmpR _ _ _ _ _ _ _ _ op_eq (@pe_op _ _ _ _ _ _ _ _ op_add (@pe_op _ _ _ _ _ _ _ _ op_sub (@pv _ 1 _ _ (by rfl) (by walk_at "o3") (by decide) (by decide)) (@pe_int _ _ _ _)) (@pv _ 2 _ _ (by rfl) (by walk_at "o3") (by decide) (by decide))) (@pe_callB _ _ _ _ _ _ _ _ _ call_lenA (by rfl) B.len bt_len (@pa_cons _ _ _ _ _ (@pv _ 7 _ _ (by rfl) (by walk_at "o3") (by decide) (by decide)) (@pa_nil _) (by rfl)) (by decide) (by decide) (by rfl) (by rfl)) (nomark _))))) (@pss_cons _ _ _ _ _ (@ps_if _ _ _ _ _ _ _ _ (@pt_not _ _ _ _ (@pt_val _ _ _ (@pe_callD _ _ _ _ _ _ _ _ _ _ _ G__law_refused (hr.mono (by omega)) (by rfl) passR0 (@pa_cons _ _ _ _ _ (@pv _ 3 _ _ (by rfl) (by walk_at "o3") (by decide) (by decide)) (@pa_cons _ _ _ _ _ (@pe_callD _ _ _ _ _ _ _ _ _ _ _ G__law_row (hr.mono (by omega)) (by rfl) passR0 (@pa_cons _ _ _ _ _ (@pv _ 11 _ _ (by rfl) (by walk_at "o3") (by decide) (by decide)) (@pa_nil _) (by rfl)) (by decide) (by rfl) (by rfl)) (@pa_nil _) (by rfl)) (by rfl)) (by decide) (by rfl) (by rfl)) (by intro _; rfl))) (@pss_one _ _ _ (@ps_ret _ _ _ _ (@pe_bl _ _ _ _))) (@pss_nil _)) (@pss_one _ _ _ (@ps_set _ _ 12 _ _ _ _ sc.nd rfl (by walk_at "o2") (@pe_bl _ _ _ _) (by rfl) (by first | exact .inl rfl | exact .inr rfl | assumption)))) (@pss_one _ _ _ (@ps_if _ _ _ _ _ _ _ _ (@pt_val _ _ _ (@pv _ 12 _ _ (by rfl) (by walk_at "o3") (by decide) (by decide)) (by intro _; rfl)) (@pss_cons _ _ _ _ _ (@ps_set _ _ 9 _ _ _ _ sc.nd rfl (by walk_at "o2") (@pe_op _ _ _ _ _ _ _ _ op_add (@pv _ 9 _ _ (by rfl) (by walk_at "o3") (by decide) (by decide)) (@pe_int _ _ _ _)) (by rfl) (by first | exact .inl rfl | exact .inr rfl | assumption)) (@pss_cons _ _ _ _ _ (@ps_set _ _ 8 _ _ _ _ sc.nd rfl (by walk_at "o2") (@pe_callD _ _ _ _ _ _ _ _ _ _ _ G__law_made (hr.mono (by omega)) (by rfl) passR0 (@pa_cons _ _ _ _ _ (@pv _ 3 _ _ (by rfl) (by walk_at "o3") (by decide) (by decide)) (@pa_cons _ _ _ _ _ (@pv _ 4 _ _ (by rfl) (by walk_at "o3") (by decide) (by decide)) (@pa_cons _ _ _ _ _ (@pv _ 5 _ _ (by rfl) (by walk_at "o3") (by decide) (by decide)) (@pa_cons _ _ _ _ _ (@pv _ 6 _ _ (by rfl) (by walk_at "o3") (by decide) (by decide)) (@pa_cons _ _ _ _ _ (@pv _ 7 _ _ (by rfl) (by walk_at "o3") (by decide) (by decide)) (@pa_cons _ _ _ _ _ (@pv _ 8 _ _ (by rfl) (by walk_at "o3") (by decide) (by decide)) (@pa_cons _ _ _ _ _ (@pv _ 9 _ _ (by rfl) (by walk_at "o3") (by decide) (by decide)) (@pa_cons _ _ _ _ _ (@pv _ 11 _ _ (by rfl) (by walk_at "o3") (by decide) (by decide)) (@pa_nil _) (by rfl)) (by rfl)) (by rfl)) (by rfl)) (by rfl)) (by rfl)) (by rfl)) (by rfl)) (by decide) (by rfl) (by rfl)) (by rfl) (by first | exact .inl rfl | exact .inr rfl | assumption)) (@pss_one _ _ _ (@ps_if _ _ _ _ _ _ _ _ (@pt_cmpR _ _ _ _ _ _ _ _ op_lt (@pv _ 8 _ _ (by rfl) (by walk_at "o3") (by decide) (by decide)) (@pe_int _ _ _ _) (nomark _)) (@pss_one _ _ _ (@ps_ret _ _ _ _ (@pe_bl _ _ _ _))) (@pss_nil _))))) (@pss_nil _)))) (@pss_cons _ _ _ _ _ (@ps_if _ _ _ _ _ _ _ _ (@PW.pt _ _ _ (@pw_and _ _ _ _ _ _ _ (@pt_not _ _ _ _ (@pt_val _ _ _ (@pv _ 12 _ _ (by rfl) (by walk_at "o3") (by decide) (by decide)) (by intro _; rfl))) (@pw_and1 _ _ _ _ (@pt_cmpR _ _ _ _ _ _ _ _ op_gt (@pe_callB _ _ _ _ _ _ _ _ _ call_lenA (by rfl) B.len bt_len (@pa_cons _ _ _ _ _ (@pv _ 7 _ _ (by rfl) (by walk_at "o3") (by decide) (by decide)) (@pa_nil _) (by rfl)) (by decide) (by decide) (by rfl) (by rfl)) (@pe_int _ _ _ _) (nomark _))))) (@pss_one _ _ _ (@ps_if _ _ _ _ _ _ _ _ (@pt_cmpR _ _ _ _ _ _ _ _ op_in_seq (@pe_op _ _ _ _ _ _ _ _ op_mod (@pv _ 11 _ _ (by rfl) (by walk_at "o3") (by decide) (by decide)) (@pe_int _ _ _ _)) (@pe_tup _ _ _ _ _ (@pa_cons _ _ _ _ _ (@pe_int _ _ _ _) (@pa_cons _ _ _ _ _ (@pe_int _ _ _ _) (@pa_nil _) (by rfl)) (by rfl))) (by with_unfolding_all rfl)) (@pss_one _ _ _ (@ps_if _ _ _ _ _ _ _ _ (@pt_not _ _ _ _ (@pt_val _ _ _ (@pe_callD _ _ _ _ _ _ _ _ _ _ _ G__law_held (hr.mono (by omega)) (by rfl) passR0 (@pa_cons _ _ _ _ _ (@pv _ 3 _ _ (by rfl) (by walk_at "o3") (by decide) (by decide)) (@pa_cons _ _ _ _ _ (@pv _ 7 _ _ (by rfl) (by walk_at "o3") (by decide) (by decide)) (@pa_cons _ _ _ _ _ (@pe_ix _ _ _ _ _ _ _ ix_any (@pe_callTy _ _ _ _ _ _ _ _ _ (call_listD rfl) (by rfl) B.list bt_list (@pa_cons _ _ _ _ _ (@pv _ 7 _ _ (by rfl) (by walk_at "o3") (by decide) (by decide)) (@pa_nil _) (by rfl)) (by decide) (by decide) (by rfl) (by rfl)) (@pe_op _ _ _ _ _ _ _ _ op_mod (@pe_op _ _ _ _ _ _ _ _ op_fdiv (@pv _ 11 _ _ (by rfl) (by walk_at "o3") (by decide) (by decide)) (@pe_int _ _ _ _)) (@pe_callB _ _ _ _ _ _ _ _ _ call_lenA (by rfl) B.len bt_len (@pa_cons _ _ _ _ _ (@pv _ 7 _ _ (by rfl) (by walk_at "o3") (by decide) (by decide)) (@pa_nil _) (by rfl)) (by decide) (by decide) (by rfl) (by rfl))) (fun _ _ => rfl)) (@pa_nil _) (by rfl)) (by rfl)) (by rfl)) (by decide) (by rfl) (by rfl)) (by intro _; rfl))) (@pss_one _ _ _ (@ps_ret _ _ _ _ (@pe_bl _ _ _ _))) (@pss_nil _))) (@pss_one _ _ _ (@ps_if _ _ _ _ _ _ _ _ (@pt_not _ _ _ _ (@pt_val _ _ _ (@pe_callD _ _ _ _ _ _ _ _ _ _ _ G__law_less (hr.mono (by omega)) (by rfl) passR0 (@pa_cons _ _ _ _ _ (@pv _ 3 _ _ (by rfl) (by walk_at "o3") (by decide) (by decide)) (@pa_cons _ _ _ _ _ (@pv _ 4 _ _ (by rfl) (by walk_at "o3") (by decide) (by decide)) (@pa_cons _ _ _ _ _ (@pv _ 5 _ _ (by rfl) (by walk_at "o3") (by decide) (by decide)) (@pa_cons _ _ _ _ _ (@pv _ 6 _ _ (by rfl) (by walk_at "o3") (by decide) (by decide)) (@pa_cons _ _ _ _ _ (@pv _ 7 _ _ (by rfl) (by walk_at "o3") (by decide) (by decide)) (@pa_cons _ _ _ _ _ (@pv _ 11 _ _ (by rfl) (by walk_at "o3") (by decide) (by decide)) (@pa_nil _) (by rfl)) (by rfl)) (by rfl)) (by rfl)) (by rfl)) (by rfl)) (by decide) (by rfl) (by rfl)) (by intro _; rfl))) (@pss_one _ _ _ (@ps_ret _ _ _ _ (@pe_bl _ _ _ _))) (@pss_nil _))))) (@pss_nil _)) (@pss_cons _ _ _ _ _ (@ps_if _ _ _ _ _ _ _ _ (@pt_not _ _ _ _ (@pt_val _ _ _ (@pe_callD _ _ _ _ _ _ _ _ _ _ _ G__law_is_store (hr.mono (by omega)) (by rfl) passR0 (@pa_cons _ _ _ _ _ (@pv _ 3 _ _ (by rfl) (by walk_at "o3") (by decide) (by decide)) (@pa_cons _ _ _ _ _ (@pv _ 4 _ _ (by rfl) (by walk_at "o3") (by decide) (by decide)) (@pa_cons _ _ _ _ _ (@pv _ 5 _ _ (by rfl) (by walk_at "o3") (by decide) (by decide)) (@pa_cons _ _ _ _ _ (@pv _ 6 _ _ (by rfl) (by walk_at "o3") (by decide) (by decide)) (@pa_cons _ _ _ _ _ (@pv _ 8 _ _ (by rfl) (by walk_at "o3") (by decide) (by decide)) (@pa_nil _) (by rfl)) (by rfl)) (by rfl)) (by rfl)) (by rfl)) (by decide) (by rfl) (by rfl)) (by intro _; rfl))) (@pss_one _ _ _ (@ps_ret _ _ _ _ (@pe_bl _ _ _ _))) (@pss_nil _)) (@pss_one _ _ _ (@ps_if _ _ _ _ _ _ _ _ (@pt_not _ _ _ _ (@pt_val _ _ _ (@pe_callD _ _ _ _ _ _ _ _ _ _ _ G__law_counts (hr.mono (by omega)) (by rfl) passR0 (@pa_cons _ _ _ _ _ (@pv _ 3 _ _ (by rfl) (by walk_at "o3") (by decide) (by decide)) (@pa_cons _ _ _ _ _ (@pv _ 4 _ _ (by rfl) (by walk_at "o3") (by decide) (by decide)) (@pa_cons _ _ _ _ _ (@pv _ 6 _ _ (by rfl) (by walk_at "o3") (by decide) (by decide)) (@pa_cons _ _ _ _ _ (@pv _ 7 _ _ (by rfl) (by walk_at "o3") (by decide) (by decide)) (@pa_cons _ _ _ _ _ (@pv _ 9 _ _ (by rfl) (by walk_at "o3") (by decide) (by decide)) (@pa_cons _ _ _ _ _ (@pe_op _ _ _ _ _ _ _ _ op_fdiv (@pv _ 11 _ _ (by rfl) (by walk_at "o3") (by decide) (by decide)) (@pe_int _ _ _ _)) (@pa_nil _) (by rfl)) (by rfl)) (by rfl)) (by rfl)) (by rfl)) (by rfl)) (by decide) (by rfl) (by rfl)) (by intro _; rfl))) (@pss_one _ _ _ (@ps_ret _ _ _ _ (@pe_bl _ _ _ _))) (@pss_nil _))))))))) (by intro _; rfl)) (@pss_one _ _ _ (@ps_ret _ _ _ _ (@pe_bl _ _ _ _)))))))))))), ?_⟩
    obtain ⟨L, hL, hs⟩ := scr_start hS hO
    clear hO
    refine seqK fun M1 K1 => ?_
    walk_at "ge"
    refine ⟨a, ns, 0, rfl, by decide, hS, ?_⟩
    walk_at "ge"
    generalize ns.getD (Int.toNat 0) 0 = first
    refine ⟨first, L, rfl, hL, fun p0 H1 hl1 => ?_⟩
    obtain ⟨z1, z2, z3, z4⟩ := sizesOf_ok first
    obtain ⟨n, hn⟩ : ∃ n : Nat, (sizesOf first).1 = n := ⟨_, (Int.toNat_of_nonneg (by omega)).symm⟩
    obtain ⟨q, hq⟩ : ∃ q : Nat, (sizesOf first).2 = q := ⟨_, (Int.toNat_of_nonneg z3).symm⟩
    rw [hn, hq] at hl1
    rw [hn] at z1 z2
    rw [hq] at z3 z4
    clear hn hq
    walk_at "ge"
    refine tupN2 (hl1.get mS) ?_
    walk_at "ge"
    refine K1.use ?_
    walk_at "cl"
    clear K1
    refine seqK fun M1 K1 => ?_
    walk_at "ge"
    intro st dx y1 y2 y3
    refine ⟨st, dx, n, q, _, rfl, hl1.make y1 y2 y3, by omega, by omega, fun fr dfr l r s' di ddi mk0 sh dsh pl rd fi dfi fd ho H2 hl2 => ⟨rfl, ?_⟩⟩
    clear y1 y2 y3
    walk_at "ge"
    refine K1.use ?_
    walk_at "cl"
    clear K1
    obtain ⟨S0', eS0⟩ : ∃ S, S = S0 st dx fr dfr l r s' di ddi mk0 sh dsh pl rd fi dfi fd ho n q := ⟨_, rfl⟩
    rw [← eS0] at hl2
    refine seqK fun M1 K1 => ?_
    walk_at "ge"
    rename Led _ _ => hl3
    refine repH (hl3.get mS) ⟨by omega, by omega⟩ (by have := sizeLine_eq; simp only [List.length_cons, List.length_nil]; omega) (Led.alloc hl3 fun sp H3 _ hl4 _ => ?_)
    rw [repV, Int.toNat_natCast] at hl4
    walk_at "ge"
    refine K1.use ?_
    walk_at "cl"
    clear K1
    refine seqK fun M1 K1 => ?_
    walk_at "ge"
    rename Led _ _ => hl5
    refine repH (hl5.get mS) ⟨by omega, by omega⟩ (by have := sizeLine_eq; simp only [List.length_cons, List.length_nil]; omega) (Led.alloc hl5 fun mk H4 _ hl6 _ => ?_)
    rw [repBls, Int.toNat_natCast] at hl6
    walk_at "ge"
    refine K1.use ?_
    walk_at "cl"
    clear K1
    refine seqK fun M1 K1 => ?_
    walk_at "ge"
    rename Led _ _ => hl7
    refine repH (hl7.get mS) ⟨by omega, by omega⟩ (by have := sizeLine_eq; simp only [List.length_cons, List.length_nil]; omega) (Led.alloc hl7 fun sf H5 _ hl8 _ => ?_)
    rw [repV, Int.toNat_natCast] at hl8
    walk_at "ge"
    refine K1.use ?_
    walk_at "cl"
    clear K1
    refine seqK fun M1 K1 => ?_
    walk_at "ge"
    rename_i ld H6 _ hl9 _
    refine K1.use ?_
    walk_at "cl"
    clear K1
    have hl10 : Led H6 ((sp, .lst (List.replicate n .non)) :: (mk, .lst ((List.replicate n false).map V.bl)) :: (sf, .lst (List.replicate q .non)) :: (ld, .dK []) :: StC cT cF cD cS cI S0' ((p0, .tup [.int (n : Nat), .int (q : Nat)]) :: L)) := hl9.wk (by walk_at "sp")
    clear hl9 hl8 hl7 hl6 hl5 hl4 hl3 hl2 hl1
    have hl11 : Led H6 (StC cT cF cD cS cI S0' (LwC sp mk sf ld (List.replicate n .non) S0' ++ ((p0, .tup [.int (n : Nat), .int (q : Nat)]) :: L))) := St.pushN [_, _, _, _] (by rw [eS0] at hl10 ⊢; exact hl10)
    clear hl10
    refine seqK fun M1 K1 => ?_
    walk_at "ge"
    refine K1.use ?_
    walk_at "cl"
    clear K1
    refine seqK fun M1 K1 => ?_
    walk_at "ge"
    refine K1.use ?_
    walk_at "cl"
    clear K1
    have hsq : SqL K H6 a (ns.map V.int) := hs.seq ((St.rest hl11).right).tail
    refine seqK fun M1 K1 => ?_
    refine forL fun Lr hLr => ?_
    walk_at "ge"
    obtain ⟨cs, hcs, hcl⟩ := cut_ints ns (some 1) (some 70)
    have hmem : ∀ x ∈ cs, x ∈ ns := fun x hx => by
      have h1 : V.int x ∈ cutV (ns.map V.int) (some 1) (some 70) := by rw [hcs]; exact List.mem_map.mpr ⟨x, hx, rfl⟩
      unfold cutV at h1
      have h2 := List.mem_of_mem_drop (List.mem_of_mem_take h1)
      obtain ⟨y, hy, e⟩ := List.mem_map.mp h2
      cases e
      exact hy
    refine slLH hsq fun sl hsl => ?_
    rw [hcs]
    refine ⟨sl, rfl, ⟨_, SqL.of upd_same⟩, hLr.use ?_⟩
    have hl12 := hl11.new (o := .lst (cs.map V.int)) hsl
    generalize upd H6 sl (.lst (cs.map V.int)) = H7 at hl12 ⊢
    have hl13 : Led H7 (StC cT cF cD cS cI S0' (LwC sp mk sf ld (List.replicate n .non) S0' ++ ([(sl, .lst (cs.map V.int))] ++ ((p0, .tup [.int (n : Nat), .int (q : Nat)]) :: L)))) := St.permM (St.push hl12) (swap2 [(sl, HO.lst (cs.map V.int))] (LwC sp mk sf ld (List.replicate n .non) S0') _)
    clear hLr hsq hl11 hsl hl12 hcs
    walk_at "cl"
    refine loopL (cs.map V.int) (fun i σ H' => ∃ (S : SS) (us : List V) (M : Cells), Lw st n q sp mk sf ld S us M (1 + i) H' cT cF cD cS cI ∧ (sl, HO.lst (cs.map V.int)) ∈ M ∧ ∃ v1 v2 v3, σ = [some (.ref a), some (.int (n : Nat)), some (.int (q : Nat)), some (.ref st), some (.ref sp), some (.ref mk), some (.ref sf), some (.ref ld), some (.int (S.p : Nat)), some (.int S.made), v1, v2, v3]) ?_ (fun i σ H' _ h => ?_) ?_ ?_
    · have ep0 : S0'.p = 0 := by rw [eS0]; rfl
      have em0 : S0'.made = 0 := by rw [eS0]; rfl
      have ehs0 : S0'.hs = [] := by rw [eS0]; rfl
      refine ⟨S0', _, _, ⟨hl13, by rw [eS0]; exact OkSt.laid (by omega) (by omega) (by omega), by rw [eS0]; exact OkH.laid, SpM.laid (by rw [eS0]; rfl), by rw [eS0]; rfl, fun e he => by rw [ehs0] at he; exact nomatch he⟩, mS, none, none, none, ?_⟩
      rw [ep0, em0]
      rfl
    · obtain ⟨S, us, M, lw, i_s, _⟩ := h
      exact SqL.of (lw.l.get (St.up (mA i_s)))
    · clear hl13 K1 k
      rintro i v σ H' hv ⟨S, us, M, lw, i_s, v1, v2, v3, rfl⟩
      rw [List.getElem?_map] at hv
      obtain ⟨raw, hcell, rfl⟩ := Option.map_eq_some_iff.mp hv
      have hcb := hbits raw (hmem raw (List.mem_of_getElem? hcell))
      have hi : i < cs.length := (List.getElem?_eq_some_iff.mp hcell).1
      refine seqK fun M2 K2 => ?_
      walk_at "ge"
      obtain ⟨c, hc⟩ : ∃ c : Int, raw * 48271 % 104729 = c := ⟨_, rfl⟩
      have c0 : 0 ≤ c := by rw [← hc]; exact Int.emod_nonneg _ (by decide)
      have c9 : c < 104729 := by rw [← hc]; exact Int.emod_lt_of_pos _ (by decide)
      have hbc : Builtin.Int.intBits c ≤ 1400000 := Nat.le_trans (bits_small (by omega) (by omega)) (by decide)
      rw [hc]
      refine K2.use ?_
      walk_at "cl"
      clear K2 hc hcb hv
      refine seqK fun M2 K2 => ?_
      have rest1 : ∀ (S : SS) (us : List V) (M : Cells) (H2 : Hp), Lw st n q sp mk sf ld S us M (1 + i) H2 cT cF cD cS cI → (sl, HO.lst (cs.map V.int)) ∈ M → M2 [some (.ref a), some (.int (n : Nat)), some (.int (q : Nat)), some (.ref st), some (.ref sp), some (.ref mk), some (.ref sf), some (.ref ld), some (.int (S.p : Nat)), some (.int S.made), some (.int raw), some (.int c), v3] H2 := by
        clear lw i_s
        intro S us M H2 lw i_s
        refine K2.use ?_
        clear K2
        have h6 := lw.h6 (by omega)
        have el : (kvH S.hs).length = S.hs.length := by unfold kvH; exact List.length_map ..
        have c_l := lw.l.get (St.up (mC (mC (mC mS))))
        refine seqK fun M2 K2 => ?_
        have rest2 : ∀ fr : Bool, M2 [some (.ref a), some (.int (n : Nat)), some (.int (q : Nat)), some (.ref st), some (.ref sp), some (.ref mk), some (.ref sf), some (.ref ld), some (.int (S.p : Nat)), some (.int S.made), some (.int raw), some (.int c), some (.bl fr)] H2 := by
          intro fr
          refine K2.use ?_
          clear K2
          refine seqK fun M2 K2 => ?_
          have rest3 : ∀ (S : SS) (us : List V) (M : Cells) (H2 : Hp) (fr : Bool), Lw st n q sp mk sf ld S us M (1 + i) H2 cT cF cD cS cI → (sl, HO.lst (cs.map V.int)) ∈ M → M2 [some (.ref a), some (.int (n : Nat)), some (.int (q : Nat)), some (.ref st), some (.ref sp), some (.ref mk), some (.ref sf), some (.ref ld), some (.int (S.p : Nat)), some (.int S.made), some (.int raw), some (.int c), some (.bl fr)] H2 := by
            clear lw i_s h6 el c_l fr
            intro S us M H2 fr lw i_s
            refine K2.use ?_
            clear K2
            have h6 := lw.h6 (by omega)
            have el : (kvH S.hs).length = S.hs.length := by unfold kvH; exact List.length_map ..
            have c_l := lw.l.get (St.up (mC (mC (mC mS))))
            refine seqK fun M2 K2 => ?_
            have rest4 : ∀ (S : SS) (us : List V) (M : Cells) (H2 : Hp), Lw st n q sp mk sf ld S us M (1 + (i + 1)) H2 cT cF cD cS cI → (sl, HO.lst (cs.map V.int)) ∈ M → M2 [some (.ref a), some (.int (n : Nat)), some (.int (q : Nat)), some (.ref st), some (.ref sp), some (.ref mk), some (.ref sf), some (.ref ld), some (.int (S.p : Nat)), some (.int S.made), some (.int raw), some (.int c), some (.bl fr)] H2 := by
              clear lw i_s h6 el c_l
              intro S us M H2 lw i_s
              refine K2.use ?_
              clear K2
              have h6 := lw.h6 (by omega)
              refine seqK fun M2 K2 => ?_
              walk_at "ge"
              refine ⟨S, n, q, sp, mk, sf, us, _, by rw [lw.b]; rfl, lw.l, lw.g.mono (fun x hx => mA hx), mS, mC mS, mC (mC mS), lw.s.mono (fun x hx => mA hx), fun N3 H3 hl3 => ?_⟩
              walk_at "ge"
              refine K2.use ?_
              walk_at "cl"
              clear K2
              walk_at "ge"
              refine ⟨S, n, q, _, sp, sf, ld, us, _, by rw [lw.b]; rfl, hl3, mA mS, mA (mC (mC mS)), mA (mC (mC (mC mS))), lw.s.l.trans lw.g.f.h, lw.g.mono (fun x hx => mA (mA hx)), lw.gh, h6, by omega, fun N4 H4 hl4 => ?_⟩
              walk_at "ge"
              have up : ∀ x ∈ M, x ∈ (N4 ++ N3) ++ M := fun x hx => mA hx
              refine ⟨S, us, (N4 ++ N3) ++ M, ⟨St.permM hl4 ?_, lw.g.mono up, lw.gh, lw.s.mono up, lw.b, lw.c⟩, up _ i_s, _, _, _, rfl⟩
              rw [← List.append_assoc]
              exact swap2 _ _ _
            clear K2
            cases fr with
            | true =>
              walk_at "ge"
              exact rest4 S us M H2 (lw.up (by omega)) i_s
            | false =>
              walk_at "ge"
              · have hne : S.hs ≠ [] := fun z => by
                  have h : (0 : Int) < ((kvH S.hs).length : Int) := by assumption
                  rw [z] at h
                  exact absurd h (by decide)
                obtain ⟨e, he, hpos, hat⟩ := pickH hne (c / 8)
                refine ⟨by rw [sizeLine_eq]; decide, Led.alloc lw.l fun tp H3 _ hl3 _ => ?_⟩
                have c_l2 := hl3.get (mC (St.up (mC (mC (mC mS)))))
                have up1 : ∀ x ∈ M, x ∈ [(tp, HO.tup [V.int 3, V.int 4])] ++ M := fun x hx => mA hx
                have hl4 : Led H3 (StC cT cF cD cS cI S (LwC sp mk sf ld us S ++ ([(tp, HO.tup [V.int 3, V.int 4])] ++ M))) := St.permM (St.push hl3) (swap2 [(tp, HO.tup [V.int 3, V.int 4])] (LwC sp mk sf ld us S) M)
                clear c_l
                walk_at "ge"
                refine ⟨tp, _, rfl, .inr (SqT.of (hl3.get mS)), rfl, rfl, ?_⟩
                clear hl3
                obtain ⟨bv, hbv⟩ : ∃ bv, inV (V.int (c % 8)) [V.int 3, V.int 4] = bv := ⟨_, rfl⟩
                rw [hbv, if_neg Bool.false_ne_true]
                cases bv with
                | true =>
                  walk_at "ge"
                  refine listDH c_l2 (kvH_keys S.hs) (Led.alloc hl4 fun ky H4 _ hl5 _ => ?_)
                  have c_l3 := hl5.get (mC (St.up (mC (mC (mC mS)))))
                  have c_k := hl5.get mS
                  clear c_l2
                  walk_at "ge"
                  obtain ⟨C, hC⟩ : ∃ C, (ky, HO.lst (List.map V.int (List.map (fun x : Int × Int => x.1) S.hs))) = C := ⟨_, rfl⟩
                  have hl6 := St.push hl5
                  rw [hC] at hl6
                  have hl7 : Led H4 (StC cT cF cD cS cI S ((ld, .dK (kvH S.hs)) :: (C :: (sp, .lst us) :: (mk, .lst (S.bs.map V.bl)) :: (sf, .lst S.ps) :: ([(tp, HO.tup [V.int 3, V.int 4])] ++ M)))) := St.permM hl6 (swap2 [C, (sp, .lst us), (mk, .lst (S.bs.map V.bl)), (sf, .lst S.ps)] [(ld, .dK (kvH S.hs))] ([(tp, HO.tup [V.int 3, V.int 4])] ++ M))
                  clear hl5 hl6
                  refine ⟨S, e.1, e.2, ld, _, by rw [lw.b]; rfl, hl7, h6, lw.gh.nd, he, fun H5 hl8 => ?_⟩
                  have up2 : ∀ x ∈ M, x ∈ [C] ++ ([(tp, HO.tup [V.int 3, V.int 4])] ++ M) := fun x hx => mA (up1 x hx)
                  have hl9 : Led H5 (StC cT cF cD cS cI { S with hs := putH S.hs e.1 (e.2 + 1) } (LwC sp mk sf ld us { S with hs := putH S.hs e.1 (e.2 + 1) } ++ ([C] ++ ([(tp, HO.tup [V.int 3, V.int 4])] ++ M)))) := St.permM hl8 (swap2 [(ld, .dK (kvH (putH S.hs e.1 (e.2 + 1)))), C] [(sp, .lst us), (mk, .lst (S.bs.map V.bl)), (sf, .lst S.ps)] ([(tp, HO.tup [V.int 3, V.int 4])] ++ M))
                  have e1 := lw.gh.c1 e he
                  have e2 := lw.c e he
                  walk_at "ge"
                  refine rest4 { S with hs := putH S.hs e.1 (e.2 + 1) } us _ H5 ⟨hl9, OkSt.mono { lw.g with } up2, lw.gh.count (by omega), SpM.same (S := S) rfl (lw.s.mono up2), lw.b, fun x hx => ?_⟩ (up2 _ i_s)
                  rcases putH_in hx with h | h
                  · rw [h]; omega
                  · have := lw.c x h; omega
                | false =>
                  walk_at "ge"
                  refine ⟨S, n, q, c, ((1 + i : Nat) : Int), sp, mk, sf, ld, us, _, by rw [lw.b]; rfl, hl4, lw.g.mono up1, lw.gh, lw.s.mono up1, h6, lw.c, ?_, hne, c0, fun S' us' N3 H4 q1 q2 q3 q4 q5 g' gh' s' hl5 => ?_⟩
                  · have : i < 70 := by omega
                    omega
                  walk_at "ge"
                  have h4 := rest4 S' us' (N3 ++ ([(tp, HO.tup [V.int 3, V.int 4])] ++ M)) H4 ⟨hl5, g', gh', s', q1.trans lw.b, fun e he => by have := q5 e he; omega⟩ (mA (up1 _ i_s))
                  rw [q2, q3] at h4
                  exact h4
              · exact rest4 S us M H2 (lw.up (by omega)) i_s
          clear K2
          cases fr with
          | false =>
            walk_at "ge"
            exact rest3 S us M H2 false lw i_s
          | true =>
            walk_at "ge"
            · have h0 : (n : Int) - 1 + (q : Int) = ((kvH S.hs).length : Int) := by assumption
              rw [el] at h0
              refine ⟨c, _, rfl, hbc, lw.l, fun r0 H3 hl3 => ?_⟩
              walk_at "ge"
              refine ⟨S, n, q, r0, rowOf c, _, by rw [lw.b]; rfl, St.push hl3, lw.g.mono (fun x hx => mC (mA hx)), lw.gh, mS, rowOf_len c, h6, by omega, fun N3 H4 hl4 => ?_⟩
              walk_at "ge"
              have up : ∀ x ∈ M, x ∈ (N3 ++ [(r0, HO.lst ((rowOf c).map V.int))]) ++ M := fun x hx => mA hx
              refine rest3 S us ((N3 ++ [(r0, HO.lst ((rowOf c).map V.int))]) ++ M) H4 false ⟨St.permM hl4 ?_, lw.g.mono up, lw.gh, lw.s.mono up, lw.b, lw.c⟩ (up _ i_s)
              rw [show N3 ++ (r0, HO.lst ((rowOf c).map V.int)) :: (LwC sp mk sf ld us S ++ M) = (N3 ++ [(r0, HO.lst ((rowOf c).map V.int))]) ++ (LwC sp mk sf ld us S ++ M) by simp]
              exact swap2 _ _ _
            · have h0 : ¬ (n : Int) - 1 + (q : Int) = ((kvH S.hs).length : Int) := by assumption
              rw [el] at h0
              refine ⟨S, n, q, c, sp, mk, sf, ld, us, M, by rw [lw.b]; rfl, lw.l, lw.g, lw.gh, lw.s, h6, hbc, by omega, fun S' us' N3 H3 e1 e2 e3 g3 gh3 s3 hl3 => ?_⟩
              walk_at "ge"
              all_goals first | (exfalso; omega) | skip
              have := rest3 S' us' (N3 ++ M) H3 true ⟨hl3, g3, gh3, s3, e1.trans lw.b, fun e he => ?_⟩ (mA i_s)
              · rw [e2] at this
                exact this
              · rw [e3] at he
                rcases List.mem_append.mp he with he | he
                · exact lw.c e he
                · rw [List.mem_singleton.mp he]
                  show (1 : Int) ≤ ((1 + i : Nat) : Int)
                  omega
        clear K2
        walk_at "ge"
        · exact rest2 _
        · exact rest2 _
      clear K2
      walk_at "ge"
      · refine ⟨S, n, c, mk, (sp, .lst us) :: (sf, .lst S.ps) :: (ld, .dK (kvH S.hs)) :: M, by rw [lw.b]; rfl, St.permM lw.l (List.Perm.swap ..), lw.g.bl, lw.g.n1, lw.g.n64, c0, c9, fun j H3 hj hl3 => ?_⟩
        walk_at "ge"
        exact rest1 { S with bs := S.bs.set j true } us M H3 ⟨St.permM hl3 (List.Perm.swap ..), lw.g.turned lw.g.pn ((List.length_set ..).trans lw.g.bl), { lw.gh with }, SpM.same (S := S) rfl lw.s, lw.b, lw.c⟩ i_s
      · exact rest1 S us M H' lw i_s
    · clear hl13
      rintro σ H' ⟨S, us, M, lw, i_s, v1, v2, v3, rfl⟩
      walk_at "ge"
      refine K1.use ?_
      walk_at "ge"
      exact k _
end
section
variable {P : Program} {w : World} {K : PySem.W.Frag} {mg : Str → Option Value} {base : Heap} {cP cU cA cB c1 c2 c3 cC c4 c5 cT cF cD cS cI : Addr}
theorem ok_all {f : Addr} {fd : FuncData} (F : Fun K "law" "law" s_law f fd) (B : Blt mg) (T : Txt K mg cP cU cA cB c1 c2 c3 cC c4 c5 cT cF cD cS cI) : FnOk P w K mg base (CXR P w) 9 f fd ["_law_script"] (spLawB K) := by
  have m_where := ok_where (P := P) (w := w) (base := base) T.m_Frames_where B T
  have m_things := ok_things (P := P) (w := w) (base := base) T.m_Frames_things B T
  have m_row := ok_row_in (P := P) (w := w) (base := base) T.m_Frames_row_in B T
  have m_touch := ok_touch (P := P) (w := w) (base := base) T.m_Dial_touch T
  have m_full := ok_full (P := P) (w := w) (base := base) T.m_Shelf_is_full T
  have m_sheets := ok_sheets (P := P) (w := w) (base := base) T.m_Shelf_sheets B T
  have m_put := ok_put (P := P) (w := w) (base := base) T.m_Shelf_put_on B T m_full
  have m_take := ok_take (P := P) (w := w) (base := base) T.m_Shelf_take_off B T
  have m_name := ok_ask_name (P := P) (w := w) (base := base) T.m_Files_ask_name B T
  have m_size := ok_size (P := P) (w := w) (base := base) T.m_Files_size_of B T m_name
  have m_page := ok_ask_page (P := P) (w := w) (base := base) T.m_Files_ask_page B T m_size
  have m_store := ok_store (P := P) (w := w) (base := base) T.m_Files_store_row B T m_page
  have g_is := ok_is_sheet (P := P) (w := w) (base := base) T.d_is_sheet T
  have g_free := ok_free (P := P) (w := w) (base := base) T.d_free_frame T (ok_empty T.m_Frames_empty B T) (ok_clear T.m_Dial_clear T)
  have g_out := ok_put_out (P := P) (w := w) (base := base) T.d_put_out T (ok_thing_in T.m_Frames_thing_in T) m_row (ok_soiled T.m_Frames_is_soiled T) m_put m_store g_is g_free
  have g_have := ok_have (P := P) (w := w) (base := base) T.d_have_frame B T (ok_least_free T.m_Frames_least_free T m_where) m_things m_full (ok_choose T.m_Dial_choose B T) g_is g_out
  have g_room := ok_room (P := P) (w := w) (base := base) T.d_room_of B T m_things m_sheets
  have g_holders := ok_holders (P := P) (w := w) (base := base) (cT := cT) (cF := cF) (cD := cD) (cS := cS) (cI := cI) T.d_holders_of B T
  have g_new := ok_new (P := P) (w := w) (base := base) T.d_new_sheet B T (ok_fill T.m_Frames_fill B T) g_room g_have
  have g_let := ok_let (P := P) (w := w) (base := base) T.d_let_go B T (ok_end T.d_end_sheet B T m_where m_take g_free)
  have g_whole := ok_whole (P := P) (w := w) (base := base) T.d_l_whole B T
  have g_alike := ok_alike (P := P) (w := w) (base := base) T.d_l_alike B T g_whole 2
  have g_row := ok_row (P := P) (w := w) (base := base) T.d_l_row B T (ok_num T.d_l_num T)
  have l_let := ok_letL (P := P) (w := w) (base := base) T.d_l_let B T m_where (ok_has T.m_Shelf_has T) g_let g_alike
  have l_made := ok_madeL (P := P) (w := w) (base := base) T.d_l_made B T m_row g_new (ok_goes T.d_l_goes B T g_whole) g_row g_alike
  have l_is := ok_is_store (P := P) (w := w) (base := base) T.d_l_is_store B T m_things (ok_marks T.m_Dial_marks B T) (ok_pointer T.m_Dial_pointer T) m_sheets g_alike
  exact ok_law F B T (ok_tinit T.i_Store T (ok_finit T.i_Frames T) (ok_dinit T.i_Dial T) (ok_shinit T.i_Shelf T) (ok_iinit T.i_Files T)) (ok_cell_at T.d_l_cell_at B) (ok_sizes T.d_l_sizes T) g_row (ok_touched T.d_l_touched B T m_touch) (ok_refusedL T.d_l_refused B T g_new) l_made (ok_heldL T.d_l_held B T (ok_hold T.d_hold B T) g_alike) (ok_lessL T.d_l_less B T l_let) l_is (ok_countsL T.d_l_counts B T g_room g_holders g_alike)
end
end My
set_option Elab.async false
set_option linter.all false
set_option maxRecDepth 100000
def PySem.W.Fast.tw14080480634470962617 : Unit := ()
def PySem.W.Fast.tw6931880815392199593 : Unit := ()
def PySem.W.Fast.tw5022055735590947332 : Unit := ()
def PySem.W.Fast.tw8382967269633181850 : Unit := ()
def PySem.W.Fast.tw6672177431599608614 : Unit := ()
def PySem.W.Fast.tw2004030357690502037 : Unit := ()
def PySem.W.Fast.tw16982995937753479510 : Unit := ()
def PySem.W.Fast.tw2359148087476380516 : Unit := ()
def PySem.W.Fast.tw17927900756688009103 : Unit := ()
def PySem.W.Fast.tw14114069837604903743 : Unit := ()
def PySem.W.Fast.tw11045701873936343599 : Unit := ()
def PySem.W.Fast.tw15205633411959331307 : Unit := ()
def PySem.W.Fast.tw2543335016130044432 : Unit := ()
def PySem.W.Fast.tw13150720504252854494 : Unit := ()
def PySem.W.Fast.tw7273449554147120966 : Unit := ()
def PySem.W.Fast.tw317140907387986572 : Unit := ()
def PySem.W.Fast.tw7771338758363531059 : Unit := ()
def PySem.W.Fast.tw6368381205056488815 : Unit := ()
def PySem.W.Fast.tw1098264654753183114 : Unit := ()
def PySem.W.Fast.tw10470722555137232027 : Unit := ()
def PySem.W.Fast.tw18199642149133454176 : Unit := ()
open PySem PySem.W PyProof.Rows
set_option maxRecDepth 100000 in
set_option maxHeartbeats 0 in
theorem PySem.Challenge.cw_paneworks_k43_sheets_counted_holds : PySem.Challenge.rw_paneworks_k43_sheets_counted.Holds := by
  w_on; o_law; k_head; (case hw => w_witness2)
  k_fill
  refine L2.law_walkB (l := PySem.Challenge.rw_paneworks_k43_sheets_counted) (k := 9) (x := "_law_script") rfl rfl ⟨rfl, by decide, by decide⟩ (fun w h Y => PySem.W.kIn_of Y) ?F
  case F =>
    intro w mg fa h KX G hmg
    have B : L2.Blt mg := by
      refine' L2.blt_mk KX G ?z0 ?z1 ?z2 ?z3 ?z4 ?z5 ?z6 ?z7 ?z8 ?z9 ?z10 ?z11 ?z12 ?z13 ?z14 ?z15 ?z16
      all_goals k_is
    have T : ∃ cP cU cA cB c1 c2 c3 cC c4 c5 cT cF cD cS cI, My.Txt (L2.KOf KX) mg cP cU cA cB c1 c2 c3 cC c4 c5 cT cF cD cS cI := by
      dsimp only [L2.KOf]
      refine' My.txt_mk KX G ?y1 ?y2 ?y3 ?y4 ?y5 ?y6 ?y7 ?y8 ?y9 ?y10 ?y11 ?y12 ?y13 ?y14 ?y15 ?y16 ?y17 ?y18 ?y19 ?y20 ?y21 ?y22 ?y23 ?y24 ?y25 ?y26 ?y27 ?y28 ?y29 ?y30 ?y31 ?y32 ?y33 ?y34 ?y35 ?y36 ?y37 ?y38 ?y39 ?y40 ?y41 ?y42 ?y43 ?y44 ?y45 ?y46 ?y47 ?y48 ?y49 ?y50 ?y51 ?y52 ?y53 ?y54 ?y55 ?y56 ?y57 ?y58 ?y59 ?y60 ?y61 ?y62 ?y63 ?y64 ?y65 ?y66 ?y67 ?y68 ?y69 ?y70 ?y71 ?y72 ?y73 ?y74 ?y75 ?y76 ?y77 ?y78 ?y79 ?y80 ?y81 ?y82 ?y83 ?y84 ?y85 ?y86 ?y87 ?y88 ?y89 ?y90 ?y91 ?y92 ?y93 ?y94 ?y95 ?y96 ?y97 ?y98 ?y99 ?y100 ?y101 ?y102 ?y103 ?y104 ?y105 ?y106 ?y107 ?y108 ?y109 ?y110 ?y111 ?y112 ?y113 ?y114 ?y115 ?y116 ?y117 ?y118 ?y119 ?y120 ?y121 ?y122 ?y123 ?y124 ?y125 ?y126 ?y127 ?y128 ?y129 ?y130 ?y131 ?y132 ?y133 ?y134 ?y135 ?y136 ?y137 ?y138 ?y139 ?y140 ?y141 ?y142 ?y143 ?y144 ?y145 ?y146 ?y147 ?y148 ?y149 ?y150 ?y151 ?y152 ?y153 ?y154 ?y155 ?y156 ?y157 ?y158 ?y159 ?y160 ?y161 ?y162 ?y163 ?y164 ?y165 ?y166 ?y167 ?y168 ?y169 ?y170 ?y171 ?y172 ?y173 ?y174 ?y175 ?y176 ?y177 ?y178 ?y179 ?y180 ?y181 ?y182 ?y183 ?y184 ?y185 ?y186 ?y187 ?y188 ?y189 ?y190 ?y191 ?y192 ?y193 ?y194 ?y195 ?y196 ?y197 ?y198 ?y199 ?y200 ?y201 ?y202 ?y203 ?y204 ?y205 ?y206 ?y207 ?y208 ?y209 ?y210 ?y211 ?y212 ?y213 ?y214 ?y215 ?y216 ?y217 ?y218 ?y219 ?y220 ?y221 ?y222 ?y223 ?y224 ?y225 ?y226 ?y227 ?y228 ?y229 ?y230 ?y231 ?y232 ?y233 ?y234 ?y235 ?y236 ?y237 ?y238 ?y239 ?y240 ?y241 ?y242 ?y243 ?y244 ?y245 ?y246 ?y247 ?y248 ?y249 ?y250 ?y251 ?y252 ?y253 ?y254 ?y255 ?y256 ?y257 ?y258 ?y259 ?y260 ?y261 ?y262 ?y263 ?y264 ?y265 ?y266 ?y267 ?y268 ?y269 ?y270 ?y271 ?y272 ?y273 ?y274 ?y275 ?y276 ?y277 ?y278 ?y279 ?y280 ?y281 ?y282 ?y283 ?y284 ?y285 ?y286 ?y287 ?y288 ?y289 ?y290 ?y291 ?y292 ?y293 ?y294 ?y295 ?y296 ?y297 ?y298 ?y299 ?y300 ?y301 ?y302 ?y303 ?y304 ?y305 ?y306 ?y307 ?y308 ?y309 ?y310 ?y311 ?y312 ?y313
      (case y1 => first | k_is | kernel_rfl)
      (case y2 => first | k_is | kernel_rfl)
      (case y3 => first | k_is | kernel_rfl)
      (case y4 => first | k_is | kernel_rfl)
      (case y5 => first | k_is | kernel_rfl)
      (case y6 => first | k_is | kernel_rfl)
      (case y7 => first | k_is | kernel_rfl)
      (case y8 => first | k_is | kernel_rfl)
      (case y9 => first | k_is | kernel_rfl)
      (case y10 => first | k_is | kernel_rfl)
      (case y11 => first | k_is | kernel_rfl)
      (case y12 => first | k_is | kernel_rfl)
      (case y13 => first | k_is | kernel_rfl)
      (case y14 => first | k_is | kernel_rfl)
      (case y15 => first | k_is | kernel_rfl)
      (case y16 => first | k_is | kernel_rfl)
      (case y17 => first | k_is | kernel_rfl)
      (case y18 => first | k_is | kernel_rfl)
      (case y19 => first | k_is | kernel_rfl)
      (case y20 => first | k_is | kernel_rfl)
      (case y21 => first | k_is | kernel_rfl)
      (case y22 => first | k_is | kernel_rfl)
      (case y23 => first | k_is | kernel_rfl)
      (case y24 => first | k_is | kernel_rfl)
      (case y25 => first | k_is | kernel_rfl)
      (case y26 => first | k_is | kernel_rfl)
      (case y27 => first | k_is | kernel_rfl)
      (case y28 => first | k_is | kernel_rfl)
      (case y29 => first | k_is | kernel_rfl)
      (case y30 => first | k_is | kernel_rfl)
      (case y31 => first | k_is | kernel_rfl)
      (case y32 => first | k_is | kernel_rfl)
      (case y33 => first | k_is | kernel_rfl)
      (case y34 => first | k_is | kernel_rfl)
      (case y35 => first | k_is | kernel_rfl)
      (case y36 => first | k_is | kernel_rfl)
      (case y37 => first | k_is | kernel_rfl)
      (case y38 => first | k_is | kernel_rfl)
      (case y39 => first | k_is | kernel_rfl)
      (case y40 => first | k_is | kernel_rfl)
      (case y41 => first | k_is | kernel_rfl)
      (case y42 => first | k_is | kernel_rfl)
      (case y43 => first | k_is | kernel_rfl)
      (case y44 => first | k_is | kernel_rfl)
      (case y45 => first | k_is | kernel_rfl)
      (case y46 => first | k_is | kernel_rfl)
      (case y47 => first | k_is | kernel_rfl)
      (case y48 => first | k_is | kernel_rfl)
      (case y49 => first | k_is | kernel_rfl)
      (case y50 => first | k_is | kernel_rfl)
      (case y51 => first | k_is | kernel_rfl)
      (case y52 => first | k_is | kernel_rfl)
      (case y53 => first | k_is | kernel_rfl)
      (case y54 => first | k_is | kernel_rfl)
      (case y55 => first | k_is | kernel_rfl)
      (case y56 => first | k_is | kernel_rfl)
      (case y57 => first | k_is | kernel_rfl)
      (case y58 => first | k_is | kernel_rfl)
      (case y59 => first | k_is | kernel_rfl)
      (case y60 => first | k_is | kernel_rfl)
      (case y61 => first | k_is | kernel_rfl)
      (case y62 => first | k_is | kernel_rfl)
      (case y63 => first | k_is | kernel_rfl)
      (case y64 => first | k_is | kernel_rfl)
      (case y65 => first | k_is | kernel_rfl)
      (case y66 => first | k_is | kernel_rfl)
      (case y67 => first | k_is | kernel_rfl)
      (case y68 => first | k_is | kernel_rfl)
      (case y69 => first | k_is | kernel_rfl)
      (case y70 => first | k_is | kernel_rfl)
      (case y71 => first | k_is | kernel_rfl)
      (case y72 => first | k_is | kernel_rfl)
      (case y73 => first | k_is | kernel_rfl)
      (case y74 => first | k_is | kernel_rfl)
      (case y75 => first | k_is | kernel_rfl)
      (case y76 => first | k_is | kernel_rfl)
      (case y77 => first | k_is | kernel_rfl)
      (case y78 => first | k_is | kernel_rfl)
      (case y79 => first | k_is | kernel_rfl)
      (case y80 => first | k_is | kernel_rfl)
      (case y81 => first | k_is | kernel_rfl)
      (case y82 => first | k_is | kernel_rfl)
      (case y83 => first | k_is | kernel_rfl)
      (case y84 => first | k_is | kernel_rfl)
      (case y85 => first | k_is | kernel_rfl)
      (case y86 => first | k_is | kernel_rfl)
      (case y87 => first | k_is | kernel_rfl)
      (case y88 => first | k_is | kernel_rfl)
      (case y89 => first | k_is | kernel_rfl)
      (case y90 => first | k_is | kernel_rfl)
      (case y91 => first | k_is | kernel_rfl)
      (case y92 => first | k_is | kernel_rfl)
      (case y93 => first | k_is | kernel_rfl)
      (case y94 => first | k_is | kernel_rfl)
      (case y95 => first | k_is | kernel_rfl)
      (case y96 => first | k_is | kernel_rfl)
      (case y97 => first | k_is | kernel_rfl)
      (case y98 => first | k_is | kernel_rfl)
      (case y99 => first | k_is | kernel_rfl)
      (case y100 => first | k_is | kernel_rfl)
      (case y101 => first | k_is | kernel_rfl)
      (case y102 => first | k_is | kernel_rfl)
      (case y103 => first | k_is | kernel_rfl)
      (case y104 => first | k_is | kernel_rfl)
      (case y105 => first | k_is | kernel_rfl)
      (case y106 => first | k_is | kernel_rfl)
      (case y107 => first | k_is | kernel_rfl)
      (case y108 => first | k_is | kernel_rfl)
      (case y109 => first | k_is | kernel_rfl)
      (case y110 => first | k_is | kernel_rfl)
      (case y111 => first | k_is | kernel_rfl)
      (case y112 => first | k_is | kernel_rfl)
      (case y113 => first | k_is | kernel_rfl)
      (case y114 => first | k_is | kernel_rfl)
      (case y115 => first | k_is | kernel_rfl)
      (case y116 => first | k_is | kernel_rfl)
      (case y117 => first | k_is | kernel_rfl)
      (case y118 => first | k_is | kernel_rfl)
      (case y119 => first | k_is | kernel_rfl)
      (case y120 => first | k_is | kernel_rfl)
      (case y121 => first | k_is | kernel_rfl)
      (case y122 => first | k_is | kernel_rfl)
      (case y123 => first | k_is | kernel_rfl)
      (case y124 => first | k_is | kernel_rfl)
      (case y125 => first | k_is | kernel_rfl)
      (case y126 => first | k_is | kernel_rfl)
      (case y127 => first | k_is | kernel_rfl)
      (case y128 => first | k_is | kernel_rfl)
      (case y129 => first | k_is | kernel_rfl)
      (case y130 => first | k_is | kernel_rfl)
      (case y131 => first | k_is | kernel_rfl)
      (case y132 => first | k_is | kernel_rfl)
      (case y133 => first | k_is | kernel_rfl)
      (case y134 => first | k_is | kernel_rfl)
      (case y135 => first | k_is | kernel_rfl)
      (case y136 => first | k_is | kernel_rfl)
      (case y137 => first | k_is | kernel_rfl)
      (case y138 => first | k_is | kernel_rfl)
      (case y139 => first | k_is | kernel_rfl)
      (case y140 => first | k_is | kernel_rfl)
      (case y141 => first | k_is | kernel_rfl)
      (case y142 => first | k_is | kernel_rfl)
      (case y143 => first | k_is | kernel_rfl)
      (case y144 => first | k_is | kernel_rfl)
      (case y145 => first | k_is | kernel_rfl)
      (case y146 => first | k_is | kernel_rfl)
      (case y147 => first | k_is | kernel_rfl)
      (case y148 => first | k_is | kernel_rfl)
      (case y149 => first | k_is | kernel_rfl)
      (case y150 => first | k_is | kernel_rfl)
      (case y151 => first | k_is | kernel_rfl)
      (case y152 => first | k_is | kernel_rfl)
      (case y153 => first | k_is | kernel_rfl)
      (case y154 => first | k_is | kernel_rfl)
      (case y155 => first | k_is | kernel_rfl)
      (case y156 => first | k_is | kernel_rfl)
      (case y157 => first | k_is | kernel_rfl)
      (case y158 => first | k_is | kernel_rfl)
      (case y159 => first | k_is | kernel_rfl)
      (case y160 => first | k_is | kernel_rfl)
      (case y161 => first | k_is | kernel_rfl)
      (case y162 => first | k_is | kernel_rfl)
      (case y163 => first | k_is | kernel_rfl)
      (case y164 => first | k_is | kernel_rfl)
      (case y165 => first | k_is | kernel_rfl)
      (case y166 => first | k_is | kernel_rfl)
      (case y167 => first | k_is | kernel_rfl)
      (case y168 => first | k_is | kernel_rfl)
      (case y169 => first | k_is | kernel_rfl)
      (case y170 => first | k_is | kernel_rfl)
      (case y171 => first | k_is | kernel_rfl)
      (case y172 => first | k_is | kernel_rfl)
      (case y173 => first | k_is | kernel_rfl)
      (case y174 => first | k_is | kernel_rfl)
      (case y175 => first | k_is | kernel_rfl)
      (case y176 => first | k_is | kernel_rfl)
      (case y177 => first | k_is | kernel_rfl)
      (case y178 => first | k_is | kernel_rfl)
      (case y179 => first | k_is | kernel_rfl)
      (case y180 => first | k_is | kernel_rfl)
      (case y181 => first | k_is | kernel_rfl)
      (case y182 => first | k_is | kernel_rfl)
      (case y183 => first | k_is | kernel_rfl)
      (case y184 => first | k_is | kernel_rfl)
      (case y185 => first | k_is | kernel_rfl)
      (case y186 => first | k_is | kernel_rfl)
      (case y187 => first | k_is | kernel_rfl)
      (case y188 => first | k_is | kernel_rfl)
      (case y189 => first | k_is | kernel_rfl)
      (case y190 => first | k_is | kernel_rfl)
      (case y191 => first | k_is | kernel_rfl)
      (case y192 => first | k_is | kernel_rfl)
      (case y193 => first | k_is | kernel_rfl)
      (case y194 => first | k_is | kernel_rfl)
      (case y195 => first | k_is | kernel_rfl)
      (case y196 => first | k_is | kernel_rfl)
      (case y197 => first | k_is | kernel_rfl)
      (case y198 => first | k_is | kernel_rfl)
      (case y199 => first | k_is | kernel_rfl)
      (case y200 => first | k_is | kernel_rfl)
      (case y201 => first | k_is | kernel_rfl)
      (case y202 => first | k_is | kernel_rfl)
      (case y203 => first | k_is | kernel_rfl)
      (case y204 => first | k_is | kernel_rfl)
      (case y205 => first | k_is | kernel_rfl)
      (case y206 => first | k_is | kernel_rfl)
      (case y207 => first | k_is | kernel_rfl)
      (case y208 => first | k_is | kernel_rfl)
      (case y209 => first | k_is | kernel_rfl)
      (case y210 => first | k_is | kernel_rfl)
      (case y211 => first | k_is | kernel_rfl)
      (case y212 => first | k_is | kernel_rfl)
      (case y213 => first | k_is | kernel_rfl)
      (case y214 => first | k_is | kernel_rfl)
      (case y215 => first | k_is | kernel_rfl)
      (case y216 => first | k_is | kernel_rfl)
      (case y217 => first | k_is | kernel_rfl)
      (case y218 => first | k_is | kernel_rfl)
      (case y219 => first | k_is | kernel_rfl)
      (case y220 => first | k_is | kernel_rfl)
      (case y221 => first | k_is | kernel_rfl)
      (case y222 => first | k_is | kernel_rfl)
      (case y223 => first | k_is | kernel_rfl)
      (case y224 => first | k_is | kernel_rfl)
      (case y225 => first | k_is | kernel_rfl)
      (case y226 => first | k_is | kernel_rfl)
      (case y227 => first | k_is | kernel_rfl)
      (case y228 => first | k_is | kernel_rfl)
      (case y229 => first | k_is | kernel_rfl)
      (case y230 => first | k_is | kernel_rfl)
      (case y231 => first | k_is | kernel_rfl)
      (case y232 => first | k_is | kernel_rfl)
      (case y233 => first | k_is | kernel_rfl)
      (case y234 => first | k_is | kernel_rfl)
      (case y235 => first | k_is | kernel_rfl)
      (case y236 => first | k_is | kernel_rfl)
      (case y237 => first | k_is | kernel_rfl)
      (case y238 => first | k_is | kernel_rfl)
      (case y239 => first | k_is | kernel_rfl)
      (case y240 => first | k_is | kernel_rfl)
      (case y241 => first | k_is | kernel_rfl)
      (case y242 => first | k_is | kernel_rfl)
      (case y243 => first | k_is | kernel_rfl)
      (case y244 => first | k_is | kernel_rfl)
      (case y245 => first | k_is | kernel_rfl)
      (case y246 => first | k_is | kernel_rfl)
      (case y247 => first | k_is | kernel_rfl)
      (case y248 => first | k_is | kernel_rfl)
      (case y249 => first | k_is | kernel_rfl)
      (case y250 => first | k_is | kernel_rfl)
      (case y251 => first | k_is | kernel_rfl)
      (case y252 => first | k_is | kernel_rfl)
      (case y253 => first | k_is | kernel_rfl)
      (case y254 => first | k_is | kernel_rfl)
      (case y255 => first | k_is | kernel_rfl)
      (case y256 => first | k_is | kernel_rfl)
      (case y257 => first | k_is | kernel_rfl)
      (case y258 => first | k_is | kernel_rfl)
      (case y259 => first | k_is | kernel_rfl)
      (case y260 => first | k_is | kernel_rfl)
      (case y261 => first | k_is | kernel_rfl)
      (case y262 => first | k_is | kernel_rfl)
      (case y263 => first | k_is | kernel_rfl)
      (case y264 => first | k_is | kernel_rfl)
      (case y265 => first | k_is | kernel_rfl)
      (case y266 => first | k_is | kernel_rfl)
      (case y267 => first | k_is | kernel_rfl)
      (case y268 => first | k_is | kernel_rfl)
      (case y269 => first | k_is | kernel_rfl)
      (case y270 => first | k_is | kernel_rfl)
      (case y271 => first | k_is | kernel_rfl)
      (case y272 => first | k_is | kernel_rfl)
      (case y273 => first | k_is | kernel_rfl)
      (case y274 => first | k_is | kernel_rfl)
      (case y275 => first | k_is | kernel_rfl)
      (case y276 => first | k_is | kernel_rfl)
      (case y277 => first | k_is | kernel_rfl)
      (case y278 => first | k_is | kernel_rfl)
      (case y279 => first | k_is | kernel_rfl)
      (case y280 => first | k_is | kernel_rfl)
      (case y281 => first | k_is | kernel_rfl)
      (case y282 => first | k_is | kernel_rfl)
      (case y283 => first | k_is | kernel_rfl)
      (case y284 => first | k_is | kernel_rfl)
      (case y285 => first | k_is | kernel_rfl)
      (case y286 => first | k_is | kernel_rfl)
      (case y287 => first | k_is | kernel_rfl)
      (case y288 => first | k_is | kernel_rfl)
      (case y289 => first | k_is | kernel_rfl)
      (case y290 => first | k_is | kernel_rfl)
      (case y291 => first | k_is | kernel_rfl)
      (case y292 => first | k_is | kernel_rfl)
      (case y293 => first | k_is | kernel_rfl)
      (case y294 => first | k_is | kernel_rfl)
      (case y295 => first | k_is | kernel_rfl)
      (case y296 => first | k_is | kernel_rfl)
      (case y297 => first | k_is | kernel_rfl)
      (case y298 => first | k_is | kernel_rfl)
      (case y299 => first | k_is | kernel_rfl)
      (case y300 => first | k_is | kernel_rfl)
      (case y301 => first | k_is | kernel_rfl)
      (case y302 => first | k_is | kernel_rfl)
      (case y303 => first | k_is | kernel_rfl)
      (case y304 => first | k_is | kernel_rfl)
      (case y305 => first | k_is | kernel_rfl)
      (case y306 => first | k_is | kernel_rfl)
      (case y307 => first | k_is | kernel_rfl)
      (case y308 => first | k_is | kernel_rfl)
      (case y309 => first | k_is | kernel_rfl)
      (case y310 => first | k_is | kernel_rfl)
      (case y311 => first | k_is | kernel_rfl)
      (case y312 => first | k_is | kernel_rfl)
      (case y313 => first | k_is | kernel_rfl)
    obtain ⟨cP, cU, cA, cB, c1, c2, c3, cC, c4, c5, cT, cF, cD, cS, cI, T⟩ := T
    exact L2.law_F T.d_law hmg (fun _ _ _ _ _ _ _ => rfl) fun base f fd F => My.ok_all F B T
#print axioms PySem.Challenge.cw_paneworks_k43_sheets_counted_holds
